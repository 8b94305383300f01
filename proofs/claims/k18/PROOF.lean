import PyProof.Rows.All
import Wide.All
import OpenK.AllK
import Wide.FinOn
import KE.KStateDown
import KE.KExcIs
import HandS.ForMost
import HandS.Exc
import HandS.ExcOwn
import HandS.ExcCtx
import HandS.ExcInit
import HandS.ExcField
import HandS.HotCalls
import HandS.WordsExc
import HandS.IsInst
import HandS.Conv
import HandS.Defaults
import HandS.Evl
import HandS.Head0
import HandS.Head1
import HandS.Head2
import HandS.HeadEnd
import HandS.HeadHook1
import HandS.HeadHook2
import HandS.ClsMeth
import HandS.ExcInitHot
import HandS.OwnEq
import HandS.HeadNt
import HandS.NoneIn
import HandS.Text
import HandS.Steps
import HandS.Strs
import HandS.TupAny
import HandS.Deep
import PyProof.FString3
import PyProof.Rows.StrIntSpec
import HandS.RaiseMore
import KE.KCallOwn
import PyProof.ListRange
import HandS.GenList
import HandS.GenYield
import HandS.Rev
import HandS.SetBool
import HandS.TupSets
import PyProof.FactsAll.set_2
import PyProof.FactsAll.set_1
import HandS.SetFor
import HandS.MakeKwOnly
import HandS.TryOnly
import HandS.TupLe
import HandS.Nested
import KE.KSuper
import PySem.Challenge.RW_latelink_k18_whole_no_repair_is_shorter
import KE.KeyNested
import KE.KDictDisplayH
import HandS.Dict
set_option Elab.async false
set_option linter.all false
set_option maxRecDepth 100000
set_option maxHeartbeats 4000000
/-! Calls by bundles, own exceptions with fields, raised, caught, asked. -/
namespace G
open PySem PySem.Spec PyProof.Rows L2
/-! ### a def, a method of the text, ready to be called -/
structure Cal (P : Program) (w : World) (K : PySem.W.Frag) (mg : Str → Option Value) (base : Heap) (k : Nat) (x : Str) (ps : List Str) (sp : Sp) : Prop where
  ex : ∃ (f : Addr) (fd : FuncData), FnOk P w K mg base (L2N.CX P w) k f fd ps sp ∧ mg x = some (.ref f) ∧ PySem.W.keepIn K (.ref f) = true ∧ Binds K fd ps []
structure Met (P : Program) (w : World) (K : PySem.W.Frag) (mg : Str → Option Value) (base : Heap) (k : Nat) (C : Addr) (m : Str) (ps : List Str) (sp : Sp) : Prop where
  ex : ∃ (f : Addr) (fd : FuncData), FnOk P w K mg base (L2N.CX P w) k f fd ps sp ∧ Meth K C m f ∧ Binds K fd ps []
structure Mak (P : Program) (w : World) (K : PySem.W.Frag) (mg : Str → Option Value) (base : Heap) (k : Nat) (x : Str) (C : Addr) (ps : List Str) (sp : Sp) : Prop where
  ex : ∃ (f : Addr) (fd : FuncData), FnOk P w K mg base (L2N.CX P w) k f fd ps sp ∧ Mk K C f ∧ mg x = some (.ref C) ∧ Binds K fd ps []
section
variable {X : Cx} {j k : Nat} {x m : Str} {ps : List Str} {sp : Sp} {E : XK} {C : Addr} {p pos apos : Pos} {e o : Expr} {es : List Expr} {t : TA} {ta : TE}
/-- f(..): what leaves it as an exception is wished for by E -/
def tCl (sp : Sp) (E : L2.St → XK) (t : TA) : TE := fun σ H Q => t σ H fun vs H1 => sp vs H1 Q (E σ)
def tMt (C : Addr) (m : Str) (sp : Sp) (E : L2.St → XK) (ta : TE) (t : TA) : TE := fun σ H Q => ta σ H fun x H1 => ∃ a dx fs, x = .ref a ∧ H1 a = some (.ins C dx fs) ∧ fs.lookup m = none ∧ t σ H1 fun vs H2 => sp (x :: vs) H2 Q (E σ)
def tMk (C : Addr) (sp : Sp) (E : L2.St → XK) (t : TA) : TE := fun σ H Q => t σ H fun vs H1 => ∀ x dx, H1 x = none → H1 dx = none → dx ≠ x → sp (.ref x :: vs) (upd (upd H1 dx (.own x)) x (.ins C dx [])) (fun v H2 => v = .non ∧ Q (.ref x) H2) (E σ)
abbrev PAt (X : Cx) (E : L2.St → XK) : Prop := ∀ σ, PassesAt (L2N.CX X.prog X.w) X σ (E σ)
theorem pat_of {X : Cx} {W : WX} (tk : L2N.Takes X W) : PAt X (WE W) := fun σ => L2N.passAt tk σ
/-- where nothing may be let out -/
theorem pat_no {X : Cx} : PAt X (fun _ => L2.E0) := fun σ pins H s e s' I c => by
  obtain ⟨_, _, _, _, _, _, _, _, _, _, _, _, z⟩ := c
  exact z.elim
variable {E : L2.St → XK}
theorem pe_cl (c : Cal X.prog X.w X.K X.mg X.base k x ps sp) (hr : Room j X.A) (hk : k ≤ j) (hx : PAt X E) (ha : PA X (e :: es) t) (hg : Gl X x := by rfl) (hdb : (x == ("__debug__" : Str)) = false := by decide)
    (he : starEach (e :: es) X.env = (false, eval e X.env) :: starEach es X.env := by rfl) (hpl : (backTo pos (starEach es X.env)).any (·.1) = false := by rfl) : PE X (.Call (.Name x p) (e :: es) [] pos) (tCl sp E t) := by
  obtain ⟨f, fd, F, hm, kp, hb⟩ := c.ex
  refine ⟨fun pins s σ H Q I h => ?_⟩
  exact (pe_callS (E := E) F (hr.mono hk) hg hm kp hb hx ha hdb he hpl).run pins s σ H Q I h
theorem pe_mt {pl : Sem Bool} (c : Met X.prog X.w X.K X.mg X.base k C m ps sp) (cl : Cls X.K C) (hr : Room j X.A) (hk : k ≤ j) (hx : PAt X E) (he : PE X o ta) (ha : PA X (e :: es) t)
    (hst : starEach (e :: es) X.env = (false, eval e X.env) :: starEach es X.env := by rfl) (hpl : (backTo pos (starEach es X.env)).any (·.1) = false := by rfl)
    (ht : eval (.Call (.Attribute o m apos) (e :: es) [] pos) X.env = (do
      let ov ← eval o X.env
      standAt apos.atName
      let (f, first) ← holding [ov] (getMethod ov m pl)
      callWith pos f first (backTo pos (starEach (e :: es) X.env)) (backToKw pos (keywordEach [] X.env))) := by rfl) : PE X (.Call (.Attribute o m apos) (e :: es) [] pos) (tMt C m sp E ta t) := by
  obtain ⟨f, fd, F, hm, hb⟩ := c.ex
  refine ⟨fun pins s σ H Q I h => PySem.W.methodCall_KW (pl := pl) (thn (he.run pins s σ H _ I h) fun u s1 hh => ?_) ht⟩
  obtain ⟨x, H1, I1, rx, a, dx, fs, ex, ea, l, q⟩ := hh
  subst ex
  obtain rfl : u = Value.ref a := rx
  refine getmeth_ok I1 ea cl hm l (PySem.W.callWith_K (first := [.ref a]) (h₀ := X.base) I.ok.mod.kin hm.kp (thn (ha.run pos pins s1 σ H1 _ I1 q) fun us s2 hh => ?_) hst hpl)
  obtain ⟨vs, H2, I2, r, q2⟩ := hh
  exact ⟨I2.kIn, run_fnS (us := .ref a :: us) (vs := .ref a :: vs) F (hr.mono hk) hb (hx σ) I2 (.cons rfl r) q2⟩
theorem pe_mt0 {pl : Sem Bool} (c : Met X.prog X.w X.K X.mg X.base k C m ps sp) (cl : Cls X.K C) (hr : Room j X.A) (hk : k ≤ j) (hx : PAt X E) (he : PE X o ta)
    (ht : eval (.Call (.Attribute o m apos) [] [] pos) X.env = (do
      let ov ← eval o X.env
      standAt apos.atName
      let (f, first) ← holding [ov] (getMethod ov m pl)
      callWith pos f first (backTo pos (starEach [] X.env)) (backToKw pos (keywordEach [] X.env))) := by rfl) : PE X (.Call (.Attribute o m apos) [] [] pos) (tMt C m sp E ta tNil) := by
  obtain ⟨f, fd, F, hm, hb⟩ := c.ex
  refine ⟨fun pins s σ H Q I h => PySem.W.methodCall_KW (pl := pl) (thn (he.run pins s σ H _ I h) fun u s1 hh => ?_) ht⟩
  obtain ⟨x, H1, I1, rx, a, dx, fs, ex, ea, l, q⟩ := hh
  subst ex
  obtain rfl : u = Value.ref a := rx
  refine getmeth_ok I1 ea cl hm l ?_
  exact PySem.W.callWith_K0 (first := [.ref a]) I1.kIn hm.kp (run_fnS (us := [.ref a]) (vs := [.ref a]) F (hr.mono hk) hb (hx σ) I1 (.cons rfl .nil) q)
/-- an instance is made, what its __init__ lets out is wished for at the slots σ -/
theorem run_mk {pn : List (Addr × Obj)} {τ : L2.St} {H0 : Hp} {sh : Shared} {R : VK} {f : Addr} {fd : FuncData} {uu : List Value} {vv : List V} (M : Mk X.K C f) (F : FnOk X.prog X.w X.K X.mg X.base (L2N.CX X.prog X.w) k f fd ps sp)
    (hr : Room (k + 1) X.A) (hb : Binds X.K fd ps []) (hx : PAt X E) (I : Inv X pn τ H0 sh) (r : Vals vv uu)
    (h : ∀ x dx, H0 x = none → H0 dx = none → dx ≠ x → sp (.ref x :: vv) (upd (upd H0 dx (.own x)) x (.ins C dx [])) (fun v H2 => v = .non ∧ R (.ref x) H2) (E τ)) :
    wpAny (model X.prog X.w) X.A (call (.ref C) uu) (EP X pn τ R) X.xe sh := by
  have q0 := h (sh.heap.objs.size + 1) sh.heap.objs.size (I.hok.fresh (Nat.le_succ _)) (I.hok.fresh (Nat.le_refl _)) (Nat.ne_of_lt (Nat.lt_succ_self _))
  have J := Inv.made (C := C) I
  have rr : Vals (V.ref (sh.heap.objs.size + 1) :: vv) (Value.ref (sh.heap.objs.size + 1) :: uu) := .cons rfl r
  have ln : (Value.ref (sh.heap.objs.size + 1) :: uu ++ []).length = ps.length := by
    rw [List.append_nil, ← rr.length]
    exact F.len _ _ _ _ q0
  have bb := hb _ (Value.ref (sh.heap.objs.size + 1) :: uu) J.kIn ln
  rw [List.append_nil] at bb
  have go := F.run _ X.stack _ _ ⟨Value.ref (sh.heap.objs.size + 1) :: uu, []⟩ _ _ _ (E τ) (hr.make C uu []) (J.env0.make C uu []) bb rr q0
  refine wpAny_call (make_map (f := f) I.kIn M.makes M.init (beq_iff_eq.mp M.fn) (codeAny_mono go fun rs s2 w => ?_))
  cases rs with
  | error er => exact hx τ pn _ _ er s2 J w
  | ok fl =>
    cases fl with
    | ret u =>
      obtain ⟨v, H2, J2, rv, ev, w2⟩ := J.after w
      subst ev
      exact ⟨rv, V.ref (sh.heap.objs.size + 1), H2, J2, rfl, w2⟩
    | next => exact w.elim
    | brk => exact w.elim
    | cont => exact w.elim
theorem pe_mk (c : Mak X.prog X.w X.K X.mg X.base k x C ps sp) (hr : Room j X.A) (hk : k + 1 ≤ j) (hx : PAt X E) (ha : PA X (e :: es) t) (hg : Gl X x := by rfl) (hdb : (x == ("__debug__" : Str)) = false := by decide)
    (he : starEach (e :: es) X.env = (false, eval e X.env) :: starEach es X.env := by rfl) (hpl : (backTo pos (starEach es X.env)).any (·.1) = false := by rfl) : PE X (.Call (.Name x p) (e :: es) [] pos) (tMk C sp E t) := by
  obtain ⟨f, fd, F, M, hm, hb⟩ := c.ex
  refine ⟨fun pn s τ H Q I h => wpAny_Call_Name_kw (ld_glob I hg hm ?_ hdb)⟩
  refine PySem.W.callWith_K (h₀ := X.base) I.ok.mod.kin M.kp (thn (ha.run pos pn s τ H _ I h) fun us s1 hh => ?_) he hpl
  obtain ⟨vs, H1, I1, r, q⟩ := hh
  exact ⟨I1.kIn, run_mk M F (hr.mono hk) hb hx I1 r q⟩
end
/-! ### calls where an exception is handled -/
/-! ### own exceptions with fields -/
/-- what a class of errors must be for its instances to be asked and read -/
structure ExK (K : PySem.W.Frag) (C : Addr) : Prop where
  cl : (PySem.W.clsIn K C).isSome = true
  ga : PySem.W.findIn K (.ref C) "__getattribute__" = some (some (.builtin "BaseException.__getattribute__"))
  gg : PySem.W.findIn K (.ref C) "__getattr__" = some none
  be : PySem.W.subIn K (.ref C) (.type "BaseException") = some true
  hd : PySem.W.hasDictIn K C = true
  cc : PySem.W.findIn K (.ref C) "__class__" = some (some (.builtin "object.__class__"))
  gs : PySem.W.specialIn K (.builtin "object.__class__") "__get__" = some (some (.builtin "getset_descriptor.__get__"))
  tk : PySem.W.takesIn K (.builtin "object.__class__") = some true
  mo : PySem.W.mroIn K C (.type "object") = some true
section
variable {X : Cx} {a : Addr} {oe : Obj} {cls : Value} {d : Option Addr} {pn : List (Addr × Obj)}
theorem exc_at {pins : List (Addr × Obj)} {s : Shared} {σ : L2.St} {H : Hp} {D dd : Addr} {fs : List (Str × V)} (I : Inv (X.suite a ((a, oe) :: pn)) pins σ H s) (hz : Zc cls d oe) (hf : ∃ vs, oe.data = .fields vs) (ec : cls = .ref D) (ed : d = some dd)
    (hd : H dd = some (.xd fs)) : ∃ (od : Obj) (mA : Str → Option Value), PySem.W.InstAt s.heap a oe D (some od) ∧ (∀ f, RelO (fs.lookup f) (mA f)) ∧ ∀ n, PySem.W.lookIn n od = some (mA n) := by
  obtain ⟨hget, _⟩ := I.pin (a, oe) (List.mem_append_left _ List.mem_cons_self)
  obtain ⟨vs, hv⟩ := hf
  obtain ⟨mA, hns, hr⟩ := (show ObjOk X.prog X.w H s.heap dd (.xd fs) from I.hok dd _ hd)
  obtain ⟨od, ho, hl⟩ := lookIn_ns hns
  refine ⟨od, mA, ⟨hget, hz.1.trans ec, ?_, ?_⟩, hr, hl⟩
  · unfold PySem.W.notCls
    rw [hv] <;> rfl
  · rw [hz.2, ed]
    exact ho
/-- raised.f -/
def tXat (K : PySem.W.Frag) (a : Addr) (cls : Value) (d : Option Addr) (f : Str) (te : TE) : TE := fun σ H Q => te σ H fun x H1 => ∃ (D dd : Addr) (fs : List (Str × V)) (v : V),
  cls = .ref D ∧ d = some dd ∧ H1 dd = some (.xd fs) ∧ ExK K D ∧ x = .ref a ∧ PySem.W.findIn K (.ref D) f = some none ∧ fs.lookup f = some v ∧ Q v H1
theorem pe_xat {e : Expr} {te : TE} {pos : Pos} {n : Str} (hz : Zc cls d oe) (hf : ∃ vs, oe.data = .fields vs) (he : PE (X.suite a ((a, oe) :: pn)) e te) (hb : attributeBase e n X.env (eval e X.env) = eval e X.env := by rfl) :
    PE (X.suite a ((a, oe) :: pn)) (.Attribute e n pos) (tXat X.K a cls d n te) := by
  refine ⟨fun pins s σ H Q I h => attr_of hb (thn (he.run pins s σ H _ I h) fun u s1 hh => ?_)⟩
  obtain ⟨x, H1, I1, rx, D, dd, fs, v, ec, ed, hd, T, ex, hno, l, q⟩ := hh
  subst ex
  obtain rfl : u = Value.ref a := rx
  obtain ⟨od, mA, J, hr, hl⟩ := exc_at I1 hz hf ec ed hd
  obtain ⟨u, hu, ru⟩ := RelO.some_of (v := v) (o := mA n) (by rw [← l]; exact hr n)
  exact HandSPX.exc_get I1.kIn J T.ga T.gg T.be (PySem.W.findObj_own T.hd hno rfl (by rw [hl, hu])) (handed_of ru) ⟨v, H1, I1.tok _, ru, q⟩
end
end G
set_option Elab.async false
set_option linter.all false
set_option maxRecDepth 100000
set_option maxHeartbeats 4000000
/-! Own errors made and raised where nothing is handled. -/
namespace G
open PySem PySem.Spec PyProof.Rows L2
/-- what an error's __init__ leaves: its fields fs hold the values us -/
def spIn (K : PySem.W.Frag) (fs : List Str) : Sp := fun vs H Q _ => ∃ (a C : Addr) (us : List V), vs = .ref a :: us ∧ us.length = fs.length ∧ OexC K C ∧ (∀ f ∈ fs, PySem.W.findIn K (.ref C) f = some none) ∧ H a = some (exo a C none) ∧
  ∀ (dx : Addr) (H' : Hp), H dx = none → dx ≠ a → H' a = some (exo a C (some dx)) → H' dx = some (exd dx (fs.zip us).reverse) → (∀ b, b ≠ a → b ≠ dx → H' b = H b) → Q .non H'
theorem spIn_len {K : PySem.W.Frag} {fs ps : List Str} (h : ps.length = fs.length + 1) : ∀ vs H Q E, spIn K fs vs H Q E → vs.length = ps.length := by
  rintro vs H Q E ⟨a, C, us, rfl, hl, _⟩
  rw [h, List.length_cons, hl]
/-- an own class of errors -/
structure ExM (P : Program) (w : World) (K : PySem.W.Frag) (mg : Str → Option Value) (base : Heap) (k : Nat) (x : Str) (C : Addr) (fs : List Str) : Prop where
  oex : OexC K C
  no : ∀ f ∈ fs, PySem.W.findIn K (.ref C) f = some none
  gl : mg x = some (.ref C)
  ex : ∃ (fI : Addr) (fd : FuncData) (ps : List Str), FnOk P w K mg base (L2N.CX P w) k fI fd ps (spIn K fs) ∧ PySem.W.findIn K (.ref C) "__init__" = some (some (.ref fI)) ∧ PySem.W.typeIn K (.ref fI) = some (.type "function") ∧ Binds K fd ps []
theorem heap_mk {H H2 : Hp} {a d : Addr} {o : HO} (ha : H a = none) (hd : d ≠ a) (k : ∀ b, b ≠ a → b ≠ d → H2 b = H b) : upd (del H2 a) d o = upd H d o := by
  funext b
  by_cases hb : b = d
  · rw [hb, upd_same, upd_same]
  · rw [upd_ne hb, upd_ne hb]
    by_cases hba : b = a
    · rw [hba, del_same, ha]
    · rw [del_ne hba, k b hba hb]
theorem mk_go {K : PySem.W.Frag} {C : Addr} {fs : List Str} {us : List V} {H : Hp} {Q : XK} (T : OexC K C) (hf : ∀ f ∈ fs, PySem.W.findIn K (.ref C) f = some none) (hl : us.length = fs.length) (h : ∀ d, H d = none → Q (.ref C) (some d) (upd H d (.xd (fs.zip us).reverse))) :
    ∀ a, H a = none → spIn K fs (.ref a :: us) (upd H a (exo a C none)) (fun v H2 => v = .non ∧ ∃ (d : Addr) (gs : List (Str × V)), H2 a = some (exo a C (some d)) ∧ H2 d = some (exd d gs) ∧ H d = none ∧ Q (.ref C) (some d) (upd (del H2 a) d (.xd gs))) (fun _ _ _ => False) := by
  intro a ha
  refine ⟨a, C, us, rfl, hl, T, hf, upd_same, fun dx H' nd ne e1 e2 k => ⟨rfl, dx, _, e1, e2, ?_, ?_⟩⟩
  · rw [upd_ne ne] at nd
    exact nd
  · have nd' : H dx = none := by
      rw [upd_ne ne] at nd
      exact nd
    rw [heap_mk ha ne fun b h1 h2 => (k b h1 h2).trans (upd_ne h1)]
    exact h dx nd'
/-- x(e, ..), x a class of errors -/
def tRz (C : Addr) (fs : List Str) (W : WX) (ta : TA) : TS := fun _ σ H => ta σ H fun us H1 => us.length = fs.length ∧ us.length ≤ 1000 ∧ ∀ d, H1 d = none → W (.ref C) (some d) σ (upd H1 d (.xd (fs.zip us).reverse))
section
variable {X : Cx} {j k : Nat} {x : Str} {C : Addr} {fs : List Str} {p pos pos2 : Pos} {e : Expr} {es : List Expr} {ta : TA}
theorem pmk_x (c : ExM X.prog X.w X.K X.mg X.base k x C fs) (hr : Room j X.A) (hk : k + 1 ≤ j) (ha : PA X (e :: es) ta) (hg : Gl X x) (hdb : (x == ("__debug__" : Str)) = false)
    (he : starEach (e :: es) X.env = (false, eval e X.env) :: starEach es X.env) (hpl : (backTo pos (starEach es X.env)).any (·.1) = false) :
    L2N.PMk X (.Call (.Name x p) (e :: es) [] pos) (fun σ H Q => ta σ H fun us H1 => us.length = fs.length ∧ us.length ≤ 1000 ∧ ∀ d, H1 d = none → Q (.ref C) (some d) (upd H1 d (.xd (fs.zip us).reverse))) := by
  obtain ⟨T, hno, hm, fI, fd, ps, F1, iC, tI, hb⟩ := c
  intro pn s τ H Q I h
  obtain ⟨nm, qn, N, bs, bm, sn, sub, ab, col, dd, k0, k1, k2, k3, k5, hC, hbm⟩ := T.cls
  refine wpAny_Call_Name_kw (ld_glob I hg hm (PySem.W.callWith_K (h₀ := X.base) I.ok.mod.kin T.kC (thn (ha.run pos pn s τ H _ I h) fun us s1 hh => ?_) he hpl) hdb)
  obtain ⟨vs, H1, I1, r1, hl, hz, q1⟩ := hh
  refine ⟨I1.kIn, ?_⟩
  obtain ⟨hp, g, dr, tk, os⟩ := s1
  show wpAny _ _ (call (.ref C) us) _ _ _
  have hle := Nat.le_succ hp.objs.size
  have hn : H1 (hp.objs.size + 1) = none := I1.hok.fresh hle
  have hq := mk_go (Q := Q) T hno hl q1 (hp.objs.size + 1) hn
  have up : ∀ b o, hp.get? b = some o → ((hp.push (PySem.W.kdv_tup us)).push (PySem.HandSPX.excO C hp.objs.size)).get? b = some o := fun b o z => Heap.get?_push_of_some _ (Heap.get?_push_of_some _ z)
  have new : ((hp.push (PySem.W.kdv_tup us)).push (PySem.HandSPX.excO C hp.objs.size)).get? (hp.objs.size + 1) = some (PySem.HandSPX.excO C hp.objs.size) := by heap_get
  have J := I1.laid (t' := tk) (a := hp.objs.size + 1) (o := exo (hp.objs.size + 1) C none) up hle (exo_ok new)
  have rr : Vals (V.ref (hp.objs.size + 1) :: vs) (Value.ref (hp.objs.size + 1) :: us) := .cons rfl r1
  have ln : (Value.ref (hp.objs.size + 1) :: us ++ []).length = ps.length := by
    rw [List.append_nil, ← rr.length]
    exact F1.len _ _ _ _ hq
  have bb := hb _ (Value.ref (hp.objs.size + 1) :: us) J.kIn ln
  rw [List.append_nil] at bb
  have sz : us.length ≤ sizeLine := by
    rw [← r1.length, sizeLine_eq]
    omega
  have hr' : Room (k + 1) X.A := hr.mono hk
  have go := F1.run _ X.stack _ _ ⟨Value.ref (hp.objs.size + 1) :: us, []⟩ _ _ _ _ (hr'.make C us []) (J.env0.make C us []) bb rr hq
  refine wpAny_call (PySem.HandSPX.call_own F.excBase_ValueError (fun Y => PySem.HandSPX.refsVE_contains Y bm hbm) (I1.kIn _ _ hC) (PySem.W.looks_findIn I1.kIn iC) (fun self => PySem.W.bind_fn I1.kIn self tI) sz (codeAny_mono go fun rs s2 w => ?_))
  cases rs with
  | error er =>
    obtain ⟨_, _, _, _, _, _, _, _, _, _, _, _, z⟩ := w
    exact z.elim
  | ok fl =>
    cases fl with
    | ret u =>
      obtain ⟨v, H2, os2, ba, un, hok, rv, ev, d, gs, ea, ed, hd1, q2⟩ := w
      subst ev
      obtain ⟨h2, g2, d2, t2, os'⟩ := s2
      obtain ⟨t0, HG, J2, kG, ge, hoe, na⟩ := mk_end0 (d2 := d2) (t2 := t2) I1 hle up un hok os2 ba ea ed hd1
      exact ⟨rv, hp.objs.size + 1, _, _, ⟨HG, g2, d2, t2, os'⟩, _, .ref C, some d, rfl, J2, kG, ge, hoe, ⟨rfl, rfl, fun zs hv => by cases hv; rfl⟩, rfl, rfl, na, rfl, ba, raises_own T.exC T.tyC, q2⟩
    | next => exact w.elim
    | brk => exact w.elim
    | cont => exact w.elim
/-- raise x(e, ..) -/
theorem ps_rz {W : WX} (c : ExM X.prog X.w X.K X.mg X.base k x C fs) (hc : X.calm = true) (tk : L2N.Takes X W) (hr : Room j X.A) (hk : k + 1 ≤ j) (ha : PA X (e :: es) ta) (hg : Gl X x := by rfl) (hdb : (x == ("__debug__" : Str)) = false := by decide)
    (he : starEach (e :: es) X.env = (false, eval e X.env) :: starEach es X.env := by rfl) (hpl : (backTo pos (starEach es X.env)).any (·.1) = false := by rfl) : PS X (.Raise (some (.Call (.Name x p) (e :: es) [] pos)) none pos2) (tRz C fs W ta) :=
  L2N.ps_raise hc tk (pmk_x c hr hk ha hg hdb he hpl)
end
/-! ### the __init__ of one field, of two -/
theorem ini1 {K : PySem.W.Frag} {f : Str} {vs : List V} {H : Hp} {Q : VK} {E : XK} {N : List Str} (hN : N.length = 2) (h : spIn K [f] vs H Q E) : (tOst K f (tVar 0) (tVar 1)) { nx := fun _ H' => Q .non H', rt := Q } (start N vs) H := by
  obtain ⟨a, C, us, rfl, hl, T, hno, ha, q⟩ := h
  match us, hl with
  | [v], _ =>
    match N, hN with
    | [_, _], _ =>
      refine ⟨_, rfl, _, rfl, a, C, rfl, T, hno f (List.mem_singleton.mpr rfl), Or.inl ⟨ha, fun dx hd ne => ?_⟩⟩
      refine q dx _ hd ne upd_same ?_ fun b h1 h2 => ?_
      · rw [upd_ne ne, upd_same] <;> rfl
      · rw [upd_ne h1, upd_ne h2]
theorem ini2 {K : PySem.W.Frag} {f g : Str} {vs : List V} {H : Hp} {Q : VK} {E : XK} {N : List Str} (hN : N.length = 3) (h : spIn K [f, g] vs H Q E) :
    (tSeq (tOst K f (tVar 0) (tVar 1)) (tOst K g (tVar 0) (tVar 2))) { nx := fun _ H' => Q .non H', rt := Q } (start N vs) H := by
  obtain ⟨a, C, us, rfl, hl, T, hno, ha, q⟩ := h
  match us, hl with
  | [v, v2], _ =>
    match N, hN with
    | [_, _, _], _ =>
      refine ⟨_, rfl, _, rfl, a, C, rfl, T, hno f List.mem_cons_self, Or.inl ⟨ha, fun dx hd ne => ?_⟩⟩
      refine ⟨_, rfl, _, rfl, a, C, rfl, T, hno g (List.mem_cons_of_mem _ List.mem_cons_self), Or.inr ⟨dx, [(f, v)], upd_same, ?_, by show 1 ≤ 900; decide, ?_⟩⟩
      · rw [upd_ne ne, upd_same]
      · refine q dx _ hd ne ?_ upd_same fun b h1 h2 => ?_
        · rw [upd_ne (Ne.symm ne), upd_same]
        · rw [upd_ne h2, upd_ne h1, upd_ne h2]
end G
set_option Elab.async false
set_option linter.all false
set_option maxRecDepth 100000
set_option maxHeartbeats 4000000
/-! Operators that take what comes, and the steps of a reading, from the front. -/
namespace G
open PySem PySem.Spec PyProof.Rows L2
/-! ### operators by values -/
def rAddA : R2 := fun x y H Q => (∃ i j, x = .int i ∧ y = .int j ∧ Q (.int (i + j)) H) ∨ (∃ i j : Str, x = .str i ∧ y = .str j ∧ i.length + j.length ≤ sizeLine ∧ Q (.str (i ++ j)) H) ∨ rCat x y H Q
def rMulA : R2 := fun x y H Q => (∃ i j, x = .int i ∧ y = .int j ∧ CMul i j ∧ Q (.int (i * j)) H) ∨ rRep x y H Q
def rEqA (K : PySem.W.Frag) : R2 := fun x y H Q => rEq x y H Q ∨ rEqD K x y H Q
def rNeA (K : PySem.W.Frag) : R2 := fun x y H Q => rNe x y H Q ∨ rNeD K x y H Q
def rLenA (K : PySem.W.Frag) : List V → Hp → VK → Prop := fun xs H Q => ∃ x n, xs = [x] ∧ LenV K x H n ∧ Q (.int n) H
def rListA (K : PySem.W.Frag) : List V → Hp → VK → Prop := fun xs H Q => ∃ p ys, xs = [.ref p] ∧ (SqL K H p ys ∨ SqT K H p ys) ∧ ∀ l, H l = none → Q (.ref l) (upd H l (.lst ys))
def rIntA : List V → Hp → VK → Prop := fun xs H Q => (∃ i, xs = [.int i] ∧ Q (.int i) H) ∨ ∃ k, xs = [.bl k] ∧ Q (.int (if k then 1 else 0)) H
def rAbsA : List V → Hp → VK → Prop := fun xs H Q => ∃ i, xs = [.int i] ∧ Q (.int (if i < 0 then -i else i)) H
def rMin2A : List V → Hp → VK → Prop := fun xs H Q => ∃ i j, xs = [.int i, .int j] ∧ Q (.int (if j < i then j else i)) H
def rMax2A : List V → Hp → VK → Prop := fun xs H Q => ∃ i j, xs = [.int i, .int j] ∧ Q (.int (if j > i then j else i)) H
def rIsNA : R2 := fun x y H Q => y = .non ∧ Q (.bl (decide (x = .non))) H
def rNotNA : R2 := fun x y H Q => y = .non ∧ Q (.bl (!decide (x = .non))) H
abbrev rSubA : R2 := rI0 fun i j => .int (i - j)
abbrev rModA : R2 := rI (fun _ j => 0 < j) fun i j => .int (i % j)
abbrev rDivA : R2 := rI CDiv fun i j => .int (i / j)
abbrev rPowA : R2 := rI CPow fun i j => .int (i ^ j.toNat)
abbrev rLtA : R2 := rI0 fun i j => .bl (decide (i < j))
abbrev rLeA : R2 := rI0 fun i j => .bl (decide (i ≤ j))
abbrev rGtA : R2 := rI0 fun i j => .bl (decide (j < i))
abbrev rGeA : R2 := rI0 fun i j => .bl (decide (j ≤ i))
abbrev rNegA : V → Hp → VK → Prop := rU fun i => .int (-i)
section
variable {X : Cx}
theorem op_addA : OpR X (binaryOp .Add) rAddA := OpR.or op_add (OpR.or op_add_str op_cat)
theorem op_mulA : OpR X (binaryOp .Mult) rMulA := OpR.or op_mul op_rep
theorem op_eqA {k : Nat} (hr : Room k X.A) : OpR X (compareOp .Eq) (rEqA X.K) := OpR.or op_eq (op_eqD hr.units)
theorem op_neA {k : Nat} (hr : Room k X.A) : OpR X (compareOp .NotEq) (rNeA X.K) := OpR.or op_ne (op_neD hr.units)
theorem call_lenA : CallR X (.builtin "len") (rLenA X.K) := call_len
theorem call_listA : CallR X (.type "list") (rListA X.K) := call_list_of
theorem call_intA : CallR X (.type "int") rIntA := call_int1
theorem call_absA : CallR X (.builtin "abs") rAbsA := call_abs
end
/-! ### what frames a step: all that was tracked but the addresses of S -/
def Kp (S : List Addr) (H H' : Hp) : Prop := ∀ b o, b ∉ S → H b = some o → H' b = some o
theorem Kp.refl (S : List Addr) (H : Hp) : Kp S H H := fun _ _ _ h => h
theorem Kp.trans {S : List Addr} {H H1 H2 : Hp} (a : Kp S H H1) (b : Kp S H1 H2) : Kp S H H2 := fun c o n h => b c o n (a c o n h)
theorem Kp.mono {S S' : List Addr} {H H1 : Hp} (a : Kp S H H1) (h : ∀ b ∈ S, b ∈ S') : Kp S' H H1 := fun c o n e => a c o (fun z => n (h c z)) e
theorem Kp.all {S : List Addr} {H H1 : Hp} (a : Kp [] H H1) : Kp S H H1 := fun c o _ e => a c o (by simp) e
theorem Kp.new {S : List Addr} {H : Hp} {p : Addr} {o : HO} (n : H p = none) : Kp S H (upd H p o) := fun b u _ e => by
  rw [upd_ne (ne_of_none e n)]
  exact e
theorem Kp.put {S : List Addr} {H : Hp} {p : Addr} {o : HO} (h : p ∈ S) : Kp S H (upd H p o) := fun b u n e => by
  have ne : b ≠ p := fun z => n (by rw [z]; exact h)
  rw [upd_ne ne]
  exact e
/-- an object that H does not know may change -/
theorem Kp.mut {S : List Addr} {H H1 : Hp} {p : Addr} {o : HO} (e : Kp S H H1) (n : H p = none) : Kp S H (upd H1 p o) := fun b u h z => by
  rw [upd_ne (ne_of_none z n)]
  exact e b u h z
theorem Kp.at0 {H H' : Hp} {b : Addr} {o : HO} (k : Kp [] H H') (h : H b = some o) : H' b = some o := k b o (by simp) h
theorem Kp.at1 {H H' : Hp} {a b : Addr} {o : HO} (k : Kp [a] H H') (n : b ≠ a) (h : H b = some o) : H' b = some o := k b o (by simpa using n) h
theorem Kp.free {S : List Addr} {H H' : Hp} {b : Addr} (k : Kp S H H') (n : b ∉ S) (h : H' b = none) : H b = none := by
  cases e : H b with
  | none => rfl
  | some o =>
    rw [k b o n e] at h
    cases h
theorem Kp.free0 {H H' : Hp} {b : Addr} (k : Kp [] H H') (h : H' b = none) : H b = none := k.free (by simp) h
theorem Kp.sql {S : List Addr} {K : PySem.W.Frag} {H H' : Hp} {a : Addr} {xs : List V} (e : Kp S H H') (n : a ∉ S) (h : SqL K H a xs) : SqL K H' a xs := by
  rcases h with (h | ⟨o, h⟩) | h
  · exact .inl (.inl (e _ _ n h))
  · exact .inl (.inr ⟨o, e _ _ n h⟩)
  · exact .inr h
/-! ### the steps -/
section
variable {K : PySem.W.Frag} {σ : L2.St} {H : Hp} {Q : VK} {ta tb tc te : TE} {t u : TT} {x y v : V} {QB : Bool → Hp → Prop} {QA : List V → Hp → Prop} {D : Ends} {s1 s2 : TS} {tl tr : TA} {i j : Int} {n m : Nat} {p q : Addr} {xs ys : List V}
theorem w_var {k : Nat} (h : σ[k]? = some (some v)) (g : Q v H) : tVar k σ H Q := ⟨v, h, g⟩
theorem w_c (g : Q v H) : tC v σ H Q := g
theorem w_op {r : R2} (g : ta σ H fun x H1 => tb σ H1 fun y H2 => r x y H2 Q) : tOp r ta tb σ H Q := g
theorem w_un {r : V → Hp → VK → Prop} (g : ta σ H fun x H1 => r x H1 Q) : tUn r ta σ H Q := g
theorem w_test (g : te σ H fun x H1 => ∃ k, x = .bl k ∧ QB k H1) : tTest te σ H QB := g
theorem w_tb (g : te σ H fun x H1 => ∃ k, x = .bl k ∧ QB k H1) : tB te σ H QB := g
theorem w_and (g : t σ H fun c H1 => if c = true then u σ H1 QB else QB false H1) : tAnd t u σ H QB := g
theorem w_or (g : t σ H fun c H1 => if c = true then QB true H1 else u σ H1 QB) : tOr t u σ H QB := g
theorem w_not (g : t σ H fun c H1 => QB (!c) H1) : tNot t σ H QB := g
theorem w_andV (g : ta σ H fun x H1 => ∃ c, x = .bl c ∧ if c = true then tb σ H1 Q else Q (.bl false) H1) : tAndV ta tb σ H Q := g
theorem w_orV (g : ta σ H fun x H1 => ∃ c, x = .bl c ∧ if c = true then Q (.bl true) H1 else tb σ H1 Q) : tOrV ta tb σ H Q := g
theorem w_notV (g : ta σ H fun x H1 => ∃ c, x = .bl c ∧ Q (.bl (!c)) H1) : tNotV ta σ H Q := g
theorem w_ifE (g : t σ H fun c H1 => if c = true then ta σ H1 Q else tb σ H1 Q) : tIf t ta tb σ H Q := g
theorem w_chain {r r' : R2} (g : ta σ H fun x H1 => tb σ H1 fun y H2 => r x y H2 fun z H3 => ∃ k, z = .bl k ∧ (if k = true then tc σ H3 fun w' H4 => r' y w' H4 Q else Q (.bl false) H3)) : tChain r r' ta tb tc σ H Q := g
theorem w_nil (g : QA [] H) : tNil σ H QA := g
theorem w_cons (g : ta σ H fun x H1 => tr σ H1 fun xs H2 => QA (x :: xs) H2) : tCons ta tr σ H QA := g
theorem w_cb {r : List V → Hp → VK → Prop} (g : tl σ H fun vs H1 => r vs H1 Q) : tCB r tl σ H Q := g
theorem w_cl {sp : Sp} {E : L2.St → XK} (g : tl σ H fun vs H1 => sp vs H1 Q (E σ)) : tCl sp E tl σ H Q := g
theorem w_bm {T : String} {r : V → List V → Hp → VK → Prop} (g : te σ H fun x H1 => tyV K T x H1 ∧ tl σ H1 fun xs H2 => r x xs H2 Q) : tBM K T r te tl σ H Q := g
theorem w_bm0 {T : String} {r : V → List V → Hp → VK → Prop} (g : te σ H fun x H1 => tyV K T x H1 ∧ r x [] H1 Q) : tBM0 K T r te σ H Q := g
theorem w_fld {f : Str} (g : ta σ H fun x H1 => ∃ a C dx fs v, x = .ref a ∧ H1 a = some (.ins C dx fs) ∧ Cls K C ∧ NoAttr K C f ∧ fs.lookup f = some v ∧ Q v H1) : tFld K ta f σ H Q := g
theorem w_mt {C : Addr} {m : Str} {sp : Sp} {E : L2.St → XK} (g : ta σ H fun x H1 => ∃ a dx fs, x = .ref a ∧ H1 a = some (.ins C dx fs) ∧ fs.lookup m = none ∧ tl σ H1 fun vs H2 => sp (x :: vs) H2 Q (E σ)) : tMt C m sp E ta tl σ H Q := g
theorem w_seq (g : s1 { D with nx := s2 D } σ H) : tSeq s1 s2 D σ H := g
theorem w_next (g : D.nx σ H) : tNext D σ H := g
theorem w_if (g : t σ H fun b H1 => if b = true then s1 D σ H1 else s2 D σ H1) : tIfS t s1 s2 D σ H := g
theorem w_ret (g : te σ H D.rt) : tRet te D σ H := g
theorem w_drop (g : te σ H fun _ H1 => D.nx σ H1) : tDrop te D σ H := g
theorem w_asg {k : Nat} (g : te σ H fun x H1 => D.nx (σ.set k (some x)) H1) : tAsg te (gName k) D σ H := g
theorem w_asgS {to ti : TE} {r : TSet} (g : te σ H fun v H0 => to σ H0 fun o H1 => ti σ H1 fun i H2 => r o i v H2 fun H3 => D.nx σ H3) : tAsg te (gSub to ti r) D σ H := g
theorem w_ast {k : Nat} {ts : TGs} (g : te σ H fun v H0 => ∃ a xs, v = .ref a ∧ SqT K H0 a xs ∧ xs.length = k ∧ ts xs σ H0 D.nx) : tAsg te (gTup K k ts) D σ H := g
theorem w_asf {f : Str} (g : te σ H fun y H1 => ta σ H1 fun x H2 => ∃ a C dx fs, x = .ref a ∧ H2 a = some (.ins C dx fs) ∧ Cls K C ∧ NoAttr K C f ∧ fs.length < 1000 ∧ D.nx σ (upd H2 a (.ins C dx (putF f y fs)))) : sFld K ta te f D σ H := g
theorem w_ex1 {P : Bool → Prop} {b : Bool} (g : P b) : ∃ k, V.bl b = .bl k ∧ P k := ⟨b, rfl, g⟩
theorem w_iteD {c A B : Prop} [Decidable c] (h1 : c → A) (h2 : ¬ c → B) : if decide c = true then A else B := by
  by_cases h : c
  · rw [decide_eq_true h]
    exact iteT (h1 h)
  · rw [decide_eq_false h]
    exact iteF (h2 h)
theorem w_iteN {c A B : Prop} [Decidable c] (h1 : ¬ c → A) (h2 : c → B) : if (!decide c) = true then A else B := by
  by_cases h : c
  · rw [decide_eq_true h]
    exact iteF (h2 h)
  · rw [decide_eq_false h]
    exact iteT (h1 h)
theorem w_iteB {b : Bool} {A B : Prop} (h1 : b = true → A) (h2 : b = false → B) : if b = true then A else B := by
  cases b with
  | true => exact iteT (h1 rfl)
  | false => exact iteF (h2 rfl)
theorem w_iteBN {b : Bool} {A B : Prop} (h1 : b = false → A) (h2 : b = true → B) : if (!b) = true then A else B := by
  cases b with
  | true => exact iteF (h2 rfl)
  | false => exact iteT (h1 rfl)
theorem w_addI (g : Q (.int (i + j)) H) : rAddA (.int i) (.int j) H Q := .inl ⟨i, j, rfl, rfl, g⟩
theorem w_addS {a b : Str} (h : a.length + b.length ≤ sizeLine) (g : Q (.str (a ++ b)) H) : rAddA (.str a) (.str b) H Q := .inr (.inl ⟨a, b, rfl, rfl, h, g⟩)
theorem w_addL (h1 : H p = some (.lst xs)) (h2 : H q = some (.lst ys)) (h : xs.length + ys.length ≤ sizeLine) (g : ∀ r, H r = none → Q (.ref r) (upd H r (.lst (xs ++ ys)))) : rAddA (.ref p) (.ref q) H Q :=
  .inr (.inr ⟨p, q, xs, ys, rfl, rfl, h1, h2, h, g⟩)
theorem w_mulI (h : CMul i j) (g : Q (.int (i * j)) H) : rMulA (.int i) (.int j) H Q := .inl ⟨i, j, rfl, rfl, h, g⟩
theorem w_mulL (h1 : H p = some (.lst xs)) (h2 : -(2 ^ 63) ≤ j) (h3 : j < 2 ^ 63) (h : xs.length * j.toNat ≤ sizeLine) (g : ∀ r, H r = none → Q (.ref r) (upd H r (.lst (List.replicate j.toNat xs).flatten))) : rMulA (.ref p) (.int j) H Q :=
  .inr ⟨p, j, xs, rfl, rfl, h1, h2, h3, h, g⟩
theorem w_i0 {f : Int → Int → V} (g : Q (f i j) H) : rI0 f (.int i) (.int j) H Q := ⟨i, j, rfl, rfl, g⟩
theorem w_ic {C : Int → Int → Prop} {f : Int → Int → V} (h : C i j) (g : Q (f i j) H) : rI C f (.int i) (.int j) H Q := ⟨i, j, rfl, rfl, h, g⟩
theorem w_u1 {f : Int → V} (g : Q (f i) H) : rU f (.int i) H Q := ⟨i, rfl, g⟩
theorem dec_I : decide (V.int i = V.int j) = decide (i = j) := by
  rw [Bool.eq_iff_iff]
  simp
theorem dec_S {a b : Str} : decide (V.str a = V.str b) = decide (a = b) := by
  rw [Bool.eq_iff_iff]
  simp
theorem dec_B {a b : Bool} : decide (V.bl a = V.bl b) = decide (a = b) := by
  rw [Bool.eq_iff_iff]
  simp
theorem w_eqI (g : Q (.bl (decide (i = j))) H) : rEqA K (.int i) (.int j) H Q := .inl ⟨rfl, by rw [dec_I]; exact g⟩
theorem w_eqS {a b : Str} (g : Q (.bl (decide (a = b))) H) : rEqA K (.str a) (.str b) H Q := .inl ⟨rfl, by rw [dec_S]; exact g⟩
theorem w_eqB {a b : Bool} (g : Q (.bl (decide (a = b))) H) : rEqA K (.bl a) (.bl b) H Q := .inl ⟨rfl, by rw [dec_B]; exact g⟩
theorem w_neI (g : Q (.bl (!decide (i = j))) H) : rNeA K (.int i) (.int j) H Q := .inl ⟨rfl, by rw [dec_I]; exact g⟩
theorem w_neS {a b : Str} (g : Q (.bl (!decide (a = b))) H) : rNeA K (.str a) (.str b) H Q := .inl ⟨rfl, by rw [dec_S]; exact g⟩
theorem w_neB {a b : Bool} (g : Q (.bl (!decide (a = b))) H) : rNeA K (.bl a) (.bl b) H Q := .inl ⟨rfl, by rw [dec_B]; exact g⟩
theorem w_eqD {d e : PyData} (h1 : Dp K H x d) (h2 : Dp K H y e) (h3 : SeqAt.shaped d = true) (h4 : SeqAt.shaped e = true) (g : Q (.bl (PyData.eqv d e)) H) : rEqA K x y H Q := .inr ⟨d, e, h1, h2, h3, h4, g⟩
theorem w_neD {d e : PyData} (h1 : Dp K H x d) (h2 : Dp K H y e) (h3 : SeqAt.shaped d = true) (h4 : SeqAt.shaped e = true) (g : Q (.bl (!PyData.eqv d e)) H) : rNeA K x y H Q := .inr ⟨d, e, h1, h2, h3, h4, g⟩
theorem w_isN0 (g : Q (.bl true) H) : rIsNA .non .non H Q := ⟨rfl, g⟩
theorem w_isN1 (h : x ≠ .non) (g : Q (.bl false) H) : rIsNA x .non H Q := ⟨rfl, by rw [decide_eq_false h]; exact g⟩
theorem w_notN0 (g : Q (.bl false) H) : rNotNA .non .non H Q := ⟨rfl, g⟩
theorem w_notN1 (h : x ≠ .non) (g : Q (.bl true) H) : rNotNA x .non H Q := ⟨rfl, by rw [decide_eq_false h]; exact g⟩
theorem w_lenL (h : SqL K H p xs) (g : Q (.int (xs.length : Int)) H) : rLenA K [.ref p] H Q := ⟨_, _, rfl, .inl ⟨xs, h, rfl⟩, g⟩
theorem w_lenS {a : Str} (h : a.length ≤ sizeLine) (g : Q (.int (a.length : Int)) H) : rLenA K [.str a] H Q := ⟨_, _, rfl, ⟨h, rfl⟩, g⟩
theorem w_listL (h : SqL K H p xs) (g : ∀ l, H l = none → Q (.ref l) (upd H l (.lst xs))) : rListA K [.ref p] H Q := ⟨p, xs, rfl, .inl h, g⟩
theorem w_intI (g : Q (.int i) H) : rIntA [.int i] H Q := .inl ⟨i, rfl, g⟩
theorem w_abs (g : Q (.int (if i < 0 then -i else i)) H) : rAbsA [.int i] H Q := ⟨i, rfl, g⟩
theorem w_min2 (g : Q (.int (if j < i then j else i)) H) : rMin2A [.int i, .int j] H Q := ⟨i, j, rfl, g⟩
theorem w_max2 (g : Q (.int (if j > i then j else i)) H) : rMax2A [.int i, .int j] H Q := ⟨i, j, rfl, g⟩
theorem w_ixL (h : SqL K H p xs) (ha : atI xs i = some v) (g : Q v H) : rIx K (.ref p) (.int i) H Q := .inl ⟨p, xs, i, v, rfl, rfl, h, ha, g⟩
theorem w_ixT (h : SqT K H p xs) (ha : atI xs i = some v) (g : Q v H) : rIx K (.ref p) (.int i) H Q := .inr (.inl ⟨p, xs, i, v, rfl, rfl, h, ha, g⟩)
theorem w_ixS {a : Str} {c : Nat} (h : a.length ≤ sizeLine) (ha : atI a.cps.toList i = some c) (g : Q (.str ⟨#[c]⟩) H) : rIx K (.str a) (.int i) H Q := .inr (.inr ⟨a, i, c, rfl, rfl, h, ha, g⟩)
theorem w_setL {R : Hp → Prop} (h : H p = some (.lst xs)) (ha : ixN xs.length i = some n) (g : R (upd H p (.lst (xs.set n v)))) : rSetL (.ref p) (.int i) v H R := ⟨p, xs, i, n, rfl, rfl, h, ha, g⟩
theorem w_ty (h : SqL K H p xs) : tyV K "list" (.ref p) H := .inl ⟨rfl, xs, h⟩
theorem w_append (h : H p = some (.lst xs)) (hl : xs.length < sizeLine) (g : Q .non (upd H p (.lst (xs ++ [v])))) : rAppend (.ref p) [v] H Q := ⟨p, xs, v, rfl, rfl, h, hl, g⟩
end
end G
set_option Elab.async false
set_option linter.all false
set_option maxRecDepth 100000
set_option maxHeartbeats 4000000
/-! Loops, comprehensions by words; the head's own facts. -/
namespace G
open PySem PySem.Spec PyProof.Rows L2
/-! ### what a loop wants of its walk J -/
def LoopG (J : It) (g : TG) (tb : TS) (D : Ends) (σ : L2.St) (H1 : Hp) : Prop := ∃ W : Nat → Nat → L2.St → Hp → Prop, (∃ m, W 0 m σ H1) ∧ ∀ i m σ H, W i m σ H →
  (J.stop i H ∧ D.nx σ H) ∨ (J.go i H ∧ ∃ N : L2.St → Hp → Prop, (∀ σ' H', N σ' H' → ∃ m', m' < m ∧ W (i + 1) m' σ' H') ∧ ∀ x H', J.yld i H x H' → g x σ H' fun σ2 H2 => tb { D with nx := N, ct := N, bk := D.nx } σ2 H2)
def CompG (J : It) (g : TG) (tt : TT) (te : TE) (vs : List Nat) (σ : L2.St) (Q : VK) (H1 : Hp) : Prop := ∀ D, H1 D = none → ∃ W : Nat → Nat → Hp → Prop, (∃ m, W 0 m (upd H1 D (.lst []))) ∧ ∀ i m H, W i m H →
  (J.stop i H ∧ Q (.ref D) H) ∨ (J.go i H ∧ ∃ Nx : Hp → Prop, (∀ H', Nx H' → ∃ m', m' < m ∧ W (i + 1) m' H') ∧ ∀ x H', J.yld i H x H' → g x (wipe σ vs) H' fun σ2 H2 => wipe σ2 vs = wipe σ vs ∧ tt σ2 H2 fun b H3 =>
    if b = true then te σ2 H3 fun y H4 => ∃ acc, H4 D = some (.lst acc) ∧ acc.length < sizeLine ∧ Nx (upd H4 D (.lst (acc ++ [y]))) else Nx H3)
section
variable {K : PySem.W.Frag} {σ : L2.St} {H : Hp} {Q : VK} {ta : TA} {te tl : TE} {tt : TT} {D : Ends} {tb : TS} {g : TG} {wi : TI} {j : Nat} {R : It → Hp → Prop} {vs : List Nat}
theorem w_for (h : wi σ H fun J H1 => LoopG J g tb D σ H1) : tFor wi g tb D σ H := h
theorem w_lc (h : wi σ H fun J H1 => CompG J g tt te vs σ Q H1) : tLc wi g tt te vs σ H Q := h
theorem w_iR1 (h : ta σ H fun vs H1 => ∃ j : Int, vs = [.int j] ∧ -(2 ^ 62) ≤ j ∧ j < 2 ^ 62 ∧ R (Itr 0 j.toNat) H1) : iRng1 ta σ H R := h
theorem w_iR2 (h : ta σ H fun vs H1 => ∃ i j : Int, vs = [.int i, .int j] ∧ (-(2 ^ 62) ≤ i ∧ i < 2 ^ 62 ∧ -(2 ^ 62) ≤ j ∧ j < 2 ^ 62) ∧ R (Itr i (j - i).toNat) H1) : iRng2 ta σ H R := h
theorem w_iL (h : tl σ H fun x H1 => ∃ a, x = .ref a ∧ (∃ xs, SqL K H1 a xs) ∧ R (Itl K a) H1) : iList K tl σ H R := h
theorem w_iT (h : tl σ H fun x H1 => ∃ a, x = .ref a ∧ (∃ xs, SqT K H1 a xs) ∧ R (Itt K a) H1) : iTup K tl σ H R := h
theorem w_iE (h : ta σ H fun vs H1 => ∃ a xs, vs = [.ref a] ∧ SqL K H1 a xs ∧ R (Ite K a) H1) : iEnum K ta σ H R := h
theorem w_iZ (h : ta σ H fun vs H1 => ∃ a b xs ys, vs = [.ref a, .ref b] ∧ SqL K H1 a xs ∧ SqL K H1 b ys ∧ R (Itz K a b) H1) : iZip K ta σ H R := h
/-! ### loops -/
theorem lp_rng {lo : Int} {n : Nat} (Pv : Nat → L2.St → Hp → Prop) (h0 : Pv 0 σ H) (hs : ∀ (i : Nat) σ' H', i < n → Pv i σ' H' → g (.int (lo + (i : Int))) σ' H' fun σ2 H2 => tb { D with nx := Pv (i + 1), ct := Pv (i + 1), bk := D.nx } σ2 H2)
    (hd : ∀ σ' H', Pv n σ' H' → D.nx σ' H') : LoopG (Itr lo n) g tb D σ H := for_range Pv h0 hs hd
theorem lp_rng0 {n : Nat} (Pv : Nat → L2.St → Hp → Prop) (h0 : Pv 0 σ H) (hs : ∀ (i : Nat) σ' H', i < n → Pv i σ' H' → g (.int (i : Int)) σ' H' fun σ2 H2 => tb { D with nx := Pv (i + 1), ct := Pv (i + 1), bk := D.nx } σ2 H2)
    (hd : ∀ σ' H', Pv n σ' H' → D.nx σ' H') : LoopG (Itr 0 n) g tb D σ H := for_range Pv h0 (fun i σ' H' hi p => by rw [Int.zero_add]; exact hs i σ' H' hi p) hd
theorem lp_lst {a : Addr} {xs : List V} (Pv : Nat → L2.St → Hp → Prop) (h0 : Pv 0 σ H) (hl : ∀ i σ' H', i ≤ xs.length → Pv i σ' H' → SqL K H' a xs)
    (hs : ∀ i x σ' H', xs[i]? = some x → Pv i σ' H' → g x σ' H' fun σ2 H2 => tb { D with nx := Pv (i + 1), ct := Pv (i + 1), bk := D.nx } σ2 H2) (hd : ∀ σ' H', Pv xs.length σ' H' → D.nx σ' H') : LoopG (Itl K a) g tb D σ H := for_list Pv h0 hl hs hd
theorem lp_enum {a : Addr} {xs : List V} (Pv : Nat → L2.St → Hp → Prop) (h0 : Pv 0 σ H) (hl : ∀ i σ' H', i ≤ xs.length → Pv i σ' H' → SqL K H' a xs)
    (hs : ∀ (i : Nat) (x : V) (T : Addr) σ' H', xs[i]? = some x → Pv i σ' H' → H' T = none → g (.ref T) σ' (upd H' T (.tup [.int (i : Int), x])) fun σ2 H2 => tb { D with nx := Pv (i + 1), ct := Pv (i + 1), bk := D.nx } σ2 H2)
    (hd : ∀ σ' H', Pv xs.length σ' H' → D.nx σ' H') : LoopG (Ite K a) g tb D σ H := by
  refine ⟨fun i m σ H => m = xs.length - i ∧ i ≤ xs.length ∧ Pv i σ H, ⟨xs.length, by simp, Nat.zero_le _, h0⟩, ?_⟩
  rintro i m σ H ⟨rfl, hi, p⟩
  have q := hl i σ H hi p
  by_cases lt : i < xs.length
  · refine .inr ⟨⟨xs, xs[i], q, by simp [lt]⟩, Pv (i + 1), fun σ' H' p' => ⟨xs.length - (i + 1), by omega, rfl, lt, p'⟩, fun v H' y => ?_⟩
    obtain ⟨T, x, rfl, nT, rfl, hx⟩ := y
    exact hs i x T σ H (hx xs q) p nT
  · have e : i = xs.length := by omega
    subst e
    exact .inl ⟨⟨xs, q, Nat.le_refl _⟩, hd σ H p⟩
/-! ### comprehensions: items i is what stands behind i turns -/
theorem cp_go {J : It} {n : Nat} (items : Nat → List V) (Ok : Hp → Prop) (hz : ∀ i, i < n → (items i).length < sizeLine) (h0 : items 0 = []) (ok0 : ∀ H', Kp [] H H' → Ok H') (hgo : ∀ i H', i < n → Ok H' → J.go i H') (hst : ∀ H', Ok H' → J.stop n H')
    (hs : ∀ (i : Nat) (x : V) (H' H'' : Hp) (S : V → Hp → Prop) (N : Hp → Prop), i < n → Kp [] H H' → J.yld i H' x H'' → (∀ y H4, Kp [] H' H4 → items (i + 1) = items i ++ [y] → S y H4) → (∀ H4, Kp [] H' H4 → items (i + 1) = items i → N H4) →
      g x (wipe σ vs) H'' fun σ2 H2 => wipe σ2 vs = wipe σ vs ∧ tt σ2 H2 fun b H3 => if b = true then te σ2 H3 S else N H3)
    (hd : ∀ D H', H D = none → Kp [] H H' → H' D = some (.lst (items n)) → Q (.ref D) H') : CompG J g tt te vs σ Q H := by
  intro D nD
  refine ⟨fun i m H' => m = n - i ∧ i ≤ n ∧ Kp [] H H' ∧ H' D = some (.lst (items i)), ⟨n, by simp, Nat.zero_le _, Kp.new nD, by rw [h0]; exact upd_same⟩, ?_⟩
  rintro i m H' ⟨rfl, hi, k, e⟩
  by_cases lt : i < n
  · refine .inr ⟨hgo i H' lt (ok0 H' k), fun H'' => Kp [] H H'' ∧ H'' D = some (.lst (items (i + 1))), fun H'' p => ⟨n - (i + 1), by omega, rfl, lt, p.1, p.2⟩, fun x H'' y => ?_⟩
    refine hs i x H' H'' _ _ lt k y (fun y H4 k4 ei => ⟨items i, k4.at0 e, hz i lt, ?_, ?_⟩) (fun H4 k4 ei => ⟨k.trans k4, ?_⟩)
    · exact Kp.mut (k.trans k4) nD
    · rw [ei]
      exact upd_same
    · rw [ei]
      exact k4.at0 e
  · have ei : i = n := by omega
    subst ei
    exact .inl ⟨hst H' (ok0 H' k), hd D H' nD k e⟩
theorem cp_rng {lo : Int} {n : Nat} (items : Nat → List V) (hz : ∀ i, i < n → (items i).length < sizeLine) (h0 : items 0 = [])
    (hs : ∀ (i : Nat) (H' : Hp) (S : V → Hp → Prop) (N : Hp → Prop), i < n → Kp [] H H' → (∀ y H4, Kp [] H' H4 → items (i + 1) = items i ++ [y] → S y H4) → (∀ H4, Kp [] H' H4 → items (i + 1) = items i → N H4) →
      g (.int (lo + (i : Int))) (wipe σ vs) H' fun σ2 H2 => wipe σ2 vs = wipe σ vs ∧ tt σ2 H2 fun b H3 => if b = true then te σ2 H3 S else N H3)
    (hd : ∀ D H', H D = none → Kp [] H H' → H' D = some (.lst (items n)) → Q (.ref D) H') : CompG (Itr lo n) g tt te vs σ Q H :=
  cp_go items (fun _ => True) hz h0 (fun _ _ => trivial) (fun i H' hi _ => hi) (fun H' _ => Nat.le_refl n) (fun i x H' H'' S N hi k y a b => by
    obtain ⟨rfl, rfl⟩ := y
    exact hs i H'' S N hi k a b) hd
theorem cp_lst {a : Addr} {xs : List V} (h : SqL K H a xs) (items : Nat → List V) (hz : ∀ i, i < xs.length → (items i).length < sizeLine) (h0 : items 0 = [])
    (hs : ∀ (i : Nat) (x : V) (H' : Hp) (S : V → Hp → Prop) (N : Hp → Prop), xs[i]? = some x → Kp [] H H' → (∀ y H4, Kp [] H' H4 → items (i + 1) = items i ++ [y] → S y H4) → (∀ H4, Kp [] H' H4 → items (i + 1) = items i → N H4) →
      g x (wipe σ vs) H' fun σ2 H2 => wipe σ2 vs = wipe σ vs ∧ tt σ2 H2 fun b H3 => if b = true then te σ2 H3 S else N H3)
    (hd : ∀ D H', H D = none → Kp [] H H' → H' D = some (.lst (items xs.length)) → Q (.ref D) H') : CompG (Itl K a) g tt te vs σ Q H :=
  cp_go (n := xs.length) items (fun H' => SqL K H' a xs) hz h0 (fun _ k => k.sql (by simp) h) (fun i H' hi q => ⟨xs, xs[i], q, by simp [hi]⟩) (fun H' q => ⟨xs, q, Nat.le_refl _⟩) (fun i x H' H'' S N hi k y a b => by
    obtain ⟨rfl, hx⟩ := y
    exact hs i x H'' S N (hx xs (k.sql (by simp) h)) k a b) hd
theorem cp_enum {a : Addr} {xs : List V} (h : SqL K H a xs) (items : Nat → List V) (hz : ∀ i, i < xs.length → (items i).length < sizeLine) (h0 : items 0 = [])
    (hs : ∀ (i : Nat) (x : V) (T : Addr) (H' : Hp) (S : V → Hp → Prop) (N : Hp → Prop), xs[i]? = some x → Kp [] H H' → H' T = none → (∀ y H4, Kp [] H' H4 → items (i + 1) = items i ++ [y] → S y H4) → (∀ H4, Kp [] H' H4 → items (i + 1) = items i → N H4) →
      g (.ref T) (wipe σ vs) (upd H' T (.tup [.int (i : Int), x])) fun σ2 H2 => wipe σ2 vs = wipe σ vs ∧ tt σ2 H2 fun b H3 => if b = true then te σ2 H3 S else N H3)
    (hd : ∀ D H', H D = none → Kp [] H H' → H' D = some (.lst (items xs.length)) → Q (.ref D) H') : CompG (Ite K a) g tt te vs σ Q H :=
  cp_go (n := xs.length) items (fun H' => SqL K H' a xs) hz h0 (fun _ k => k.sql (by simp) h) (fun i H' hi q => ⟨xs, xs[i], q, by simp [hi]⟩) (fun H' q => ⟨xs, q, Nat.le_refl _⟩) (fun i v H' H'' S N hi k y a b => by
    obtain ⟨T, x, rfl, nT, rfl, hx⟩ := y
    exact hs i x T H' S N (hx xs (k.sql (by simp) h)) k nT a b) hd
end
/-! ### the head's facts: any tests of the written part -/
abbrev Chk := PySem.W.Frag → Bool
def obsX (fa : List Chk) (fn : List He.DefD) (K : PySem.W.Frag) : He.AlD := ((fa.all fun f => f K) && fn.all fun d => d.ok K, fn.map fun d => He.fnW K d.at_)
def SaysX (fa : List Chk) (fn : List He.DefD) (K : PySem.W.Frag) : Prop := obsX fa fn K = He.valD fn
section
variable {fa : List Chk} {fn : List He.DefD} {K : PySem.W.Frag}
theorem SaysX.fact (c : SaysX fa fn K) (i : Nat) {f : Chk} (h : fa[i]? = some f := by rfl) : f K = true := by
  have c1 := (He.ba (show ((fa.all fun f => f K) && fn.all fun d => d.ok K) = true from congrArg (fun z : He.AlD => z.1) c)).1
  exact List.all_eq_true.mp c1 f (List.mem_of_getElem? h)
theorem SaysX.def_ (c : SaysX fa fn K) (i : Nat) {d : He.DefD} (h : fn[i]? = some d := by rfl) : ∃ fd, FunD K d.name d.qual d.params d.body d.scope (d.dvs K) (d.kws K) (He.fAd K d.at_) fd := by
  have c2 := (He.ba (show ((fa.all fun f => f K) && fn.all fun d => d.ok K) = true from congrArg (fun z : He.AlD => z.1) c)).2
  have e : fn.map (fun d => He.fnW K d.at_) = fn.map He.DefD.val := congrArg (fun z : He.AlD => z.2) c
  have e2 : (fn.map fun d => He.fnW K d.at_)[i]? = (fn.map He.DefD.val)[i]? := by rw [e]
  rw [List.getElem?_map, List.getElem?_map, h] at e2
  exact He.DefD.funD (Option.some.inj e2) (List.all_eq_true.mp c2 d (List.mem_of_getElem? h))
/-- a plain fact of He -/
abbrev fa_ (f : He.Fa) : Chk := fun K => f.ok K
/-- a class of errors, as it is made -/
def oexB (C : Addr) (K : PySem.W.Frag) : Bool := match K.lookup C with
  | some ⟨.type "type", _, .cls cd, sl⟩ => (match cd.mro, sl.toList with
    | .ref C1 :: bm, [_, _, _, _, some (.builtin n), _] => C1 == C && n == "ValueError.__new__" && !cd.hasDel && cd.hasDict && PySem.HandSPX.refsVE bm
    | _, _ => false)
  | _ => false
theorem oexB_ok {C : Addr} (q : oexB C K = true) : ∃ nm qn N bs bm sn sub ab col dd k0 k1 k2 k3 k5, K.lookup C = some (excClassObj nm qn C N bs bm true sn sub ab col dd k0 k1 k2 k3 k5 "ValueError.__new__") ∧ PySem.HandSPX.refsVE bm = true := by
  unfold oexB at q
  split at q
  · rename_i dd cd sl ho
    split at q
    · rename_i C1 bm k0 k1 k2 k3 n k5 hm hs
      simp only [Bool.and_eq_true, beq_iff_eq, Bool.not_eq_true'] at q
      obtain ⟨⟨⟨⟨rfl, rfl⟩, del⟩, hd⟩, hr⟩ := q
      obtain ⟨nm, bs, mro, ns, qn, hdd, sn, sub, ab, col, dl⟩ := cd
      dsimp only at hm del hd
      subst hm del hd
      have es : sl = #[k0, k1, k2, k3, some (.builtin "ValueError.__new__"), k5] := by
        obtain ⟨l⟩ := sl
        exact congrArg Array.mk hs
      subst es
      exact ⟨nm, qn, ns, bs, bm, sn, sub, ab, col, dd, k0, k1, k2, k3, k5, ho, hr⟩
    · cases q
  · cases q
def eqT (a b : Option Bool) : Bool := decide (a = b)
/-- all that an own class of errors C with the fields fs is asked -/
def excB (x : Str) (fs : List Str) (K : PySem.W.Frag) : Bool := oexB (He.ga K x) K && (He.eqO (PySem.W.findIn K (.ref (He.ga K x)) "__setattr__") (some (some (.builtin "object.__setattr__"))) &&
  (eqT (PySem.W.subIn K (.ref (He.ga K x)) (.type "BaseException")) (some true) && (decide (PySem.W.typeIn K (.ref (He.ga K x)) = some (.type "type")) && (PySem.W.keepIn K (.ref (He.ga K x)) &&
  (fs.all fun f => He.eqO (PySem.W.findIn K (.ref (He.ga K x)) f) (some none))))))
/-- .. and its instances are asked -/
def askB (x : Str) (K : PySem.W.Frag) : Bool := (PySem.W.clsIn K (He.ga K x)).isSome && (He.eqO (PySem.W.findIn K (.ref (He.ga K x)) "__getattribute__") (some (some (.builtin "BaseException.__getattribute__"))) &&
  (He.eqO (PySem.W.findIn K (.ref (He.ga K x)) "__getattr__") (some none) && (eqT (PySem.W.subIn K (.ref (He.ga K x)) (.type "BaseException")) (some true) && (PySem.W.hasDictIn K (He.ga K x) &&
  (He.eqO (PySem.W.findIn K (.ref (He.ga K x)) "__class__") (some (some (.builtin "object.__class__"))) && (He.eqO (PySem.W.specialIn K (.builtin "object.__class__") "__get__") (some (some (.builtin "getset_descriptor.__get__"))) &&
  (eqT (PySem.W.takesIn K (.builtin "object.__class__")) (some true) && eqT (PySem.W.mroIn K (He.ga K x) (.type "object")) (some true))))))))
theorem excB_ok {x : Str} {fs : List Str} (q : excB x fs K = true) : OexC K (He.ga K x) ∧ ∀ f ∈ fs, PySem.W.findIn K (.ref (He.ga K x)) f = some none := by
  obtain ⟨q1, q⟩ := He.ba q
  obtain ⟨q2, q⟩ := He.ba q
  obtain ⟨q3, q⟩ := He.ba q
  obtain ⟨q4, q⟩ := He.ba q
  obtain ⟨q5, q6⟩ := He.ba q
  exact ⟨⟨oexB_ok q1, He.eqO_ok q2, of_decide_eq_true q3, of_decide_eq_true q4, q5⟩, fun f hf => He.eqO_ok (List.all_eq_true.mp q6 f hf)⟩
theorem askB_ok {x : Str} (q : askB x K = true) : ExK K (He.ga K x) := by
  obtain ⟨q1, q⟩ := He.ba q
  obtain ⟨q2, q⟩ := He.ba q
  obtain ⟨q3, q⟩ := He.ba q
  obtain ⟨q4, q⟩ := He.ba q
  obtain ⟨q5, q⟩ := He.ba q
  obtain ⟨q6, q⟩ := He.ba q
  obtain ⟨q7, q⟩ := He.ba q
  obtain ⟨q8, q9⟩ := He.ba q
  exact ⟨q1, He.eqO_ok q2, He.eqO_ok q3, of_decide_eq_true q4, q5, He.eqO_ok q6, He.eqO_ok q7, of_decide_eq_true q8, of_decide_eq_true q9⟩
/-- isinstance of an instance of x by the class y, by a built-in one -/
def kitB2 (x y : Str) (b : Bool) (K : PySem.W.Frag) : Bool := eqT (PySem.W.kitOne K (.ref (He.ga K x)) (.ref (He.ga K y))) (some b)
def kitT2 (x : Str) (y : String) (b : Bool) (K : PySem.W.Frag) : Bool := eqT (PySem.W.kitOne K (.ref (He.ga K x)) (.type y)) (some b)
/-- except y takes an x -/
def exmB (x y : Str) (b : Bool) (K : PySem.W.Frag) : Bool := eqT (PySem.W.exmOne K (.ref (He.ga K x)) (.ref (He.ga K y))) (some b)
/-- the __init__ that is found, a function -/
def iniB (x : Str) (K : PySem.W.Frag) : Bool := He.eqO (PySem.W.findIn K (.ref (He.ga K x)) "__init__") (some (some (.ref (He.ma K (He.ga K x) "__init__")))) && decide (PySem.W.typeIn K (.ref (He.ma K (He.ga K x) "__init__")) = some (.type "function"))
theorem iniB_ok {x : Str} (q : iniB x K = true) : PySem.W.findIn K (.ref (He.ga K x)) "__init__" = some (some (.ref (He.ma K (He.ga K x) "__init__"))) ∧ PySem.W.typeIn K (.ref (He.ma K (He.ga K x) "__init__")) = some (.type "function") := by
  obtain ⟨q1, q2⟩ := He.ba q
  exact ⟨He.eqO_ok q1, of_decide_eq_true q2⟩
end
end G
set_option Elab.async false
set_option linter.all false
set_option maxRecDepth 100000
set_option maxHeartbeats 4000000
/-! Constants of a class; truth; two things more. -/
namespace G
open PySem PySem.Spec PyProof.Rows L2
section
variable {X : Cx} {C : Addr} {mc u : Value} {v : V} {e : Expr} {f : Str} {pos : Pos} {ta : TE}
theorem pe_cc (k : ∃ mc u, ClX.CRead X.K C mc ∧ ClX.CVal X.K C mc f v u) (he : PE X e (tC (.ref C))) (hb : attributeBase e f X.env (eval e X.env) = eval e X.env := by rfl) : PE X (.Attribute e f pos) (tC v) := by
  obtain ⟨mc, u, r, k⟩ := k
  exact ⟨fun pins s σ H Q I h => (ClX.pe_cval he hb).run pins s σ H Q I ⟨C, mc, v, u, rfl, r, k, h⟩⟩
def tTr (K : PySem.W.Frag) (ta : TE) : TT := fun σ H Q => ta σ H fun x H' => ∃ k, TruV K x H' k ∧ Q k H'
theorem pt_tr (ha : PE X e ta) (he : ∀ whole, isTrue e X.env whole = (do let v ← whole; standAt e.pos; holding [v] (truthy v))) : PT X e (tTr X.K ta) := pt_truth ha he
end
/-- x.f is the whole number i -/
def ccB (x f : Str) (i : Int) (K : PySem.W.Frag) : Bool := PySem.W.readsIn K (He.ga K x) (.type "type") && (He.eqO (PySem.W.specialIn K (.ref (He.ga K x)) "__getattribute__") (some (some (.builtin "type.__getattribute__"))) &&
  (match PySem.W.findCls K (.ref (He.ga K x)) (.type "type") f with
  | some (.val (.int j _)) => decide (j = i)
  | _ => false))
theorem ccB_ok {K : PySem.W.Frag} {x f : Str} {i : Int} (q : ccB x f i K = true) : ∃ mc u, ClX.CRead K (He.ga K x) mc ∧ ClX.CVal K (He.ga K x) mc f (.int i) u := by
  obtain ⟨q1, q⟩ := He.ba q
  obtain ⟨q2, q3⟩ := He.ba q
  have q4 : (match PySem.W.findCls K (.ref (He.ga K x)) (.type "type") f with
    | some (.val (.int j _)) => decide (j = i)
    | _ => false) = true := q3
  split at q4
  · rename_i j t e
    have ej : j = i := of_decide_eq_true q4
    subst ej
    exact ⟨.type "type", .int j t, ⟨q1, He.eqO_ok q2⟩, ⟨e, t, rfl⟩⟩
  · cases q4
end G
namespace G
open PySem PySem.Spec PyProof.Rows L2
/-- a built-in class as a value -/
theorem pe_ty {X : Cx} {x : Str} (n : String) {pos : Pos} (hm : X.mg x = none) (hv : bootBuiltins x = some (.type n)) (hg : Gl X x := by rfl) (hn : x ≠ "__name__" := by decide) (hd : (x == ("__debug__" : Str)) = false := by decide) : PE X (.Name x pos) (tC (.ty n)) :=
  pe_bltn hg hm hv rfl hn hd
/-- an own class as a value -/
theorem pe_own {X : Cx} {x : Str} {C : Addr} {pos : Pos} (hm : X.mg x = some (.ref C)) (hg : Gl X x := by rfl) (hd : (x == ("__debug__" : Str)) = false := by decide) : PE X (.Name x pos) (tC (.ref C)) := pe_glob hg hm rfl hd
end G
namespace G
open PySem PySem.Spec PyProof.Rows L2
/-- what lets nothing out -/
theorem noX {P : Program} {w : World} {K : PySem.W.Frag} {mg : Str → Option Value} {base : Heap} {k : Nat} {f : Addr} {fd : FuncData} {ps : List Str} {sp : Sp} (F : FnOk P w K mg base (L2N.CX P w) k f fd ps sp) :
    FnOk P w K mg base L2.CX0 k f fd ps (fun vs H Q _ => sp vs H Q L2.E0) := by
  refine ⟨fun vs H Q E h => F.len vs H Q _ h, fun A outer s H args us vs Q E hr e0 hb r h => codeAny_mono (F.run A outer s H args us vs Q _ hr e0 hb r h) fun rs s2 q => ?_⟩
  cases rs with
  | error e =>
    obtain ⟨_, _, _, _, _, _, _, _, _, _, _, _, z⟩ := q
    exact z.elim
  | ok fl => cases fl <;> exact q
end G
set_option Elab.async false
set_option linter.all false
set_option maxRecDepth 100000
set_option maxHeartbeats 4000000
/-! Standings as plain lists, and what operations do to them. -/
namespace G
open PySem PySem.Spec PyProof.Rows L2
/-! ### lists by place -/
def gI (l : List Int) (i : Nat) : Int := l.getD i 0
def gB (l : List Bool) (i : Nat) : Bool := l.getD i false
theorem gI_at {l : List Int} {i : Nat} (h : i < l.length) : l[i]? = some (gI l i) := by
  unfold gI
  rw [List.getElem?_eq_getElem h, List.getD_eq_getElem?_getD, List.getElem?_eq_getElem h] <;> rfl
theorem gB_at {l : List Bool} {i : Nat} (h : i < l.length) : l[i]? = some (gB l i) := by
  unfold gB
  rw [List.getElem?_eq_getElem h, List.getD_eq_getElem?_getD, List.getElem?_eq_getElem h] <;> rfl
theorem gI_of {l : List Int} {i : Nat} {v : Int} (h : l[i]? = some v) : gI l i = v := by
  unfold gI
  rw [List.getD_eq_getElem?_getD, h] <;> rfl
theorem gB_of {l : List Bool} {i : Nat} {v : Bool} (h : l[i]? = some v) : gB l i = v := by
  unfold gB
  rw [List.getD_eq_getElem?_getD, h] <;> rfl
theorem gI_set {l : List Int} {i j : Nat} {v : Int} (h : i < l.length) : gI (l.set i v) j = if j = i then v else gI l j := by
  unfold gI
  rw [List.getD_eq_getElem?_getD, List.getD_eq_getElem?_getD]
  by_cases e : j = i
  · rw [if_pos e, e, List.getElem?_set_self h] <;> rfl
  · rw [if_neg e, List.getElem?_set_ne (Ne.symm e)]
theorem gB_set {l : List Bool} {i j : Nat} {v : Bool} (h : i < l.length) : gB (l.set i v) j = if j = i then v else gB l j := by
  unfold gB
  rw [List.getD_eq_getElem?_getD, List.getD_eq_getElem?_getD]
  by_cases e : j = i
  · rw [if_pos e, e, List.getElem?_set_self h] <;> rfl
  · rw [if_neg e, List.getElem?_set_ne (Ne.symm e)]
theorem atI_pos {α : Type} {l : List α} {i : Int} (h0 : 0 ≤ i) (h1 : i < (l.length : Int)) : atI l i = l[i.toNat]? := by
  unfold atI ixN
  rw [if_pos h0, if_pos h1] <;> rfl
theorem ixN_pos {n : Nat} {i : Int} (h0 : 0 ≤ i) (h1 : i < (n : Int)) : ixN n i = some i.toNat := by
  unfold ixN
  rw [if_pos h0, if_pos h1]
theorem at_I {l : List Int} {i : Int} (h0 : 0 ≤ i) (h1 : i < (l.length : Int)) : atI (l.map V.int) i = some (.int (gI l i.toNat)) := by
  rw [atI_pos h0 (by rw [List.length_map]; exact h1), List.getElem?_map, gI_at (by omega)] <;> rfl
theorem at_B {l : List Bool} {i : Int} (h0 : 0 ≤ i) (h1 : i < (l.length : Int)) : atI (l.map V.bl) i = some (.bl (gB l i.toNat)) := by
  rw [atI_pos h0 (by rw [List.length_map]; exact h1), List.getElem?_map, gB_at (by omega)] <;> rfl
theorem set_I {l : List Int} {k : Nat} {v : Int} : (l.map V.int).set k (V.int v) = (l.set k v).map V.int := by rw [List.map_set]
theorem set_B {l : List Bool} {k : Nat} {v : Bool} : (l.map V.bl).set k (V.bl v) = (l.set k v).map V.bl := by rw [List.map_set]
theorem sz_ok {n : Nat} (h : n ≤ 1000000) : n ≤ sizeLine := by
  rw [sizeLine_eq]
  omega
theorem sz_lt {n : Nat} (h : n < 1000000) : n < sizeLine := by
  rw [sizeLine_eq]
  omega
theorem map_inj_I : ∀ {a b : List Int}, a.map V.int = b.map V.int → a = b
  | [], [], _ => rfl
  | [], _ :: _, h => by cases h
  | _ :: _, [], h => by cases h
  | x :: a, y :: b, h => by
    have h' : V.int x :: a.map V.int = V.int y :: b.map V.int := h
    injection h' with h1 h2
    injection h1 with h1
    rw [h1, map_inj_I h2]
/-! ### standings -/
structure Sd where
  n : Nat
  R : List Int
  L : List Int
  O : List Bool
structure Wf (s : Sd) : Prop where
  n60 : s.n ≤ 60
  lR : s.R.length = s.n + 1
  lL : s.L.length = s.n + 2
  lO : s.O.length = s.n + 2
  rb : ∀ v : Nat, v ≤ s.n → (v : Int) < gI s.R v ∧ gI s.R v ≤ (s.n : Int) + 1
  lb : ∀ v : Nat, 1 ≤ v → v ≤ s.n + 1 → 0 ≤ gI s.L v ∧ gI s.L v < (v : Int)
def stepS (s : Sd) (op : Int) : Sd :=
  let x := op.natAbs
  let l := (gI s.L x).toNat
  let r := (gI s.R x).toNat
  ⟨s.n, s.R.set l (if op < 0 then gI s.R x else (x : Int)), s.L.set r (if op < 0 then gI s.L x else (x : Int)), s.O.set x (decide (op < 0))⟩
/-- an operation for the size; a legal one -/
def IsOp (n : Nat) (op : Int) : Prop := 1 ≤ op.natAbs ∧ op.natAbs ≤ n
def OkOp (s : Sd) (op : Int) : Prop := IsOp s.n op ∧ gB s.O op.natAbs = decide (0 < op)
instance (n : Nat) (op : Int) : Decidable (IsOp n op) := by unfold IsOp; infer_instance
instance (s : Sd) (op : Int) : Decidable (OkOp s op) := by unfold OkOp; infer_instance
theorem Wf.step {s : Sd} (w : Wf s) {op : Int} (h : IsOp s.n op) : Wf (stepS s op) := by
  obtain ⟨h1, h2⟩ := h
  obtain ⟨r1, r2⟩ := w.rb op.natAbs (by omega)
  obtain ⟨l1, l2⟩ := w.lb op.natAbs h1 (by omega)
  have e1 : (gI s.L op.natAbs).toNat < s.R.length := by rw [w.lR]; omega
  have e2 : (gI s.R op.natAbs).toNat < s.L.length := by rw [w.lL]; omega
  refine ⟨w.n60, ?_, ?_, ?_, fun v hv => ?_, fun v hv hv2 => ?_⟩
  · show (s.R.set _ _).length = _
    rw [List.length_set]
    exact w.lR
  · show (s.L.set _ _).length = _
    rw [List.length_set]
    exact w.lL
  · show (s.O.set _ _).length = _
    rw [List.length_set]
    exact w.lO
  · show (v : Int) < gI (s.R.set _ _) v ∧ gI (s.R.set _ _) v ≤ (s.n : Int) + 1
    rw [gI_set e1]
    by_cases e : v = (gI s.L op.natAbs).toNat
    · rw [if_pos e]
      by_cases o : op < 0
      · rw [if_pos o]
        omega
      · rw [if_neg o]
        omega
    · rw [if_neg e]
      exact w.rb v hv
  · show 0 ≤ gI (s.L.set _ _) v ∧ gI (s.L.set _ _) v < (v : Int)
    rw [gI_set e2]
    by_cases e : v = (gI s.R op.natAbs).toNat
    · rw [if_pos e]
      by_cases o : op < 0
      · rw [if_pos o]
        omega
      · rw [if_neg o]
        omega
    · rw [if_neg e]
      exact w.lb v hv hv2
/-- a, a + 1, .. n of them -/
def rgI (a : Int) (n : Nat) : List Int := (List.range n).map fun (i : Nat) => a + (i : Int)
theorem rgI_len (a : Int) (n : Nat) : (rgI a n).length = n := by simp [rgI]
def wholeS (n : Nat) : Sd := ⟨n, rgI 1 (n + 1), 0 :: rgI 0 (n + 1), List.replicate (n + 2) false⟩
theorem gI_range {n i : Nat} {a : Int} (h : i < n) : gI (rgI a n) i = a + (i : Int) := by
  refine gI_of ?_
  unfold rgI
  rw [List.getElem?_map, List.getElem?_range h] <;> rfl
theorem Wf.whole {n : Nat} (h : n ≤ 60) : Wf (wholeS n) := by
  refine ⟨h, rgI_len _ _, congrArg Nat.succ (rgI_len _ _), List.length_replicate, fun v hv => ?_, fun v h1 h2 => ?_⟩
  · show (v : Int) < gI (rgI 1 (n + 1)) v ∧ gI (rgI 1 (n + 1)) v ≤ (n : Int) + 1
    have hv' : v ≤ n := hv
    rw [gI_range (by omega)]
    omega
  · show 0 ≤ gI (0 :: rgI 0 (n + 1)) v ∧ gI (0 :: rgI 0 (n + 1)) v < (v : Int)
    have h2' : v ≤ n + 1 := h2
    obtain ⟨u, rfl⟩ : ∃ u, v = u + 1 := ⟨v - 1, by omega⟩
    have e : gI (0 :: rgI 0 (n + 1)) (u + 1) = gI (rgI 0 (n + 1)) u := rfl
    rw [e, gI_range (by omega)]
    omega
theorem snoc_ind {α : Type} {P : List α → Prop} (h0 : P []) (h1 : ∀ l x, P l → P (l ++ [x])) (l : List α) : P l := by
  have key : ∀ r : List α, P r.reverse := by
    intro r
    induction r with
    | nil => exact h0
    | cons x r ih =>
      rw [List.reverse_cons]
      exact h1 _ _ ih
  have e := key l.reverse
  rwa [List.reverse_reverse] at e
def runS (s : Sd) (log : List Int) : Sd := log.foldl stepS s
theorem runS_snoc (s : Sd) (log : List Int) (op : Int) : runS s (log ++ [op]) = stepS (runS s log) op := by
  unfold runS
  rw [List.foldl_append] <;> rfl
theorem runS_n (s : Sd) : ∀ log : List Int, (runS s log).n = s.n := by
  intro log
  induction log using snoc_ind with
  | h0 => rfl
  | h1 l x ih => rw [runS_snoc]; exact ih
/-- every operation is legal in turn -/
def Leg (s : Sd) (log : List Int) : Prop := ∀ i op, log[i]? = some op → OkOp (runS s (log.take i)) op
theorem Leg.snoc {s : Sd} {log : List Int} {op : Int} (h : Leg s log) (o : OkOp (runS s log) op) : Leg s (log ++ [op]) := by
  intro i p hp
  by_cases hi : i < log.length
  · rw [List.getElem?_append_left hi] at hp
    rw [List.take_append_of_le_length (by omega)]
    exact h i p hp
  · rw [List.getElem?_append_right (by omega)] at hp
    have e : i = log.length := by
      have := (List.getElem?_eq_some_iff.mp hp).1
      simp at this
      omega
    subst e
    have : p = op := by simpa using hp.symm
    subst this
    rw [List.take_left']
    · exact o
    · rfl
theorem Leg.take {s : Sd} {log : List Int} (h : Leg s log) (k : Nat) : Leg s (log.take k) := by
  intro i op hp
  have hi : i < (log.take k).length := (List.getElem?_eq_some_iff.mp hp).1
  rw [List.length_take] at hi
  rw [List.getElem?_take_of_lt (by omega)] at hp
  rw [List.take_take, Nat.min_eq_left (by omega)]
  exact h i op hp
theorem Leg.wf {s : Sd} (w : Wf s) : ∀ {log : List Int}, Leg s log → Wf (runS s log) := by
  intro log
  induction log using snoc_ind with
  | h0 => exact fun _ => w
  | h1 l x ih =>
    intro h
    have h1 : Leg s l := by
      have := h.take l.length
      rwa [List.take_left' rfl] at this
    have h2 := h l.length x (by simp)
    rw [List.take_left' rfl] at h2
    rw [runS_snoc]
    exact (ih h1).step h2.1
end G
set_option Elab.async false
set_option linter.all false
set_option maxRecDepth 100000
set_option maxHeartbeats 4000000
/-! What the program's own defs promise: standings, logs, gaps. -/
namespace G
open PySem PySem.Spec PyProof.Rows L2
/-! ### a standing in the heap -/
def fl (n r l o : V) : List (Str × V) := putF "_out" o (putF "_lefts" l (putF "_rights" r (putF "size" n [])))
theorem n1 : ¬ (("size" : Str) = "_rights") := by decide +kernel
theorem n2 : ¬ (("size" : Str) = "_lefts") := by decide +kernel
theorem n3 : ¬ (("size" : Str) = "_out") := by decide +kernel
theorem n4 : ¬ (("_rights" : Str) = "_lefts") := by decide +kernel
theorem n5 : ¬ (("_rights" : Str) = "_out") := by decide +kernel
theorem n6 : ¬ (("_lefts" : Str) = "_out") := by decide +kernel
theorem fl_size (n r l o : V) : (fl n r l o).lookup ("size" : Str) = some n := by
  unfold fl
  rw [lookup_putF, if_neg n3, lookup_putF, if_neg n2, lookup_putF, if_neg n1, lookup_putF, if_pos rfl]
theorem fl_R (n r l o : V) : (fl n r l o).lookup ("_rights" : Str) = some r := by
  unfold fl
  rw [lookup_putF, if_neg n5, lookup_putF, if_neg n4, lookup_putF, if_pos rfl]
theorem fl_L (n r l o : V) : (fl n r l o).lookup ("_lefts" : Str) = some l := by
  unfold fl
  rw [lookup_putF, if_neg n6, lookup_putF, if_pos rfl]
theorem fl_O (n r l o : V) : (fl n r l o).lookup ("_out" : Str) = some o := by
  unfold fl
  rw [lookup_putF, if_pos rfl]
theorem fl_no {m : Str} (n r l o : V) (h1 : ¬ m = "size") (h2 : ¬ m = "_rights") (h3 : ¬ m = "_lefts") (h4 : ¬ m = "_out") : (fl n r l o).lookup m = none := by
  unfold fl
  rw [lookup_putF, if_neg h4, lookup_putF, if_neg h3, lookup_putF, if_neg h2, lookup_putF, if_neg h1]
  rfl
theorem fl_eq (n r l o : V) : fl n r l o = [(("size" : Str), n), ("_rights", r), ("_lefts", l), ("_out", o)] := by
  unfold fl
  simp only [putF, if_neg n1, if_neg n2, if_neg n3, if_neg n4, if_neg n5, if_neg n6]
theorem fl_len (n r l o : V) : (fl n r l o).length < 1000 := by
  rw [fl_eq]
  show 4 < 1000
  decide
theorem fl_putR (n r l o r2 : V) : putF "_rights" r2 (fl n r l o) = fl n r2 l o := by
  rw [fl_eq, fl_eq]
  simp only [putF]
  rw [if_neg n1, if_pos trivial]
theorem fl_putL (n r l o l2 : V) : putF "_lefts" l2 (fl n r l o) = fl n r l2 o := by
  rw [fl_eq, fl_eq]
  simp only [putF]
  rw [if_neg n2, if_neg n4, if_pos trivial]
theorem fl_putO (n r l o o2 : V) : putF "_out" o2 (fl n r l o) = fl n r l o2 := by
  rw [fl_eq, fl_eq]
  simp only [putF]
  rw [if_neg n3, if_neg n5, if_neg n6, if_pos trivial]
structure LinksAt (K : PySem.W.Frag) (H : Hp) (p r l o : Addr) (s : Sd) : Prop where
  ob : ∃ dx, H p = some (.ins (He.ga K "Links") dx (fl (.int s.n) (.ref r) (.ref l) (.ref o)))
  hr : H r = some (.lst (s.R.map V.int))
  hl : H l = some (.lst (s.L.map V.int))
  ho : H o = some (.lst (s.O.map V.bl))
  rl : r ≠ l
  ro : r ≠ o
  lo : l ≠ o
  wf : Wf s
theorem LinksAt.pr {K : PySem.W.Frag} {H : Hp} {p r l o : Addr} {s : Sd} (a : LinksAt K H p r l o s) : p ≠ r ∧ p ≠ l ∧ p ≠ o := by
  obtain ⟨dx, h⟩ := a.ob
  exact ⟨ne_of h a.hr (by intro z; cases z), ne_of h a.hl (by intro z; cases z), ne_of h a.ho (by intro z; cases z)⟩
theorem LinksAt.kp {K : PySem.W.Frag} {H H' : Hp} {p r l o : Addr} {s : Sd} {S : List Addr} (a : LinksAt K H p r l o s) (k : Kp S H H') (h1 : p ∉ S) (h2 : r ∉ S) (h3 : l ∉ S) (h4 : o ∉ S) : LinksAt K H' p r l o s := by
  obtain ⟨dx, h⟩ := a.ob
  exact ⟨⟨dx, k _ _ h1 h⟩, k _ _ h2 a.hr, k _ _ h3 a.hl, k _ _ h4 a.ho, a.rl, a.ro, a.lo, a.wf⟩
theorem LinksAt.k0 {K : PySem.W.Frag} {H H' : Hp} {p r l o : Addr} {s : Sd} (a : LinksAt K H p r l o s) (k : Kp [] H H') : LinksAt K H' p r l o s := a.kp k (by simp) (by simp) (by simp) (by simp)
/-! ### errors -/
/-- an error of the class x leaves, new, with these fields -/
def Ex (K : PySem.W.Frag) (x : Str) (fs : List (Str × V)) (E : XK) (H : Hp) : Prop := ∀ d, H d = none → E (.ref (He.ga K x)) (some d) (upd H d (.xd fs))
def OpE (K : PySem.W.Frag) (n : Nat) (op : Int) (i : Int) (E : XK) (H : Hp) : Prop := Ex K (if IsOp n op then "Illegal" else "BadOperation") [("index", .int i), ("operation", .int op)] E H
/-- .. the first wrong operation of a log -/
def LogE (K : PySem.W.Frag) (s : Sd) (log : List Int) (E : XK) (H : Hp) : Prop := ∀ (i : Nat) (op : Int), log[i]? = some op → Leg s (log.take i) → ¬ OkOp (runS s (log.take i)) op → ∀ H', Kp [] H H' → OpE K s.n op i E H'
def SizeOk (size : Int) : Prop := 0 ≤ size ∧ size ≤ 60
instance (size : Int) : Decidable (SizeOk size) := by unfold SizeOk; infer_instance
/-! ### gaps -/
def stT (s : Sd) (v : Nat) : Str := if gI s.R v = (v : Int) + 1 then (if gI s.L (v + 1) = (v : Int) then "joined" else "left") else (if gI s.L (v + 1) = (v : Int) then "right" else "lost")
def lostL (s : Sd) : List Nat := (List.range (s.n + 1)).filter fun v => decide (stT s v = "lost")
/-! ### promises -/
section
variable (K : PySem.W.Frag)
def sp_check_size : Sp := fun vs H Q E => ∃ size : Int, vs = [.int size] ∧ (SizeOk size → Q .non H) ∧ (¬ SizeOk size → Ex K "BadSize" [("size", .int size)] E H)
def sp_check_operation : Sp := fun vs H Q E => ∃ (n : Nat) (op i : Int), vs = [.int n, .int op, .int i] ∧ (IsOp n op → Q .non H) ∧ (¬ IsOp n op → Ex K "BadOperation" [("index", .int i), ("operation", .int op)] E H)
def sp_check_gap : Sp := fun vs H Q E => ∃ (n : Nat) (g : Int), vs = [.int n, .int g] ∧ (0 ≤ g ∧ g ≤ n → Q .non H) ∧ (¬ (0 ≤ g ∧ g ≤ n) → Ex K "BadGap" [("gap", .int g)] E H)
def sp_Links___init__ : Sp := fun vs H Q E => ∃ (p dx : Addr) (size : Int), vs = [.ref p, .int size] ∧ H p = some (.ins (He.ga K "Links") dx []) ∧
  (SizeOk size → ∀ (r l o : Addr) (H' : Hp), H r = none → H l = none → H o = none → Kp [p] H H' → LinksAt K H' p r l o (wholeS size.toNat) → Q .non H') ∧ (¬ SizeOk size → Ex K "BadSize" [("size", .int size)] E H)
def sp_Links_is_legal : Sp := fun vs H Q E => ∃ (p r l o : Addr) (s : Sd) (op : Int), vs = [.ref p, .int op] ∧ LinksAt K H p r l o s ∧ IsOp s.n op ∧ Q (.bl (decide (gB s.O op.natAbs = decide (0 < op)))) H
def sp_Links_check : Sp := fun vs H Q E => ∃ (p r l o : Addr) (s : Sd) (op i : Int), vs = [.ref p, .int op, .int i] ∧ LinksAt K H p r l o s ∧ (OkOp s op → Q .non H) ∧ (¬ OkOp s op → OpE K s.n op i E H)
def sp_Links_apply_at : Sp := fun vs H Q E => ∃ (p r l o : Addr) (s : Sd) (op i : Int), vs = [.ref p, .int op, .int i] ∧ LinksAt K H p r l o s ∧ (OkOp s op → ∀ H', Kp [r, l, o] H H' → LinksAt K H' p r l o (stepS s op) → Q .non H') ∧ (¬ OkOp s op → OpE K s.n op i E H)
def sp_Links_apply : Sp := fun vs H Q E => ∃ (p r l o : Addr) (s : Sd) (op : Int), vs = [.ref p, .int op] ∧ LinksAt K H p r l o s ∧ (OkOp s op → ∀ H', Kp [r, l, o] H H' → LinksAt K H' p r l o (stepS s op) → Q .non H') ∧ (¬ OkOp s op → OpE K s.n op 0 E H)
def sp_Links_left : Sp := fun vs H Q E => ∃ (p r l o : Addr) (s : Sd) (v : Nat), vs = [.ref p, .int v] ∧ LinksAt K H p r l o s ∧ 1 ≤ v ∧ v ≤ s.n + 1 ∧ Q (.int (gI s.L v)) H
def sp_Links_right : Sp := fun vs H Q E => ∃ (p r l o : Addr) (s : Sd) (v : Nat), vs = [.ref p, .int v] ∧ LinksAt K H p r l o s ∧ v ≤ s.n ∧ Q (.int (gI s.R v)) H
/-- a new standing s -/
def NewS (H : Hp) (s : Sd) (Q : VK) : Prop := ∀ (p r l o : Addr) (H' : Hp), H p = none → H r = none → H l = none → H o = none → Kp [] H H' → LinksAt K H' p r l o s → Q (.ref p) H'
def sp_Links_copy : Sp := fun vs H Q E => ∃ (p r l o : Addr) (s : Sd), vs = [.ref p] ∧ LinksAt K H p r l o s ∧ NewS K H s Q
def sp_play : Sp := fun vs H Q E => ∃ (p r l o a : Addr) (s : Sd) (log : List Int), vs = [.ref p, .ref a] ∧ LinksAt K H p r l o s ∧ SqL K H a (log.map V.int) ∧ (Leg s log → NewS K H (runS s log) Q) ∧ LogE K s log E H
def sp_gap_state : Sp := fun vs H Q E => ∃ (p r l o : Addr) (s : Sd) (g : Int), vs = [.ref p, .int g] ∧ LinksAt K H p r l o s ∧ (0 ≤ g ∧ g ≤ s.n → Q (.str (stT s g.toNat)) H) ∧ (¬ (0 ≤ g ∧ g ≤ s.n) → Ex K "BadGap" [("gap", .int g)] E H)
def sp_gap_states : Sp := fun vs H Q E => ∃ (p r l o : Addr) (s : Sd), vs = [.ref p] ∧ LinksAt K H p r l o s ∧ ∀ (q : Addr) (H' : Hp), H q = none → Kp [] H H' → H' q = some (.lst ((List.range (s.n + 1)).map fun (v : Nat) => V.str (stT s v))) → Q (.ref q) H'
def sp_lost_gaps : Sp := fun vs H Q E => ∃ (p r l o : Addr) (s : Sd), vs = [.ref p] ∧ LinksAt K H p r l o s ∧ ∀ (q : Addr) (H' : Hp), H q = none → Kp [] H H' → H' q = some (.lst ((lostL s).map fun (v : Nat) => V.int (v : Int))) → Q (.ref q) H'
end
end G
set_option Elab.async false
set_option linter.all false
set_option maxRecDepth 100000
set_option maxHeartbeats 4000000
/-! More steps. -/
namespace G
open PySem PySem.Spec PyProof.Rows L2
section
variable {K : PySem.W.Frag} {σ : L2.St} {H : Hp} {Q : VK} {ta tb tc te : TE} {x y v : V} {D : Ends} {tl : TA} {i j : Int} {n m : Nat} {p q : Addr} {xs ys : List V} {A B : Prop}
theorem w_tT (a : A) : if true = true then A else B := iteT a
theorem w_tF (b : B) : if false = true then A else B := iteF b
theorem w_nT (a : A) : if (!false) = true then A else B := iteT a
theorem w_nF (b : B) : if (!true) = true then A else B := iteF b
theorem w_rz {C : Addr} {fs : List Str} {W : WX} (g : tl σ H fun us H1 => us.length = fs.length ∧ us.length ≤ 1000 ∧ ∀ d, H1 d = none → W (.ref C) (some d) σ (upd H1 d (.xd (fs.zip us).reverse))) : tRz C fs W tl D σ H := g
theorem w_rg1 {R : Int → Int → Hp → Prop} (g : te σ H fun x H1 => ∃ n, x = .int n ∧ R 0 n H1) : tRg1 te σ H R := g
theorem w_rg2 {R : Int → Int → Hp → Prop} (g : ta σ H fun x H1 => tb σ H1 fun y H2 => ∃ i j, x = .int i ∧ y = .int j ∧ R i j H2) : tRg2 ta tb σ H R := g
theorem w_n1 {R : Int → Prop} (g : R i) : ∃ n, V.int i = .int n ∧ R n := ⟨i, rfl, g⟩
theorem w_n2 {R : Int → Int → Prop} (g : R i j) : ∃ a b, V.int i = .int a ∧ V.int j = .int b ∧ R a b := ⟨i, j, rfl, rfl, g⟩
theorem w_sl {r : V → Option Int → Option Int → Hp → VK → Prop} {tlo thi : TO} (g : te σ H fun x H1 => tlo σ H1 fun l H2 => thi σ H2 fun u H3 => r x l u H3 Q) : tSl r te tlo thi σ H Q := g
theorem w_np {R : Option Int → Hp → Prop} (g : R none H) : tNoPart σ H R := g
theorem w_pt {R : Option Int → Hp → Prop} (g : te σ H fun x H1 => ∃ i, x = .int i ∧ R (some i) H1) : tPart te σ H R := g
theorem w_tr {R : Bool → Hp → Prop} (g : te σ H fun x H' => ∃ k, TruV K x H' k ∧ R k H') : tTr K te σ H R := g
theorem w_truL {R : Bool → Prop} (h : SqL K H p xs) (g : R (!xs.isEmpty)) : ∃ k, TruV K (.ref p) H k ∧ R k := ⟨_, .inl ⟨xs, h, rfl⟩, g⟩
theorem w_gn {k : Nat} {R : L2.St → Hp → Prop} (g : R (σ.set k (some v)) H) : gName k v σ H R := g
theorem w_g1 {g1 : TG} {R : L2.St → Hp → Prop} (g : g1 x σ H R) : gCons g1 gNil [x] σ H R := ⟨x, [], rfl, by
  have e : (fun σ2 H2 => gNil [] σ2 H2 R) = R := funext fun σ2 => funext fun H2 => propext ⟨fun z => z.2, fun z => ⟨rfl, z⟩⟩
  rw [e]
  exact g⟩
theorem w_gc {g1 : TG} {ts : TGs} {R : L2.St → Hp → Prop} (g : g1 x σ H fun σ1 H1 => ts (y :: xs) σ1 H1 R) : gCons g1 ts (x :: y :: xs) σ H R := ⟨x, y :: xs, rfl, g⟩
theorem w_gt {T : Addr} {k : Nat} {ts : TGs} {R : L2.St → Hp → Prop} (h : SqT K H T xs) (hl : xs.length = k) (g : ts xs σ H R) : gTup K k ts (.ref T) σ H R := ⟨T, xs, rfl, h, hl, g⟩
/-- a new object: the heap goes on under a name -/
def NwU (o : HO) (H : Hp) (Q : VK) : Prop := ∀ q, H q = none → Q (.ref q) (upd H q o)
theorem nw {o : HO} (g : ∀ q H', H q = none → Kp [] H H' → H' q = some o → Q (.ref q) H') : NwU o H Q := fun q n => g q _ n (Kp.new n) upd_same
theorem w_lstN (g : tl σ H fun xs H1 => xs.length ≤ sizeLine ∧ NwU (.lst xs) H1 Q) : tLst tl σ H Q := g
theorem w_tupN (g : tl σ H fun xs H1 => xs.length ≤ sizeLine ∧ NwU (.tup xs) H1 Q) : tTup tl σ H Q := g
theorem w_lrgN {t : L2.St → Hp → (Int → Int → Hp → Prop) → Prop} (g : t σ H fun a b H1 => RgOk a b ∧ NwU (.lst (rgV a b)) H1 Q) : tLstRg t σ H Q := g
theorem w_addLN (h1 : H p = some (.lst xs)) (h2 : H q = some (.lst ys)) (h : xs.length + ys.length ≤ sizeLine) (g : ∀ r H', H r = none → Kp [] H H' → H' r = some (.lst (xs ++ ys)) → Q (.ref r) H') : rAddA (.ref p) (.ref q) H Q := w_addL h1 h2 h (nw g)
theorem w_mulLN (h1 : H p = some (.lst xs)) (h2 : -(2 ^ 63) ≤ j) (h3 : j < 2 ^ 63) (h : xs.length * j.toNat ≤ sizeLine) (g : ∀ r H', H r = none → Kp [] H H' → H' r = some (.lst (List.replicate j.toNat xs).flatten) → Q (.ref r) H') : rMulA (.ref p) (.int j) H Q := w_mulL h1 h2 h3 h (nw g)
theorem w_listLN (h : SqL K H p xs) (g : ∀ l H', H l = none → Kp [] H H' → H' l = some (.lst xs) → Q (.ref l) H') : rListA K [.ref p] H Q := w_listL h (nw g)
theorem w_sT {C dx : Addr} {fs : List (Str × V)} {f : Str} {R : Hp → Prop} {v : V} (cl : Cls K C) (na : NoAttr K C f) (h : H p = some (.ins C dx fs)) (hl : fs.length < 1000) (g : ∀ H', Kp [p] H H' → H' p = some (.ins C dx (putF f v fs)) → R H') :
    ∃ a C dx fs, V.ref p = .ref a ∧ H a = some (.ins C dx fs) ∧ Cls K C ∧ NoAttr K C f ∧ fs.length < 1000 ∧ R (upd H a (.ins C dx (putF f v fs))) := ⟨p, C, dx, fs, rfl, h, cl, na, hl, g _ (Kp.put (by simp)) upd_same⟩
theorem w_seT {R : Hp → Prop} (h : H p = some (.lst xs)) (ha : ixN xs.length i = some n) (g : ∀ H', Kp [p] H H' → H' p = some (.lst (xs.set n v)) → R H') : rSetL (.ref p) (.int i) v H R := w_setL h ha (g _ (Kp.put (by simp)) upd_same)
theorem w_apT (h : H p = some (.lst xs)) (hl : xs.length < sizeLine) (g : ∀ H', Kp [p] H H' → H' p = some (.lst (xs ++ [v])) → Q .non H') : rAppend (.ref p) [v] H Q := w_append h hl (g _ (Kp.put (by simp)) upd_same)
/-- an object of a class, made: its dict, the object -/
def MkU (C : Addr) (sp : Sp) (E : XK) (vs : List V) (H : Hp) (Q : VK) : Prop := ∀ x dx, H x = none → H dx = none → dx ≠ x → sp (.ref x :: vs) (upd (upd H dx (.own x)) x (.ins C dx [])) (fun v H2 => v = .non ∧ Q (.ref x) H2) E
theorem w_mkN {C : Addr} {sp : Sp} {E : L2.St → XK} (g : tl σ H fun vs H1 => MkU C sp (E σ) vs H1 Q) : tMk C sp E tl σ H Q := g
theorem mk {C : Addr} {sp : Sp} {E : XK} {vs : List V} (g : ∀ x dx H', H x = none → H' x = some (.ins C dx []) → Kp [] H H' → sp (.ref x :: vs) H' (fun v H2 => v = .non ∧ Q (.ref x) H2) E) : MkU C sp E vs H Q :=
  fun x dx n1 n2 ne => g x dx _ n1 upd_same ((Kp.new n2).trans (Kp.new (by rw [upd_ne (Ne.symm ne)]; exact n1)))
theorem w_r1 {R : Int → Prop} {n : Int} (h : -(2 ^ 62) ≤ n ∧ n < 2 ^ 62) (g : R n) : ∃ j : Int, [V.int n] = [.int j] ∧ -(2 ^ 62) ≤ j ∧ j < 2 ^ 62 ∧ R j := ⟨n, rfl, h.1, h.2, g⟩
theorem w_r2 {R : Int → Int → Prop} {a b : Int} (h : -(2 ^ 62) ≤ a ∧ a < 2 ^ 62 ∧ -(2 ^ 62) ≤ b ∧ b < 2 ^ 62) (g : R a b) : ∃ i j : Int, [V.int a, V.int b] = [.int i, .int j] ∧ (-(2 ^ 62) ≤ i ∧ i < 2 ^ 62 ∧ -(2 ^ 62) ≤ j ∧ j < 2 ^ 62) ∧ R i j := ⟨a, b, rfl, h, g⟩
theorem w_yes {R : Bool → Hp → Prop} (g : R true H) : tYes σ H R := g
theorem ref_ne : V.ref p ≠ .non := fun z => by cases z
theorem int_ne : V.int i ≠ .non := fun z => by cases z
theorem at_0 : atI (x :: xs) 0 = some x := by
  rw [atI_pos (by omega) (by rw [List.length_cons]; omega)] <;> rfl
theorem w_l1 {R : Addr → Prop} (h : SqL K H p xs) (g : R p) : ∃ a, V.ref p = .ref a ∧ (∃ xs, SqL K H a xs) ∧ R a := ⟨p, rfl, ⟨xs, h⟩, g⟩
/-- a field of a standing -/
theorem w_fR {r l o : Addr} {s : Sd} {R : V → Prop} (cl : Cls K (He.ga K "Links")) (na : NoAttr K (He.ga K "Links") "_rights") (a : LinksAt K H p r l o s) (g : R (.ref r)) :
    ∃ a C dx fs v, V.ref p = .ref a ∧ H a = some (.ins C dx fs) ∧ Cls K C ∧ NoAttr K C "_rights" ∧ fs.lookup ("_rights" : Str) = some v ∧ R v := by
  obtain ⟨dx, h⟩ := a.ob
  exact ⟨p, _, dx, _, _, rfl, h, cl, na, fl_R _ _ _ _, g⟩
theorem w_fL {r l o : Addr} {s : Sd} {R : V → Prop} (cl : Cls K (He.ga K "Links")) (na : NoAttr K (He.ga K "Links") "_lefts") (a : LinksAt K H p r l o s) (g : R (.ref l)) :
    ∃ a C dx fs v, V.ref p = .ref a ∧ H a = some (.ins C dx fs) ∧ Cls K C ∧ NoAttr K C "_lefts" ∧ fs.lookup ("_lefts" : Str) = some v ∧ R v := by
  obtain ⟨dx, h⟩ := a.ob
  exact ⟨p, _, dx, _, _, rfl, h, cl, na, fl_L _ _ _ _, g⟩
theorem w_fO {r l o : Addr} {s : Sd} {R : V → Prop} (cl : Cls K (He.ga K "Links")) (na : NoAttr K (He.ga K "Links") "_out") (a : LinksAt K H p r l o s) (g : R (.ref o)) :
    ∃ a C dx fs v, V.ref p = .ref a ∧ H a = some (.ins C dx fs) ∧ Cls K C ∧ NoAttr K C "_out" ∧ fs.lookup ("_out" : Str) = some v ∧ R v := by
  obtain ⟨dx, h⟩ := a.ob
  exact ⟨p, _, dx, _, _, rfl, h, cl, na, fl_O _ _ _ _, g⟩
theorem w_fS {r l o : Addr} {s : Sd} {R : V → Prop} (cl : Cls K (He.ga K "Links")) (na : NoAttr K (He.ga K "Links") "size") (a : LinksAt K H p r l o s) (g : R (.int s.n)) :
    ∃ a C dx fs v, V.ref p = .ref a ∧ H a = some (.ins C dx fs) ∧ Cls K C ∧ NoAttr K C "size" ∧ fs.lookup ("size" : Str) = some v ∧ R v := by
  obtain ⟨dx, h⟩ := a.ob
  exact ⟨p, _, dx, _, _, rfl, h, cl, na, fl_size _ _ _ _, g⟩
/-- .. of an object with the fields of a standing -/
theorem w_oR {dx : Addr} {n r l o : V} {R : V → Prop} (cl : Cls K (He.ga K "Links")) (na : NoAttr K (He.ga K "Links") "_rights") (h : H p = some (.ins (He.ga K "Links") dx (fl n r l o))) (g : R r) :
    ∃ a C dx fs v, V.ref p = .ref a ∧ H a = some (.ins C dx fs) ∧ Cls K C ∧ NoAttr K C "_rights" ∧ fs.lookup ("_rights" : Str) = some v ∧ R v := ⟨p, _, dx, _, _, rfl, h, cl, na, fl_R _ _ _ _, g⟩
theorem w_oL {dx : Addr} {n r l o : V} {R : V → Prop} (cl : Cls K (He.ga K "Links")) (na : NoAttr K (He.ga K "Links") "_lefts") (h : H p = some (.ins (He.ga K "Links") dx (fl n r l o))) (g : R l) :
    ∃ a C dx fs v, V.ref p = .ref a ∧ H a = some (.ins C dx fs) ∧ Cls K C ∧ NoAttr K C "_lefts" ∧ fs.lookup ("_lefts" : Str) = some v ∧ R v := ⟨p, _, dx, _, _, rfl, h, cl, na, fl_L _ _ _ _, g⟩
theorem w_oO {dx : Addr} {n r l o : V} {R : V → Prop} (cl : Cls K (He.ga K "Links")) (na : NoAttr K (He.ga K "Links") "_out") (h : H p = some (.ins (He.ga K "Links") dx (fl n r l o))) (g : R o) :
    ∃ a C dx fs v, V.ref p = .ref a ∧ H a = some (.ins C dx fs) ∧ Cls K C ∧ NoAttr K C "_out" ∧ fs.lookup ("_out" : Str) = some v ∧ R v := ⟨p, _, dx, _, _, rfl, h, cl, na, fl_O _ _ _ _, g⟩
/-- a method of a standing -/
theorem w_me {r l o : Addr} {s : Sd} {m : Str} {R : Prop} (a : LinksAt K H p r l o s) (hm : ∀ n r l o : V, (fl n r l o).lookup m = none) (g : R) : ∃ a dx fs, V.ref p = .ref a ∧ H a = some (.ins (He.ga K "Links") dx fs) ∧ fs.lookup m = none ∧ R := by
  obtain ⟨dx, h⟩ := a.ob
  exact ⟨p, dx, _, rfl, h, hm _ _ _ _, g⟩
end
/-- a method's name is none of the fields -/
theorem no_m {m : Str} (h1 : ¬ m = "size" := by decide +kernel) (h2 : ¬ m = "_rights" := by decide +kernel) (h3 : ¬ m = "_lefts" := by decide +kernel) (h4 : ¬ m = "_out" := by decide +kernel) (n r l o : V) : (fl n r l o).lookup m = none := fl_no n r l o h1 h2 h3 h4
theorem natAbs_if (i : Int) : (if i < 0 then -i else i) = (i.natAbs : Int) := by
  split <;> omega
end G
set_option Elab.async false
set_option linter.all false
set_option maxRecDepth 100000
set_option maxHeartbeats 4000000
/-! == by an own __eq__, any answer. -/
namespace G
open PySem PySem.Spec PyProof.Rows L2
section
variable {X : Cx} {j k : Nat} {ps : List Str} {sp : Sp} {E : XK} {C f : Addr} {fd : FuncData}
def rOwn (C : Addr) (sp : Sp) (E : XK) : R2 := fun x y H Q => ∃ a b dx dy fs gs, x = .ref a ∧ y = .ref b ∧ H a = some (.ins C dx fs) ∧ H b = some (.ins C dy gs) ∧ sp [.ref a, .ref b] H (fun v H' => (∃ k, v = .bl k) ∧ Q v H') E
theorem op_own (F : FnOk X.prog X.w X.K X.mg X.base (L2N.CX X.prog X.w) k f fd ps sp) (hb : Binds X.K fd ps []) (hr : Room j X.A) (hk : k ≤ j) (hx : PAt X (fun _ => E))
    (hs : PySem.W.findIn X.K (.ref C) "__eq__" = some (some (.ref f))) (hf : PySem.W.isFn X.K (.ref f) = true) : OpR X (compareOp .Eq) (rOwn C sp E) := by
  intro pins s σ H x y u v Q I rx ry hq
  obtain ⟨a, b, dx, dy, fs, gs, rfl, rfl, ha, hb', q⟩ := hq
  cases rx
  cases ry
  obtain ⟨mA, J, _⟩ := ins_get I.hok ha
  obtain ⟨mB, J', _⟩ := ins_get I.hok hb'
  obtain ⟨od, J, _⟩ := J.look
  obtain ⟨od', J', _⟩ := J'.look
  obtain ⟨m, hF⟩ := I.fr
  show wpAny (model X.prog X.w) X.A (richCompare .Eq (.ref a) (.ref b)) (EP X pins σ Q) X.xe s
  refine PySem.W.cmp_K (op := .Eq) (tb := .ref C) hr.units0 hF I.ok.mod.kin J J'.type (by simp [PySem.W.notFirst]) hs hf ?_
  refine wpAny_mono (run_fnS (E := fun _ => E) (us := [.ref a, .ref b]) (vs := [.ref a, .ref b]) F (hr.mono hk) hb (hx σ) I (.cons rfl (.cons rfl .nil)) q) (fun r s' z => ?_) fun _ _ x => x
  obtain ⟨w, H', I', rw_, ⟨kk, rfl⟩, qq⟩ := z
  cases rw_
  exact ⟨.bl kk, H', I', rfl, qq⟩
end
end G
namespace G
open PySem PySem.Spec PyProof.Rows L2
section
variable {X : Cx} {j k : Nat} {ps : List Str} {sp : Sp} {E : XK} {C : Addr}
/-- == of data, or by the own __eq__ of the class at C -/
def rEqO (K : PySem.W.Frag) (C : Addr) (sp : Sp) (E : XK) : R2 := fun x y H Q => rEqA K x y H Q ∨ rOwn C sp E x y H Q
theorem op_eqO {i : Nat} (c : Met X.prog X.w X.K X.mg X.base k C "__eq__" ps sp) (hr : Room j X.A) (hk : k ≤ j) (hx : PAt X (fun _ => E)) : OpR X (compareOp .Eq) (rEqO X.K C sp E) := by
  obtain ⟨f, fd, F, hm, hb⟩ := c.ex
  exact OpR.or (op_eqA hr) (op_own F hb hr hk hx hm.at_ hm.fn)
end
end G
namespace G
open PySem PySem.Spec PyProof.Rows L2
/-- isinstance of an instance of an own class -/
def tyB (x : Str) (K : PySem.W.Frag) : Bool := He.eqO (PySem.W.findIn K (.ref (He.ga K x)) "__class__") (some (some (.builtin "object.__class__"))) && eqT (PySem.W.mroIn K (He.ga K x) (.type "object")) (some true)
theorem tyB_ok {x : Str} {K : PySem.W.Frag} (q : tyB x K = true) : PySem.W.findIn K (.ref (He.ga K x)) "__class__" = some (some (.builtin "object.__class__")) ∧ PySem.W.mroIn K (He.ga K x) (.type "object") = some true := by
  obtain ⟨q1, q2⟩ := He.ba q
  exact ⟨He.eqO_ok q1, of_decide_eq_true q2⟩
end G
set_option Elab.async false
set_option linter.all false
set_option maxRecDepth 100000
set_option maxHeartbeats 4000000
/-! More built-ins: str, tuple, is True, pop, insert, extend. -/
namespace G
open PySem PySem.Spec PyProof.Rows L2
def rStrA : List V → Hp → VK → Prop := fun xs H Q => ∃ i, xs = [.int i] ∧ i.natAbs.log2 < 1920 ∧ Q (.str (toString i)) H
def rTupA (K : PySem.W.Frag) : List V → Hp → VK → Prop := fun xs H Q => ∃ p ys, xs = [.ref p] ∧ ((SqL K H p ys ∧ ∀ l, H l = none → Q (.ref l) (upd H l (.tup ys))) ∨ (SqT K H p ys ∧ Q (.ref p) H))
section
variable {X : Cx}
theorem call_strA : CallR X (.type "str") rStrA := call_str_int
theorem call_tupA : CallR X (.type "tuple") (rTupA X.K) := call_tuple_of
end
section
variable {K : PySem.W.Frag} {σ : L2.St} {H : Hp} {Q : VK} {ta tb tc te : TE} {x y v : V} {i j : Int} {n m : Nat} {p q : Addr} {xs ys : List V} {b c : Bool}
theorem w_str (h : i.natAbs.log2 < 1920) (g : Q (.str (toString i)) H) : rStrA [.int i] H Q := ⟨i, rfl, h, g⟩
theorem w_tuA (h : SqL K H p xs) (g : ∀ l H', H l = none → Kp [] H H' → H' l = some (.tup xs) → Q (.ref l) H') : rTupA K [.ref p] H Q := ⟨p, xs, rfl, .inl ⟨h, nw g⟩⟩
theorem w_pop (h : H p = some (.lst xs)) (hy : xs[xs.length - 1]? = some y) (g : ∀ H', Kp [p] H H' → H' p = some (.lst xs.dropLast) → Q y H') : rPop (.ref p) [] H Q := ⟨p, xs, y, rfl, rfl, h, hy, g _ (Kp.put (by simp)) upd_same⟩
theorem w_inL {neg : Bool} (h : SqL K H p xs) (hx : flatV x = true) (ha : xs.all flatV = true) (g : Q (.bl (if neg then !inV x xs else inV x xs)) H) : rIn K neg x (.ref p) H Q := ⟨p, xs, rfl, .inl h, hx, ha, g⟩
theorem w_inT {neg : Bool} (h : SqT K H p xs) (hx : flatV x = true) (ha : xs.all flatV = true) (g : Q (.bl (if neg then !inV x xs else inV x xs)) H) : rIn K neg x (.ref p) H Q := ⟨p, xs, rfl, .inr h, hx, ha, g⟩
end
end G
set_option Elab.async false
set_option linter.all false
set_option maxRecDepth 100000
set_option maxHeartbeats 4000000
/-! Static methods, texts, more in a handler; a head with defs at any address. -/
namespace G
open PySem PySem.Spec PyProof.Rows L2
/-! ### a static method by its class -/
structure Smt (P : Program) (w : World) (K : PySem.W.Frag) (mg : Str → Option Value) (base : Heap) (k : Nat) (C : Addr) (m : Str) (ps : List Str) (sp : Sp) : Prop where
  ex : ∃ (f p : Addr) (fd : FuncData) (rest : List Value), FnOk P w K mg base (L2N.CX P w) k f fd ps sp ∧ ClX.CRead K C (.type "type") ∧ PySem.W.findCls K (.ref C) (.type "type") m = some (.get (.builtin "staticmethod.__get__") (.ref p) .none (.ref C)) ∧
    PySem.W.recIn K p "staticmethod" = some (.ref f :: rest) ∧ PySem.W.keepIn K (.ref f) = true ∧ Binds K fd ps []
section
variable {X : Cx} {j k : Nat} {m : Str} {ps : List Str} {sp : Sp} {C : Addr} {pos apos : Pos} {e o : Expr} {es : List Expr} {t : TA} {E : L2.St → XK}
theorem pe_sm {pl : Sem Bool} (c : Smt X.prog X.w X.K X.mg X.base k C m ps sp) (hr : Room j X.A) (hk : k ≤ j) (hx : PAt X E) (he : PE X o (tC (.ref C))) (ha : PA X (e :: es) t)
    (hst : starEach (e :: es) X.env = (false, eval e X.env) :: starEach es X.env := by rfl) (hpl : (backTo pos (starEach es X.env)).any (·.1) = false := by rfl)
    (ht : eval (.Call (.Attribute o m apos) (e :: es) [] pos) X.env = (do
      let ov ← eval o X.env
      standAt apos.atName
      let (f, first) ← holding [ov] (getMethod ov m pl)
      callWith pos f first (backTo pos (starEach (e :: es) X.env)) (backToKw pos (keywordEach [] X.env))) := by rfl) : PE X (.Call (.Attribute o m apos) (e :: es) [] pos) (tCl sp E t) := by
  obtain ⟨f, p, fd, rest, F, r, e1, e2, kp, hb⟩ := c.ex
  refine ⟨fun pins s σ H Q I h => PySem.W.methodCall_KW (pl := pl) (thn (he.run pins s σ H (fun x H1 => x = V.ref C ∧ tCl sp E t σ H1 Q) I ⟨rfl, h⟩) fun u s1 hh => ?_) ht⟩
  obtain ⟨x, H1, I1, rx, ex, q⟩ := hh
  subst ex
  obtain rfl : u = Value.ref C := rx
  refine PySem.W.method_cls I1.kIn r.ga (PySem.W.cls_bind I1.kIn r.rd e1 (wpAny_call (PySem.W.sm_get (s := { s1 with toks := s1.toks + 1 }) I1.kIn e2 (PySem.W.handed_on rfl ?_))))
  have I2 := I1.tok (s1.toks + 1)
  refine PySem.W.callWith_K (first := []) (h₀ := X.base) I2.ok.mod.kin kp (thn (ha.run pos pins _ σ H1 _ I2 q) fun us s2 hh => ?_) hst hpl
  obtain ⟨vs, H2, I3, rv, q2⟩ := hh
  exact ⟨I3.kIn, run_fnS (E := E) (us := us) (vs := vs) F (hr.mono hk) hb (hx σ) I3 rv q2⟩
end
/-- C.m is a staticmethod -/
def smB (x m : Str) (K : PySem.W.Frag) : Bool := PySem.W.readsIn K (He.ga K x) (.type "type") && (He.eqO (PySem.W.specialIn K (.ref (He.ga K x)) "__getattribute__") (some (some (.builtin "type.__getattribute__"))) &&
  He5.wrapB K (He.ga K x) "staticmethod" "staticmethod.__get__" m)
theorem smB_ok {K : PySem.W.Frag} {x m : Str} (q : smB x m K = true) : ClX.CRead K (He.ga K x) (.type "type") ∧ ∃ (p : Addr) (rest : List Value), PySem.W.findCls K (.ref (He.ga K x)) (.type "type") m = some (.get (.builtin "staticmethod.__get__") (.ref p) .none (.ref (He.ga K x))) ∧
    PySem.W.recIn K p "staticmethod" = some (.ref (He5.wf K (He.ga K x) "staticmethod" m) :: rest) := by
  obtain ⟨q1, q⟩ := He.ba q
  obtain ⟨q2, q3⟩ := He.ba q
  obtain ⟨h1, rest, h2⟩ := He5.wrapB_ok q3
  exact ⟨⟨q1, He.eqO_ok q2⟩, _, rest, h1, h2⟩
theorem smt_of {P : Program} {w : World} {K : PySem.W.Frag} {mg : Str → Option Value} {base : Heap} {k : Nat} {x m : Str} {ps : List Str} {sp : Sp} {fd : FuncData} (q : ClX.CRead K (He.ga K x) (.type "type") ∧ ∃ (p : Addr) (rest : List Value), PySem.W.findCls K (.ref (He.ga K x)) (.type "type") m = some (.get (.builtin "staticmethod.__get__") (.ref p) .none (.ref (He.ga K x))) ∧
    PySem.W.recIn K p "staticmethod" = some (.ref (He5.wf K (He.ga K x) "staticmethod" m) :: rest)) (F : FnOk P w K mg base (L2N.CX P w) k (He5.wf K (He.ga K x) "staticmethod" m) fd ps sp) (kp : PySem.W.keepIn K (.ref (He5.wf K (He.ga K x) "staticmethod" m)) = true) (hb : Binds K fd ps []) :
    Smt P w K mg base k (He.ga K x) m ps sp := by
  obtain ⟨r, p, rest, h1, h2⟩ := q
  exact ⟨_, p, fd, rest, F, r, h1, h2, kp, hb⟩
/-! ### the head, defs at any address -/
def obsY (fa : List Chk) (fn : List He5.DefA) (K : PySem.W.Frag) : He.AlD := ((fa.all fun f => f K) && fn.all fun d => d.ok K, fn.map fun d => He5.fnA K (d.at_ K))
def valY (fn : List He5.DefA) : He.AlD := (true, fn.map He5.DefA.val)
def SaysY (fa : List Chk) (fn : List He5.DefA) (K : PySem.W.Frag) : Prop := obsY fa fn K = valY fn
section
variable {fa : List Chk} {fn : List He5.DefA} {K : PySem.W.Frag}
theorem SaysY.fact (c : SaysY fa fn K) (i : Nat) {f : Chk} (h : fa[i]? = some f := by rfl) : f K = true := by
  have c1 := (He.ba (show ((fa.all fun f => f K) && fn.all fun d => d.ok K) = true from congrArg (fun z : He.AlD => z.1) c)).1
  exact List.all_eq_true.mp c1 f (List.mem_of_getElem? h)
theorem SaysY.def_ (c : SaysY fa fn K) (i : Nat) {d : He5.DefA} (h : fn[i]? = some d := by rfl) : ∃ fd, FunD K d.name d.qual d.params d.body d.scope (d.dvs K) (d.kws K) (d.at_ K) fd := by
  have c2 := (He.ba (show ((fa.all fun f => f K) && fn.all fun d => d.ok K) = true from congrArg (fun z : He.AlD => z.1) c)).2
  have e : fn.map (fun d => He5.fnA K (d.at_ K)) = fn.map He5.DefA.val := congrArg (fun z : He.AlD => z.2) c
  have e2 : (fn.map fun d => He5.fnA K (d.at_ K))[i]? = (fn.map He5.DefA.val)[i]? := by rw [e]
  rw [List.getElem?_map, List.getElem?_map, h] at e2
  exact He5.DefA.funD (Option.some.inj e2) (List.all_eq_true.mp c2 d (List.mem_of_getElem? h))
end
/-! ### where an exception is handled -/
/-! ### texts -/
def rJoin (K : PySem.W.Frag) : V → List V → Hp → VK → Prop := fun x xs H Q => ∃ a p, ∃ ys : List Str, x = .str a ∧ xs = [.ref p] ∧ (SqL K H p (ys.map V.str) ∨ SqT K H p (ys.map V.str)) ∧
    (ys.map (·.length)).sum + ys.length * a.length ≤ 16777216 ∧ Q (.str (Txt.join a ys)) H
def rSplit : V → List V → Hp → VK → Prop := fun x xs H Q => ∃ a b, x = .str a ∧ xs = [.str b] ∧ (b.length == 0) = false ∧ a.length + 2 ≤ sizeLine ∧ rNewStrs (Txt.split a b) H Q
def rIntS : List V → Hp → VK → Prop := fun xs H Q => ∃ a n, xs = [.str a] ∧ PySem.intText? a = some n ∧ a.length ≤ 640 ∧ Q (.int n) H
section
variable {X : Cx} {o e : Expr} {to te : TE}
theorem pe_joinA {apos pos : Pos} (ho : PE X o to) (he : PE X e te) (hs : starEach [e] X.env = [(false, eval e X.env)] := by rfl) (hbase : attributeBase o "join" X.env (eval o X.env) = eval o X.env := by rfl) (hline : (apos.endLine == pos.line) = true := by rfl) :
    PE X (.Call (.Attribute o "join" apos) [e] [] pos) (tM1 (rJoin X.K) to te) := pe_join ho he hs hbase hline
theorem pe_splitA {apos pos : Pos} (ho : PE X o to) (he : PE X e te) (hs : starEach [e] X.env = [(false, eval e X.env)] := by rfl) (hbase : attributeBase o "split" X.env (eval o X.env) = eval o X.env := by rfl) (hline : (apos.endLine == pos.line) = true := by rfl) :
    PE X (.Call (.Attribute o "split" apos) [e] [] pos) (tM1 rSplit to te) := pe_split ho he hs hbase hline
theorem call_intS : CallR X (.type "int") rIntS := call_int_str
end
section
variable {K : PySem.W.Frag} {σ : L2.St} {H : Hp} {Q : VK} {ta tb tc te : TE} {x y v : V} {i j : Int} {n m : Nat} {p q : Addr} {xs ys : List V} {b c : Bool}
theorem w_m1 {r : V → List V → Hp → VK → Prop} (g : ta σ H fun x H1 => (∃ a, x = .str a) ∧ te σ H1 fun y H2 => r x [y] H2 Q) : tM1 r ta te σ H Q := g
theorem w_joinL {a : Str} {ss : List Str} (h : SqL K H p (ss.map V.str)) (hl : (ss.map (·.length)).sum + ss.length * a.length ≤ 16777216) (g : Q (.str (Txt.join a ss)) H) : rJoin K (.str a) [.ref p] H Q := ⟨a, p, ss, rfl, rfl, .inl h, hl, g⟩
theorem w_split {a b : Str} (hb : (b.length == 0) = false) (hl : a.length + 2 ≤ sizeLine) (g : ∀ l H', H l = none → Kp [] H H' → H' l = some (.lst ((Txt.split a b).map V.str)) → Q (.ref l) H') : rSplit (.str a) [.str b] H Q := ⟨a, b, rfl, rfl, hb, hl, nw g⟩
theorem w_intS {a : Str} {k : Int} (h : PySem.intText? a = some k) (hl : a.length ≤ 640) (g : Q (.int k) H) : rIntS [.str a] H Q := ⟨a, k, rfl, h, hl, g⟩
theorem w_exS {P : Prop} {a : Str} (g : P) : (∃ b, V.str a = .str b) ∧ P := ⟨⟨a, rfl⟩, g⟩
theorem w_inS {c : Nat} {z : Str} (g : Q (.bl (decide (c ∈ z.cps.toList))) H) : rInS (.str ⟨#[c]⟩) (.str z) H Q := ⟨c, z, rfl, rfl, g⟩
theorem w_iS {R : It → Hp → Prop} (g : ta σ H fun v H1 => ∃ x, v = .str x ∧ R (Its x) H1) : iStr ta σ H R := g
theorem w_gu {T : Addr} {k : Nat} {ts : TGs} {R : L2.St → Hp → Prop} (h : SqL K H T xs) (hl : xs.length = k) (g : ts xs σ H R) : gUnl K k ts (.ref T) σ H R := ⟨T, xs, rfl, h, hl, g⟩
end
end G
set_option Elab.async false
set_option linter.all false
set_option maxRecDepth 100000
set_option maxHeartbeats 4000000
/-! What a log writes down: last writes, last changes, the first loss. Promises of the defs that read logs. -/
namespace G
open PySem PySem.Spec PyProof.Rows L2
/-! ### the book -/
structure Bk where
  s : Sd
  k : Nat
  wr : List Int
  wl : List Int
  de : List Int
  ls : Option (Nat × Nat)
def lowN (s : Sd) (op : Int) : Nat := (gI s.L op.natAbs).toNat
def hiN (s : Sd) (op : Int) : Nat := (gI s.R op.natAbs).toNat - 1
def deS (s s' : Sd) (k : Nat) (de : List Int) (g : Nat) : List Int := if stT s g = stT s' g then de else de.set g (k : Int)
def lsS (s s' : Sd) (k g : Nat) (ls : Option (Nat × Nat)) : Option (Nat × Nat) := if ls = none ∧ stT s g ≠ stT s' g ∧ stT s' g = "lost" then some (k, g) else ls
def bstep (b : Bk) (op : Int) : Bk :=
  let s' := stepS b.s op
  ⟨s', b.k + 1, b.wr.set (lowN b.s op) (b.k : Int), b.wl.set (hiN b.s op) (b.k : Int), deS b.s s' b.k (deS b.s s' b.k b.de (lowN b.s op)) (hiN b.s op), lsS b.s s' b.k (hiN b.s op) (lsS b.s s' b.k (lowN b.s op) b.ls)⟩
def bk0 (n : Nat) : Bk := ⟨wholeS n, 0, List.replicate (n + 1) (-1), List.replicate (n + 1) (-1), List.replicate (n + 1) (-1), none⟩
def bkR (n : Nat) (log : List Int) : Bk := log.foldl bstep (bk0 n)
/-- bounds of the two touched gaps -/
theorem touch_bd {s : Sd} (w : Wf s) {op : Int} (h : IsOp s.n op) : lowN s op < op.natAbs ∧ op.natAbs ≤ hiN s op ∧ hiN s op ≤ s.n ∧ gI s.L op.natAbs = (lowN s op : Int) ∧ gI s.R op.natAbs = (hiN s op : Int) + 1 := by
  unfold lowN hiN
  obtain ⟨r1, r2⟩ := w.rb op.natAbs h.2
  obtain ⟨l1, l2⟩ := w.lb op.natAbs h.1 (by have := h.2; omega)
  refine ⟨by omega, by omega, by omega, by omega, by omega⟩
/-! ### promises -/
section
variable (K : PySem.W.Frag)
/-- the errors of a log from the whole list -/
structure RepE (H : Hp) (size : Int) (log : List Int) (E : XK) : Prop where
  op : SizeOk size → LogE K (wholeS size.toNat) log E H
  sz : ¬ SizeOk size → ∀ H', Kp [] H H' → Ex K "BadSize" [("size", .int size)] E H'
theorem RepE.kp {K : PySem.W.Frag} {H H1 : Hp} {size : Int} {log : List Int} {E : XK} (r : RepE K H size log E) (k : Kp [] H H1) : RepE K H1 size log E :=
  ⟨fun ok i op h l b H' k' => r.op ok i op h l b H' (k.trans k'), fun b H' k' => r.sz b H' (k.trans k')⟩
end
end G
set_option Elab.async false
set_option linter.all false
set_option maxRecDepth 100000
set_option maxHeartbeats 4000000
/-! What the law's own defs promise. -/
namespace G
open PySem PySem.Spec PyProof.Rows L2
def Bag (H : Hp) (b : Addr) : Prop := ∃ c m t : Int, H b = some (.lst [.int c, .int m, .int t])
/-- the law's own standing: a list of a size and three lists -/
structure LW (H : Hp) (w r l o : Addr) (s : Sd) : Prop where
  ob : H w = some (.lst [.int s.n, .ref r, .ref l, .ref o])
  hr : H r = some (.lst (s.R.map V.int))
  hl : ∃ L' : List Int, H l = some (.lst (L'.map V.int)) ∧ L'.length = s.n + 2 ∧ ∀ v, 1 ≤ v → gI L' v = gI s.L v
  ho : H o = some (.lst (s.O.map V.bl))
  ne : r ≠ l ∧ r ≠ o ∧ l ≠ o ∧ w ≠ r ∧ w ≠ l ∧ w ≠ o
  wf : Wf s
theorem LW.kp {H H' : Hp} {w r l o : Addr} {s : Sd} {S : List Addr} (a : LW H w r l o s) (k : Kp S H H') (h1 : w ∉ S) (h2 : r ∉ S) (h3 : l ∉ S) (h4 : o ∉ S) : LW H' w r l o s := by
  obtain ⟨L', e1, e2⟩ := a.hl
  exact ⟨k _ _ h1 a.ob, k _ _ h2 a.hr, ⟨L', k _ _ h3 e1, e2⟩, k _ _ h4 a.ho, a.ne, a.wf⟩
theorem LW.k0 {H H' : Hp} {w r l o : Addr} {s : Sd} (a : LW H w r l o s) (k : Kp [] H H') : LW H' w r l o s := a.kp k (by simp) (by simp) (by simp) (by simp)
/-- out, by the last operation of the node -/
def outF (log : List Int) (v : Nat) : Bool := match log.reverse.find? (fun x => decide (x.natAbs = v)) with
  | some x => decide (x < 0)
  | none => false
/-- each operation turns its node -/
def Alt (log : List Int) : Prop := ∀ i op, log[i]? = some op → outF (log.take i) op.natAbs = decide (0 < op)
section
def sp_law (K : PySem.W.Frag) : Sp := fun vs H Q E => ∃ (a : Addr) (ns : List Int), vs = [.ref a] ∧ SqL K H a (ns.map V.int) ∧ ns.length ≤ 63 ∧ ∀ H', Q (.bl true) H'
end
end G
set_option Elab.async false
set_option linter.all false
set_option maxRecDepth 100000
set_option maxHeartbeats 4000000
/-! k10: verdicts, certificates, values of many kinds. -/
namespace G
open PySem PySem.Spec PyProof.Rows L2
/-- the nodes that are out, from the least on -/
def outN (n : Nat) (O : List Bool) : List Int := (((List.range n).map fun (v : Nat) => v + 1).filter fun v => gB O v).map fun (v : Nat) => (v : Int)
theorem outN_len (n : Nat) (O : List Bool) : (outN n O).length ≤ n := by
  unfold outN
  rw [List.length_map]
  refine Nat.le_trans (List.length_filter_le _ _) ?_
  rw [List.length_map, List.length_range]
  exact Nat.le_refl _
/-! a verdict in the heap -/
def vfl (g a b w : V) : List (Str × V) := putF "whole" w (putF "index" b (putF "gap" a (putF "out_nodes" g [])))
theorem m1 : ¬ (("out_nodes" : Str) = "gap") := by decide +kernel
theorem m2 : ¬ (("out_nodes" : Str) = "index") := by decide +kernel
theorem m3 : ¬ (("out_nodes" : Str) = "whole") := by decide +kernel
theorem m4 : ¬ (("gap" : Str) = "index") := by decide +kernel
def whB (a : V) (gone : List Int) : Bool := match a with
  | .non => decide ((gone.length : Int) = 0)
  | _ => false
structure VdAt (K : PySem.W.Frag) (H : Hp) (x g : Addr) (gone : List Int) (a b : V) : Prop where
  ob : ∃ dx, H x = some (.ins (He.ga K "Verdict") dx (vfl (.ref g) a b (.bl (whB a gone))))
  hg : H g = some (.lst (gone.map V.int))
theorem VdAt.kp {K : PySem.W.Frag} {H H' : Hp} {x g : Addr} {gone : List Int} {a b : V} {S : List Addr} (v : VdAt K H x g gone a b) (k : Kp S H H') (h1 : x ∉ S) (h2 : g ∉ S) : VdAt K H' x g gone a b := by
  obtain ⟨dx, h⟩ := v.ob
  exact ⟨⟨dx, k _ _ h1 h⟩, k _ _ h2 v.hg⟩
theorem VdAt.k0 {K : PySem.W.Frag} {H H' : Hp} {x g : Addr} {gone : List Int} {a b : V} (v : VdAt K H x g gone a b) (k : Kp [] H H') : VdAt K H' x g gone a b := v.kp k (by simp) (by simp)
/-- the certificate of a gap -/
def paper (n : Nat) (log : List Int) (i : Nat) : List V := [.str (stT (runS (wholeS n) log) i), .int (gI (bkR n log).wr i), .int (gI (bkR n log).wl i)]
def PapersAt (H : Hp) (p : Addr) (n : Nat) (log : List Int) : Prop := ∃ ps : List V, H p = some (.lst ps) ∧ ps.length = n + 1 ∧ ∀ i, i ≤ n → ∃ t, ps[i]? = some (.ref t) ∧ H t = some (.tup (paper n log i))
theorem PapersAt.k0 {H H' : Hp} {p : Addr} {n : Nat} {log : List Int} (a : PapersAt H p n log) (k : Kp [] H H') : PapersAt H' p n log := by
  obtain ⟨ps, h1, h2, h3⟩ := a
  refine ⟨ps, k.at0 h1, h2, fun i hi => ?_⟩
  obtain ⟨t, h4, h5⟩ := h3 i hi
  exact ⟨t, h4, k.at0 h5⟩
theorem PapersAt.k1 {H H' : Hp} {p b : Addr} {n : Nat} {log : List Int} (a : PapersAt H p n log) (hb : Bag H b) (ne : p ≠ b) (k : Kp [b] H H') : PapersAt H' p n log := by
  obtain ⟨ps, h1, h2, h3⟩ := a
  refine ⟨ps, k.at1 ne h1, h2, fun i hi => ?_⟩
  obtain ⟨t, h4, h5⟩ := h3 i hi
  obtain ⟨c, m, t', hb⟩ := hb
  exact ⟨t, h4, k.at1 (ne_of h5 hb (by intro z; cases z)) h5⟩
/-! values of many kinds, apart from b -/
mutual
inductive Vl (b : Addr) (H : Hp) : V → PyData → Prop
  | non : Vl b H .non .none
  | bl (k : Bool) : Vl b H (.bl k) (.bool k)
  | int (i : Int) : Vl b H (.int i) (.int i)
  | str (x : Str) : Vl b H (.str x) (.str x)
  | lst {a : Addr} {xs : List V} {ds : List PyData} : a ≠ b → H a = some (.lst xs) → VlA b H xs ds → Vl b H (.ref a) (.list ds)
  | tup {a : Addr} {xs : List V} {ds : List PyData} : a ≠ b → H a = some (.tup xs) → VlA b H xs ds → Vl b H (.ref a) (.tuple ds)
inductive VlA (b : Addr) (H : Hp) : List V → List PyData → Prop
  | nil : VlA b H [] []
  | cons {v : V} {vs : List V} {d : PyData} {ds : List PyData} : Vl b H v d → VlA b H vs ds → VlA b H (v :: vs) (d :: ds)
end
mutual
theorem Vl.kp {b : Addr} {H H' : Hp} (k : Kp [b] H H') : ∀ (d : PyData) (v : V), Vl b H v d → Vl b H' v d
  | .none, _, h => by cases h; exact .non
  | .bool b, _, h => by cases h; exact .bl b
  | .int i, _, h => by cases h; exact .int i
  | .str x, _, h => by cases h; exact .str x
  | .list ds, _, h => by
    cases h with
    | lst ne hs ha => exact .lst ne (k.at1 ne hs) (VlA.kp k ds _ ha)
  | .tuple ds, _, h => by
    cases h with
    | tup ne hs ha => exact .tup ne (k.at1 ne hs) (VlA.kp k ds _ ha)
  | .dict _, _, h => by cases h
theorem VlA.kp {b : Addr} {H H' : Hp} (k : Kp [b] H H') : ∀ (ds : List PyData) (vs : List V), VlA b H vs ds → VlA b H' vs ds
  | [], _, h => by cases h; exact .nil
  | d :: ds, _, h => by
    cases h with
    | cons h1 h2 => exact .cons (Vl.kp k d _ h1) (VlA.kp k ds _ h2)
end
theorem Vl.k0 {b : Addr} {H H' : Hp} {v : V} {d : PyData} (h : Vl b H v d) (k : Kp [] H H') : Vl b H' v d := Vl.kp k.all d v h
/-- no truth value stands where a whole number should -/
def okv : PyData → Bool
  | .tuple [_, .bool _, _] => false
  | .tuple [_, _, .bool _] => false
  | _ => true
structure Val (b : Addr) (H : Hp) (v : V) : Prop where
  ex : ∃ d, Vl b H v d ∧ SeqAt.shaped d = true ∧ okv d = true
theorem Val.k1 {b : Addr} {H H' : Hp} {v : V} (h : Val b H v) (k : Kp [b] H H') : Val b H' v := by
  obtain ⟨d, h1, h2⟩ := h.ex
  exact ⟨d, Vl.kp k d v h1, h2⟩
/-! promises -/
section
def sp_Links_outs (K : PySem.W.Frag) : Sp := fun vs H Q E => ∃ (p r l o : Addr) (s : Sd), vs = [.ref p] ∧ LinksAt K H p r l o s ∧ ∀ q H', H q = none → Kp [] H H' → H' q = some (.lst ((outN s.n s.O).map V.int)) → Q (.ref q) H'
end
end G
set_option Elab.async false
set_option linter.all false
set_option maxRecDepth 100000
set_option maxHeartbeats 4000000
/-! Texts of numbers, and of standings. -/
namespace G
open PySem PySem.Spec PyProof.Rows L2 TL
def numI (i : Int) : Str := Str.ofString (toString i)
def spS : Str := " "
def barS : Str := " | "
def joinI (l : List Int) : Str := Txt.join spS (l.map numI)
theorem tl_numI {i : Int} (h : 0 ≤ i) : tl (numI i) = numL i.toNat := by
  obtain ⟨n, rfl⟩ : ∃ n : Nat, i = (n : Int) := ⟨i.toNat, by omega⟩
  rw [Int.toNat_natCast]
  exact tl_num n
theorem tl_spS : tl spS = [32] := by decide +kernel
theorem tl_barS : tl barS = [32, 124, 32] := by decide +kernel
theorem numI_len {i : Int} (h : 0 ≤ i) (h2 : i < 1000000000) : (numI i).length ≤ 9 := by
  rw [len_tl, tl_numI h]
  exact numL_len (by decide) (by omega)
theorem numI_pos {i : Int} (h : 0 ≤ i) : 1 ≤ (numI i).length := by
  rw [len_tl, tl_numI h]
  exact List.length_pos_iff.mpr (numL_ne _)
theorem split_joinI {l : List Int} (hne : l ≠ []) (h : ∀ i ∈ l, 0 ≤ i) : Txt.split (joinI l) spS = l.map numI := by
  refine split_join (y := spS) (s := 32) (S := []) tl_spS (by decide +kernel) (by simpa using hne) fun p hp => ?_
  obtain ⟨i, hi, rfl⟩ := List.mem_map.mp hp
  rw [tl_numI (h i hi)]
  exact numL_free (by omega)
theorem joinL_len (S : List Nat) : ∀ ps : List (List Nat), (joinL S ps).length ≤ (ps.map List.length).sum + ps.length * S.length
  | [] => by simp [joinL]
  | [p] => by simp [joinL]
  | p :: q :: r => by
    have ih := joinL_len S (q :: r)
    show (p ++ (S ++ joinL S (q :: r))).length ≤ _
    simp only [List.length_append, List.map_cons, List.sum_cons, List.length_cons, Nat.add_mul, Nat.one_mul] at ih ⊢
    omega
theorem sum_le9 : ∀ {l : List Int}, (∀ i ∈ l, 0 ≤ i ∧ i < 1000000000) → ((l.map numI).map (·.length)).sum ≤ 9 * l.length
  | [], _ => by simp
  | i :: l, h => by
    have ih := sum_le9 (l := l) fun j hj => h j (List.mem_cons_of_mem _ hj)
    have h0 := h i List.mem_cons_self
    have := numI_len h0.1 h0.2
    simp only [List.map_cons, List.sum_cons, List.length_cons]
    omega
theorem joinI_len {l : List Int} (h : ∀ i ∈ l, 0 ≤ i ∧ i < 1000000000) : (joinI l).length ≤ 10 * l.length := by
  unfold joinI
  rw [len_tl, join_eq, tl_join]
  refine Nat.le_trans (joinL_len _ _) ?_
  have := sum_le9 h
  rw [tl_spS, List.map_map, List.length_map, List.length_map]
  have e : (List.map (List.length ∘ tl) (List.map numI l)).sum = ((l.map numI).map (·.length)).sum := by
    congr 1
  rw [e]
  show _ + l.length * 1 ≤ _
  omega
theorem join_cost {l : List Int} (h : ∀ i ∈ l, 0 ≤ i ∧ i < 1000000000) (hl : l.length ≤ 1000) : ((l.map numI).map (·.length)).sum + (l.map numI).length * spS.length ≤ 16777216 := by
  have := sum_le9 h
  have e : spS.length = 1 := by decide +kernel
  rw [e, List.length_map]
  omega
theorem intText_num {i : Int} (h : 0 ≤ i) (h2 : i < 1000000000) : intText? (numI i) = some i := by
  obtain ⟨n, rfl⟩ : ∃ n : Nat, i = (n : Int) := ⟨i.toNat, by omega⟩
  refine int_num ?_
  have := numL_len (n := n) (k := 9) (by decide) (by omega)
  omega
theorem zeroS : numI 0 = ("0" : Str) := by decide +kernel
theorem numL_head : ∀ n : Nat, 1 ≤ n → ∀ c r, numL n = c :: r → c ≠ 48 := by
  intro n
  induction n using Nat.strongRecOn with
  | _ n ih =>
    intro h c r e
    by_cases h10 : n < 10
    · rw [numL_lt h10] at e
      injection e with e1 e2
      omega
    · rw [numL_step (by omega)] at e
      cases e2 : numL (n / 10) with
      | nil => exact absurd e2 (numL_ne _)
      | cons d t =>
        rw [e2, List.cons_append] at e
        injection e with e3 e4
        have := ih (n / 10) (by omega) (by omega) d t e2
        omega
def digS : Str := "0123456789"
theorem digs_mem {c : Nat} (h : 48 ≤ c ∧ c ≤ 57) : c ∈ digS.cps.toList := by
  have e : digS.cps.toList = [48, 49, 50, 51, 52, 53, 54, 55, 56, 57] := by decide +kernel
  rw [e]
  have : c = 48 ∨ c = 49 ∨ c = 50 ∨ c = 51 ∨ c = 52 ∨ c = 53 ∨ c = 54 ∨ c = 55 ∨ c = 56 ∨ c = 57 := by omega
  simp only [List.mem_cons, List.not_mem_nil, or_false]
  exact this
theorem numI_digits {i : Int} (h : 0 ≤ i) {c : Nat} (hc : c ∈ (numI i).cps.toList) : c ∈ digS.cps.toList := by
  have e : (numI i).cps.toList = numL i.toNat := tl_numI h
  rw [e] at hc
  exact digs_mem (numL_digits _ _ hc)
/-! ### a text's parts -/
def GoodP (p : List Nat) : Prop := 124 ∉ p ∧ ∀ q, p ≠ q ++ [32]
theorem pre_bar {x y : Nat} (r : List Nat) (h : y ≠ 124) : pre [32, 124, 32] (x :: y :: r) = false := by
  cases hp : pre [32, 124, 32] (x :: y :: r) with
  | false => rfl
  | true =>
    have e : (x :: y :: r).take 3 = [32, 124, 32] := eq_of_beq hp
    rw [List.take_succ_cons, List.take_succ_cons] at e
    injection e with e1 e2
    injection e2 with e3 e4
    exact absurd e3 h
theorem good_free {p rest : List Nat} (g : GoodP p) : ∀ i, i < p.length → pre [32, 124, 32] ((p ++ rest).drop i) = false := by
  intro i hi
  have h1 : i < (p ++ rest).length := by rw [List.length_append]; omega
  have e1 : (p ++ rest).drop i = (p ++ rest)[i] :: (p ++ rest).drop (i + 1) := List.drop_eq_getElem_cons h1
  have e2 : (p ++ rest)[i] = p[i] := List.getElem_append_left hi
  rw [e1, e2]
  by_cases c : p[i] = 32
  · have lt : i + 1 < p.length := by
      apply Classical.byContradiction
      intro nlt
      have ei : i = p.length - 1 := by omega
      refine g.2 p.dropLast ?_
      have hne : p ≠ [] := fun z => by rw [z] at hi; simp at hi
      have := List.dropLast_concat_getLast hne
      rw [← this]
      congr 1
      · rw [List.dropLast_concat]
      · congr 1
        rw [List.getLast_eq_getElem]
        subst ei
        exact c
    have h2 : i + 1 < (p ++ rest).length := by rw [List.length_append]; omega
    have e3 : (p ++ rest).drop (i + 1) = (p ++ rest)[i + 1] :: (p ++ rest).drop (i + 2) := List.drop_eq_getElem_cons h2
    have e4 : (p ++ rest)[i + 1] = p[i + 1] := List.getElem_append_left lt
    rw [e3, e4]
    exact pre_bar _ fun z => g.1 (by rw [← z]; exact List.getElem_mem lt)
  · exact pre_of_head _ _ c
theorem split_bar {a b c : Str} (ga : GoodP (tl a)) (gb : GoodP (tl b)) (gc : GoodP (tl c)) : Txt.split (Txt.join barS [a, b, c]) barS = [a, b, c] := by
  refine map_tl_inj ?_
  rw [split_spl _ barS (by rw [tl_barS]; simp) (kind_ok (by decide +kernel)), join_eq, tl_join, tl_barS]
  show spl [32, 124, 32] 0 [] (tl a ++ ([32, 124, 32] ++ (tl b ++ ([32, 124, 32] ++ tl c)))) = [tl a, tl b, tl c]
  rw [spl_part (by simp) (good_free ga), spl_part (by simp) (good_free gb), spl_last (fun i hi => by
    have := good_free (rest := []) gc i hi
    rw [List.append_nil] at this
    exact this)]
  rfl
theorem joinL_mem {S : List Nat} {c : Nat} : ∀ {ps : List (List Nat)}, c ∈ joinL S ps → c ∈ S ∨ ∃ p ∈ ps, c ∈ p
  | [], h => by cases h
  | [p], h => .inr ⟨p, List.mem_singleton.mpr rfl, h⟩
  | p :: q :: r, h => by
    have h : c ∈ p ++ (S ++ joinL S (q :: r)) := h
    rcases List.mem_append.mp h with h | h
    · exact .inr ⟨p, List.mem_cons_self, h⟩
    rcases List.mem_append.mp h with h | h
    · exact .inl h
    rcases joinL_mem h with h | ⟨z, hz, h⟩
    · exact .inl h
    · exact .inr ⟨z, List.mem_cons_of_mem _ hz, h⟩
theorem joinL_last {S : List Nat} : ∀ {ps : List (List Nat)}, ps ≠ [] → (∀ p ∈ ps, p ≠ [] ∧ ∀ q, p ≠ q ++ [32]) → joinL S ps ≠ [] ∧ ∀ q, joinL S ps ≠ q ++ [32]
  | [], h, _ => absurd rfl h
  | [p], _, h => h p (List.mem_singleton.mpr rfl)
  | p :: q :: r, _, h => by
    obtain ⟨i1, i2⟩ := joinL_last (S := S) (ps := q :: r) (by simp) fun z hz => h z (List.mem_cons_of_mem _ hz)
    have hj : joinL S (p :: q :: r) = (p ++ S) ++ joinL S (q :: r) := (List.append_assoc ..).symm
    rw [hj]
    refine ⟨fun z => i1 (List.append_eq_nil_iff.mp z).2, fun t ht => ?_⟩
    have e := congrArg List.getLast? ht
    rw [List.getLast?_append, List.getLast?_concat, List.getLast?_eq_some_getLast i1, Option.some_or] at e
    have d := List.dropLast_concat_getLast i1
    have gl : (joinL S (q :: r)).getLast i1 = 32 := by injection e
    rw [gl] at d
    exact i2 _ d.symm
theorem numL_last (n : Nat) : ∀ q, numL n ≠ q ++ [32] := fun q e => by
  have := numL_digits n 32 (by rw [e]; simp)
  omega
theorem good_joinI {l : List Int} (hne : l ≠ []) (h : ∀ i ∈ l, 0 ≤ i) : GoodP (tl (joinI l)) := by
  unfold joinI
  rw [join_eq, tl_join, tl_spS]
  have hp : ∀ p ∈ (l.map numI).map tl, ∃ n, p = numL n := by
    intro p hp
    obtain ⟨z, hz, rfl⟩ := List.mem_map.mp hp
    obtain ⟨i, hi, rfl⟩ := List.mem_map.mp hz
    exact ⟨_, tl_numI (h i hi)⟩
  refine ⟨fun hm => ?_, (joinL_last (by simpa using hne) fun p hq => ?_).2⟩
  · rcases joinL_mem hm with z | ⟨p, hq, z⟩
    · simp at z
    · obtain ⟨n, rfl⟩ := hp p hq
      have := numL_digits n _ z
      omega
  · obtain ⟨n, rfl⟩ := hp p hq
    exact ⟨numL_ne n, numL_last n⟩
def noneS : Str := "none"
theorem good_none : GoodP (tl noneS) := by
  have e : tl noneS = [110, 111, 110, 101] := by decide +kernel
  rw [e]
  refine ⟨by decide, fun q h => ?_⟩
  have := congrArg List.getLast? h
  rw [List.getLast?_concat] at this
  simp at this
/-! ### the dump -/
def outsT (l : List Int) : Str := if l = [] then noneS else joinI l
def dumpS (s : Sd) : Str := Txt.join barS [joinI s.R, joinI (s.L.drop 1), outsT (outN s.n s.O)]
theorem joinI_ne_none {l : List Int} (hne : l ≠ []) (h : ∀ i ∈ l, 0 ≤ i) : ¬ joinI l = noneS := fun e => by
  have e2 := split_joinI hne h
  rw [e] at e2
  have d : Txt.split noneS spS = [noneS] := by
    refine map_tl_inj ?_
    rw [split_spl _ spS (by rw [tl_spS]; simp) (kind_ok (by decide +kernel))]
    decide +kernel
  rw [d] at e2
  match l, hne with
  | i :: r, _ =>
    rw [List.map_cons] at e2
    injection e2 with e3 e4
    have hi := h i List.mem_cons_self
    have t := congrArg tl e3
    rw [tl_numI hi] at t
    have m : (110 : Nat) ∈ numL i.toNat := by
      rw [← t]
      decide +kernel
    have := numL_digits _ _ m
    omega
theorem outN_bd {n : Nat} {O : List Bool} {i : Int} (h : i ∈ outN n O) : 1 ≤ i ∧ i ≤ n ∧ gB O i.toNat = true := by
  unfold outN at h
  obtain ⟨v, hv, rfl⟩ := List.mem_map.mp h
  obtain ⟨h1, h2⟩ := List.mem_filter.mp hv
  obtain ⟨u, hu, rfl⟩ := List.mem_map.mp h1
  have := List.mem_range.mp hu
  refine ⟨by omega, by omega, ?_⟩
  rw [Int.toNat_natCast]
  exact h2
end G
set_option Elab.async false
set_option linter.all false
set_option maxRecDepth 100000
set_option maxHeartbeats 4000000
/-! k07, k06: standings read from texts; what an operation changes. -/
namespace G
open PySem PySem.Spec PyProof.Rows L2
/-- a standing that can be read back: no left link of the head, the sentinels in -/
structure Snd (s : Sd) : Prop where
  l0 : ∃ t, s.L = 0 :: t
  o0 : gB s.O 0 = false
  o1 : gB s.O (s.n + 1) = false
theorem stepS_snd {s : Sd} (w : Wf s) (d : Snd s) {op : Int} (h : IsOp s.n op) : Snd (stepS s op) := by
  obtain ⟨t, e⟩ := d.l0
  obtain ⟨r1, r2⟩ := w.rb op.natAbs (by have := h.2; omega)
  have h1 := h.1
  have h2 := h.2
  refine ⟨?_, ?_, ?_⟩
  · obtain ⟨k, ek⟩ : ∃ k, (gI s.R op.natAbs).toNat = k + 1 := ⟨(gI s.R op.natAbs).toNat - 1, by omega⟩
    refine ⟨t.set k (if op < 0 then gI s.L op.natAbs else (op.natAbs : Int)), ?_⟩
    show s.L.set (gI s.R op.natAbs).toNat _ = _
    rw [ek]
    generalize (if op < 0 then gI s.L op.natAbs else (op.natAbs : Int)) = v
    rw [e]
    rfl
  · show gB (s.O.set op.natAbs _) 0 = false
    rw [gB_set (by rw [w.lO]; omega), if_neg (by omega)]
    exact d.o0
  · show gB (s.O.set op.natAbs _) (s.n + 1) = false
    rw [gB_set (by rw [w.lO]; omega), if_neg (by omega)]
    exact d.o1
theorem runS_snd {s : Sd} (w : Wf s) (d : Snd s) : ∀ {log : List Int}, Leg s log → Snd (runS s log) := by
  intro log
  induction log using snoc_ind with
  | h0 => exact fun _ => d
  | h1 l x ih =>
    intro h
    have h1 : Leg s l := by
      have := h.take l.length
      rwa [List.take_left' rfl] at this
    have h2 := h l.length x (by simp)
    rw [List.take_left' rfl] at h2
    rw [runS_snoc]
    exact stepS_snd (h1.wf w) (ih h1) h2.1
theorem wholeS_snd (n : Nat) : Snd (wholeS n) := by
  refine ⟨⟨_, rfl⟩, ?_, ?_⟩
  · exact gB_of (by show (List.replicate (n + 2) false)[0]? = _; rw [List.getElem?_replicate_of_lt (by omega)])
  · exact gB_of (by show (List.replicate (n + 2) false)[n + 1]? = _; rw [List.getElem?_replicate_of_lt (by omega)])
/-! ### the gaps of foreign writes -/
def forW (s : Sd) (x : Nat) : List Int :=
  (if gI s.L x ≠ (x : Int) - 1 ∧ gI s.R (gI s.L x).toNat = gI s.L x + 1 then [gI s.L x] else []) ++
  (if gI s.R x ≠ (x : Int) + 1 ∧ gI s.L (gI s.R x).toNat = gI s.R x - 1 then [gI s.R x - 1] else [])
theorem forW_len (s : Sd) (x : Nat) : (forW s x).length ≤ 2 := by
  unfold forW
  rw [List.length_append]
  split <;> split <;> simp
/-! ### changes -/
abbrev Tr := Nat × Str × Str
def trV (t : Tr) : List V := [.int (t.1 : Int), .str t.2.1, .str t.2.2]
def TupsAt (H : Hp) (xs : List V) (ts : List Tr) : Prop := xs.length = ts.length ∧ ∀ (i : Nat) (t : Tr), ts[i]? = some t → ∃ a, xs[i]? = some (.ref a) ∧ H a = some (.tup (trV t))
theorem TupsAt.kp {S : List Addr} {H H' : Hp} {xs : List V} {ts : List Tr} (h : TupsAt H xs ts) (k : Kp S H H') (hS : ∀ b ∈ S, ∀ ys, H b ≠ some (.tup ys)) : TupsAt H' xs ts := by
  refine ⟨h.1, fun i t e => ?_⟩
  obtain ⟨a, h1, h2⟩ := h.2 i t e
  exact ⟨a, h1, k _ _ (fun z => hS a z _ h2) h2⟩
theorem TupsAt.k0 {H H' : Hp} {xs : List V} {ts : List Tr} (h : TupsAt H xs ts) (k : Kp [] H H') : TupsAt H' xs ts := h.kp k (by simp)
theorem TupsAt.snoc {H : Hp} {xs : List V} {ts : List Tr} {a : Addr} {t : Tr} (h : TupsAt H xs ts) (ha : H a = some (.tup (trV t))) : TupsAt H (xs ++ [.ref a]) (ts ++ [t]) := by
  refine ⟨by rw [List.length_append, List.length_append, h.1] <;> rfl, fun i u e => ?_⟩
  by_cases c : i < ts.length
  · rw [List.getElem?_append_left c] at e
    obtain ⟨b, h1, h2⟩ := h.2 i u e
    exact ⟨b, by rw [List.getElem?_append_left (by rw [h.1]; exact c)]; exact h1, h2⟩
  · have hl := (List.getElem?_eq_some_iff.mp e).1
    rw [List.length_append] at hl
    have ei : i = ts.length := by simp at hl; omega
    subst ei
    rw [List.getElem?_append_right (Nat.le_refl _), Nat.sub_self] at e
    have eu : t = u := by simpa using e
    subst eu
    exact ⟨a, by rw [List.getElem?_append_right (by rw [h.1]; exact Nat.le_refl _), h.1, Nat.sub_self] <;> rfl, ha⟩
theorem TupsAt.nil {H : Hp} : TupsAt H [] [] := ⟨rfl, fun i t e => by simp at e⟩
theorem ne_w : ¬ ("joined" : Str) = "lost" ∧ ¬ ("left" : Str) = "lost" ∧ ¬ ("right" : Str) = "lost" ∧ ¬ ("left" : Str) = "joined" ∧ ¬ ("right" : Str) = "joined" ∧ ¬ ("lost" : Str) = "joined" ∧ ¬ ("right" : Str) = "left" ∧ ¬ ("lost" : Str) = "left" ∧ ¬ ("lost" : Str) = "right" ∧ ¬ ("joined" : Str) = "left" ∧ ¬ ("joined" : Str) = "right" ∧ ¬ ("left" : Str) = "right" := by
  decide +kernel
theorem step_gR {s : Sd} (w : Wf s) {op : Int} (h : IsOp s.n op) (g : Nat) : gI (stepS s op).R g = if g = lowN s op then (if op < 0 then (hiN s op : Int) + 1 else (op.natAbs : Int)) else gI s.R g := by
  obtain ⟨t1, t2, t3, t4, t5⟩ := touch_bd w h
  show gI (s.R.set _ _) g = _
  rw [gI_set (by rw [w.lR, t4]; have := h.2; omega), t4, Int.toNat_natCast, t5]
theorem step_gL {s : Sd} (w : Wf s) {op : Int} (h : IsOp s.n op) (g : Nat) : gI (stepS s op).L (g + 1) = if g = hiN s op then (if op < 0 then (lowN s op : Int) else (op.natAbs : Int)) else gI s.L (g + 1) := by
  obtain ⟨t1, t2, t3, t4, t5⟩ := touch_bd w h
  show gI (s.L.set _ _) (g + 1) = _
  rw [gI_set (by rw [w.lL, t5]; omega), t5, t4, show ((hiN s op : Int) + 1).toNat = hiN s op + 1 by omega]
  by_cases c : g = hiN s op
  · rw [if_pos c, if_pos (by omega)]
  · rw [if_neg c, if_neg (by omega)]
/-! ### promises -/
section
def Num9 (l : List Int) : Prop := ∀ i ∈ l, 0 ≤ i ∧ i < 1000000000
/-- a new list -/
def NewL (H : Hp) (xs : List V) (Q : VK) : Prop := ∀ a H', H a = none → Kp [] H H' → H' a = some (.lst xs) → Q (.ref a) H'
def Any (H : Hp) (v : V) (Q : VK) : Prop := ∀ H', Kp [] H H' → Q v H'
def sp_is_positive (K : PySem.W.Frag) : Sp := fun vs H Q E => ∃ i : Int, vs = [.str (numI i)] ∧ 1 ≤ i ∧ i < 1000000000 ∧ Any H (.bl true) Q
def sp__read_numbers (K : PySem.W.Frag) : Sp := fun vs H Q E => ∃ (l : List Int) (part : Int), vs = [.str (joinI l), .int part] ∧ l ≠ [] ∧ Num9 l ∧ l.length ≤ 100 ∧ NewL H (l.map V.int) Q
def sp__read_rights (K : PySem.W.Frag) : Sp := fun vs H Q E => ∃ (n : Nat) (l : List Int), vs = [.str (joinI l)] ∧ n ≤ 60 ∧ l.length = n + 1 ∧ (∀ v, v ≤ n → (v : Int) < gI l v ∧ gI l v ≤ (n : Int) + 1) ∧ NewL H (l.map V.int) Q
def sp__read_lefts (K : PySem.W.Frag) : Sp := fun vs H Q E => ∃ (n : Nat) (l : List Int), vs = [.str (joinI l), .int (n : Int)] ∧ n ≤ 60 ∧ l.length = n + 1 ∧ (∀ v, v ≤ n → 0 ≤ gI l v ∧ gI l v ≤ (v : Int)) ∧ NewL H (l.map V.int) Q
def sp__read_outs (K : PySem.W.Frag) : Sp := fun vs H Q E => ∃ (n : Nat) (O : List Bool), vs = [.str (outsT (outN n O)), .int (n : Int)] ∧ n ≤ 60 ∧ NewL H ((outN n O).map V.int) Q
def sp_Links_read (K : PySem.W.Frag) : Sp := fun vs H Q E => ∃ s : Sd, vs = [.str (dumpS s)] ∧ Wf s ∧ Snd s ∧ NewS K H s Q
def sp_foreign_writes (K : PySem.W.Frag) : Sp := fun vs H Q E => ∃ (p r l o : Addr) (s : Sd) (op : Int), vs = [.ref p, .int op] ∧ LinksAt K H p r l o s ∧ (OkOp s op → NewL H ((forW s op.natAbs).map V.int) Q) ∧ (¬ OkOp s op → OpE K s.n op 0 E H)
def legO (s : Sd) (v : Nat) : Int := if gB s.O v then (v : Int) else -(v : Int)
/-- the pairs of a gap and a state -/
def PrsAt (H : Hp) (xs : List V) (es : List (Nat × Str)) : Prop := xs.length = es.length ∧ ∀ (i : Nat) (e : Nat × Str), es[i]? = some e → ∃ a, xs[i]? = some (.ref a) ∧ H a = some (.tup [.int (e.1 : Int), .str e.2])
end
end G
set_option Elab.async false
set_option linter.all false
set_option maxRecDepth 100000
set_option maxHeartbeats 4000000
/-! Comprehensions over texts and pairs; cuts; all. -/
namespace G
open PySem PySem.Spec PyProof.Rows L2
section
variable {K : PySem.W.Frag} {σ : L2.St} {H : Hp} {Q : VK} {te : TE} {tt : TT} {g : TG} {vs : List Nat} {p : Addr} {xs ys : List V}
theorem cp_str {x : Str} (items : Nat → List V) (hz : ∀ i, i < x.cps.size → (items i).length < sizeLine) (h0 : items 0 = [])
    (hs : ∀ (i : Nat) (c : Nat) (H' : Hp) (S : V → Hp → Prop) (N : Hp → Prop), x.cps[i]? = some c → Kp [] H H' → (∀ y H4, Kp [] H' H4 → items (i + 1) = items i ++ [y] → S y H4) → (∀ H4, Kp [] H' H4 → items (i + 1) = items i → N H4) →
      g (.str ⟨#[c]⟩) (wipe σ vs) H' fun σ2 H2 => wipe σ2 vs = wipe σ vs ∧ tt σ2 H2 fun b H3 => if b = true then te σ2 H3 S else N H3)
    (hd : ∀ D H', H D = none → Kp [] H H' → H' D = some (.lst (items x.cps.size)) → Q (.ref D) H') : CompG (Its x) g tt te vs σ Q H :=
  cp_go (n := x.cps.size) items (fun _ => True) hz h0 (fun _ _ => trivial) (fun i H' hi _ => hi) (fun H' _ => Nat.le_refl _) (fun i v H' H'' S N hi k y a b => by
    obtain ⟨rfl, c, hc, rfl⟩ := y
    exact hs i c H'' S N hc k a b) hd
theorem cp_zip {a b : Addr} (h1 : SqL K H a xs) (h2 : SqL K H b ys) (hl : ys.length ≤ xs.length) (items : Nat → List V) (hz : ∀ i, i < ys.length → (items i).length < sizeLine) (h0 : items 0 = [])
    (hs : ∀ (i : Nat) (x y : V) (T : Addr) (H' : Hp) (S : V → Hp → Prop) (N : Hp → Prop), xs[i]? = some x → ys[i]? = some y → Kp [] H H' → H' T = none → (∀ z H4, Kp [] H' H4 → items (i + 1) = items i ++ [z] → S z H4) → (∀ H4, Kp [] H' H4 → items (i + 1) = items i → N H4) →
      g (.ref T) (wipe σ vs) (upd H' T (.tup [x, y])) fun σ2 H2 => wipe σ2 vs = wipe σ vs ∧ tt σ2 H2 fun b H3 => if b = true then te σ2 H3 S else N H3)
    (hd : ∀ D H', H D = none → Kp [] H H' → H' D = some (.lst (items ys.length)) → Q (.ref D) H') : CompG (Itz K a b) g tt te vs σ Q H :=
  cp_go (n := ys.length) items (fun H' => SqL K H' a xs ∧ SqL K H' b ys) hz h0 (fun _ k => ⟨k.sql (by simp) h1, k.sql (by simp) h2⟩)
    (fun i H' hi q => ⟨xs, ys, xs[i]'(by omega), ys[i], q.1, q.2, by simp [show i < xs.length by omega], by simp [hi]⟩) (fun H' q => ⟨xs, ys, q.1, q.2, .inr (Nat.le_refl _)⟩) (fun i v H' H'' S N hi k y e1 e2 => by
    obtain ⟨T, x, y, rfl, nT, rfl, hx, hy⟩ := y
    exact hs i x y T H' S N (hx xs (k.sql (by simp) h1)) (hy ys (k.sql (by simp) h2)) k nT e1 e2) hd
theorem w_slL {lo hi : Option Int} (h : SqL K H p xs) (g : ∀ q H', H q = none → Kp [] H H' → H' q = some (.lst (cutV xs lo hi)) → Q (.ref q) H') : rSlL K (.ref p) lo hi H Q := ⟨p, xs, rfl, h, nw g⟩
theorem cut_drop (xs : List V) (k : Nat) (h : k ≤ xs.length) : cutV xs (some (k : Int)) none = xs.drop k := by
  unfold cutV
  rw [HT.sIx_nat, HT.sIx_none, Nat.min_eq_left h]
  refine List.take_of_length_le ?_
  rw [List.length_drop] <;> omega
theorem cut_take (xs : List V) (k : Nat) (h : k ≤ xs.length) : cutV xs none (some (k : Int)) = xs.take k := by
  unfold cutV
  rw [HT.sIx_nat, HT.sIx_none, Nat.min_eq_left h, List.drop_zero, Nat.sub_zero]
theorem w_allT {n : Nat} (h : SqL K H p (List.replicate n (V.bl true))) (g : Q (.bl true) H) : rAll K [.ref p] H Q := ⟨p, List.replicate n true, rfl, by rw [List.map_replicate]; exact h, by
  have e : (List.replicate n true).all id = true := by
    rw [List.all_eq_true]
    intro x hx
    rw [(List.mem_replicate.mp hx).2] <;> rfl
  rw [e]
  exact g⟩
theorem w_asu {D : Ends} {k : Nat} {ts : TGs} (h : te σ H fun v H0 => gUnl K k ts v σ H0 D.nx) : tAsg te (gUnl K k ts) D σ H := h
theorem rep_snoc {α : Type} (n : Nat) (x : α) : List.replicate (n + 1) x = List.replicate n x ++ [x] := List.replicate_succ'
theorem map_snoc {l : List Int} {i : Nat} {x : Int} {f : Int → V} (h : l[i]? = some x) : (l.take (i + 1)).map f = (l.take i).map f ++ [f x] := by
  rw [List.take_succ, h, List.map_append] <;> rfl
end
/-! ### joins behind an if -/
section
variable {σ : L2.St} {H : Hp} {s1 s2 a b : TS} {t : TT} {D : Ends}
def SeqIf (t : TT) (a b s2 : TS) : TS := tSeq (tIfS t a b) s2
theorem w_seqI (g : SeqIf t a b s2 D σ H) : tSeq (tIfS t a b) s2 D σ H := g
theorem w_ifK (P : Hp → Prop) (h1 : ∀ N : L2.St → Hp → Prop, (∀ H', P H' → N σ H') → tIfS t a b { D with nx := N } σ H) (h2 : ∀ H', P H' → s2 D σ H') : SeqIf t a b s2 D σ H := h1 _ h2
theorem w_ifJ (P : L2.St → Hp → Prop) (h1 : ∀ N : L2.St → Hp → Prop, (∀ σ' H', P σ' H' → N σ' H') → tIfS t a b { D with nx := N } σ H) (h2 : ∀ σ' H', P σ' H' → s2 D σ' H') : SeqIf t a b s2 D σ H := h1 _ h2
end
end G
set_option Elab.async false
set_option linter.all false
set_option maxRecDepth 100000
set_option maxHeartbeats 4000000
/-! for over a tuple, a list, where an exception is handled. -/
set_option Elab.async false
set_option linter.all false
set_option maxRecDepth 100000
set_option maxHeartbeats 4000000
/-! xs[lo::k], `in` over data of any depth. -/
set_option Elab.async false
set_option linter.all false
set_option maxRecDepth 100000
set_option maxHeartbeats 1000000
/-! Words with a sign; f"{x:+d}". -/
set_option Elab.async false
set_option linter.all false
set_option maxRecDepth 100000
set_option maxHeartbeats 1000000
set_option Elab.async false
set_option linter.all false
set_option maxRecDepth 100000
set_option maxHeartbeats 1000000
/-! Words of logs, the text of a log, pieces of texts. -/
namespace G
open PySem PySem.Spec PyProof.Rows L2 TL NumText
def spC : Str := " "
theorem tl_spC : tl spC = [32] := by decide +kernel
def posL (cs : List Nat) : Bool := decide (cs ≠ [] ∧ cs.length ≤ 9 ∧ cs.head? ≠ some 48) && cs.all fun c => decide (48 ≤ c ∧ c ≤ 57)
def okW (w : Str) : Bool := match tl w with
  | [] => false
  | c :: cs => decide (c = 43 ∨ c = 45) && posL cs
def valW (w : Str) : Int := match tl w with
  | [] => 0
  | c :: cs => if c = 45 then -((digitsVal cs : Nat) : Int) else ((digitsVal cs : Nat) : Int)
/-! ### the numbers of a log -/
def wordsT (t : Str) : List Str := if t = "" then [] else Txt.split t spC
def badW (ws : List Str) : Option Nat := ws.findIdx? fun w => !okW w
/-! ### lengths -/
def sumL (ws : List Str) : Nat := (ws.map (·.length)).sum
theorem spl_sum : ∀ (l acc : List Nat), ((spl [32] 0 acc l).map List.length).sum ≤ acc.length + l.length ∧ (spl [32] 0 acc l).length ≤ l.length + 1 ∧ spl [32] 0 acc l ≠ []
  | [], acc => by
    rw [spl_nil]
    refine ⟨by simp, by simp, by simp⟩
  | c :: r, acc => by
    cases h : pre [32] (c :: r) with
    | true =>
      rw [spl_hit h]
      obtain ⟨i1, i2, i3⟩ := spl_sum r []
      show ((acc :: spl [32] 0 [] r).map List.length).sum ≤ _ ∧ (acc :: spl [32] 0 [] r).length ≤ _ ∧ acc :: spl [32] 0 [] r ≠ []
      refine ⟨?_, ?_, by simp⟩
      · simp only [List.map_cons, List.sum_cons, List.length_cons, List.length_nil] at i1 ⊢
        omega
      · simp only [List.length_cons] at i2 ⊢
        omega
    | false =>
      rw [spl_miss h]
      obtain ⟨i1, i2, i3⟩ := spl_sum r (acc ++ [c])
      refine ⟨?_, ?_, i3⟩
      · simp only [List.length_append, List.length_cons, List.length_nil] at i1 ⊢
        omega
      · simp only [List.length_cons] at i2 ⊢
        omega
theorem split_sum (t : Str) : sumL (Txt.split t spC) ≤ t.length ∧ (Txt.split t spC).length ≤ t.length + 1 ∧ Txt.split t spC ≠ [] := by
  have e := split_spl t spC (by rw [tl_spC]; simp) (kind_ok (by decide +kernel))
  rw [tl_spC] at e
  obtain ⟨h1, h2, h3⟩ := spl_sum (tl t) []
  rw [← e] at h1 h2 h3
  refine ⟨?_, ?_, fun z => h3 (by rw [z] <;> rfl)⟩
  · have : (List.map List.length ((Txt.split t spC).map tl)).sum = sumL (Txt.split t spC) := by
      unfold sumL
      rw [List.map_map]
      congr 1
    rw [this] at h1
    rw [len_tl]
    simpa using h1
  · rw [List.length_map] at h2
    rw [len_tl]
    exact h2
end G
set_option Elab.async false
set_option linter.all false
set_option maxRecDepth 100000
set_option maxHeartbeats 4000000
/-! Steps over texts: cuts, signs that are not in a text, insert, f"{x:+d}". -/
set_option Elab.async false
set_option linter.all false
set_option maxRecDepth 100000
set_option maxHeartbeats 4000000
/-! Two clauses under one name. -/
namespace G
open PySem PySem.Spec PyProof.Rows L2
/-- what stands of an error that has come down to its try -/
structure Down (Y : Cx) (pp : List (Addr × Obj)) (τ : L2.St) (G0 : Hp) (e : Addr) (kc : Value) (dd : Option Addr) (B : Heap) (u0 : Shared) (u : Shared) (g : Heap) : Prop where
  inv : Inv Y pp τ G0 u0
  keep : ∀ b o, u0.heap.get? b = some o → b ∉ frs Y.stack → B.get? b = some o
  slots : u0.heap.UpToSlots g
  fly : PySem.HandSPX.FlyingZ B (Y.env :: Y.outer) e (L2N.Zn kc dd) g
  nw : G0 e = none
  os : u.os = u0.os
  bare : AllBare u.gens
  nl : e ≠ Y.env.locals
  nf : e ∉ Y.fs
section
variable {Y : Cx} {y : Str} {k : Nat} {pp : List (Addr × Obj)} {τ : L2.St} {G0 : Hp} {e : Addr} {kc : Value} {dd : Option Addr} {B : Heap} {u0 u : Shared} {g : Heap} {D : Ends} {Wo : WX}
/-- what the clauses from here on do with it -/
def After (Y : Cx) (pp : List (Addr × Obj)) (D : Ends) (e : Addr) (hds : List ExceptHandler) (u : Shared) (g : Heap) : Prop :=
  wpAny (model Y.prog Y.w) Y.A (handleBy (.ref e) Y.env hds) (SP Y pp D) Y.xe { u with heap := g }
theorem Down.held (d0 : Down Y pp τ G0 e kc dd B u0 u g) : Inv Y pp τ G0 { u with heap := g } := Inv.landed d0.inv d0.keep d0.fly.1 d0.slots d0.os d0.bare
/-- no clause takes it: it goes on -/
theorem after_none (sk : Y.stack = Y.env :: Y.outer) (fr : Y.env.frame = some Y.env.locals) (tk : L2N.Takes Y Wo) (d0 : Down Y pp τ G0 e kc dd B u0 u g) (w : Wo kc dd τ G0) : After Y pp D e [] u g := by
  refine wpAny_handleBy_nil ?_
  obtain ⟨-, -, -, ob, fs, T, -, -, hob, -, hfs, h1, -⟩ := id d0.fly
  unfold PySem.passOn
  refine wpAny_bind (wpAny_field hob hfs h1 ?_)
  rw [if_neg (by simp : ¬ ((Value.ref T == Value.none) = true))]
  have out : wpAny (model Y.prog Y.w) Y.A (setFlight (.ref e) Y.env.frame) (fun _ v => wpAny (model Y.prog Y.w) Y.A (throw (.ref e) : Sem Flow) (SP Y pp D) Y.xe v) Y.xe { u with heap := g } := by
    rw [fr]
    exact HandSPX.setFlight_upZ d0.fly fun g2 hh2 up2 => wpAny_throw (tk _ _ ⟨e, B, u0, pp, τ, G0, kc, dd, rfl, d0.inv, d0.keep, d0.slots.trans up2, .inr (.inr (sk ▸ hh2)), d0.nw, d0.os, d0.bare, w⟩)
  first
    | exact wpAny_bind (wpAny_pure (wpAny_bind out))
    | exact wpAny_bind out
end
end G
set_option Elab.async false
set_option linter.all false
set_option maxRecDepth 100000
set_option maxHeartbeats 4000000
/-! == with data of another kind, len and str by an own method, len(range(..)). -/
set_option Elab.async false
set_option linter.all false
set_option maxRecDepth 100000
set_option maxHeartbeats 4000000
/-! Generators by a method, `in` by an own method, comprehensions over reversed lists. -/
set_option Elab.async false
set_option linter.all false
set_option maxRecDepth 100000
set_option maxHeartbeats 4000000
/-! a < b < c < d. -/
set_option Elab.async false
set_option linter.all false
set_option maxRecDepth 100000
set_option maxHeartbeats 4000000
/-! {elt for x in xs}, elt a whole number that leaves the heap as it is; sorted of it. -/
set_option Elab.async false
set_option linter.all false
set_option maxRecDepth 100000
set_option maxHeartbeats 4000000
/-! shared small facts: == of lists of numbers; reverse. -/
namespace G
open PySem PySem.Spec PyProof.Rows L2
section
variable {K : PySem.W.Frag}
theorem dpZ {H : Hp} : ∀ xs : List Int, DpAll K H (xs.map V.int) (xs.map PyData.int)
  | [] => .nil
  | x :: xs => .cons (.int x) (dpZ xs)
theorem layZ : ∀ xs : List Int, PyData.canLayAll0 (xs.map PyData.int) = true
  | [] => rfl
  | x :: xs => by
    show PyData.canLayAll0 (PyData.int x :: xs.map PyData.int) = true
    rw [PyData.canLayAll0, layZ xs] <;> rfl
theorem depZ : ∀ xs : List Int, PyData.depthAll (xs.map PyData.int) ≤ 1
  | [] => by simp [PyData.depthAll]
  | x :: xs => by
    have := depZ xs
    show PyData.depthAll (PyData.int x :: xs.map PyData.int) ≤ 1
    rw [PyData.depthAll]
    simp [PyData.depth]
    omega
theorem shZ (xs : List Int) : SeqAt.shaped (.list (xs.map PyData.int)) = true := by
  unfold SeqAt.shaped
  rw [PyData.canLay0, layZ, PyData.depth]
  have := depZ xs
  simp
  omega
theorem eqvZ : ∀ xs ys : List Int, PyData.eqvAll (xs.map PyData.int) (ys.map PyData.int) = decide (xs = ys)
  | [], [] => by simp [PyData.eqvAll]
  | [], y :: ys => by simp [PyData.eqvAll]
  | x :: xs, [] => by simp [PyData.eqvAll]
  | x :: xs, y :: ys => by
    show PyData.eqvAll (PyData.int x :: xs.map PyData.int) (PyData.int y :: ys.map PyData.int) = _
    rw [PyData.eqvAll, eqvZ xs ys, PyData.eqv]
    by_cases h : x = y <;> by_cases h2 : xs = ys <;> simp [h, h2]
theorem w_eqLZ {H : Hp} {Q : VK} {p q : Addr} {xs ys : List Int} (h1 : H p = some (.lst (xs.map V.int))) (h2 : H q = some (.lst (ys.map V.int))) (g : Q (.bl (decide (xs = ys))) H) : rEqA K (.ref p) (.ref q) H Q :=
  w_eqD (.lst (SqL.of h1) (dpZ xs)) (.lst (SqL.of h2) (dpZ ys)) (shZ xs) (shZ ys) (by
    rw [PyData.eqv, eqvZ]
    exact g)
end
end G
set_option Elab.async false
set_option linter.all false
set_option maxRecDepth 100000
set_option maxHeartbeats 4000000
/-! tables of sets laid anew, for the masks that a union meets. -/
namespace G
open PySem PySem.Spec PyProof.Rows L2
def MaskU (m : Nat) : Prop := m = 7 ∨ m = 15 ∨ m = 31 ∨ m = 63 ∨ m = 127 ∨ m = 255
def rnd (m : Nat) : Bool := ((List.range (m + 1)).all fun j => (List.range (m + 1)).any fun b => lcgN m b == j) && (lcgN m (m + 1) == 0)
theorem rnd_all {m : Nat} (h : MaskU m) : rnd m = true := by
  rcases h with e | e | e | e | e | e <;> subst e <;> decide +kernel
/-- i -> 5 i + 1 comes around to every place, from every place -/
theorem rnd_any {m i j : Nat} (h : MaskU m) (hi : i ≤ m) (hj : j ≤ m) : ∃ k, k ≤ m ∧ lcgI m i k = j := by
  have z := rnd_all h
  unfold rnd at z
  rw [Bool.and_eq_true, List.all_eq_true, beq_iff_eq] at z
  obtain ⟨z1, z2⟩ := z
  have at_ : ∀ j, j ≤ m → ∃ b, b ≤ m ∧ lcgN m b = j := fun j hj => by
    obtain ⟨b, hb, e⟩ := List.any_eq_true.mp (z1 j (List.mem_range.mpr (Nat.lt_succ_of_le hj)))
    exact ⟨b, Nat.le_of_lt_succ (List.mem_range.mp hb), beq_iff_eq.mp e⟩
  obtain ⟨a, ha, ea⟩ := at_ i hi
  obtain ⟨b, hb, eb⟩ := at_ j hj
  by_cases c : a ≤ b
  · refine ⟨b - a, by omega, ?_⟩
    rw [← ea, lcgN_add, show a + (b - a) = b by omega, eb]
  · -- once more around
    refine ⟨(m + 1 - a) + b, by omega, ?_⟩
    have more : ∀ k, lcgI m 0 k = lcgN m k := fun k => by
      have := lcgN_add m 0 k
      rw [Nat.zero_add] at this
      exact this
    have split : ∀ x k l, lcgI m x (k + l) = lcgI m (lcgI m x k) l := fun x k l => by
      induction l with
      | zero => rfl
      | succ l ih => show (lcgI m x (k + l) * 5 + 1) % (m + 1) = _; rw [ih]; rfl
    rw [split, ← ea, lcgN_add, show a + (m + 1 - a) = m + 1 by omega, z2, more, eb]
/-- a free place is found -/
theorem free_ok {m : Nat} (hm : MaskU m) (owner : Array (Option Nat)) (x : Int) {j : Nat} (hj : j ≤ m) (hf : oAt owner j = none) :
    ∃ j', SetTable.layClean.free m owner (SetTable.turns m) (SetTable.bits x % (m + 1)) (SetTable.bits x) = some j' ∧ j' ≤ m ∧ oAt owner j' = none := by
  obtain ⟨k, hk, ek⟩ := rnd_any hm (runI_le m (SetTable.bits x) 12) hj
  rw [← runI_tail (bits_lt x)] at ek
  have start : ∀ n, (nth m (runAt m (SetTable.bits x % (m + 1)) (SetTable.bits x)) (off m (SetTable.bits x % (m + 1)) (SetTable.bits x) n)).j = runI m (SetTable.bits x) n := fun n => by
    rw [nth_off, itL_run]
    rfl
  obtain ⟨K, k1, k2, k3⟩ := st_least (p := fun q => oAt owner (nth m (runAt m (SetTable.bits x % (m + 1)) (SetTable.bits x)) q).j = none) _ (show oAt owner (nth m (runAt m (SetTable.bits x % (m + 1)) (SetTable.bits x)) (off m (SetTable.bits x % (m + 1)) (SetTable.bits x) (12 + k))).j = none by rw [start, ek]; exact hf)
  have r0 := runI_le m (SetTable.bits x) 0
  have rb := runEnd_bd (m := m) (i := SetTable.bits x % (m + 1)) r0
  refine ⟨_, free_spec m owner (SetTable.turns m) (12 + k) _ _ K (by unfold SetTable.turns; omega) k1 (fun q hq => ?_) (by rw [show oAt owner _ = none from k2]; rfl), ?_, k2⟩
  · cases z : oAt owner (nth m (runAt m (SetTable.bits x % (m + 1)) (SetTable.bits x)) q).j with
    | none => exact absurd z (k3 q hq)
    | some _ => rfl
  · have := nth_in K (runAt m (SetTable.bits x % (m + 1)) (SetTable.bits x)) (show SetTable.bits x % (m + 1) + (SetTable.runEnd m (SetTable.bits x % (m + 1)) - SetTable.bits x % (m + 1)) ≤ m by omega)
    omega
/-- k numbers are placed, the i-th at f i -/
structure Reg (m k : Nat) (owner : Array (Option Nat)) : Prop where
  sz : owner.size = m + 1
  at_ : ∃ f : Nat → Nat, (∀ i, i < k → f i ≤ m ∧ oAt owner (f i) = some i) ∧ ∀ j, j ≤ m → oAt owner j ≠ none → ∃ i, i < k ∧ f i = j
theorem reg_fold {m : Nat} (hm : MaskU m) : ∀ (rest : List Int) (k : Nat) (owner : Array (Option Nat)), Reg m k owner → k + rest.length ≤ m → ∃ owner', rest.foldl (stepF m) (some (owner, k)) = some (owner', k + rest.length) ∧ Reg m (k + rest.length) owner'
  | [], k, owner, W, _ => ⟨owner, rfl, W⟩
  | x :: rest, k, owner, W, hl => by
    rw [List.length_cons] at hl ⊢
    obtain ⟨f, h1, h2⟩ := W.at_
    obtain ⟨j0, a1, a2⟩ := st_missing ((List.range k).map f) (m + 1) (by rw [List.length_map, List.length_range]; omega)
    have n0 : oAt owner j0 = none := Classical.byContradiction fun c => by
      obtain ⟨i, hi, e⟩ := h2 j0 (by omega) c
      exact a2 (List.mem_map.mpr ⟨i, List.mem_range.mpr hi, e⟩)
    obtain ⟨j, e, jm, nj⟩ := free_ok hm owner x (Nat.le_of_lt_succ a1) n0
    have js : j < owner.size := by rw [W.sz]; omega
    have self := oAt_set_self (owner := owner) (some k) js
    have W' : Reg m (k + 1) (owner.setIfInBounds j (some k)) := by
      refine ⟨by rw [Array.size_setIfInBounds]; exact W.sz, fun i => if i = k then j else f i, fun i hi => ?_, fun q hq hn => ?_⟩
      · dsimp only
        by_cases c : i = k
        · rw [if_pos c, c]
          exact ⟨jm, self⟩
        · rw [if_neg c]
          obtain ⟨b1, b2⟩ := h1 i (by omega)
          exact ⟨b1, by rw [oAt_set_ne _ (fun z => by rw [z, nj] at b2; cases b2)]; exact b2⟩
      · by_cases c : q = j
        · exact ⟨k, Nat.lt_succ_self k, by dsimp only; rw [if_pos rfl]; exact c.symm⟩
        · rw [oAt_set_ne _ c] at hn
          obtain ⟨i, hi, e⟩ := h2 q hq hn
          exact ⟨i, by omega, by dsimp only; rw [if_neg (by omega)]; exact e⟩
    obtain ⟨o', e1, e2⟩ := reg_fold hm rest (k + 1) _ W' (by omega)
    rw [show k + (rest.length + 1) = k + 1 + rest.length by omega]
    refine ⟨o', ?_, e2⟩
    rw [List.foldl_cons, stepF_some e]
    exact e1
/-- numbers laid on a clean table -/
theorem lay_ok {m : Nat} (hm : MaskU m) {hs : Array Int} (hn : hs.size ≤ m) : ∃ owner, SetTable.layClean m hs = some owner ∧ Ris ((liveOf m owner).map (·.1)) ∧ ((liveOf m owner).map (·.2)).Perm (List.range hs.size) := by
  have W0 : Reg m 0 (Array.replicate (m + 1) none) := ⟨by simp, fun _ => 0, fun i hi => absurd hi (Nat.not_lt_zero i), fun j hj hnn => absurd (oAt_init hj) hnn⟩
  obtain ⟨owner, e, W⟩ := reg_fold hm hs.toList 0 _ W0 (by rw [Array.length_toList]; omega)
  rw [Nat.zero_add, Array.length_toList] at W
  obtain ⟨f, h1, h2⟩ := W.at_
  have ris := ris_live (fun j => owner.getD j none) (List.range (m + 1)) (by
    unfold Ris
    first | exact List.pairwise_lt_range | exact List.pairwise_lt_range _)
  have r1 : Ris ((liveOf m owner).map (·.1)) := ris.1
  refine ⟨owner, by rw [layClean_eq, e] <;> rfl, r1, ?_⟩
  have nd : ((liveOf m owner).map (·.1)).Nodup := List.Pairwise.imp (fun h => Nat.ne_of_lt h) r1
  have a := nat_nodup_len ((liveOf m owner).map (·.1)) ((List.range hs.size).map f) nd fun x hx => by
    obtain ⟨⟨y, k⟩, hq, rfl⟩ := List.mem_map.mp hx
    obtain ⟨b1, b2⟩ := (mem_live W.sz).1 hq
    obtain ⟨i, hi, ei⟩ := h2 y b1 (by rw [b2]; exact fun z => nomatch z)
    exact List.mem_map.mpr ⟨i, List.mem_range.mpr hi, ei⟩
  have cov : ∀ k, k < hs.size → k ∈ (liveOf m owner).map (·.2) := fun k hk => List.mem_map.mpr ⟨(f k, k), (mem_live W.sz).2 (h1 k hk), rfl⟩
  have b := nat_nodup_len (List.range hs.size) ((liveOf m owner).map (·.2)) List.nodup_range fun k hk => cov k (List.mem_range.mp hk)
  rw [List.length_map, List.length_map, List.length_range] at a
  rw [List.length_map, List.length_range] at b
  exact perm_range hs.size _ (by rw [List.length_map]; omega) cov
/-- what a table is built of, taken in the order that the table wants -/
theorem pick_perm2 (es : Array (Int × Value)) (order : Array Nat) (h : order.toList.Perm (List.range es.size)) : (order.filterMap (es[·]?)).toList.Perm es.toList := by
  have e1 : (order.filterMap (es[·]?)).toList = order.toList.filterMap (es[·]?) := by first | exact Array.toList_filterMap .. | simp
  rw [e1]
  refine (h.filterMap _).trans ?_
  have : ∀ n, n ≤ es.size → (List.range n).filterMap (es[·]?) = es.toList.take n := by
    intro n
    induction n with
    | zero => intro _; rfl
    | succ n ih =>
      intro hn
      rw [List.range_succ, List.filterMap_append, ih (by omega), List.take_succ, Array.getElem?_toList]
      congr 1
  rw [this es.size (Nat.le_refl _), List.take_of_length_le (by rw [Array.length_toList]; exact Nat.le_refl _)]
end G
set_option Elab.async false
set_option linter.all false
set_option maxRecDepth 100000
set_option maxHeartbeats 4000000
/-! a set of whole numbers with all that its table is. -/
namespace G
open PySem PySem.Spec PyProof.Rows L2
structure SX (w : World) (h : Heap) (a : Addr) (es : Array (Int × Value)) (ep : Nat) (t : SetTable) : Prop where
  ob : ∃ o, h.get? a = some o ∧ o.ExactSet ∧ o.data = .set es ep t
  good : ∀ e ∈ es.toList, GoodE e
  nd : (es.toList.map keyOf).Nodup
  sz : es.size < scanBound
  fit : t.fits es.size = true
  ris : Ris t.place.toList
  led : w.params.followText "set-order" = true ∨ t.led = true
theorem SX.setR {w : World} {h : Heap} {a : Addr} {es : Array (Int × Value)} {ep : Nat} {t : SetTable} (R : SX w h a es ep t) {S : Int → Bool} (hS : ∀ k, S k = true ↔ k ∈ es.toList.map keyOf) : SetR w h a S es.size := by
  obtain ⟨o, ho, hx, hd⟩ := R.ob
  exact ⟨o, es, ep, t, ho, hx, hd, R.good, R.nd, hS, R.sz, R.fit, rfl, R.ris, R.led⟩
theorem sx_of {w : World} {h : Heap} {a : Addr} {S : Int → Bool} {n : Nat} (R : SetR w h a S n) : ∃ es ep t, SX w h a es ep t ∧ (∀ k, S k = true ↔ k ∈ es.toList.map keyOf) ∧ es.size = n := by
  obtain ⟨o, es, ep, t, ho, hx, hd, g, nd, hm, hb, hf, hn, hr, hl⟩ := R
  exact ⟨es, ep, t, ⟨⟨o, ho, hx, hd⟩, g, nd, hb, hf, hr, hl⟩, hm, hn⟩
theorem SX.at {w : World} {h h' : Heap} {a : Addr} {es : Array (Int × Value)} {ep : Nat} {t : SetTable} (R : SX w h a es ep t) (k : ∀ o, h.get? a = some o → h'.get? a = some o) : SX w h' a es ep t := by
  obtain ⟨o, ho, r⟩ := R.ob
  exact ⟨⟨o, k o ho, r⟩, R.good, R.nd, R.sz, R.fit, R.ris, R.led⟩
theorem fits_iff {t : SetTable} {n : Nat} : t.fits n = true ↔ t.place.size = n ∧ t.fill ≤ t.mask := by
  unfold SetTable.fits
  rw [Bool.and_eq_true, beq_iff_eq, decide_eq_true_eq]
theorem mask_u {n : Nat} (h : n < 255) : MaskU (SetTable.sizeAbove n - 1) ∧ n ≤ SetTable.sizeAbove n - 1 ∧ SetTable.sizeAbove n ≤ 256 := by
  have key : ((List.range 255).all fun n => ((SetTable.sizeAbove n - 1 == 7) || (SetTable.sizeAbove n - 1 == 15) || (SetTable.sizeAbove n - 1 == 31) || (SetTable.sizeAbove n - 1 == 63) || (SetTable.sizeAbove n - 1 == 127) || (SetTable.sizeAbove n - 1 == 255)) && decide (n ≤ SetTable.sizeAbove n - 1) && decide (SetTable.sizeAbove n ≤ 256)) = true := by decide +kernel
  have z := List.all_eq_true.mp key n (List.mem_range.mpr h)
  simp only [Bool.and_eq_true, Bool.or_eq_true, beq_iff_eq, decide_eq_true_eq] at z
  obtain ⟨⟨z1, z2⟩, z3⟩ := z
  refine ⟨?_, z2, z3⟩
  unfold MaskU
  omega
section
variable {P : Program} {w : World} {A : Around} {E : Value → Shared → Prop} {s : Shared} {a : Addr} {es : Array (Int × Value)} {ep : Nat} {t : SetTable}
theorem storeX (R : SX w s.heap a es ep t) {es' : Array (Int × Value)} {t' : SetTable} {Q : Unit → Shared → Prop} (g : ∀ e ∈ es'.toList, GoodE e) (nd : (es'.toList.map keyOf).Nodup) (sz : es'.size < scanBound) (fit : t'.fits es'.size = true) (ris : Ris t'.place.toList)
    (led : w.params.followText "set-order" = true ∨ t'.led = true) (h : ∀ h', Heap.SameBut a s.heap h' → SX w h' a es' (ep + 1) t' → Q () { s with heap := h' }) : wpAny (model P w) A (storeSet a es' t') Q E s := by
  obtain ⟨o, ho, hx, hd⟩ := R.ob
  refine wpAny_storeSet_of ho hd ?_ (fits_of_scanBound sz)
  exact h _ (Heap.SameBut.update ..) ⟨⟨_, store_at ho hd, ⟨hx.1, hx.2.1, hx.2.2⟩, rfl⟩, g, nd, sz, fit, ris, led⟩
theorem stateX (R : SX w s.heap a es ep t) {Q : (Array (Int × Value) × Nat × SetTable) → Shared → Prop} (h : Q (es, ep, t) s) : wpAny (model P w) A (setState a) Q E s := by
  obtain ⟨o, ho, hx, hd⟩ := R.ob
  exact wpAny_setState_of ho hd R.fit h
/-- entries laid on a clean table of this mask -/
theorem clean_at {es : Array (Int × Value)} (good : ∀ e ∈ es.toList, GoodE e) (nd : (es.toList.map keyOf).Nodup) {M : Nat} (hm : MaskU M) (hn : es.size ≤ M) :
    ∃ owner, SetTable.layClean M (es.map (·.1)) = some owner ∧ Ris ((liveOf M owner).map (·.1)) ∧ (((liveOf M owner).map (·.2)).toArray.filterMap (es[·]?)).toList.Perm es.toList ∧ (liveOf M owner).length = es.size := by
  obtain ⟨owner, e, r, p⟩ := lay_ok hm (hs := es.map (·.1)) (by rw [Array.size_map]; exact hn)
  rw [Array.size_map] at p
  refine ⟨owner, e, r, pick_perm2 es _ p, ?_⟩
  have := p.length_eq
  rw [List.length_map, List.length_range] at this
  exact this
theorem relayX (R : SX w s.heap a es ep t) {wanted : Nat} (hw : wanted < 255) (hn : es.size ≤ wanted) {Q : Unit → Shared → Prop}
    (h : ∀ h' es' t', Heap.SameBut a s.heap h' → SX w h' a es' (ep + 1) t' → es'.toList.Perm es.toList → MaskU t'.mask → wanted ≤ t'.mask → t'.fill = es.size → Q () { s with heap := h' }) : wpAny (model P w) A (setRelay a wanted) Q E s := by
  obtain ⟨m1, m2, m3⟩ := mask_u hw
  obtain ⟨owner, e, r, p, l⟩ := clean_at R.good R.nd m1 (by omega)
  have hr : t.relaid (es.map (·.1)) wanted = some (tabOf t (SetTable.sizeAbove wanted - 1) owner, ((liveOf (SetTable.sizeAbove wanted - 1) owner).map (·.2)).toArray) := by
    rw [relaid_eq, e] <;> rfl
  have hs : (((liveOf (SetTable.sizeAbove wanted - 1) owner).map (·.2)).toArray.filterMap (es[·]?)).size = es.size := by
    rw [← Array.length_toList, p.length_eq, Array.length_toList]
  rw [setRelay_eq]
  refine wpAny_bind (stateX R ?_)
  dsimp only
  refine wp_if_neg (by rw [sizeLine_eq]; omega) ?_
  try refine wpAny_bind (wpAny_pure ?_)
  rw [hr]
  dsimp only
  refine wpAny_bind ?_
  refine wp_if_neg (by rw [hs]; simp) ?_
  try refine wpAny_bind (wpAny_pure ?_)
  refine wpAny_pure ?_
  dsimp only
  refine storeX R (fun e he => R.good e (p.mem_iff.mp he)) ((p.map keyOf).nodup_iff.mpr R.nd) (by rw [hs]; exact R.sz) ?_ r R.led fun h' sb x => h h' _ _ sb x p m1 m2 (by show ((liveOf _ owner).map (·.1)).toArray.size + 0 = es.size; rw [List.size_toArray, List.length_map, l]; rfl)
  rw [fits_iff, hs]
  refine ⟨by show ((liveOf _ owner).map (·.1)).toArray.size = _; rw [List.size_toArray, List.length_map, l], ?_⟩
  show ((liveOf _ owner).map (·.1)).toArray.size + 0 ≤ SetTable.sizeAbove wanted - 1
  rw [List.size_toArray, List.length_map, l]
  omega
theorem roomX (R : SX w s.heap a es ep t) (hm : MaskU t.mask) {more : Nat} (hw : es.size + more < 127) {Q : Unit → Shared → Prop}
    (h : ∀ h' es' ep' t', Heap.SameBut a s.heap h' → SX w h' a es' ep' t' → es'.toList.Perm es.toList → MaskU t'.mask → more ≤ t'.mask → (t.fill = 0 → t'.fill = 0) → Q () { s with heap := h' }) : wpAny (model P w) A (setRoomFor a more) Q E s := by
  unfold setRoomFor
  refine wpAny_bind (stateX R ?_)
  dsimp only
  have fp := (fits_iff.mp R.fit).1
  unfold SetTable.roomFor
  by_cases c : (t.fill + more) * 5 ≥ t.mask * 3
  · rw [if_pos c, fp]
    dsimp only
    exact relayX R (by omega) (by omega) fun h' es' t' sb x p m1 m2 m3 => h h' es' _ t' sb x p m1 (by omega) fun z => (by unfold SetTable.fill at z m3 ⊢; omega)
  · rw [if_neg c]
    dsimp only
    exact wpAny_pure (h s.heap es ep t (Heap.SameBut.refl _ _) R (List.Perm.refl _) hm (by omega) id)
end
end G
set_option Elab.async false
set_option linter.all false
set_option maxRecDepth 100000
set_option maxHeartbeats 4000000
/-! a set of whole numbers walked. -/
namespace G
open PySem PySem.Spec PyProof.Rows L2
section
variable {P : Program} {w : World} {A : Around} {E : Value → Shared → Prop} {s : Shared} {a b : Addr} {es eb : Array (Int × Value)} {ep epb : Nat} {t tb : SetTable}
theorem walk0 (O : SX w s.heap b eb epb tb) {Q : Array (Int × Value) → Shared → Prop} (h : ∀ (ys : Array (Int × Value)) d, ys.toList.Perm eb.toList → Q ys { s with drawn := d }) : wpAny (model P w) A (setWalk b) Q E s := by
  unfold setWalk
  refine wpAny_bind (stateX O ?_)
  dsimp only
  refine wpAny_bind (wpAny_byText ?_)
  by_cases c : w.params.followText "set-order" = true
  · refine wp_if_pos c ?_
    refine wpAny_bind (wpAny_askSetting (wpAny_pure ?_))
    exact h _ s.drawn (pick_perm _ _)
  · refine wp_if_neg c ?_
    have led := O.led.resolve_left c
    show wpAny _ _ (if (!tb.plain && decide (eb.size > 1)) = true then _ else _) _ _ _
    by_cases c2 : (!tb.plain && decide (eb.size > 1)) = true
    · refine wp_if_pos c2 ?_
      refine wpAny_bind (drawOrder_at _ _ _ _ (by rw [Array.length_toList]; exact Nat.le_refl _) fun ys d hp => ?_)
      exact wpAny_pure (h ys.toArray d (by simpa using hp))
    · refine wp_if_neg c2 ?_
      refine wpAny_bind ?_
      show wpAny _ _ (if (!tb.led && decide (eb.size > 1)) = true then _ else _) _ _ _
      refine wp_if_neg (by rw [led]; simp) ?_
      exact wpAny_pure (wpAny_pure (h eb s.drawn (List.Perm.refl _)))
theorem quiet0 (O : SX w s.heap b eb epb tb) (R : SX w s.heap a es ep t) {Q : Bool → Shared → Prop} (h : Q true s) : wpAny (model P w) A (setsQuiet [b, a]) Q E s := by
  unfold setsQuiet
  refine wpAny_bind (wpAny_forIn_list _ (fun l r s' => r = (none, ()) ∧ s' = s ∧ ∀ x ∈ l, x = b ∨ x = a) _ (fun x rest r s' ⟨hr, hs, hx⟩ => ?_) (fun r s' ⟨hr, hs, _⟩ => ?_) _ _ ⟨rfl, rfl, by simp⟩)
  · subst hr hs
    have X0 : ∃ es0 ep0 t0, SX w s'.heap x es0 ep0 t0 := by
      rcases hx x List.mem_cons_self with e | e
      · rw [e]; exact ⟨_, _, _, O⟩
      · rw [e]; exact ⟨_, _, _, R⟩
    obtain ⟨es0, ep0, t0, X0⟩ := X0
    obtain ⟨o, ho, _, hd⟩ := X0.ob
    refine wpAny_bind (wpAny_setEntries_of ho hd X0.fit ?_)
    rw [← Array.forIn_toList]
    refine wpAny_bind (wpAny_forIn_list _ (fun l r s2 => r = (none, ()) ∧ s2 = s' ∧ ∀ e ∈ l, GoodE e) _ (fun e rest2 r s2 ⟨hr, hs, hg⟩ => ?_) (fun r s2 ⟨hr, hs, _⟩ => ?_) _ _ ⟨rfl, rfl, X0.good⟩)
    · subst hr hs
      obtain ⟨k, tk, ek, _⟩ := hg e List.mem_cons_self
      obtain ⟨e1, e2⟩ := e
      dsimp only at ek
      subst ek
      exact wpAny_pure ⟨rfl, rfl, fun q hq => hg q (List.mem_cons_of_mem _ hq)⟩
    · subst hr hs
      exact wpAny_pure ⟨rfl, rfl, fun y hy => hx y (List.mem_cons_of_mem _ hy)⟩
  · subst hr hs
    exact wpAny_pure h
theorem walkX (O : SX w s.heap b eb epb tb) (R : SX w s.heap a es ep t) (ne : a ≠ b) {Q : Array (Int × Value) → Shared → Prop} (h : ∀ (ys : Array (Int × Value)) h' ep' t' d, ys.toList.Perm eb.toList → Heap.SameBut a s.heap h' → SX w h' a es ep' t' → Q ys { s with heap := h', drawn := d }) :
    wpAny (model P w) A (setWalkUnseen b [a] (some a)) Q E s := by
  unfold setWalkUnseen
  refine wpAny_bind (stateX O ?_)
  dsimp only
  refine wpAny_bind (wpAny_byText ?_)
  by_cases c : (w.params.followText "set-order" || (tb.led && tb.plain) || decide (eb.size ≤ 1)) = true
  · refine wp_if_pos c ?_
    exact walk0 O fun ys d p => h ys s.heap ep t d p (Heap.SameBut.refl _ _) R
  · refine wp_if_neg c ?_
    have c' : w.params.followText "set-order" = false := by
      cases z : w.params.followText "set-order" with
      | false => rfl
      | true => rw [z] at c; exact absurd rfl c
    have lo : tb.led = true := O.led.resolve_left (by rw [c']; exact Bool.false_ne_true)
    refine wpAny_bind (quiet0 O R ?_)
    refine wp_if_neg (by simp) ?_
    refine wpAny_bind (wpAny_rule ?_)
    refine wpAny_bind (stateX R ?_)
    dsimp only
    split
    · refine wpAny_bind (storeX R R.good R.nd R.sz R.fit R.ris (by
        rcases R.led with z | z
        · exact .inl z
        · exact .inr (by rw [z, lo]; rfl)) fun h' sb X => ?_)
      exact wpAny_pure (h eb h' _ _ s.drawn (List.Perm.refl _) sb X)
    · exact wpAny_pure (h eb s.heap ep t s.drawn (List.Perm.refl _) (Heap.SameBut.refl _ _) R)
end
end G
set_option Elab.async false
set_option linter.all false
set_option maxRecDepth 100000
set_option maxHeartbeats 4000000
/-! a set merged into another. -/
namespace G
open PySem PySem.Spec PyProof.Rows L2
section
variable {P : Program} {w : World} {A : Around} {E : Value → Shared → Prop} {s : Shared} {a b : Addr} {es eb : Array (Int × Value)} {ep epb : Nat} {t tb : SetTable}
theorem mergeX {each : Sem Unit} (hE : ∀ (s1 : Shared) (Q1 : Unit → Shared → Prop), SX w s1.heap b eb epb tb → Q1 () s1 → wpAny (model P w) A each Q1 E s1) (R : SX w s.heap a es ep t) (hm : MaskU t.mask) (O : SX w s.heap b eb epb tb) (ne : a ≠ b) (room : es.size + eb.size < 127) {Q : Unit → Shared → Prop}
    (h : ∀ h' es' ep' t' d, Heap.SameBut a s.heap h' → SX w h' a es' ep' t' → (∀ k, k ∈ es'.toList.map keyOf ↔ k ∈ es.toList.map keyOf ∨ k ∈ eb.toList.map keyOf) → es'.size ≤ es.size + eb.size → (t.fill = 0 → MaskU t'.mask) → Q () { s with heap := h', drawn := d }) :
    wpAny (model P w) A (setMerge a b each) Q E s := by
  unfold setMerge
  refine wp_if_neg (by simpa using ne) ?_
  refine wpAny_bind (stateX O ?_)
  dsimp only
  by_cases c0 : eb.isEmpty = true
  · refine wp_if_pos c0 ?_
    have e0 : eb.toList = [] := by simpa using c0
    refine wpAny_pure (h s.heap es ep t s.drawn (Heap.SameBut.refl _ _) R (fun k => by rw [e0]; simp) (Nat.le_add_right _ _) fun _ => hm)
  refine wp_if_neg c0 ?_
  refine wpAny_bind (roomX R hm room fun h1 es1 ep1 t1 sb1 R1 p1 m1 m2 m3 => ?_)
  have O1 : SX w h1 b eb epb tb := O.at fun o e => (sb1.2 b ne.symm).trans e
  refine wpAny_bind (stateX R1 ?_)
  dsimp only
  have s1 : es1.size = es.size := by rw [← Array.length_toList, p1.length_eq, Array.length_toList]
  have k1 : ∀ k, k ∈ es1.toList.map keyOf ↔ k ∈ es.toList.map keyOf := fun k => (p1.map keyOf).mem_iff
  have f1 := (fits_iff.mp R1.fit).1
  have empty : t1.fill = 0 → ∀ k, k ∉ es.toList.map keyOf := fun z k hk => by
    have z0 : es.size = 0 := by
      unfold SetTable.fill at z
      omega
    have : es.toList = [] := List.eq_nil_of_length_eq_zero (by rw [Array.length_toList]; exact z0)
    rw [this] at hk
    cases hk
  cases rd : t1.road tb with
  | slotForSlot =>
    have z : t1.fill = 0 ∧ t1.mask = tb.mask := by
      unfold SetTable.road at rd
      split at rd
      · cases rd
      · rename_i c1
        split at rd
        · rename_i c2
          refine ⟨by simpa using c1, ?_⟩
          rw [Bool.and_eq_true, beq_iff_eq] at c2
          exact c2.1
        · cases rd
    dsimp only
    refine storeX R1 O.good O.nd O.sz O.fit O.ris ?_ fun h' sb X => h h' _ _ _ s.drawn (sb1.trans sb) X (fun k => ⟨.inr, fun y => y.elim (fun y => absurd y (empty z.1 k)) id⟩) (Nat.le_add_left _ _) fun _ => (by show MaskU tb.mask; rw [← z.2]; exact m1)
    rcases R1.led with y | y
    · exact .inl y
    · rcases O.led with x | x
      · exact .inl x
      · exact .inr (by show (t1.led && tb.led) = true; rw [x, y]; rfl)
  | clean =>
    have z : t1.fill = 0 := by
      unfold SetTable.road at rd
      split at rd
      · cases rd
      · rename_i c1
        simpa using c1
    obtain ⟨owner, e, r, p, l⟩ := clean_at O.good O.nd m1 m2
    have hs : (((liveOf t1.mask owner).map (·.2)).toArray.filterMap (eb[·]?)).size = eb.size := by
      rw [← Array.length_toList, p.length_eq, Array.length_toList]
    have el : SetTable.laid t1.mask t1.finger t1.moves (t1.led && tb.led) (t1.plain && tb.plain) (eb.map (·.1)) = some ({ mask := t1.mask, place := ((liveOf t1.mask owner).map (·.1)).toArray, dummies := #[], finger := t1.finger, led := t1.led && tb.led, moves := t1.moves, plain := t1.plain && tb.plain }, ((liveOf t1.mask owner).map (·.2)).toArray) := by
      show (SetTable.layClean t1.mask (eb.map (·.1))).bind _ = _
      rw [e] <;> rfl
    dsimp only
    rw [el]
    refine wpAny_bind ?_
    show wpAny _ _ (if ((((liveOf t1.mask owner).map (·.2)).toArray.filterMap (eb[·]?)).size != eb.size) = true then _ else _) _ _ _
    refine wp_if_neg (by rw [hs]; simp) ?_
    refine wpAny_pure ?_
    dsimp only
    refine storeX R1 (fun x hx => O.good x (p.mem_iff.mp hx)) ((p.map keyOf).nodup_iff.mpr O.nd) (by rw [hs]; exact O.sz) ?_ r ?_ fun h' sb X => h h' _ _ _ s.drawn (sb1.trans sb) X (fun k => ?_) (by rw [hs]; exact Nat.le_add_left _ _) fun _ => m1
    · rw [fits_iff, hs]
      refine ⟨by show ((liveOf _ owner).map (·.1)).toArray.size = _; rw [List.size_toArray, List.length_map, l], ?_⟩
      show ((liveOf _ owner).map (·.1)).toArray.size + 0 ≤ t1.mask
      rw [List.size_toArray, List.length_map, l]
      exact m2
    · rcases R1.led with y | y
      · exact .inl y
      · rcases O.led with x | x
        · exact .inl x
        · exact .inr (by show (t1.led && tb.led) = true; rw [x, y]; rfl)
    · rw [(p.map keyOf).mem_iff]
      exact ⟨.inr, fun y => y.elim (fun y => absurd y (empty z k)) id⟩
  | oneByOne =>
    have nz : t.fill ≠ 0 := fun z => by
      have z1 := m3 z
      unfold SetTable.road at rd
      rw [if_neg (by simp [z1])] at rd
      split at rd <;> cases rd
    dsimp only
    refine wpAny_bind (walkX O1 R1 ne fun ys h2 ep2 t2 d2 py sb2 R2 => ?_)
    have O2 : SX w h2 b eb epb tb := O1.at fun o e => (sb2.2 b ne.symm).trans e
    have sy : ys.size = eb.size := by rw [← Array.length_toList, py.length_eq, Array.length_toList]
    rw [← Array.forIn_toList]
    refine wpAny_bind (wpAny_forIn_list _ (fun l r s' => ∃ h3 S n, s' = { s with heap := h3, drawn := d2 } ∧ Heap.SameBut a s.heap h3 ∧ SX w h3 b eb epb tb ∧ SetR w h3 a S n ∧ n + l.length ≤ es.size + eb.size ∧ (∀ e ∈ l, GoodE e) ∧ ∀ k, (S k = true ∨ k ∈ l.map keyOf) ↔ (k ∈ es.toList.map keyOf ∨ k ∈ eb.toList.map keyOf)) _ (fun x rest r s' hI => ?_) (fun r s' hI => ?_) _ _ ?_)
    · obtain ⟨h3, S, n, rfl, sb, OX, RX, hn, hg, hk⟩ := hI
      obtain ⟨k0, tk, ek, eh⟩ := hg x List.mem_cons_self
      obtain ⟨x1, x2⟩ := x
      dsimp only at ek eh
      subst ek eh
      rw [List.length_cons] at hn
      refine wpAny_bind (wpAny_holding (setR_add_hashed (k := k0) RX (by unfold scanBound; omega) fun h4 sb4 R4 => ?_))
      have OX4 : SX w h4 b eb epb tb := OX.at fun o e => (sb4.2 b ne.symm).trans e
      refine wpAny_bind (hE _ _ OX4 ?_)
      refine wpAny_bind (stateX OX4 ?_)
      dsimp only
      refine wp_if_neg (by simp) ?_
      refine wpAny_pure ⟨h4, _, _, rfl, sb.trans sb4, OX4, R4, by split <;> omega, fun e he => hg e (List.mem_cons_of_mem _ he), fun k => ?_⟩
      rw [← hk k, List.map_cons, List.mem_cons, Bool.or_eq_true, decide_eq_true_eq]
      show (S k = true ∨ k = k0) ∨ k ∈ rest.map keyOf ↔ S k = true ∨ k = k0 ∨ k ∈ rest.map keyOf
      exact or_assoc
    · obtain ⟨h3, S, n, rfl, sb, OX, RX, hn, hg, hk⟩ := hI
      obtain ⟨es', ep', t', X, hS, sz⟩ := sx_of RX
      refine wpAny_pure (h h3 es' ep' t' d2 sb X (fun k => ?_) (by rw [sz]; exact hn) fun z => absurd z nz)
      rw [← hk k, ← hS k]
      simp
    · refine ⟨h2, _, es1.size, rfl, sb1.trans sb2, O2, R2.setR (S := fun k => decide (k ∈ es1.toList.map keyOf)) (fun k => decide_eq_true_iff), by rw [Array.length_toList, sy, s1]; exact Nat.le_refl _, fun e he => O.good e (py.mem_iff.mp he), fun k => ?_⟩
      rw [decide_eq_true_iff, k1 k, (py.map keyOf).mem_iff]
end
end G
set_option Elab.async false
set_option linter.all false
set_option maxRecDepth 100000
set_option maxHeartbeats 4000000
/-! a | b of sets of whole numbers. -/
namespace G
open PySem PySem.Spec PyProof.Rows L2
theorem entry_or_set : entryFor table "set.__or__" = some Builtin.«frozenset.__or__» :=
  entryFor_alias (id' := "frozenset.__or__") (by kernel_rfl) rfl (by decide +kernel) (by kernel_rfl)
section
variable {P : Program} {w : World} {A : Around} {E : Value → Shared → Prop} {s : Shared} {a b : Addr} {ea eb : Array (Int × Value)} {epa epb : Nat} {ta tb : SetTable}
theorem tyX {h : Heap} {es : Array (Int × Value)} {ep : Nat} {t : SetTable} (R : SX w h a es ep t) {g d tk os} : (⟨h, g, d, tk, os⟩ : Shared).TypeIs (.ref a) "set" := by
  obtain ⟨o, ho, hx, _⟩ := R.ob
  exact ⟨o, ho, hx.1⟩
theorem anySet {es : Array (Int × Value)} {ep : Nat} {t : SetTable} (R : SX w s.heap a es ep t) {Q : Bool → Shared → Prop} (h : Q true s) : wpAny (model P w) A (Builtin.Frozenset.isAnySet (.ref a)) Q E s := by
  have hT : s.TypeIs (.ref a) "set" := tyX R
  unfold Builtin.Frozenset.isAnySet
  show wpAny _ _ (isInstance (.ref a) (.type "set") >>= fun _ => _) _ _ _
  refine wpAny_bind (wpAny_isInstance (b := true) hT sub_set_self ?_)
  exact wpAny_pure h
/-- copyOf -/
theorem copyX (R : SX w s.heap a ea epa ta) (room : ea.size < 127) {Q : Value → Shared → Prop}
    (h : ∀ h' p es' ep' t' d, (∀ c o, s.heap.get? c = some o → h'.get? c = some o) → p = s.heap.objs.size → SX w h' p es' ep' t' → MaskU t'.mask → (∀ k, k ∈ es'.toList.map keyOf ↔ k ∈ ea.toList.map keyOf) → es'.size ≤ ea.size → Q (.ref p) { s with heap := h', drawn := d }) :
    wpAny (model P w) A (Builtin.Frozenset.copyOf a) Q E s := by
  have hT : s.TypeIs (.ref a) "set" := tyX R
  unfold Builtin.Frozenset.copyOf Builtin.Frozenset.baseOf
  refine wpAny_bind (wpAny_bind (wpAny_isInstance (b := true) hT sub_set_self (wpAny_pure ?_)))
  show wpAny _ _ (newSet (.type "set") >>= fun _ => _) _ _ _
  refine wpAny_bind (PpSet.newSet_ok ?_)
  have kp : ∀ c o, s.heap.get? c = some o → (s.heap.push { cls := .type "set", dict := none, data := .set #[] 0 (.fresh 0 0 (!w.params.followText "set-order")) }).get? c = some o := fun c o e => Heap.get?_push_of_some _ e
  obtain ⟨o, ho, _⟩ := R.ob
  have lt := Heap.lt_size ho
  obtain ⟨ob, hx, hd⟩ : ∃ ob, (s.heap.push { cls := .type "set", dict := none, data := .set #[] 0 (.fresh 0 0 (!w.params.followText "set-order")) }).get? s.heap.objs.size = some ob ∧ ob.ExactSet ∧ ob.data = .set #[] 0 (.fresh 0 0 (!w.params.followText "set-order")) := ⟨_, Heap.get?_push_size _ rfl, ⟨rfl, rfl, rfl⟩, rfl⟩
  have N : SX w (s.heap.push { cls := .type "set", dict := none, data := .set #[] 0 (.fresh 0 0 (!w.params.followText "set-order")) }) s.heap.objs.size #[] 0 (.fresh 0 0 (!w.params.followText "set-order")) := by
    refine ⟨⟨ob, hx, hd⟩, fun e he => (by simp at he), by simp, by decide, rfl, List.Pairwise.nil, ?_⟩
    show _ ∨ (!w.params.followText "set-order") = true
    cases w.params.followText "set-order"
    · exact .inr rfl
    · exact .inl rfl
  generalize s.heap.push { cls := .type "set", dict := none, data := .set #[] 0 (.fresh 0 0 (!w.params.followText "set-order")) } = h0 at kp N
  refine wpAny_bind (m := Builtin.Frozenset.addrOf _) (wpAny_pure ?_)
  refine wpAny_bind (mergeX (fun s1 Q1 _ q => wpAny_pure q) N (.inl rfl) (R.at fun o e => kp _ _ e) (Nat.ne_of_gt lt) (by simpa using room) fun h' es' ep' t' d sb X hk hs hm => ?_)
  refine wpAny_pure (h h' _ es' ep' t' d (fun c o e => ?_) rfl X (hm rfl) (fun k => by rw [hk k]; simp) (by simpa using hs))
  exact (sb.2 c (Nat.ne_of_lt (Heap.lt_size e))).trans (kp c o e)
theorem or_sets (Ra : SX w s.heap a ea epa ta) (Rb : SX w s.heap b eb epb tb) (ne : a ≠ b) (room : ea.size + eb.size < 127) {Q : Value → Shared → Prop}
    (h : ∀ h' p es' ep' t' d, (∀ c o, s.heap.get? c = some o → h'.get? c = some o) → p = s.heap.objs.size → SX w h' p es' ep' t' → (∀ k, k ∈ es'.toList.map keyOf ↔ k ∈ ea.toList.map keyOf ∨ k ∈ eb.toList.map keyOf) → es'.size ≤ ea.size + eb.size → Q (.ref p) { s with heap := h', drawn := d }) :
    wpAny (model P w) A (binaryOp .BitOr (.ref a) (.ref b)) Q E s := by
  have hTa : s.TypeIs (.ref a) "set" := tyX Ra
  have hTb : s.TypeIs (.ref b) "set" := tyX Rb
  refine wpAny_binaryOp_same hTa hTb PySem.F.fills_set_or PySem.F.slot_set_or (wpAny_call_entry PySem.F.slot_set_or hTa entry_or_set ?_ (PySem.F.args_set_or_2 _ _))
  show wpAny _ _ (Builtin.Frozenset.slot1 "__or__" ⟨[.ref a, .ref b], []⟩ >>= fun _ => _) _ _ _
  refine wpAny_bind (m := Builtin.Frozenset.slot1 "__or__" _) (wpAny_of_eq (a := (.ref a, .ref b)) (by rfl) ?_)
  dsimp only
  rw [if_neg Bool.false_ne_true]
  dsimp only
  refine wpAny_bind ?_
  show wpAny _ _ (Builtin.Frozenset.isAnySet (.ref a) >>= fun _ => _) _ _ _
  refine wpAny_bind (anySet Ra ?_)
  refine anySet Rb ?_
  refine wp_if_neg (by simp) ?_
  refine wpAny_bind (m := Builtin.Frozenset.addrOf _) (wpAny_pure ?_)
  refine wpAny_bind ?_
  show wpAny _ _ (Builtin.Frozenset.copyOf a >>= fun _ => _) _ _ _
  refine wpAny_bind (copyX Ra (by omega) fun h1 p es1 ep1 t1 d1 k1 ep X1 m1 hk1 hs1 => ?_)
  have Rb1 : SX w h1 b eb epb tb := Rb.at fun o e => k1 b o e
  obtain ⟨ob, hob, _⟩ := Rb.ob
  have pb : p ≠ b := by rw [ep]; exact Nat.ne_of_gt (Heap.lt_size hob)
  dsimp only
  refine wp_if_pos (by simpa using ne.symm) ?_
  refine wpAny_bind (m := Builtin.Frozenset.addrOf _) (wpAny_pure ?_)
  refine wpAny_bind (wpAny_holding ?_)
  unfold Builtin.Frozenset.updateFrom
  refine wpAny_bind (anySet Rb1 ?_)
  refine wp_if_pos rfl ?_
  refine wpAny_bind (m := Builtin.Frozenset.addrOf _) (wpAny_pure ?_)
  unfold Builtin.Frozenset.merge
  obtain ⟨o1, ho1, _, hd1⟩ := Rb1.ob
  refine wpAny_bind (wpAny_setEpoch_of ho1 hd1 Rb1.fit ?_)
  refine mergeX (fun s1 Q1 O q => ?_) X1 m1 Rb1 pb (by omega) fun h2 es2 ep2 t2 d2 sb2 X2 hk2 hs2 _ => ?_
  · obtain ⟨o2, ho2, _, hd2⟩ := O.ob
    unfold Builtin.Frozenset.unchanged
    refine wpAny_bind (wpAny_setEpoch_of ho2 hd2 O.fit ?_)
    refine wp_if_neg (by simp) ?_
    exact wpAny_pure q
  · refine wpAny_pure (wpAny_pure ⟨_, rfl, (fun z => nomatch z), h h2 p es2 ep2 t2 d2 (fun c o e => ?_) ep X2 (fun k => by rw [hk2 k, hk1 k]) (by omega)⟩)
    exact (sb2.2 c (by rw [ep]; exact Nat.ne_of_lt (Heap.lt_size e))).trans (k1 c o e)
end
end G
set_option Elab.async false
set_option linter.all false
set_option maxRecDepth 100000
set_option maxHeartbeats 4000000
/-! set(xs) of a list of whole numbers; what a def sees of it, of a | b. -/
namespace G
open PySem PySem.Spec PyProof.Rows L2
section
variable {P : Program} {w : World} {A : Around} {E : Value → Shared → Prop} {s : Shared}
/-- a new set, empty -/
abbrev newS (w : World) : Obj := { cls := .type "set", dict := none, data := .set #[] 0 (.fresh 0 0 (!w.params.followText "set-order")) }
/-- set(x), by what __init__ does with the new set -/
theorem call_set1 {x : Value} {Q : Value → Shared → Prop}
    (hi : wpAny (model P w) A.in1.in1 (Builtin.«set.__init__» ⟨[.ref s.heap.objs.size, x], []⟩) (fun fin s' => fin = .done (.ret .none) ∧ Q (.ref s.heap.objs.size) s') E { s with heap := s.heap.push (newS w) }) :
    wpAny (model P w) A (call (.type "set") [x]) Q E s := by
  obtain ⟨c, tl, hmro⟩ := F.called_set.mro
  have hmade := F.called_set.made
  have hsub := F.called_set.sub
  refine wpAny_call (codeAny_of_tree ?_)
  show wpAny _ _ (callAny (.type "set") _) _ _ _
  refine wpAny_pure ⟨Code.quiet_builtin _ (by decide +kernel), codeAny_builtin F.entry_type_call ?_⟩
  rw [Around.under_plain (weight_type_call_type "set" [x] []) rfl]
  have h1 := F.called_set.notType
  have h2 := F.called_set.canCreate
  have hct := F.typeCall_set_1 x
  repeat (any_goals (first | assumption | wp_step))
  refine codeAny_mono (code_set_led1 x (E := E) (Q₁ := fun obj s₁ => obj = .ref s.heap.objs.size ∧ s₁ = { s with heap := s.heap.push (newS w) }) ⟨rfl, rfl⟩) fun r s₁ hr => ?_
  cases r with
  | error e => exact hr
  | ok fl =>
    cases fl with
    | ret obj =>
      obtain ⟨rfl, rfl⟩ := hr
      have hT : Shared.TypeIs { s with heap := s.heap.push (newS w) } (.ref s.heap.objs.size) "set" := ⟨_, Heap.get?_push_size _ rfl, rfl⟩
      have hli := F.called_set.init.lookup
      have hbi := F.called_set.init.bind (.ref s.heap.objs.size)
      repeat (any_goals (first | assumption | wp_step))
      refine codeAny_mono (codeAny_call_builtin (R := wants (fun r s₂ => r = .none ∧ Q (.ref s.heap.objs.size) s₂) E) F.called_set.init.plain F.entry_set_init (check_set_init_1 hT ?_)) fun r₂ s₂ hr₂ => ?_
      · exact wpAny_mono hi (fun fin s' ⟨e, q⟩ => by subst e; exact ⟨rfl, q⟩) fun _ _ z => z
      · cases r₂ with
        | error e => exact hr₂
        | ok fl₂ =>
          cases fl₂ with
          | ret r =>
            obtain ⟨rfl, q⟩ := hr₂
            repeat (any_goals (first | assumption | wp_step))
          | _ => exact hr₂.elim
    | _ => exact hr.elim
/-- __init__ of a new set with a list of whole numbers -/
theorem init_list {l S : Addr} {items : Array Value} {ns : List Int} (hh : A.handled = none) (hS : s.heap.get? S = some (newS w)) (hl : s.heap.IsList l items) (hit : IntsAre items.toList ns) (hb : ns.length + 1 < scanBound) {R : Shared → Prop}
    (h : ∀ (h' : Heap) (tk c : Nat), SetR w h' S (fun j => decide (j ∈ ns)) c → c ≤ ns.length → (∀ b o, b ≠ S → s.heap.get? b = some o → h'.get? b = some o) → R { s with heap := h', toks := tk }) :
    wpAny (model P w) A (Builtin.«set.__init__» ⟨[.ref S, .ref l], []⟩) (fun fin s' => fin = .done (.ret .none) ∧ R s') E s := by
  have hisz : items.size = ns.length := by
    have q := IntsAre.length hit
    rw [Array.length_toList] at q
    exact q
  have hT : s.TypeIs (.ref S) "set" := ⟨_, hS, rfl⟩
  obtain ⟨ol, hol, hcl, nl, hdl⟩ := hl
  have hl : s.heap.IsList l items := ⟨ol, hol, hcl, nl, hdl⟩
  have hsls := F.sub_list_set
  have hslf := F.sub_list_frozenset
  have hne : (Value.type "list" == Value.type "dict") = false := by decide
  have hTl : s.TypeIs (.ref l) "list" := ⟨_, hol, hcl⟩
  unfold Builtin.«set.__init__» noKeywords Builtin.Frozenset.updateFrom
  generalize hPI : pyIter = PI
  wp_walk
  subst hPI
  refine wpAny_pyIter_list hl ?_
  refine wpAny_bind (wpAny_runValue ?_)
  have lS : S < s.heap.objs.size := Heap.lt_size hS
  have ll : l < s.heap.objs.size := Heap.lt_size hol
  have Sl : S ≠ l := fun z => by
    rw [z, hol] at hS
    have e : ol = newS w := Option.some.inj hS
    rw [e] at hcl
    exact absurd hcl (by show ¬ (Value.type "set" = Value.type "list"); decide)
  have hSf : S ∉ [s.heap.objs.size, l] := by
    simp only [List.mem_cons, List.not_mem_nil, or_false, not_or]
    exact ⟨Nat.ne_of_lt lS, Sl⟩
  have hval : ∀ (i : Nat) (v : Value), items[i]? = some v → ∃ k t, ns[i]? = some k ∧ v = .int k t := fun i v hv => by
    have hi : i < ns.length := by rw [← hisz]; exact (Array.getElem?_eq_some_iff.mp hv).1
    obtain ⟨t, e⟩ := PyProof.Rows.IntsAre.int_at hit i v (by rw [Array.getElem?_toList]; exact hv)
    refine ⟨ns[i], t, List.getElem?_eq_getElem hi, ?_⟩
    rw [e, List.getD_eq_getElem?_getD, List.getElem?_eq_getElem hi] <;> rfl
  refine set_update_ints ((Walks.list (by simpa using hh) _ l (Nat.ne_of_lt ll) items).toS) S hSf ns hisz hb hval (items.size - 0) 0 _ (by omega) (Nat.zero_le _) ⟨⟨_, Heap.get?_push_size _ rfl, rfl, rfl⟩, (hl.push _)⟩ ⟨0, Nat.le_refl 0, setR_new_at (Heap.get?_push_of_some _ hS)⟩ fun s' c hm hc hR => ?_
  obtain ⟨h', g2, d', tk', os'⟩ := s'
  have eg : g2 = s.gens := hm.gens
  have ed : d' = s.drawn := hm.drawn
  have eo : os' = s.os := hm.os
  subst eg ed eo
  show wpAny _ _ _ _ _ _
  refine wpAny_pure (wpAny_pure ⟨rfl, h h' tk' c hR (by rw [← hisz]; exact hc) fun b o hb e => ?_⟩)
  have lb : b < s.heap.objs.size := Heap.lt_size e
  exact hm.heap b o (by simp only [List.mem_cons, List.not_mem_nil, or_false, not_or]; exact ⟨hb, Nat.ne_of_lt lb⟩) (Heap.get?_push_of_some _ e)
end
theorem nodup_le : ∀ (l L : List Int), l.Nodup → (∀ x ∈ l, x ∈ L) → l.length ≤ L.length
  | [], _, _, _ => Nat.zero_le _
  | x :: l, L, h, hs => by
    obtain ⟨h1, h2⟩ := List.nodup_cons.mp h
    have hx := hs x List.mem_cons_self
    have ih := nodup_le l (L.erase x) h2 fun y hy => (List.mem_erase_of_ne (fun e => h1 (by rw [← e]; exact hy))).mpr (hs y (List.mem_cons_of_mem _ hy))
    rw [List.length_erase_of_mem hx] at ih
    have := List.length_pos_of_mem hx
    rw [List.length_cons]
    omega
/-! ### what a def sees -/
section
variable {X : Cx}
def rSetOfL (w : World) (K : PySem.W.Frag) : List V → Hp → VK → Prop := fun xs H Q => ∃ (l : Addr) (ns : List Int), xs = [.ref l] ∧ SqL K H l (ns.map V.int) ∧ ns.length ≤ 1000 ∧ ∀ S c, H S = none → c ≤ ns.length → Q (.ref S) (upd H S (SetO w S (fun j => decide (j ∈ ns)) c))
theorem cr_setOfL (hc : X.calm = true) : CallR X (.type "set") (rSetOfL X.w X.K) := by
  intro pins s σ H xs us Q I r h
  obtain ⟨l, ns, rfl, hs, hl, q⟩ := h
  rw [Vals.ref1 r]
  obtain ⟨its, rv, pl, hz⟩ := I.list hs
  have hi : IntsAre its.toArray.toList ns := by simpa using ints_of_vals rv
  obtain ⟨o, n, ho, hcl, _, hd⟩ := pl
  refine call_set1 (init_list (l := l) (items := its.toArray) (ns := ns) (by simpa using I.ok.hd hc) (Heap.get?_push_size _ rfl) ⟨o, Heap.get?_push_of_some _ ho, hcl, n, hd⟩ hi (by unfold scanBound; omega) fun h' tk c R1 hcn k => ?_)
  refine ⟨.ref _, upd H s.heap.objs.size (SetO X.w s.heap.objs.size (fun j => decide (j ∈ ns)) c), I.laid (t' := tk) (fun b u e => k b u (Nat.ne_of_lt (Heap.lt_size e)) (Heap.get?_push_of_some _ e)) (Nat.le_refl _) (setO_new R1), rfl, q _ c (I.hok.fresh (Nat.le_refl _)) hcn⟩
def rOrS (w : World) : R2 := fun x y H Q => ∃ (a b : Addr) (S T : Int → Bool) (n m : Nat), x = .ref a ∧ y = .ref b ∧ a ≠ b ∧ H a = some (SetO w a S n) ∧ H b = some (SetO w b T m) ∧ n + m < 127 ∧ ∀ p c, H p = none → (∀ L : List Int, (∀ k, (S k || T k) = true → k ∈ L) → c ≤ L.length) → Q (.ref p) (upd H p (SetO w p (fun j => S j || T j) c))
theorem op_orS : OpR X (binaryOp .BitOr) (rOrS X.w) := by
  intro pins s σ H x y v u Q I rx ry h
  obtain ⟨a, b, S, T, n, m, rfl, rfl, ne, ha, hb, room, q⟩ := h
  cases rx
  cases ry
  obtain ⟨ea, epa, ta, Xa, Sa, na⟩ := sx_of (setO_get I ha)
  obtain ⟨eb, epb, tb, Xb, Sb, nb⟩ := sx_of (setO_get I hb)
  refine or_sets Xa Xb ne (by omega) fun h' p es ep t d k epp R hk hs => ?_
  subst epp
  have R' : SetR X.w h' s.heap.objs.size (fun j => S j || T j) es.size := R.setR fun j => by rw [Bool.or_eq_true, Sa j, Sb j, hk j]
  have J : Inv X pins σ (upd H s.heap.objs.size (SetO X.w s.heap.objs.size (fun j => S j || T j) es.size)) { s with heap := h', drawn := d } := by
    exact I.call (ch := []) (Un.laid k (Nat.le_refl _) (I.hok.fresh (Nat.le_refl _))) (I.hok.laid k (Nat.le_refl _) (setO_new R')) I.bare (fun _ z => nomatch z)
  refine ⟨.ref _, _, J, rfl, q _ es.size (I.hok.fresh (Nat.le_refl _)) fun L hL => ?_⟩
  have := nodup_le _ L R.nd fun x hx => hL x (by rw [Bool.or_eq_true, Sa x, Sb x]; exact (hk x).mp hx)
  rw [List.length_map, Array.length_toList] at this
  exact this
end
end G
set_option Elab.async false
set_option linter.all false
set_option maxRecDepth 100000
set_option maxHeartbeats 1000000
namespace G
open PySem PySem.Spec PyProof.Rows L2
/-! f(e, .., k = v): a def with keyword-only parameters, called with keywords -/
structure CalK (P : Program) (w : World) (K : PySem.W.Frag) (mg : Str → Option Value) (base : Heap) (k : Nat) (x : Str) (ps : List Str) (n : Nat) (ks : List Str) (sp : Sp) : Prop where
  ex : ∃ (f : Addr) (fd : FuncData) (g : List Value → List Value → List Value), FnOk P w K mg base (L2N.CX P w) k f fd ps sp ∧ mg x = some (.ref f) ∧ PySem.W.keepIn K (.ref f) = true ∧ KBn K fd ps n ks g (fun vs zs => vs ++ zs)
def tClK (n m : Nat) (sp : Sp) (E : L2.St → XK) (t tk : TA) : TE := fun σ H Q => tCallN n m sp (fun vs zs => vs ++ zs) (E σ) t tk σ H Q
section
variable {X : Cx} {j k n : Nat} {x : Str} {ps ks : List Str} {sp : Sp} {E : L2.St → XK} {p pos : Pos} {e : Expr} {es : List Expr} {kws : List Keyword} {t tk : TA}
theorem run_fnK {pins : List (Addr × Obj)} {σ : L2.St} {H : Hp} {s : Shared} {Q : VK} {f : Addr} {fd : FuncData} {us ws : List Value} {vs zs : List V} {E : XK} {g : List Value → List Value → List Value} {gV : List V → List V → List V} (F : FnOk X.prog X.w X.K X.mg X.base (L2N.CX X.prog X.w) k f fd ps sp) (hr : Room k X.A) (hb : KBn X.K fd ps n ks g gV) (hx : PassesAt (L2N.CX X.prog X.w) X σ E)
    (I : Inv X pins σ H s) (r : Vals vs us) (rz : Vals zs ws) (l1 : vs.length = n) (l2 : zs.length = ks.length) (h : sp (gV vs zs) H Q E) : wpAny (model X.prog X.w) X.A (call (.ref f) us (ks.zip ws)) (EP X pins σ Q) X.xe s := by
  refine wpAny_call (codeAny_mono (F.run X.A X.stack s H ⟨us, ks.zip ws⟩ (g us ws) (gV vs zs) Q E hr I.env0 (hb.to s us ws I.kIn (r.length.symm.trans l1) (rz.length.symm.trans l2)) (hb.rel r rz) h) fun y s' hq => ?_)
  cases y with
  | error er => exact hx pins H s er s' I hq
  | ok fl =>
    cases fl with
    | ret u => exact I.after hq
    | next => exact False.elim hq
    | brk => exact False.elim hq
    | cont => exact False.elim hq
theorem pe_clK (c : CalK X.prog X.w X.K X.mg X.base k x ps n ks sp) (hr : Room j X.A) (hk : k ≤ j) (hx : PAt X E) (ha : PA X (e :: es) t) (hkw : PK X kws tk) (hg : Gl X x := by rfl)
    (hall : (backToKw pos (keywordEach kws X.env)).all (·.1.isSome) = true := by rfl) (hks : (backToKw pos (keywordEach kws X.env)).filterMap (·.1) = ks := by rfl)
    (hdb : (x == ("__debug__" : Str)) = false := by decide) (he : starEach (e :: es) X.env = (false, eval e X.env) :: starEach es X.env := by rfl)
    (hpl : ((backTo pos (starEach (e :: es) X.env)).any (·.1) || (backToKw pos (keywordEach kws X.env)).any (·.1.isNone)) = false := by rfl) : PE X (.Call (.Name x p) (e :: es) kws pos) (tClK n ks.length sp E t tk) := by
  obtain ⟨f, fd, g, F, hm, kp, hb⟩ := c.ex
  refine ⟨fun pins s σ H Q I h => ?_⟩
  refine wpAny_Call_Name_kw (ld_glob I hg hm (PySem.W.callWith_KW (h₀ := X.base) I.ok.mod.kin kp hall (thn (ha.run pos pins s σ H _ I h) fun us sa ⟨vs, Ha, Ia, ra, qa⟩ => thn (hkw.run pos pins sa σ Ha _ Ia qa) fun ws sb ⟨zs, Hb, Ib, rz, l1, l2, qb⟩ => ⟨Ib.kIn, ?_⟩) hpl he) hdb)
  rw [hks]
  exact run_fnK F (hr.mono hk) hb (hx σ) Ib ra rz l1 l2 qb
theorem w_clK {σ : L2.St} {H : Hp} {Q : VK} (h : t σ H fun vs H1 => tk σ H1 fun zs H2 => vs.length = n ∧ zs.length = m ∧ sp (vs ++ zs) H2 Q (E σ)) : tClK n m sp E t tk σ H Q := h
end
section
variable {K : PySem.W.Frag} {x qual : Str} {params : Arguments} {body : List Stmt} {scope : Scope} {kws : List (Str × V)} {f : Addr} {fd : FuncData} {ps : List Str}
theorem kbn_all (F : FunD K x qual params body scope [] kws f fd) (n : Nat) (ks : List Str) (hk : kws ≠ [])
    (h : ∀ (D : Addr) (doc pm : Value) (an : Option Addr) (cdv ct : Value) (us ws : List Value), us.length = n → ws.length = ks.length → bindArgs (PySem.W.fnOf x qual params body scope .none (.ref D) doc pm an cdv ct) ⟨us, ks.zip ws⟩ = pure (ps.zip (us ++ ws))) :
    ∃ g : List Value → List Value → List Value, KBn K fd ps n ks g (fun vs zs => vs ++ zs) := by
  obtain ⟨mv, hb⟩ := F.kbinds0 n ks [] (fun us _ ws => us ++ ws) hk (fun q hq => by cases hq) (fun r1 _ r3 => r1.append r3) fun D doc pm an cdv ct us mv ws l1 _ l3 => by
    exact h D doc pm an cdv ct us ws l1 l3
  exact ⟨_, hb⟩
end
end G
set_option Elab.async false
set_option linter.all false
set_option maxRecDepth 100000
set_option maxHeartbeats 2000000
/-! comprehensions while an exception is handled -/
set_option Elab.async false
set_option linter.all false
set_option maxRecDepth 100000
set_option maxHeartbeats 2000000
/-! a list comprehension while an exception is handled -/
set_option Elab.async false
set_option linter.all false
set_option maxRecDepth 100000
set_option maxHeartbeats 2000000
/-! methods called, ranges walked while an exception is handled -/
set_option Elab.async false
set_option linter.all false
set_option maxRecDepth 100000
set_option maxHeartbeats 4000000
/-! One clause that gives the error no name. -/
namespace G
open PySem PySem.Spec PyProof.Rows L2
/-- an except clause of the text without a name: the class it names, what its suite does -/
structure Cls0 (Y : Cx) (hd : ExceptHandler) (kl : Value) (su : Addr → Value → Option Addr → TS) : Prop where
  ex : ∃ (nm : Str) (p1 p2 : Pos) (st : Stmt) (sts : List Stmt), hd = .ExceptHandler (some (.Name nm p1)) none (st :: sts) p2 ∧ Names Y nm kl ∧
    ∀ (e : Addr) (ob : Obj) (kc : Value) (dd : Option Addr) (pp : List (Addr × Obj)), L2N.Zn kc dd ob → (∃ fs, ob.data = .fields fs) → PSs (Y.suite e ((e, ob) :: pp)) (st :: sts) (su e kc dd)
section
variable {Y : Cx} {k : Nat} {pp : List (Addr × Obj)} {τ : L2.St} {G0 : Hp} {e : Addr} {kc : Value} {dd : Option Addr} {B : Heap} {u0 u : Shared} {g : Heap} {D : Ends} {Wo : WX}
theorem after_bare {hd : ExceptHandler} {hds : List ExceptHandler} {kl : Value} {su : Addr → Value → Option Addr → TS} (c : Cls0 Y hd kl su)
    (rest : ∀ g2, Down Y pp τ G0 e kc dd B u0 u g2 → Wo kc dd τ G0 → After Y pp D e hds u g2) (d0 : Down Y pp τ G0 e kc dd B u0 u g) (w : wOnly Y.K kl su Wo D kc dd τ G0) : After Y pp D e (hd :: hds) u g := by
  obtain ⟨nm, p1, p2, st, sts, rfl, hn, hs⟩ := c.ex
  obtain ⟨hit, m1, yes, no⟩ := w
  obtain ⟨ob, fs, hob, hz, hfs⟩ := d0.fly.there
  have J := d0.held
  have here : Inv (Y.suite e ((e, ob) :: (Y.pn ++ pp))) [] τ G0 { u with heap := g } := J.suite hob hfs d0.nw d0.nl d0.nf
  have told := PySem.W.exm_one (M := model Y.prog Y.w) J.kIn (fun A Q E s keep q => wpAny_typeOf_ref (keep _ _ hob) (by rw [hz.1]; exact q) : PySem.W.Looks (model Y.prog Y.w) g (typeOf (.ref e)) kc) m1
  have name_ : ∀ {Q : Value → Shared → Prop} {E : Value → Shared → Prop}, Q kl { u with heap := g } → wpAny (model Y.prog Y.w) (Y.A.mark (some (.ref e))) (eval (.Name nm p1) Y.env) Q E { u with heap := g } := fun {Q E} q => by
    rcases hn with ⟨hg, hb, m | ⟨m, v, nn⟩⟩
    · exact ld_glob (X := Y.suite e ((e, ob) :: (Y.pn ++ pp))) here hg m q hb
    · exact ld_blt (X := Y.suite e ((e, ob) :: (Y.pn ++ pp))) here hg m v q nn hb
  refine wpAny_handleBy_cons (codeAny_handlers_test (name_ (told.here ?_))) (by rintro ⟨⟩)
  cases hit with
  | false => exact rest g d0 (no rfl)
  | true =>
    refine codeAny_handlers_suite (HandSPX.lands_againZ d0.fly fun g2 f2 up2 => ?_)
    have d2 : Down Y pp τ G0 e kc dd B u0 u g2 := { d0 with slots := d0.slots.trans up2, fly := f2 }
    obtain ⟨ob2, fs2, hob2, hz2, hfs2⟩ := f2.there
    have here2 := d2.held.suite hob2 hfs2 d0.nw d0.nl d0.nf
    refine wpAny_mono ((hs e ob2 kc dd (Y.pn ++ pp) hz2 ⟨_, hfs2⟩).run [] _ _ G0 _ here2 (yes rfl e d0.nw)) (fun fl u6 sp => ?_) (fun _ _ z => z.elim)
    rcases fl with _ | _ | _ | v
    · obtain ⟨τ6, G6, i6, q6⟩ := sp
      exact ⟨_, _, i6.unsuite J.ok, q6⟩
    · obtain ⟨τ6, G6, i6, q6⟩ := sp
      exact ⟨_, _, i6.unsuite J.ok, q6⟩
    · obtain ⟨τ6, G6, i6, q6⟩ := sp
      exact ⟨_, _, i6.unsuite J.ok, q6⟩
    · obtain ⟨v6, τ6, G6, i6, r6, q6⟩ := sp
      exact ⟨_, _, _, i6.unsuite J.ok, r6, q6⟩
theorem ps_try0 {body : List Stmt} {h1 : ExceptHandler} {pos : Pos} {tb : WX → TS} {c1 : Value} {s1 : Addr → Value → Option Addr → TS} (sk : Y.stack = Y.env :: Y.outer) (fr : Y.env.frame = some Y.env.locals)
    (tk : L2N.Takes Y Wo) (hb : ∀ (W : WX) (pn : List (Addr × Obj)) (xe : Value → Shared → Prop), L2N.Takes (Y.tr pn xe) W → PassesOwn (model Y.prog Y.w) Y.A Y.env xe → PSs (Y.tr pn xe) body (tb W))
    (k1 : Cls0 Y h1 c1 s1) : PS Y (.Try body [h1] [] [] pos) (fun D σ H => tb (wOnly Y.K c1 s1 Wo D) D σ H) := by
  refine ⟨fun pp u τ G0 D I q => ?_⟩
  have ok := I.ok
  refine wpAny_Try_except (wpAny_mono ((hb (wOnly Y.K c1 s1 Wo D) (Y.pn ++ pp) (fun v v1 => wpAny (model Y.prog Y.w) Y.A (noteFrame v Y.env) (fun _ v2 => wpAny (model Y.prog Y.w) Y.A (setFlight v none) (fun _ v3 =>
    wpAny (model Y.prog Y.w) Y.A (handleBy v Y.env [h1]) (SP Y pp D) Y.xe v3) Y.xe v2) Y.xe v1) (fun v u' air => ?_) PassesOwn.looking).run [] u τ G0 D (I.toTry _) q) (fun fl v1 sp => ?_) fun _ _ z => z)
  · obtain ⟨e, B, u0, pp', τ1, G1, kc, dd, rfl, J', keep, up, sky, na, os, ag, w⟩ := air
    have J : Inv Y pp τ1 G1 u0 := J'.ofTry ok
    refine L2N.Sky.land L2N.Zn.steady (by rw [ok.frames, sk]) fr (sk ▸ sky) fun g f1 up1 => ?_
    obtain ⟨ob, fs, hob, -, hfs⟩ := f1.there
    have off : e ∉ frs (Y.env :: Y.outer) := fun hm => by
      obtain ⟨-, o', e', nf⟩ := f1.2.2.1.mem hm
      rw [hob] at e'
      cases e'
      exact nf _ hfs
    have d0 : Down Y pp τ1 G1 e kc dd B u0 u' g := ⟨J, keep, up.trans up1, f1, na, os, ag, fun z => off (List.mem_filterMap.mpr ⟨Y.env, List.mem_cons_self, by rw [fr, z]⟩), fun hm => by
      obtain ⟨v, hv, q⟩ := List.mem_filterMap.mp hm
      exact off (List.mem_filterMap.mpr ⟨v, List.mem_cons_of_mem _ hv, q⟩)⟩
    exact after_bare k1 (fun g2 d2 w2 => after_none sk fr tk d2 w2) d0 w
  · rcases fl with _ | _ | _ | v
    · obtain ⟨τ1, G1, j1, q1⟩ := sp
      exact wpAny_execs_nil ⟨τ1, G1, j1.ofTry ok, q1⟩
    · obtain ⟨τ1, G1, j1, q1⟩ := sp
      exact ⟨τ1, G1, j1.ofTry ok, q1⟩
    · obtain ⟨τ1, G1, j1, q1⟩ := sp
      exact ⟨τ1, G1, j1.ofTry ok, q1⟩
    · obtain ⟨v1, τ1, G1, j1, r1, q1⟩ := sp
      exact ⟨v1, τ1, G1, j1.ofTry ok, r1, q1⟩
end
end G
set_option Elab.async false
set_option linter.all false
set_option maxRecDepth 100000
set_option maxHeartbeats 4000000
/-! super().m(..) in a method of an own class. -/
namespace G
open PySem PySem.Spec PyProof.Rows L2 NdefX
/-- what the running method's frame tells: its class D is captured -/
structure SupOk (X : Cx) (D : Addr) (sf : Str) : Prop where
  ks : X.env.kindOf "super" = some .globalImplicit
  kc : X.env.kindOf "__class__" = some .free
  gs : X.mg "super" = none
  fn : ∃ f fo fd ar, X.env.func = some f ∧ X.K.lookup f = some fo ∧ fo.data = .func fd ∧ (fd.params.posonlyargs ++ fd.params.args).head? = some ar ∧ ar.arg = sf
  self0 : X.N[0]? = some sf
  selfL : X.env.scope.names.lookup sf = some .local
  code : ∃ cc oc vs file tf, X.env.code = .ref cc ∧ X.K.lookup cc = some oc ∧ oc.data = .fields vs ∧ vs[2]? = some (.str file tf) ∧ ((X.prog.main.file : Str) == file) = true
  top : (X.prog.main.scope.names.lookup ("super" : Str)).isSome = false
  cel : ∃ c oc, X.env.cells.lookup ("__class__" : Str) = some c ∧ X.K.lookup c = some oc ∧ oc.data = .cell (some (.ref D))
/-- the method m behind the class D in the order of the class C is f2 -/
structure SupTo (K : PySem.W.Frag) (C D : Addr) (m : Str) (f2 : Addr) : Prop where
  cd : ∃ cd, PySem.W.clsIn K C = some cd ∧ PySem.W.alongIn K m ((cd.mro.dropWhile (· != .ref D)).drop 1) = some (some (.ref f2))
  sub : PySem.W.mroIn K C (.ref D) = some true
  dd : ∃ oD cdD, K.lookup D = some oD ∧ oD.data = .cls cdD
  fo : ∃ of, K.lookup f2 = some of ∧ of.cls = .type "function"
  fn : PySem.W.fnIn K f2 = true
  opq : PySem.W.nsIn K cStatics "thirdparty.any" = some none
section
variable {X : Cx} {D f2 : Addr} {sf m : Str} {body : List Stmt} {e : Expr} {es : List Expr} {t : TA} {E : L2.St → XK} {k : Nat} {fd2 : FuncData} {ps2 : List Str} {sp2 : Sp} {p0 p1 apos pos : Pos}
theorem sup_eval (so : SupOk X D sf) (F2 : FnOk X.prog X.w X.K X.mg X.base (L2N.CX X.prog X.w) k f2 fd2 ps2 sp2) (hr : Room k X.A) (hb : Binds X.K fd2 ps2 []) (hx : PAt X E) (ha : PA X (e :: es) t)
    (hat : (m == ("__class__" : Str)) = false) (hst : starEach (e :: es) X.env = (false, eval e X.env) :: starEach es X.env) (hpl : (backTo pos (starEach es X.env)).any (·.1) = false)
    (het : ∀ pl : Sem Bool, True) {pl : Sem Bool}
    (he : eval (.Call (.Attribute (.Call (.Name "super" p0) [] [] p1) m apos) (e :: es) [] pos) X.env = (do
      let ov ← attributeBase (.Call (.Name "super" p0) [] [] p1) m X.env (eval (.Call (.Name "super" p0) [] [] p1) X.env)
      standAt apos.atName
      let (f, first) ← holding [ov] (getMethod ov m pl)
      callWith pos f first (backTo pos (starEach (e :: es) X.env)) []))
    {pins : List (Addr × Obj)} {s : Shared} {σ : L2.St} {H : Hp} {Q : VK} (I : Inv X pins σ H s) {x C dx : Addr} {fs : List (Str × V)} (h0 : σ[0]? = some (some (.ref x))) (hx0 : H x = some (.ins C dx fs)) (st : SupTo X.K C D m f2)
    (q : t σ H fun us H1 => sp2 (.ref x :: us) H1 Q (E σ)) :
    PySem.wpAt (model X.prog X.w) X.A (.func body X.env) (eval (.Call (.Attribute (.Call (.Name "super" p0) [] [] p1) m apos) (e :: es) [] pos) X.env) (EP X pins σ Q) X.xe s := by
  obtain ⟨f, fo, fd, ar, hfu, lkf, hfd, hp, hself⟩ := so.fn
  obtain ⟨cc, oc, vs, file, tf, hco, lkcc, hoc, hvs, hfile⟩ := so.code
  obtain ⟨c, ocl, hc, lkc, hcd⟩ := so.cel
  obtain ⟨cd, hcls, halong⟩ := st.cd
  obtain ⟨oD, cdD, lkD, hDd⟩ := st.dd
  obtain ⟨of, lkf2, hfc⟩ := st.fo
  obtain ⟨mb, hb1, hb2⟩ := I.mod.blt
  obtain ⟨mA, O, rO, wiO, lnO, hoO⟩ := ins_get I.hok hx0
  have KX := I.kIn
  have hX : s.heap.get? x = some (PySem.W.instObj C dx) := O.obj
  have hno : PySem.W.Looks (model X.prog X.w) s.heap (opaqueClassAbove (.ref C)) none := PySem.W.looks_opaque KX st.opq
  have nxt : ∀ {s' : Shared}, Inv X pins σ H s' → True := fun _ => trivial
  obtain ⟨ml, hns, hlook⟩ := id I.loc
  obtain ⟨us, rus, lk⟩ := hlook 0 sf (.ref x) so.self0 h0 (.inl so.selfL)
  have hml : ml sf = some us := by
    rcases lk with ⟨_, z⟩ | ⟨z, _⟩
    · exact z
    · have z : X.env.scope.names.lookup sf = some .cell ∨ X.env.scope.names.lookup sf = some .free := z
      rw [so.selfL] at z
      rcases z with z | z <;> cases z
  obtain rfl : us = .ref x := rus
  have hxC : x ≠ C := by
    rintro rfl
    unfold PySem.W.clsIn at hcls
    split at hcls
    · rename_i c d cd' sl ho
      have e := KX _ _ ho
      rw [hX] at e
      cases e
    · cases hcls
  refine PySem.ks_wpAt_MethodCall (pl := pl) ?_ he
  refine PySem.ks_wpAt_super_base so.ks so.kc hat hfu (KX _ _ lkf) hfd hp hco (KX _ _ lkcc) hoc hvs hfile so.top ?_
  refine PySem.W.ks_loadName_global I.ok.kind so.ks ?_
  refine Calls.loadGlobal_builtin (by rw [I.ok.glob]; exact I.mod.glob.keeps I.bk) so.gs (by rw [I.ok.blt]; exact hb1.keeps I.bk) ((hb2 _ (by decide)).trans (by rfl : bootBuiltins "super" = some (.type "super"))) ⟨rfl, ?_⟩
  refine wpAny_loadName_free I.ok.kind so.kc hc ⟨_, KX _ _ lkc, hcd⟩ ?_
  rw [hself]
  refine wpAny_loadName_local I.ok.kind so.selfL hns hml ?_
  refine PySem.ks_wpAny_isType_cls (KX _ _ lkD) hDd ⟨rfl, ?_⟩
  obtain ⟨hp0, g0, d0, t0, os0⟩ := s
  refine PySem.ks_wpAny_call_super (KX _ _ lkD) hDd hX rfl (fun c z => by cases z) (PySem.W.looks_mroIn KX st.sub) (fun h' hso kp => ?_)
  have KX1 : X.K.In h' := KX.keeps kp
  refine PySem.ks_wpAny_getMethod_super (K := X.K) (l₀ := cd.mro) hso (PySem.W.looks_opaque KX1 st.opq) ((PySem.W.looks_clsIn KX1 hcls).andThen .now) rfl KX1 halong (KX1 _ _ lkf2) hfc hxC hat ?_
  have kpush : ∀ b u, h'.get? b = some u → (h'.push { cls := .type "method", data := .fields #[.ref f2, .ref x] }).get? b = some u := fun b u z => Heap.get?_push_of_some _ z
  have hq0 : (h'.push { cls := .type "method", data := .fields #[.ref f2, .ref x] }).get? h'.objs.size = some (PySem.W.methodObj (.ref f2) (.ref x)) := Heap.get?_push_size h' rfl
  have lsz : hp0.objs.size ≤ h'.objs.size := by
    have := Heap.lt_size hso
    exact Nat.le_of_lt this
  generalize hq' : h'.objs.size = qa at *
  generalize hh2 : h'.push { cls := .type "method", data := .fields #[.ref f2, .ref x] } = h2 at *
  have I0 : Inv X pins σ H ⟨h2, g0, d0, t0 + 1, os0⟩ := I.kept fun b u z => kpush _ _ (kp _ _ z)
  have fp := I.fpOk (b := qa) lsz (I.hok.fresh lsz)
  have I1 : Inv X (pins ++ [(qa, PySem.W.methodObj (.ref f2) (.ref x))]) σ H ⟨h2, g0, d0, t0 + 1, os0⟩ := I0.pins_of fun p hp => by
    rcases List.mem_append.mp hp with z | z
    · exact I0.pin p (List.mem_append_right _ z)
    · obtain rfl := List.mem_singleton.mp z
      exact ⟨hq0, fp.1, fp.2.1, fp.2.2.1, fun v z => by cases z⟩
  rw [hst]
  refine PySem.W.callWith_of (P := PySem.W.MethP X.K qa f2 (.ref x)) (by show ((false || (backTo pos (starEach es X.env)).any (·.1)) || false) = false; rw [hpl]; rfl) (PySem.W.keeps_M st.fn) (Calls.evalArgs_plain ?_)
  have run := ha.run pos _ _ σ H _ I1 q
  rw [hst] at run
  refine thn run fun us s1 ⟨vs, H1, I2, r, q2⟩ => ?_
  have pq := (I2.pin (qa, PySem.W.methodObj (.ref f2) (.ref x)) (by simp)).1
  refine ⟨⟨pq, I2.kIn⟩, ?_⟩
  have r2 : Vals (.ref x :: vs) (.ref x :: us) := .cons rfl r
  have hl : (.ref x :: us : List Value).length = ps2.length := by rw [← r2.length]; exact F2.len _ _ _ _ q2
  refine wpAny_call (PySem.ks_codeAny_call_bound pq ?_)
  refine codeAny_mono (F2.run X.A X.stack s1 H1 ⟨.ref x :: us, []⟩ ((.ref x :: us) ++ []) (.ref x :: vs) Q (E σ) hr I2.env0 (hb s1 (.ref x :: us) I2.kIn (by rw [List.append_nil]; exact hl)) (by rw [List.append_nil]; exact r2) q2) fun r s' hq => ?_
  cases r with
  | error e => exact hx σ _ H1 s1 e s' I2 hq
  | ok fl =>
    cases fl with
    | ret u =>
      obtain ⟨v, H2, I3, rv, q3⟩ := I2.after hq
      exact ⟨v, H2, I3.unpinned, rv, q3⟩
    | next => exact False.elim hq
    | brk => exact False.elim hq
    | cont => exact False.elim hq
end
/-- a method that captures its class D, as the top has written it -/
structure FunS (K : PySem.W.Frag) (prog : Program) (x qual : Str) (params : Arguments) (body : List Stmt) (scope : Scope) (D f : Addr) (fd : FuncData) : Prop where
  ex : ∃ (oc : Value) (od an : Option Addr) (kV doc pm ct : Value) (c cc : Addr) (osl : Array (Option Value)) (ocl oco : Obj) (vs : Array Value) (file : Str) (tf : Tok),
    fd = PySem.W.fnX x qual params body scope [("__class__", cc)] .none kV doc pm an (.ref c) ct ∧ K.lookup f = some ⟨oc, od, .func fd, osl⟩ ∧ PySem.W.codeIn K (.ref c) qual = true ∧
    K.lookup cc = some ocl ∧ ocl.data = .cell (some (.ref D)) ∧ K.lookup c = some oco ∧ oco.data = .fields vs ∧ vs[2]? = some (.str file tf) ∧ ((prog.main.file : Str) == file) = true
  kp : PySem.W.keepIn K (.ref f) = true
section
variable {P : Program} {w : World} {K : PySem.W.Frag} {mg : Str → Option Value} {base : Heap} {x qual m y sf : Str} {params : Arguments} {body rest : List Stmt} {scope : Scope} {D f f2 : Addr} {fd fd2 : FuncData} {N ps ps2 : List Str} {k k2 i : Nat} {sp sp2 : Sp} {e : Expr} {es : List Expr} {p0 p1 apos pos py pa : Pos} {ar : Arg}
abbrev nfS (x qual : Str) (params : Arguments) (body : List Stmt) (scope : Scope) (c cc : Addr) : NF := ⟨x, qual, params, body, scope, [("__class__", cc)], c⟩
/-- THE RULE: such a method whose first statement is y = super().m(..) -/
theorem FunS.ok (F : FunS K P x qual params body scope D f fd) (S : NScope N ps ["__class__"] scope) (len : ∀ vs H Q E, sp vs H Q E → vs.length = ps.length)
    (hbody : body = .Assign [.Name y py] (.Call (.Attribute (.Call (.Name "super" p0) [] [] p1) m apos) (e :: es) [] pos) pa :: rest)
    (F2 : FnOk P w K mg base (L2N.CX P w) k2 f2 fd2 ps2 sp2) (hk : k2 ≤ k) (hb2 : Binds K fd2 ps2 [])
    (hpar : (params.posonlyargs ++ params.args).head? = some ar) (hsf : ar.arg = sf) (hN0 : N[0]? = some sf) (hsl : scope.names.lookup sf = some .local)
    (hks : scope.names.lookup ("super" : Str) = some .globalImplicit) (hgs : mg "super" = none) (htop : (P.main.scope.names.lookup ("super" : Str)).isSome = false)
    (hat : (m == ("__class__" : Str)) = false) (hi : N[i]? = some y) (hyl : scope.names.lookup y = some .local)
    (hrd : ∀ (c cc : Addr) (A : Around) (outer : List Env) (s : Shared) (H : Hp) (vs : List V) (Q : VK) (E : XK), Room k (A.deeper (envF (nfS x qual params body scope c cc) f s.heap.objs.size)) → sp vs H Q E →
      ∃ (t : TA) (u : TS) (x0 C dx : Addr) (fs : List (Str × V)) (pl : Sem Bool), PA (ncx (L2N.CX P w) P w K mg base N (nfS x qual params body scope c cc) f A outer s H E) (e :: es) t ∧ PSs (ncx (L2N.CX P w) P w K mg base N (nfS x qual params body scope c cc) f A outer s H E) rest u ∧
        PAt (ncx (L2N.CX P w) P w K mg base N (nfS x qual params body scope c cc) f A outer s H E) (fun _ => E) ∧
        starEach (e :: es) (envF (nfS x qual params body scope c cc) f s.heap.objs.size) = (false, eval e (envF (nfS x qual params body scope c cc) f s.heap.objs.size)) :: starEach es (envF (nfS x qual params body scope c cc) f s.heap.objs.size) ∧
        (backTo pos (starEach es (envF (nfS x qual params body scope c cc) f s.heap.objs.size))).any (·.1) = false ∧
        eval (.Call (.Attribute (.Call (.Name "super" p0) [] [] p1) m apos) (e :: es) [] pos) (envF (nfS x qual params body scope c cc) f s.heap.objs.size) = (do
          let ov ← attributeBase (.Call (.Name "super" p0) [] [] p1) m (envF (nfS x qual params body scope c cc) f s.heap.objs.size) (eval (.Call (.Name "super" p0) [] [] p1) (envF (nfS x qual params body scope c cc) f s.heap.objs.size))
          standAt apos.atName
          let (g, first) ← holding [ov] (getMethod ov m pl)
          callWith pos g first (backTo pos (starEach (e :: es) (envF (nfS x qual params body scope c cc) f s.heap.objs.size))) []) ∧
        swapsWith (.Call (.Attribute (.Call (.Name "super" p0) [] [] p1) m apos) (e :: es) [] pos) (some (.Name y py)) pa.line (envF (nfS x qual params body scope c cc) f s.heap.objs.size) = pure false ∧
        vs[0]? = some (.ref x0) ∧ H x0 = some (.ins C dx fs) ∧ SupTo K C D m f2 ∧
        t (startF N vs [some (.ref D)]) H fun us H1 => sp2 (.ref x0 :: us) H1 (fun v H2 => u { nx := fun _ H' => Q .non H', rt := Q } ((startF N vs [some (.ref D)]).set i (some v)) H2) E) :
    FnOk P w K mg base (L2N.CX P w) (k + 1) f fd ps sp := by
  obtain ⟨oc, od, an, kV, doc, pm, ct, c, cc, osl, ocl, oco, vs0, file, tf, rfl, lk, hcd, lkcc, hcc, lkc, hco, hvs, hfile⟩ := F.ex
  refine ⟨len, fun A outer s H args us vs Q E hr e0 hb r hsp => ?_⟩
  have hl := len _ _ _ _ hsp
  have KX : K.In s.heap := e0.mod.kin.keeps fun b o e => (e0.bs b o e).1
  have lim : s.heap.NoLimit := e0.mod.nolimit.keeps fun b o e => (e0.bs b o e).1
  have hfree : H cc = none := (e0.bs _ _ (e0.mod.kin _ _ lkcc)).2
  have hcell : s.heap.IsCell cc (some (.ref D)) := ⟨_, KX _ _ lkcc, hcc⟩
  have C : CellsAt (nfS x qual params body scope c cc).cl ["__class__"] [some (.ref D)] s.heap H := by
    have one : ∀ y c', ([("__class__", cc)] : List (Str × Addr)).lookup y = some c' → y = "__class__" ∧ c' = cc := by
      intro y c' h
      by_cases e : y = "__class__"
      · rw [e] at h ⊢
        exact ⟨rfl, by simpa [List.lookup] using h.symm⟩
      · have : (y == ("__class__" : Str)) = false := by simpa using e
        simp [List.lookup, this] at h
    refine ⟨rfl, fun y c' h => ?_, fun y z c' h1 h2 => ?_, fun j y h => ?_⟩
    · obtain ⟨_, rfl⟩ := one y c' h
      exact ⟨hfree, _, hcell⟩
    · rw [(one y c' h1).1, (one z c' h2).1]
    · match j, h with
      | 0, h =>
        have h : some ("__class__" : Str) = some y := h
        injection h with h
        subst h
        refine ⟨cc, by simp [List.lookup], fun v hv => ?_⟩
        have hv : some (some (V.ref D)) = some (some v) := hv
        injection hv with hv
        injection hv with hv
        subst hv
        exact ⟨_, rfl, hcell⟩
  refine codeAny_call_function hr.depth (KX _ _ lk) rfl S.co S.gen rfl (PySem.W.codeRec_of KX hcd) (hb _ _ _ _ ?_)
  refine wpAny_newFunctionEnv S.nocell (fun ⟨n, _⟩ hy => S.par n (List.of_mem_zip hy).1) (fun h₁ hns hsb => ⟨lim.fresh _ hsb, ?_⟩) S.kind
  show codeAny _ _ (.func body (envF (nfS x qual params body scope c cc) f s.heap.objs.size)) _ _
  refine PySem.ks_codeAny_funcAt ?_
  have kp : ∀ b o, s.heap.get? b = some o → h₁.get? b = some o := fun b o e => hsb.extBut b o (Nat.ne_of_lt (Heap.lt_size e)) (Heap.get?_push_of_some _ e)
  obtain ⟨t, u, x0, C0, dx, fs, pl, ha, hu, hx, hst, hpl, he, hsw, hv0, hx0, st, q⟩ := hrd c cc A outer s H vs Q E (hr.deeper _) hsp
  have I : Inv (ncx (L2N.CX P w) P w K mg base N (nfS x qual params body scope c cc) f A outer s H E) [] (startF N vs [some (.ref D)]) H { s with heap := h₁, toks := s.toks + (ps.zip us).length } := inv_startN S hr.hd e0 hl r C hns kp
  have eb : execs body (envF (nfS x qual params body scope c cc) f s.heap.objs.size) = execs (.Assign [.Name y py] (.Call (.Attribute (.Call (.Name "super" p0) [] [] p1) m apos) (e :: es) [] pos) pa :: rest) (envF (nfS x qual params body scope c cc) f s.heap.objs.size) := congrArg (fun b => execs b (envF (nfS x qual params body scope c cc) f s.heap.objs.size)) hbody
  rw [eb]
  have so : SupOk (ncx (L2N.CX P w) P w K mg base N (nfS x qual params body scope c cc) f A outer s H E) D sf :=
    ⟨hks, S.frk _ (by simp), hgs, ⟨f, _, _, ar, rfl, lk, rfl, hpar, hsf⟩, hN0, hsl, ⟨c, oco, vs0, file, tf, rfl, lkc, hco, hvs, hfile⟩, htop, ⟨cc, ocl, List.lookup_cons_self, lkcc, hcc⟩⟩
  have h0 : (startF N vs [some (.ref D)])[0]? = some (some (.ref x0)) := by
    have lv : 0 < vs.length := (List.getElem?_eq_some_iff.mp hv0).1
    unfold startF
    rw [List.getElem?_append_left (by rw [List.length_map]; exact lv), List.getElem?_map, hv0] <;> rfl
  refine PySem.ks_wpAt_execs_cons (PySem.ks_wpAt_Assign_Name (PySem.ks_wpAt_mono (sup_eval (E := fun _ => E) so (F2.mono hk) (hr.deeper _) hb2 hx ha hat hst hpl (fun _ => trivial) he I h0 hx0 st q) (fun v s1 hv => ?_) (fun e s' h => h)) hsw)
  obtain ⟨v', H1, I1, rv, q1⟩ := hv
  refine store_ok I1 S.nd hi (.inl hyl) rv (fun s2 I2 => ?_) (.inr hyl)
  refine PySem.wpAt_of_wpAny (wpAny_mono (hu.run [] s2 _ H1 _ I2 q1) (fun fl s' hs => ?_) fun e s' hs => hs)
  have fin : ∀ {σ' : L2.St} {H' : Hp} {v : V} {u : Value}, Inv (ncx (L2N.CX P w) P w K mg base N (nfS x qual params body scope c cc) f A outer s H E) [] σ' H' s' → L2.RelV v u → Q v H' → CE outer P w H s Q u s' :=
    fun {σ' H' v u} J rv q => ⟨v, H', J.os, J.bare, J.base, J.hok, rv, q⟩
  cases fl with
  | ret u =>
    obtain ⟨v, σ', H', J, rv, q⟩ := hs
    exact fin J rv q
  | next =>
    obtain ⟨σ', H', J, q⟩ := hs
    exact fin (v := V.non) (u := Value.none) J rfl q
  | brk =>
    obtain ⟨_, _, _, q⟩ := hs
    exact False.elim q
  | cont =>
    obtain ⟨_, _, _, q⟩ := hs
    exact False.elim q
theorem FunS.bindsN (F : FunS K P x qual params body scope D f fd)
    (h : ∀ (cc : Addr) (kV doc pm : Value) (an : Option Addr) (cdv ct : Value) (us : List Value), us.length = ps.length → bindArgs (PySem.W.fnX x qual params body scope [("__class__", cc)] .none kV doc pm an cdv ct) ⟨us, []⟩ = pure (ps.zip us)) : Binds K fd ps [] := by
  obtain ⟨oc, od, an, kV, doc, pm, ct, c, cc, osl, ocl, oco, vs0, file, tf, rfl, _⟩ := F.ex
  exact .all (h cc kV doc pm an (.ref c) ct)
end
end G
set_option Elab.async false
set_option linter.all false
set_option maxRecDepth 100000
set_option maxHeartbeats 4000000
/-! The head's facts over the first n addresses of the heap. -/
set_option Elab.async false
set_option linter.all false
set_option maxRecDepth 100000
set_option maxHeartbeats 4000000
/-! The head's facts with methods that capture their class. -/
namespace G
open PySem PySem.Spec PyProof.Rows L2
/-- a method that captures its class -/
structure DefS where
  at_ : PySem.W.Frag → Addr
  name : Str
  qual : Str
  params : Arguments
  body : List Stmt
  scope : Scope
  cls : PySem.W.Frag → Addr
  file : Str
/-- a function's words, whatever it captures -/
def fnB (K : PySem.W.Frag) (a : Addr) : He.FnW := match K.lookup a with
  | some ⟨_, _, .func fd, _⟩ => some (fd.name, fd.qualname, fd.params, fd.body, fd.scope, fd.globals, [], fd.builtins)
  | _ => none
def DefS.val (d : DefS) : He.FnW := some (d.name, d.qual, d.params, .stmts d.body, d.scope, mainGlobals, [], builtinsNs)
def cellB (K : PySem.W.Frag) (cc D : Addr) : Bool := match K.lookup cc with
  | some ⟨_, _, .cell (some (.ref D')), _⟩ => D' == D
  | _ => false
def cloB (K : PySem.W.Frag) (cl : List (Str × Addr)) (D : Addr) : Bool := match cl with
  | [(n, cc)] => n == "__class__" && cellB K cc D
  | _ => false
def fldB (vs : Array Value) (file : Str) : Bool := match (vs[2]? : Option Value) with
  | some (Value.str f _) => f == file
  | _ => false
def filB (K : PySem.W.Frag) (cd : Value) (file : Str) : Bool := match cd with
  | .ref c => (match K.lookup c with
    | some ⟨_, _, .fields vs, _⟩ => fldB vs file
    | _ => false)
  | _ => false
def nonB : Value → Bool
  | .none => true
  | _ => false
def DefS.ok (K : PySem.W.Frag) (d : DefS) : Bool := PySem.W.keepIn K (.ref (d.at_ K)) && (match K.lookup (d.at_ K) with
  | some ⟨_, _, .func fd, _⟩ => PySem.W.codeIn K fd.code d.qual && (nonB fd.defaults && (cloB K fd.closure (d.cls K) && filB K fd.code d.file))
  | _ => false)
/-! ### the hook -/
def obsS (fa : List Chk) (fn : List He5.DefA) (fs : List DefS) (K : PySem.W.Frag) : He.AlD := (((fa.all fun f => f K) && fn.all fun d => d.ok K) && fs.all fun d => d.ok K, (fn.map fun d => He5.fnA K (d.at_ K)) ++ fs.map fun d => fnB K (d.at_ K))
def valS (fn : List He5.DefA) (fs : List DefS) : He.AlD := (true, fn.map He5.DefA.val ++ fs.map DefS.val)
def SaysS (fa : List Chk) (fn : List He5.DefA) (fs : List DefS) (K : PySem.W.Frag) : Prop := obsS fa fn fs K = valS fn fs
/-- the same over given addresses (ZL.lean finds those that are needed) -/
def obsSL (L : List Addr) (fa : List Chk) (fn : List He5.DefA) (fs : List DefS) (g : Addr → Option Obj) : He.AlD := obsS fa fn fs (He.frG g L)
def hookSL (L : List Addr) (fa : List Chk) (fn : List He5.DefA) (fs : List DefS) : PySem.W.Hook where
  α := He.AlD
  obs := fun z => obsSL L fa fn fs z.heap.get?
  val := fun _ => valS fn fs
  says := fun _ z => ∃ J : PySem.W.Frag, J.In z ∧ SaysS fa fn fs J
  of := fun _ _ e => ⟨_, He.frG_in, e⟩
  keeps := fun _ _ _ ⟨J, hJ, c⟩ k => ⟨J, PySem.W.Frag.In.keeps hJ k, c⟩
theorem obsSL_eq {L : List Addr} {fa : List Chk} {fn : List He5.DefA} {fs : List DefS} {g : Addr → Option Obj} {z : Shared} (h : ∀ a, g a = z.heap.get? a) : obsSL L fa fn fs g = (hookSL L fa fn fs).obs z := by
  have e : g = z.heap.get? := funext h
  rw [e] <;> rfl
section
variable {fa : List Chk} {fn : List He5.DefA} {fs : List DefS} {K : PySem.W.Frag}
theorem SaysS.parts (c : SaysS fa fn fs K) : SaysY fa fn K ∧ (fs.all fun d => d.ok K) = true ∧ (fs.map fun d => fnB K (d.at_ K)) = fs.map DefS.val := by
  have c1 : (((fa.all fun f => f K) && fn.all fun d => d.ok K) && fs.all fun d => d.ok K) = true := congrArg (fun z : He.AlD => z.1) c
  have c2 : (fn.map fun d => He5.fnA K (d.at_ K)) ++ fs.map (fun d => fnB K (d.at_ K)) = fn.map He5.DefA.val ++ fs.map DefS.val := congrArg (fun z : He.AlD => z.2) c
  obtain ⟨h1, h2⟩ := He.ba c1
  obtain ⟨e1, e2⟩ := List.append_inj c2 (by rw [List.length_map, List.length_map])
  exact ⟨Prod.ext h1 e1, h2, e2⟩
theorem SaysS.toY (c : SaysS fa fn fs K) : SaysY fa fn K := c.parts.1
end
/-! ### the class behind -/
end G
set_option Elab.async false
set_option linter.all false
set_option maxRecDepth 100000
set_option maxHeartbeats 4000000
/-! C() of a class without __init__; o.m(..) on an object of one of several classes. -/
set_option Elab.async false
set_option linter.all false
set_option maxRecDepth 100000
set_option maxHeartbeats 4000000
/-! f(e, ..): a def with keyword-only parameters, called without them. -/
set_option Elab.async false
set_option linter.all false
set_option maxRecDepth 100000
set_option maxHeartbeats 4000000
namespace G
open PySem PySem.Spec PyProof.Rows L2
def top (i : Nat) : Stmt := PySem.Challenge.pw_latelink_k18_whole_no_repair_is_shorter.main.body.getD i (.Pass ⟨0, 0, 0, 0⟩)
abbrev s__law_bag : Stmt := top 50
abbrev s__law_draw : Stmt := top 51
abbrev s_check_size : Stmt := top 17
abbrev s_Links___init__ : Stmt := inClass (top 16) 1
abbrev s_is_positive : Stmt := top 19
abbrev s__read_numbers : Stmt := top 22
abbrev s__read_lefts : Stmt := top 24
abbrev s__read_outs : Stmt := top 25
abbrev s__read_rights : Stmt := top 23
abbrev s_Links_read : Stmt := inClass (top 16) 2
abbrev s__law_copy : Stmt := top 55
abbrev s__law_dump : Stmt := top 54
abbrev s__law_is_whole : Stmt := top 58
abbrev s__law_operation : Stmt := top 57
abbrev s__law_step : Stmt := top 56
abbrev s__law_ends_whole : Stmt := top 70
abbrev s__law_is_due : Stmt := top 60
abbrev s__law_due : Stmt := top 61
abbrev s__law_owed : Stmt := top 62
abbrev s_Links_is_out : Stmt := inClass (top 16) 9
abbrev s_Links_left : Stmt := inClass (top 16) 7
abbrev s_Links_right : Stmt := inClass (top 16) 8
abbrev s_check_gap : Stmt := top 35
abbrev s_gap_state : Stmt := top 29
abbrev s_gap_states : Stmt := top 30
abbrev s_lost_gaps : Stmt := top 31
abbrev s_check_repairable : Stmt := top 40
abbrev s_Links_outs : Stmt := inClass (top 16) 10
abbrev s_sole_holders : Stmt := top 32
abbrev s_due_nodes : Stmt := top 37
abbrev s_repair_cost : Stmt := top 39
abbrev s_debt_of : Stmt := top 38
abbrev s_Links___eq__ : Stmt := inClass (top 16) 5
abbrev s_Links_is_whole : Stmt := inClass (top 16) 18
abbrev s_Links_is_legal : Stmt := inClass (top 16) 11
abbrev s_check_operation : Stmt := top 18
abbrev s_Links_check : Stmt := inClass (top 16) 12
abbrev s_Links_apply_at : Stmt := inClass (top 16) 14
abbrev s_Links_copy : Stmt := inClass (top 16) 19
abbrev s_play : Stmt := top 27
abbrev s_is_repair : Stmt := top 44
abbrev s_is_least_repair : Stmt := top 45
abbrev s__law_judged : Stmt := top 74
abbrev s_Links_apply : Stmt := inClass (top 16) 13
abbrev s__law_number : Stmt := top 64
abbrev s__law_fits : Stmt := top 69
abbrev s__law_lost : Stmt := top 59
abbrev s__law_told : Stmt := top 68
abbrev s__law_led : Stmt := top 73
abbrev s__law_lowers : Stmt := top 63
abbrev s__law_log : Stmt := top 72
abbrev s__law_key : Stmt := top 66
abbrev s__law_distance : Stmt := top 67
abbrev s__law_numbers : Stmt := top 65
abbrev s_foreign_writes : Stmt := top 33
abbrev s_left_to : Stmt := top 34
abbrev s__spoils_nothing : Stmt := top 47
abbrev s__steps : Stmt := top 46
abbrev s__still_due : Stmt := top 48
abbrev s_repairs : Stmt := top 43
abbrev s_first_repair : Stmt := top 42
abbrev s__law_searched : Stmt := top 71
abbrev s__law_size : Stmt := top 52
abbrev s__law_standing : Stmt := top 53
abbrev s_law : Stmt := top 75
abbrev s_BadCount___init__ : Stmt := inClass (top 10) 0
abbrev s_BadDump___init__ : Stmt := inClass (top 9) 0
abbrev s_BadGap___init__ : Stmt := inClass (top 8) 0
abbrev s_BadNode___init__ : Stmt := inClass (top 7) 0
abbrev s_BadSize___init__ : Stmt := inClass (top 6) 0
abbrev s_BadWeights___init__ : Stmt := inClass (top 11) 0
abbrev s_LogError___init__ : Stmt := inClass (top 3) 0
abbrev s_NotRepairable___init__ : Stmt := inClass (top 12) 0
theorem sc__law_bag : FnScope ["script"] ["script"] (defScope s__law_bag) := ⟨rfl, rfl, rfl, by decide +kernel, rfl, by decide +kernel, by decide +kernel⟩
theorem sc__law_draw : FnScope ["bag", "many", "cell", "digit", "twice"] ["bag", "many"] (defScope s__law_draw) := ⟨rfl, rfl, rfl, by decide +kernel, rfl, by decide +kernel, by decide +kernel⟩
theorem sc_check_size : FnScope ["size"] ["size"] (defScope s_check_size) := ⟨rfl, rfl, rfl, by decide +kernel, rfl, by decide +kernel, by decide +kernel⟩
theorem sc_Links___init__ : FnScope ["self", "size"] ["self", "size"] (defScope s_Links___init__) := ⟨rfl, rfl, rfl, by decide +kernel, rfl, by decide +kernel, by decide +kernel⟩
theorem sc_is_positive : FnScope ["word", "letter"] ["word"] (defScope s_is_positive) := ⟨rfl, rfl, rfl, by decide +kernel, rfl, by decide +kernel, by decide +kernel⟩
theorem sc__read_numbers : FnScope ["text", "part", "words", "word"] ["text", "part"] (defScope s__read_numbers) := ⟨rfl, rfl, rfl, by decide +kernel, rfl, by decide +kernel, by decide +kernel⟩
theorem sc__read_lefts : FnScope ["text", "size", "lefts", "place", "link"] ["text", "size"] (defScope s__read_lefts) := ⟨rfl, rfl, rfl, by decide +kernel, rfl, by decide +kernel, by decide +kernel⟩
theorem sc__read_outs : FnScope ["text", "size", "outs", "bounds", "low", "high"] ["text", "size"] (defScope s__read_outs) := ⟨rfl, rfl, rfl, by decide +kernel, rfl, by decide +kernel, by decide +kernel⟩
theorem sc__read_rights : FnScope ["text", "rights", "size", "node", "link"] ["text"] (defScope s__read_rights) := ⟨rfl, rfl, rfl, by decide +kernel, rfl, by decide +kernel, by decide +kernel⟩
theorem sc_Links_read : FnScope ["text", "parts", "rights", "lefts", "outs", "right_links", "links", "node"] ["text"] (defScope s_Links_read) := ⟨rfl, rfl, rfl, by decide +kernel, rfl, by decide +kernel, by decide +kernel⟩
theorem sc__law_copy : FnScope ["book"] ["book"] (defScope s__law_copy) := ⟨rfl, rfl, rfl, by decide +kernel, rfl, by decide +kernel, by decide +kernel⟩
theorem sc__law_dump : FnScope ["book", "rights", "lefts", "outs", "link", "node"] ["book"] (defScope s__law_dump) := ⟨rfl, rfl, rfl, by decide +kernel, rfl, by decide +kernel, by decide +kernel⟩
theorem sc__law_is_whole : FnScope ["book", "gap"] ["book"] (defScope s__law_is_whole) := ⟨rfl, rfl, rfl, by decide +kernel, rfl, by decide +kernel, by decide +kernel⟩
theorem sc__law_operation : FnScope ["book", "node"] ["book", "node"] (defScope s__law_operation) := ⟨rfl, rfl, rfl, by decide +kernel, rfl, by decide +kernel, by decide +kernel⟩
theorem sc__law_step : FnScope ["book", "node", "lefts", "rights", "outs", "low", "high"] ["book", "node"] (defScope s__law_step) := ⟨rfl, rfl, rfl, by decide +kernel, rfl, by decide +kernel, by decide +kernel⟩
theorem sc__law_ends_whole : FnScope ["start", "moves", "book", "move", "node"] ["start", "moves"] (defScope s__law_ends_whole) := ⟨rfl, rfl, rfl, by decide +kernel, rfl, by decide +kernel, by decide +kernel⟩
theorem sc__law_is_due : FnScope ["book", "node"] ["book", "node"] (defScope s__law_is_due) := ⟨rfl, rfl, rfl, by decide +kernel, rfl, by decide +kernel, by decide +kernel⟩
theorem sc__law_due : FnScope ["book", "node"] ["book"] (defScope s__law_due) := ⟨rfl, rfl, rfl, by decide +kernel, rfl, by decide +kernel, by decide +kernel⟩
theorem sc__law_owed : FnScope ["book", "node"] ["book"] (defScope s__law_owed) := ⟨rfl, rfl, rfl, by decide +kernel, rfl, by decide +kernel, by decide +kernel⟩
theorem sc_Links_is_out : FnScope ["self", "node"] ["self", "node"] (defScope s_Links_is_out) := ⟨rfl, rfl, rfl, by decide +kernel, rfl, by decide +kernel, by decide +kernel⟩
theorem sc_Links_left : FnScope ["self", "node"] ["self", "node"] (defScope s_Links_left) := ⟨rfl, rfl, rfl, by decide +kernel, rfl, by decide +kernel, by decide +kernel⟩
theorem sc_Links_right : FnScope ["self", "node"] ["self", "node"] (defScope s_Links_right) := ⟨rfl, rfl, rfl, by decide +kernel, rfl, by decide +kernel, by decide +kernel⟩
theorem sc_check_gap : FnScope ["size", "gap"] ["size", "gap"] (defScope s_check_gap) := ⟨rfl, rfl, rfl, by decide +kernel, rfl, by decide +kernel, by decide +kernel⟩
theorem sc_gap_state : FnScope ["links", "gap", "is_held_left", "is_held_right"] ["links", "gap"] (defScope s_gap_state) := ⟨rfl, rfl, rfl, by decide +kernel, rfl, by decide +kernel, by decide +kernel⟩
theorem sc_gap_states : FnScope ["links", "gap"] ["links"] (defScope s_gap_states) := ⟨rfl, rfl, rfl, by decide +kernel, rfl, by decide +kernel, by decide +kernel⟩
theorem sc_lost_gaps : FnScope ["links", "gap", "state"] ["links"] (defScope s_lost_gaps) := ⟨rfl, rfl, rfl, by decide +kernel, rfl, by decide +kernel, by decide +kernel⟩
theorem sc_check_repairable : FnScope ["links", "lost"] ["links"] (defScope s_check_repairable) := ⟨rfl, rfl, rfl, by decide +kernel, rfl, by decide +kernel, by decide +kernel⟩
theorem sc_Links_outs : FnScope ["self", "node"] ["self"] (defScope s_Links_outs) := ⟨rfl, rfl, rfl, by decide +kernel, rfl, by decide +kernel, by decide +kernel⟩
theorem sc_sole_holders : FnScope ["links", "holders", "gap", "state"] ["links"] (defScope s_sole_holders) := ⟨rfl, rfl, rfl, by decide +kernel, rfl, by decide +kernel, by decide +kernel⟩
theorem sc_due_nodes : FnScope ["links"] ["links"] (defScope s_due_nodes) := ⟨rfl, rfl, rfl, by decide +kernel, rfl, by decide +kernel, by decide +kernel⟩
theorem sc_repair_cost : FnScope ["links", "weights", "weight", "node"] ["links", "weights"] (defScope s_repair_cost) := ⟨rfl, rfl, rfl, by decide +kernel, rfl, by decide +kernel, by decide +kernel⟩
theorem sc_debt_of : FnScope ["links"] ["links"] (defScope s_debt_of) := ⟨rfl, rfl, rfl, by decide +kernel, rfl, by decide +kernel, by decide +kernel⟩
theorem sc_Links___eq__ : FnScope ["self", "other"] ["self", "other"] (defScope s_Links___eq__) := ⟨rfl, rfl, rfl, by decide +kernel, rfl, by decide +kernel, by decide +kernel⟩
theorem sc_Links_is_whole : FnScope ["self"] ["self"] (defScope s_Links_is_whole) := ⟨rfl, rfl, rfl, by decide +kernel, rfl, by decide +kernel, by decide +kernel⟩
theorem sc_Links_is_legal : FnScope ["self", "operation"] ["self", "operation"] (defScope s_Links_is_legal) := ⟨rfl, rfl, rfl, by decide +kernel, rfl, by decide +kernel, by decide +kernel⟩
theorem sc_check_operation : FnScope ["size", "operation", "index"] ["size", "operation", "index"] (defScope s_check_operation) := ⟨rfl, rfl, rfl, by decide +kernel, rfl, by decide +kernel, by decide +kernel⟩
theorem sc_Links_check : FnScope ["self", "operation", "index"] ["self", "operation", "index"] (defScope s_Links_check) := ⟨rfl, rfl, rfl, by decide +kernel, rfl, by decide +kernel, by decide +kernel⟩
theorem sc_Links_apply_at : FnScope ["self", "operation", "index", "node", "low", "high", "is_unlink"] ["self", "operation", "index"] (defScope s_Links_apply_at) := ⟨rfl, rfl, rfl, by decide +kernel, rfl, by decide +kernel, by decide +kernel⟩
theorem sc_Links_copy : FnScope ["self", "twin"] ["self"] (defScope s_Links_copy) := ⟨rfl, rfl, rfl, by decide +kernel, rfl, by decide +kernel, by decide +kernel⟩
theorem sc_play : FnScope ["links", "log", "after", "index", "operation"] ["links", "log"] (defScope s_play) := ⟨rfl, rfl, rfl, by decide +kernel, rfl, by decide +kernel, by decide +kernel⟩
theorem sc_is_repair : FnScope ["links", "log"] ["links", "log"] (defScope s_is_repair) := ⟨rfl, rfl, rfl, by decide +kernel, rfl, by decide +kernel, by decide +kernel⟩
theorem sc_is_least_repair : FnScope ["links", "log"] ["links", "log"] (defScope s_is_least_repair) := ⟨rfl, rfl, rfl, by decide +kernel, rfl, by decide +kernel, by decide +kernel⟩
theorem sc__law_judged : FnScope ["start", "moves", "place", "book", "move", "rest", "ends", "linked", "told"] ["start", "moves", "place"] (defScope s__law_judged) := ⟨rfl, rfl, rfl, by decide +kernel, rfl, by decide +kernel, by decide +kernel⟩
theorem sc_Links_apply : FnScope ["self", "operation"] ["self", "operation"] (defScope s_Links_apply) := ⟨rfl, rfl, rfl, by decide +kernel, rfl, by decide +kernel, by decide +kernel⟩
theorem sc__law_number : FnScope ["told"] ["told"] (defScope s__law_number) := ⟨rfl, rfl, rfl, by decide +kernel, rfl, by decide +kernel, by decide +kernel⟩
theorem sc__law_fits : FnScope ["told", "word", "number"] ["told", "word", "number"] (defScope s__law_fits) := ⟨rfl, rfl, rfl, by decide +kernel, rfl, by decide +kernel, by decide +kernel⟩
theorem sc__law_lost : FnScope ["book", "gap"] ["book"] (defScope s__law_lost) := ⟨rfl, rfl, rfl, by decide +kernel, rfl, by decide +kernel, by decide +kernel⟩
theorem sc__law_told : FnScope ["linked", "told", "fault"] ["linked"] (defScope s__law_told) := ⟨rfl, rfl, rfl, by decide +kernel, rfl, by decide +kernel, by decide +kernel⟩
theorem sc__law_led : FnScope ["start", "moves", "ends", "book", "linked", "before", "place", "left_over", "told", "lost"] ["start", "moves"] (defScope s__law_led) := ⟨rfl, rfl, rfl, by decide +kernel, rfl, by decide +kernel, by decide +kernel⟩
theorem sc__law_lowers : FnScope ["book", "node", "low", "high"] ["book", "node"] (defScope s__law_lowers) := ⟨rfl, rfl, rfl, by decide +kernel, rfl, by decide +kernel, by decide +kernel⟩
theorem sc__law_log : FnScope ["bag", "start", "book", "moves", "turns", "turn", "node", "fitting"] ["bag", "start"] (defScope s__law_log) := ⟨rfl, rfl, rfl, by decide +kernel, rfl, by decide +kernel, by decide +kernel⟩
theorem sc__law_key : FnScope ["book"] ["book"] (defScope s__law_key) := ⟨rfl, rfl, rfl, by decide +kernel, rfl, by decide +kernel, by decide +kernel⟩
theorem sc__law_distance : FnScope ["start", "seen", "level", "depth", "later", "row", "node", "made", "key"] ["start"] (defScope s__law_distance) := ⟨rfl, rfl, rfl, by decide +kernel, rfl, by decide +kernel, by decide +kernel⟩
theorem sc__law_numbers : FnScope ["told", "one"] ["told"] (defScope s__law_numbers) := ⟨rfl, rfl, rfl, by decide +kernel, rfl, by decide +kernel, by decide +kernel⟩
theorem sc_foreign_writes : FnScope ["links", "operation", "node", "low", "high", "written"] ["links", "operation"] (defScope s_foreign_writes) := ⟨rfl, rfl, rfl, by decide +kernel, rfl, by decide +kernel, by decide +kernel⟩
theorem sc_left_to : FnScope ["operation", "gap"] ["operation", "gap"] (defScope s_left_to) := ⟨rfl, rfl, rfl, by decide +kernel, rfl, by decide +kernel, by decide +kernel⟩
theorem sc__spoils_nothing : FnScope ["links", "operation", "due", "gap"] ["links", "operation", "due"] (defScope s__spoils_nothing) := ⟨rfl, rfl, rfl, by decide +kernel, rfl, by decide +kernel, by decide +kernel⟩
theorem sc__steps : FnScope ["links", "due", "operations", "node", "operation"] ["links", "due"] (defScope s__steps) := ⟨rfl, rfl, rfl, by decide +kernel, rfl, by decide +kernel, by decide +kernel⟩
theorem sc__still_due : FnScope ["due", "operation", "node"] ["due", "operation"] (defScope s__still_due) := ⟨rfl, rfl, rfl, by decide +kernel, rfl, by decide +kernel, by decide +kernel⟩
theorem sc_repairs : FnScope ["links", "most", "found", "waiting", "before", "log", "due", "here", "operation"] ["links", "most"] (defScope s_repairs) := ⟨rfl, rfl, rfl, by decide +kernel, rfl, by decide +kernel, by decide +kernel⟩
theorem sc_first_repair : FnScope ["links"] ["links"] (defScope s_first_repair) := ⟨rfl, rfl, rfl, by decide +kernel, rfl, by decide +kernel, by decide +kernel⟩
theorem sc__law_searched : FnScope ["book", "far", "lost", "linked", "told", "moves"] ["book"] (defScope s__law_searched) := ⟨rfl, rfl, rfl, by decide +kernel, rfl, by decide +kernel, by decide +kernel⟩
theorem sc__law_size : FnScope ["bag", "size"] ["bag"] (defScope s__law_size) := ⟨rfl, rfl, rfl, by decide +kernel, rfl, by decide +kernel, by decide +kernel⟩
theorem sc__law_standing : FnScope ["bag", "size", "lossy", "lefts", "rights", "outs", "lean", "spot", "gap", "kind", "cut", "node"] ["bag", "size", "lossy"] (defScope s__law_standing) := ⟨rfl, rfl, rfl, by decide +kernel, rfl, by decide +kernel, by decide +kernel⟩
theorem sc_law : FnScope ["script", "bag", "small", "size", "book", "moves"] ["script"] (defScope s_law) := ⟨rfl, rfl, rfl, by decide +kernel, rfl, by decide +kernel, by decide +kernel⟩
theorem sc_BadCount___init__ : FnScope ["self", "count"] ["self", "count"] (defScope s_BadCount___init__) := ⟨rfl, rfl, rfl, by decide +kernel, rfl, by decide +kernel, by decide +kernel⟩
theorem sc_BadDump___init__ : FnScope ["self", "part"] ["self", "part"] (defScope s_BadDump___init__) := ⟨rfl, rfl, rfl, by decide +kernel, rfl, by decide +kernel, by decide +kernel⟩
theorem sc_BadGap___init__ : FnScope ["self", "gap"] ["self", "gap"] (defScope s_BadGap___init__) := ⟨rfl, rfl, rfl, by decide +kernel, rfl, by decide +kernel, by decide +kernel⟩
theorem sc_BadNode___init__ : FnScope ["self", "node"] ["self", "node"] (defScope s_BadNode___init__) := ⟨rfl, rfl, rfl, by decide +kernel, rfl, by decide +kernel, by decide +kernel⟩
theorem sc_BadSize___init__ : FnScope ["self", "size"] ["self", "size"] (defScope s_BadSize___init__) := ⟨rfl, rfl, rfl, by decide +kernel, rfl, by decide +kernel, by decide +kernel⟩
theorem sc_BadWeights___init__ : FnScope ["self", "count"] ["self", "count"] (defScope s_BadWeights___init__) := ⟨rfl, rfl, rfl, by decide +kernel, rfl, by decide +kernel, by decide +kernel⟩
theorem sc_LogError___init__ : FnScope ["self", "operation", "index"] ["self", "operation", "index"] (defScope s_LogError___init__) := ⟨rfl, rfl, rfl, by decide +kernel, rfl, by decide +kernel, by decide +kernel⟩
theorem sc_NotRepairable___init__ : FnScope ["self", "gap"] ["self", "gap"] (defScope s_NotRepairable___init__) := ⟨rfl, rfl, rfl, by decide +kernel, rfl, by decide +kernel, by decide +kernel⟩
def d__law_bag : He5.DefA := ⟨fun K => He.fAd K ("_law_bag", none), "_law_bag", "_law_bag", defArgs s__law_bag, defBody s__law_bag, defScope s__law_bag, [], []⟩
def d__law_draw : He5.DefA := ⟨fun K => He.fAd K ("_law_draw", none), "_law_draw", "_law_draw", defArgs s__law_draw, defBody s__law_draw, defScope s__law_draw, [], []⟩
def d_check_size : He5.DefA := ⟨fun K => He.fAd K ("check_size", none), "check_size", "check_size", defArgs s_check_size, defBody s_check_size, defScope s_check_size, [], []⟩
def d_Links___init__ : He5.DefA := ⟨fun K => He.fAd K ("Links", some "__init__"), "__init__", "Links.__init__", defArgs s_Links___init__, defBody s_Links___init__, defScope s_Links___init__, [], []⟩
def d_is_positive : He5.DefA := ⟨fun K => He.fAd K ("is_positive", none), "is_positive", "is_positive", defArgs s_is_positive, defBody s_is_positive, defScope s_is_positive, [], []⟩
def d__read_numbers : He5.DefA := ⟨fun K => He.fAd K ("_read_numbers", none), "_read_numbers", "_read_numbers", defArgs s__read_numbers, defBody s__read_numbers, defScope s__read_numbers, [], []⟩
def d__read_lefts : He5.DefA := ⟨fun K => He.fAd K ("_read_lefts", none), "_read_lefts", "_read_lefts", defArgs s__read_lefts, defBody s__read_lefts, defScope s__read_lefts, [], []⟩
def d__read_outs : He5.DefA := ⟨fun K => He.fAd K ("_read_outs", none), "_read_outs", "_read_outs", defArgs s__read_outs, defBody s__read_outs, defScope s__read_outs, [], []⟩
def d__read_rights : He5.DefA := ⟨fun K => He.fAd K ("_read_rights", none), "_read_rights", "_read_rights", defArgs s__read_rights, defBody s__read_rights, defScope s__read_rights, [], []⟩
def d_Links_read : He5.DefA := ⟨fun K => He5.wf K (He.ga K "Links") "staticmethod" "read", "read", "Links.read", defArgs s_Links_read, defBody s_Links_read, defScope s_Links_read, [], []⟩
def d__law_copy : He5.DefA := ⟨fun K => He.fAd K ("_law_copy", none), "_law_copy", "_law_copy", defArgs s__law_copy, defBody s__law_copy, defScope s__law_copy, [], []⟩
def d__law_dump : He5.DefA := ⟨fun K => He.fAd K ("_law_dump", none), "_law_dump", "_law_dump", defArgs s__law_dump, defBody s__law_dump, defScope s__law_dump, [], []⟩
def d__law_is_whole : He5.DefA := ⟨fun K => He.fAd K ("_law_is_whole", none), "_law_is_whole", "_law_is_whole", defArgs s__law_is_whole, defBody s__law_is_whole, defScope s__law_is_whole, [], []⟩
def d__law_operation : He5.DefA := ⟨fun K => He.fAd K ("_law_operation", none), "_law_operation", "_law_operation", defArgs s__law_operation, defBody s__law_operation, defScope s__law_operation, [], []⟩
def d__law_step : He5.DefA := ⟨fun K => He.fAd K ("_law_step", none), "_law_step", "_law_step", defArgs s__law_step, defBody s__law_step, defScope s__law_step, [], []⟩
def d__law_ends_whole : He5.DefA := ⟨fun K => He.fAd K ("_law_ends_whole", none), "_law_ends_whole", "_law_ends_whole", defArgs s__law_ends_whole, defBody s__law_ends_whole, defScope s__law_ends_whole, [], []⟩
def d__law_is_due : He5.DefA := ⟨fun K => He.fAd K ("_law_is_due", none), "_law_is_due", "_law_is_due", defArgs s__law_is_due, defBody s__law_is_due, defScope s__law_is_due, [], []⟩
def d__law_due : He5.DefA := ⟨fun K => He.fAd K ("_law_due", none), "_law_due", "_law_due", defArgs s__law_due, defBody s__law_due, defScope s__law_due, [], []⟩
def d__law_owed : He5.DefA := ⟨fun K => He.fAd K ("_law_owed", none), "_law_owed", "_law_owed", defArgs s__law_owed, defBody s__law_owed, defScope s__law_owed, [], []⟩
def d_Links_is_out : He5.DefA := ⟨fun K => He.fAd K ("Links", some "is_out"), "is_out", "Links.is_out", defArgs s_Links_is_out, defBody s_Links_is_out, defScope s_Links_is_out, [], []⟩
def d_Links_left : He5.DefA := ⟨fun K => He.fAd K ("Links", some "left"), "left", "Links.left", defArgs s_Links_left, defBody s_Links_left, defScope s_Links_left, [], []⟩
def d_Links_right : He5.DefA := ⟨fun K => He.fAd K ("Links", some "right"), "right", "Links.right", defArgs s_Links_right, defBody s_Links_right, defScope s_Links_right, [], []⟩
def d_check_gap : He5.DefA := ⟨fun K => He.fAd K ("check_gap", none), "check_gap", "check_gap", defArgs s_check_gap, defBody s_check_gap, defScope s_check_gap, [], []⟩
def d_gap_state : He5.DefA := ⟨fun K => He.fAd K ("gap_state", none), "gap_state", "gap_state", defArgs s_gap_state, defBody s_gap_state, defScope s_gap_state, [], []⟩
def d_gap_states : He5.DefA := ⟨fun K => He.fAd K ("gap_states", none), "gap_states", "gap_states", defArgs s_gap_states, defBody s_gap_states, defScope s_gap_states, [], []⟩
def d_lost_gaps : He5.DefA := ⟨fun K => He.fAd K ("lost_gaps", none), "lost_gaps", "lost_gaps", defArgs s_lost_gaps, defBody s_lost_gaps, defScope s_lost_gaps, [], []⟩
def d_check_repairable : He5.DefA := ⟨fun K => He.fAd K ("check_repairable", none), "check_repairable", "check_repairable", defArgs s_check_repairable, defBody s_check_repairable, defScope s_check_repairable, [], []⟩
def d_Links_outs : He5.DefA := ⟨fun K => He.fAd K ("Links", some "outs"), "outs", "Links.outs", defArgs s_Links_outs, defBody s_Links_outs, defScope s_Links_outs, [], []⟩
def d_sole_holders : He5.DefA := ⟨fun K => He.fAd K ("sole_holders", none), "sole_holders", "sole_holders", defArgs s_sole_holders, defBody s_sole_holders, defScope s_sole_holders, [], []⟩
def d_due_nodes : He5.DefA := ⟨fun K => He.fAd K ("due_nodes", none), "due_nodes", "due_nodes", defArgs s_due_nodes, defBody s_due_nodes, defScope s_due_nodes, [], []⟩
def d_repair_cost : He5.DefA := ⟨fun K => He.fAd K ("repair_cost", none), "repair_cost", "repair_cost", defArgs s_repair_cost, defBody s_repair_cost, defScope s_repair_cost, [], []⟩
def d_debt_of : He5.DefA := ⟨fun K => He.fAd K ("debt_of", none), "debt_of", "debt_of", defArgs s_debt_of, defBody s_debt_of, defScope s_debt_of, [], []⟩
def d_Links___eq__ : He5.DefA := ⟨fun K => He.fAd K ("Links", some "__eq__"), "__eq__", "Links.__eq__", defArgs s_Links___eq__, defBody s_Links___eq__, defScope s_Links___eq__, [], []⟩
def d_Links_is_whole : He5.DefA := ⟨fun K => He.fAd K ("Links", some "is_whole"), "is_whole", "Links.is_whole", defArgs s_Links_is_whole, defBody s_Links_is_whole, defScope s_Links_is_whole, [], []⟩
def d_Links_is_legal : He5.DefA := ⟨fun K => He.fAd K ("Links", some "is_legal"), "is_legal", "Links.is_legal", defArgs s_Links_is_legal, defBody s_Links_is_legal, defScope s_Links_is_legal, [], []⟩
def d_check_operation : He5.DefA := ⟨fun K => He.fAd K ("check_operation", none), "check_operation", "check_operation", defArgs s_check_operation, defBody s_check_operation, defScope s_check_operation, [], []⟩
def d_Links_check : He5.DefA := ⟨fun K => He.fAd K ("Links", some "check"), "check", "Links.check", defArgs s_Links_check, defBody s_Links_check, defScope s_Links_check, [], []⟩
def d_Links_apply_at : He5.DefA := ⟨fun K => He.fAd K ("Links", some "apply_at"), "apply_at", "Links.apply_at", defArgs s_Links_apply_at, defBody s_Links_apply_at, defScope s_Links_apply_at, [], []⟩
def d_Links_copy : He5.DefA := ⟨fun K => He.fAd K ("Links", some "copy"), "copy", "Links.copy", defArgs s_Links_copy, defBody s_Links_copy, defScope s_Links_copy, [], []⟩
def d_play : He5.DefA := ⟨fun K => He.fAd K ("play", none), "play", "play", defArgs s_play, defBody s_play, defScope s_play, [], []⟩
def d_is_repair : He5.DefA := ⟨fun K => He.fAd K ("is_repair", none), "is_repair", "is_repair", defArgs s_is_repair, defBody s_is_repair, defScope s_is_repair, [], []⟩
def d_is_least_repair : He5.DefA := ⟨fun K => He.fAd K ("is_least_repair", none), "is_least_repair", "is_least_repair", defArgs s_is_least_repair, defBody s_is_least_repair, defScope s_is_least_repair, [], []⟩
def d__law_judged : He5.DefA := ⟨fun K => He.fAd K ("_law_judged", none), "_law_judged", "_law_judged", defArgs s__law_judged, defBody s__law_judged, defScope s__law_judged, [], []⟩
def d_Links_apply : He5.DefA := ⟨fun K => He.fAd K ("Links", some "apply"), "apply", "Links.apply", defArgs s_Links_apply, defBody s_Links_apply, defScope s_Links_apply, [], []⟩
def d__law_number : He5.DefA := ⟨fun K => He.fAd K ("_law_number", none), "_law_number", "_law_number", defArgs s__law_number, defBody s__law_number, defScope s__law_number, [], []⟩
def d__law_fits : He5.DefA := ⟨fun K => He.fAd K ("_law_fits", none), "_law_fits", "_law_fits", defArgs s__law_fits, defBody s__law_fits, defScope s__law_fits, [], []⟩
def d__law_lost : He5.DefA := ⟨fun K => He.fAd K ("_law_lost", none), "_law_lost", "_law_lost", defArgs s__law_lost, defBody s__law_lost, defScope s__law_lost, [], []⟩
def d__law_told : He5.DefA := ⟨fun K => He.fAd K ("_law_told", none), "_law_told", "_law_told", defArgs s__law_told, defBody s__law_told, defScope s__law_told, [], []⟩
def d__law_led : He5.DefA := ⟨fun K => He.fAd K ("_law_led", none), "_law_led", "_law_led", defArgs s__law_led, defBody s__law_led, defScope s__law_led, [], []⟩
def d__law_lowers : He5.DefA := ⟨fun K => He.fAd K ("_law_lowers", none), "_law_lowers", "_law_lowers", defArgs s__law_lowers, defBody s__law_lowers, defScope s__law_lowers, [], []⟩
def d__law_log : He5.DefA := ⟨fun K => He.fAd K ("_law_log", none), "_law_log", "_law_log", defArgs s__law_log, defBody s__law_log, defScope s__law_log, [], []⟩
def d__law_key : He5.DefA := ⟨fun K => He.fAd K ("_law_key", none), "_law_key", "_law_key", defArgs s__law_key, defBody s__law_key, defScope s__law_key, [], []⟩
def d__law_distance : He5.DefA := ⟨fun K => He.fAd K ("_law_distance", none), "_law_distance", "_law_distance", defArgs s__law_distance, defBody s__law_distance, defScope s__law_distance, [], []⟩
def d__law_numbers : He5.DefA := ⟨fun K => He.fAd K ("_law_numbers", none), "_law_numbers", "_law_numbers", defArgs s__law_numbers, defBody s__law_numbers, defScope s__law_numbers, [], []⟩
def d_foreign_writes : He5.DefA := ⟨fun K => He.fAd K ("foreign_writes", none), "foreign_writes", "foreign_writes", defArgs s_foreign_writes, defBody s_foreign_writes, defScope s_foreign_writes, [], []⟩
def d_left_to : He5.DefA := ⟨fun K => He.fAd K ("left_to", none), "left_to", "left_to", defArgs s_left_to, defBody s_left_to, defScope s_left_to, [], []⟩
def d__spoils_nothing : He5.DefA := ⟨fun K => He.fAd K ("_spoils_nothing", none), "_spoils_nothing", "_spoils_nothing", defArgs s__spoils_nothing, defBody s__spoils_nothing, defScope s__spoils_nothing, [], []⟩
def d__steps : He5.DefA := ⟨fun K => He.fAd K ("_steps", none), "_steps", "_steps", defArgs s__steps, defBody s__steps, defScope s__steps, [], []⟩
def d__still_due : He5.DefA := ⟨fun K => He.fAd K ("_still_due", none), "_still_due", "_still_due", defArgs s__still_due, defBody s__still_due, defScope s__still_due, [], []⟩
def d_repairs : He5.DefA := ⟨fun K => He.fAd K ("repairs", none), "repairs", "repairs", defArgs s_repairs, defBody s_repairs, defScope s_repairs, [], [("most", .int 20)]⟩
def d_first_repair : He5.DefA := ⟨fun K => He.fAd K ("first_repair", none), "first_repair", "first_repair", defArgs s_first_repair, defBody s_first_repair, defScope s_first_repair, [], []⟩
def d__law_searched : He5.DefA := ⟨fun K => He.fAd K ("_law_searched", none), "_law_searched", "_law_searched", defArgs s__law_searched, defBody s__law_searched, defScope s__law_searched, [], []⟩
def d__law_size : He5.DefA := ⟨fun K => He.fAd K ("_law_size", none), "_law_size", "_law_size", defArgs s__law_size, defBody s__law_size, defScope s__law_size, [], []⟩
def d__law_standing : He5.DefA := ⟨fun K => He.fAd K ("_law_standing", none), "_law_standing", "_law_standing", defArgs s__law_standing, defBody s__law_standing, defScope s__law_standing, [], []⟩
def d_law : He5.DefA := ⟨fun K => He.fAd K ("law", none), "law", "law", defArgs s_law, defBody s_law, defScope s_law, [], []⟩
def d_BadCount___init__ : He5.DefA := ⟨fun K => He.fAd K ("BadCount", some "__init__"), "__init__", "BadCount.__init__", defArgs s_BadCount___init__, defBody s_BadCount___init__, defScope s_BadCount___init__, [], []⟩
def d_BadDump___init__ : He5.DefA := ⟨fun K => He.fAd K ("BadDump", some "__init__"), "__init__", "BadDump.__init__", defArgs s_BadDump___init__, defBody s_BadDump___init__, defScope s_BadDump___init__, [], []⟩
def d_BadGap___init__ : He5.DefA := ⟨fun K => He.fAd K ("BadGap", some "__init__"), "__init__", "BadGap.__init__", defArgs s_BadGap___init__, defBody s_BadGap___init__, defScope s_BadGap___init__, [], []⟩
def d_BadNode___init__ : He5.DefA := ⟨fun K => He.fAd K ("BadNode", some "__init__"), "__init__", "BadNode.__init__", defArgs s_BadNode___init__, defBody s_BadNode___init__, defScope s_BadNode___init__, [], []⟩
def d_BadSize___init__ : He5.DefA := ⟨fun K => He.fAd K ("BadSize", some "__init__"), "__init__", "BadSize.__init__", defArgs s_BadSize___init__, defBody s_BadSize___init__, defScope s_BadSize___init__, [], []⟩
def d_BadWeights___init__ : He5.DefA := ⟨fun K => He.fAd K ("BadWeights", some "__init__"), "__init__", "BadWeights.__init__", defArgs s_BadWeights___init__, defBody s_BadWeights___init__, defScope s_BadWeights___init__, [], []⟩
def d_LogError___init__ : He5.DefA := ⟨fun K => He.fAd K ("LogError", some "__init__"), "__init__", "LogError.__init__", defArgs s_LogError___init__, defBody s_LogError___init__, defScope s_LogError___init__, [], []⟩
def d_NotRepairable___init__ : He5.DefA := ⟨fun K => He.fAd K ("NotRepairable", some "__init__"), "__init__", "NotRepairable.__init__", defArgs s_NotRepairable___init__, defBody s_NotRepairable___init__, defScope s_NotRepairable___init__, [], []⟩
def fnL : List He5.DefA := [d__law_bag, d__law_draw, d_check_size, d_Links___init__, d_is_positive, d__read_numbers, d__read_lefts, d__read_outs, d__read_rights, d_Links_read, d__law_copy, d__law_dump, d__law_is_whole, d__law_operation, d__law_step, d__law_ends_whole, d__law_is_due, d__law_due, d__law_owed, d_Links_is_out, d_Links_left, d_Links_right, d_check_gap, d_gap_state, d_gap_states, d_lost_gaps, d_check_repairable, d_Links_outs, d_sole_holders, d_due_nodes, d_repair_cost, d_debt_of, d_Links___eq__, d_Links_is_whole, d_Links_is_legal, d_check_operation, d_Links_check, d_Links_apply_at, d_Links_copy, d_play, d_is_repair, d_is_least_repair, d__law_judged, d_Links_apply, d__law_number, d__law_fits, d__law_lost, d__law_told, d__law_led, d__law_lowers, d__law_log, d__law_key, d__law_distance, d__law_numbers, d_foreign_writes, d_left_to, d__spoils_nothing, d__steps, d__still_due, d_repairs, d_first_repair, d__law_searched, d__law_size, d__law_standing, d_law, d_BadCount___init__, d_BadDump___init__, d_BadGap___init__, d_BadNode___init__, d_BadSize___init__, d_BadWeights___init__, d_LogError___init__, d_NotRepairable___init__]
def fsL : List DefS := []
def chkL : List Chk := [fa_ (.glo "LinkError"),
  fa_ (.glo "LogError"),
  fa_ (.glo "BadOperation"),
  fa_ (.glo "Illegal"),
  fa_ (.glo "BadSize"),
  fa_ (.glo "BadNode"),
  fa_ (.glo "BadGap"),
  fa_ (.glo "BadDump"),
  fa_ (.glo "BadCount"),
  fa_ (.glo "BadWeights"),
  fa_ (.glo "NotRepairable"),
  fa_ (.glo "Links"),
  fa_ (.glo "_law_bag"),
  fa_ (.glo "_law_draw"),
  fa_ (.glo "check_size"),
  fa_ (.glo "is_positive"),
  fa_ (.glo "_read_numbers"),
  fa_ (.glo "_read_lefts"),
  fa_ (.glo "_read_outs"),
  fa_ (.glo "_read_rights"),
  fa_ (.glo "_law_copy"),
  fa_ (.glo "_law_dump"),
  fa_ (.glo "_law_is_whole"),
  fa_ (.glo "_law_operation"),
  fa_ (.glo "_law_step"),
  fa_ (.glo "_law_ends_whole"),
  fa_ (.glo "_law_is_due"),
  fa_ (.glo "_law_due"),
  fa_ (.glo "_law_owed"),
  fa_ (.glo "check_gap"),
  fa_ (.glo "gap_state"),
  fa_ (.glo "gap_states"),
  fa_ (.glo "lost_gaps"),
  fa_ (.glo "check_repairable"),
  fa_ (.glo "sole_holders"),
  fa_ (.glo "due_nodes"),
  fa_ (.glo "repair_cost"),
  fa_ (.glo "debt_of"),
  fa_ (.glo "check_operation"),
  fa_ (.glo "play"),
  fa_ (.glo "is_repair"),
  fa_ (.glo "is_least_repair"),
  fa_ (.glo "_law_judged"),
  fa_ (.glo "_law_number"),
  fa_ (.glo "_law_fits"),
  fa_ (.glo "_law_lost"),
  fa_ (.glo "_law_told"),
  fa_ (.glo "_law_led"),
  fa_ (.glo "_law_lowers"),
  fa_ (.glo "_law_log"),
  fa_ (.glo "_law_key"),
  fa_ (.glo "_law_distance"),
  fa_ (.glo "_law_numbers"),
  fa_ (.glo "foreign_writes"),
  fa_ (.glo "left_to"),
  fa_ (.glo "_spoils_nothing"),
  fa_ (.glo "_steps"),
  fa_ (.glo "_still_due"),
  fa_ (.glo "repairs"),
  fa_ (.glo "first_repair"),
  fa_ (.glo "_law_searched"),
  fa_ (.glo "_law_size"),
  fa_ (.glo "_law_standing"),
  fa_ (.glo "law"),
  fa_ (.free "ValueError"),
  fa_ (.free "abs"),
  fa_ (.free "all"),
  fa_ (.free "any"),
  fa_ (.free "bool"),
  fa_ (.free "enumerate"),
  fa_ (.free "int"),
  fa_ (.free "isinstance"),
  fa_ (.free "len"),
  fa_ (.free "list"),
  fa_ (.free "range"),
  fa_ (.free "reversed"),
  fa_ (.free "set"),
  fa_ (.free "sorted"),
  fa_ (.free "str"),
  fa_ (.free "sum"),
  fa_ (.free "tuple"),
  fa_ (.free "zip"),
  fa_ (.str "DIGITS" "0123456789"),
  fa_ (.int "MOST_DIGITS" 9),
  ccB "Links" "MOST" 60,
  fa_ (.cls "Links"),
  tyB "Links",
  fa_ (.noat "Links" "_lefts"),
  fa_ (.noat "Links" "_out"),
  fa_ (.noat "Links" "_rights"),
  fa_ (.noat "Links" "size"),
  fa_ (.mkr "Links"),
  smB "Links" "read",
  fa_ (.meth "Links" "is_out"),
  fa_ (.meth "Links" "left"),
  fa_ (.meth "Links" "right"),
  fa_ (.meth "Links" "outs"),
  fa_ (.meth "Links" "__eq__"),
  fa_ (.meth "Links" "is_whole"),
  fa_ (.meth "Links" "is_legal"),
  fa_ (.meth "Links" "check"),
  fa_ (.meth "Links" "apply_at"),
  fa_ (.meth "Links" "copy"),
  fa_ (.meth "Links" "apply"),
  askB "BadCount",
  askB "BadDump",
  askB "BadGap",
  askB "BadNode",
  askB "BadOperation",
  askB "BadSize",
  askB "BadWeights",
  askB "Illegal",
  askB "LinkError",
  askB "LogError",
  askB "NotRepairable",
  excB "BadCount" ["count"],
  iniB "BadCount",
  kitB2 "BadCount" "BadCount" true,
  kitB2 "BadCount" "BadDump" false,
  kitB2 "BadCount" "BadGap" false,
  kitB2 "BadCount" "BadNode" false,
  kitB2 "BadCount" "BadOperation" false,
  kitB2 "BadCount" "BadSize" false,
  kitB2 "BadCount" "BadWeights" false,
  kitB2 "BadCount" "Illegal" false,
  kitB2 "BadCount" "LinkError" true,
  kitB2 "BadCount" "LogError" false,
  exmB "BadCount" "LogError" false,
  kitB2 "BadCount" "NotRepairable" false,
  exmB "BadCount" "NotRepairable" false,
  kitT2 "BadCount" "ValueError" true,
  excB "BadDump" ["part"],
  iniB "BadDump",
  kitB2 "BadDump" "BadCount" false,
  kitB2 "BadDump" "BadDump" true,
  kitB2 "BadDump" "BadGap" false,
  kitB2 "BadDump" "BadNode" false,
  kitB2 "BadDump" "BadOperation" false,
  kitB2 "BadDump" "BadSize" false,
  kitB2 "BadDump" "BadWeights" false,
  kitB2 "BadDump" "Illegal" false,
  kitB2 "BadDump" "LinkError" true,
  kitB2 "BadDump" "LogError" false,
  exmB "BadDump" "LogError" false,
  kitB2 "BadDump" "NotRepairable" false,
  exmB "BadDump" "NotRepairable" false,
  kitT2 "BadDump" "ValueError" true,
  excB "BadGap" ["gap"],
  iniB "BadGap",
  kitB2 "BadGap" "BadCount" false,
  kitB2 "BadGap" "BadDump" false,
  kitB2 "BadGap" "BadGap" true,
  kitB2 "BadGap" "BadNode" false,
  kitB2 "BadGap" "BadOperation" false,
  kitB2 "BadGap" "BadSize" false,
  kitB2 "BadGap" "BadWeights" false,
  kitB2 "BadGap" "Illegal" false,
  kitB2 "BadGap" "LinkError" true,
  kitB2 "BadGap" "LogError" false,
  exmB "BadGap" "LogError" false,
  kitB2 "BadGap" "NotRepairable" false,
  exmB "BadGap" "NotRepairable" false,
  kitT2 "BadGap" "ValueError" true,
  excB "BadNode" ["node"],
  iniB "BadNode",
  kitB2 "BadNode" "BadCount" false,
  kitB2 "BadNode" "BadDump" false,
  kitB2 "BadNode" "BadGap" false,
  kitB2 "BadNode" "BadNode" true,
  kitB2 "BadNode" "BadOperation" false,
  kitB2 "BadNode" "BadSize" false,
  kitB2 "BadNode" "BadWeights" false,
  kitB2 "BadNode" "Illegal" false,
  kitB2 "BadNode" "LinkError" true,
  kitB2 "BadNode" "LogError" false,
  exmB "BadNode" "LogError" false,
  kitB2 "BadNode" "NotRepairable" false,
  exmB "BadNode" "NotRepairable" false,
  kitT2 "BadNode" "ValueError" true,
  excB "BadOperation" ["operation", "index"],
  iniB "BadOperation",
  (fun K => decide (He.ma K (He.ga K "BadOperation") "__init__" = He.ma K (He.ga K "LogError") "__init__")),
  kitB2 "BadOperation" "BadCount" false,
  kitB2 "BadOperation" "BadDump" false,
  kitB2 "BadOperation" "BadGap" false,
  kitB2 "BadOperation" "BadNode" false,
  kitB2 "BadOperation" "BadOperation" true,
  kitB2 "BadOperation" "BadSize" false,
  kitB2 "BadOperation" "BadWeights" false,
  kitB2 "BadOperation" "Illegal" false,
  kitB2 "BadOperation" "LinkError" true,
  kitB2 "BadOperation" "LogError" true,
  exmB "BadOperation" "LogError" true,
  kitB2 "BadOperation" "NotRepairable" false,
  exmB "BadOperation" "NotRepairable" false,
  kitT2 "BadOperation" "ValueError" true,
  excB "BadSize" ["size"],
  iniB "BadSize",
  kitB2 "BadSize" "BadCount" false,
  kitB2 "BadSize" "BadDump" false,
  kitB2 "BadSize" "BadGap" false,
  kitB2 "BadSize" "BadNode" false,
  kitB2 "BadSize" "BadOperation" false,
  kitB2 "BadSize" "BadSize" true,
  kitB2 "BadSize" "BadWeights" false,
  kitB2 "BadSize" "Illegal" false,
  kitB2 "BadSize" "LinkError" true,
  kitB2 "BadSize" "LogError" false,
  exmB "BadSize" "LogError" false,
  kitB2 "BadSize" "NotRepairable" false,
  exmB "BadSize" "NotRepairable" false,
  kitT2 "BadSize" "ValueError" true,
  excB "BadWeights" ["count"],
  iniB "BadWeights",
  kitB2 "BadWeights" "BadCount" false,
  kitB2 "BadWeights" "BadDump" false,
  kitB2 "BadWeights" "BadGap" false,
  kitB2 "BadWeights" "BadNode" false,
  kitB2 "BadWeights" "BadOperation" false,
  kitB2 "BadWeights" "BadSize" false,
  kitB2 "BadWeights" "BadWeights" true,
  kitB2 "BadWeights" "Illegal" false,
  kitB2 "BadWeights" "LinkError" true,
  kitB2 "BadWeights" "LogError" false,
  exmB "BadWeights" "LogError" false,
  kitB2 "BadWeights" "NotRepairable" false,
  exmB "BadWeights" "NotRepairable" false,
  kitT2 "BadWeights" "ValueError" true,
  excB "Illegal" ["operation", "index"],
  iniB "Illegal",
  (fun K => decide (He.ma K (He.ga K "Illegal") "__init__" = He.ma K (He.ga K "LogError") "__init__")),
  kitB2 "Illegal" "BadCount" false,
  kitB2 "Illegal" "BadDump" false,
  kitB2 "Illegal" "BadGap" false,
  kitB2 "Illegal" "BadNode" false,
  kitB2 "Illegal" "BadOperation" false,
  kitB2 "Illegal" "BadSize" false,
  kitB2 "Illegal" "BadWeights" false,
  kitB2 "Illegal" "Illegal" true,
  kitB2 "Illegal" "LinkError" true,
  kitB2 "Illegal" "LogError" true,
  exmB "Illegal" "LogError" true,
  kitB2 "Illegal" "NotRepairable" false,
  exmB "Illegal" "NotRepairable" false,
  kitT2 "Illegal" "ValueError" true,
  excB "NotRepairable" ["gap"],
  iniB "NotRepairable",
  kitB2 "NotRepairable" "BadCount" false,
  kitB2 "NotRepairable" "BadDump" false,
  kitB2 "NotRepairable" "BadGap" false,
  kitB2 "NotRepairable" "BadNode" false,
  kitB2 "NotRepairable" "BadOperation" false,
  kitB2 "NotRepairable" "BadSize" false,
  kitB2 "NotRepairable" "BadWeights" false,
  kitB2 "NotRepairable" "Illegal" false,
  kitB2 "NotRepairable" "LinkError" true,
  kitB2 "NotRepairable" "LogError" false,
  exmB "NotRepairable" "LogError" false,
  kitB2 "NotRepairable" "NotRepairable" true,
  exmB "NotRepairable" "NotRepairable" true,
  kitT2 "NotRepairable" "ValueError" true]
abbrev R : PySem.W.OpenRow := PySem.W.OpenLaw.row PySem.Challenge.rw_latelink_k18_whole_no_repair_is_shorter
def adL : List Addr := [2, 3, 30, 31, 47, 48, 50, 51, 62, 63, 74, 75, 90, 91, 93, 94, 109, 110, 112, 113, 128, 129, 131, 132, 147, 148, 150, 151, 166, 167, 169, 170, 185, 186, 188, 189, 204, 205, 207, 208, 223, 224, 230, 231, 233, 254, 255, 268, 269, 275, 276, 282, 283, 287, 288, 294, 295, 301, 302, 308, 309, 315, 316, 343, 344, 350, 351, 367, 368, 378, 379, 385, 386, 390, 391, 407, 408, 412, 413, 417, 418, 422, 423, 429, 430, 436, 437, 441, 442, 446, 447, 453, 454, 460, 461, 467, 468, 474, 475, 481, 482, 488, 489, 493, 494, 500, 501, 507, 508, 509, 515, 516, 522, 523, 529, 530, 534, 535, 541, 542, 546, 547, 553, 554, 560, 561, 567, 568, 572, 573, 577, 578, 584, 585, 591, 592, 598, 599, 605, 606, 610, 611, 617, 618, 622, 623, 627, 628, 634, 635, 641, 642, 646, 647, 653, 654, 658, 659, 665, 666, 672, 673, 679, 680, 686, 687, 691, 692, 698, 699, 705, 706, 712, 713]
abbrev hk : PySem.W.Hook := hookSL adL chkL fnL fsL
def ob (s : PySem.W.SharedT) : He.AlD := obsSL adL chkL fnL fsL (HandSHeadRun.getT s)
theorem ob_eq (s : PySem.W.SharedT) : ob s = hk.obs s.abs := obsSL_eq (HandSHeadRun.getT_eq s)
def loose0 : List Str := ["_wall", "__name__", "LinkError", "LogError", "BadOperation", "Illegal", "BadSize", "BadNode", "BadGap", "BadDump", "BadCount", "BadWeights", "NotRepairable", "DIGITS", "MOST_DIGITS", "Links", "check_size", "check_operation", "is_positive", "dump_of"]
def loose1 : List Str := ["_joined", "_read_numbers", "_read_rights", "_read_lefts", "_read_outs", "play", "gap_state", "gap_states", "lost_gaps", "sole_holders", "foreign_writes", "left_to", "check_gap", "due_nodes", "debt_of", "repair_cost", "check_repairable", "first_repair", "repairs", "is_repair"]
def loose2 : List Str := ["is_least_repair", "_steps", "_spoils_nothing", "_still_due", "_law_bag", "_law_draw", "_law_size", "_law_standing", "_law_dump", "_law_copy", "_law_step", "_law_operation", "_law_is_whole", "_law_lost", "_law_is_due", "_law_due", "_law_owed", "_law_lowers", "_law_number", "_law_numbers"]
def loose3 : List Str := ["_law_key", "_law_distance", "_law_told", "_law_fits", "_law_ends_whole", "_law_searched", "_law_log", "_law_led", "_law_judged"]
def loose : List Str := loose0 ++ loose1 ++ loose2 ++ loose3
set_option maxHeartbeats 0 in
theorem run (w : World) : HandSHeadRun.RunEq R (PySem.W.view R.prog [75]) hk ob 8000 loose w := by
  intro os
  kernel_rfl
/-- what the top has written -/
structure Txt (K : PySem.W.Frag) (mg : Str → Option Value) : Prop where
  g_LinkError : mg "LinkError" = some (.ref (He.ga K "LinkError"))
  g_LogError : mg "LogError" = some (.ref (He.ga K "LogError"))
  g_BadOperation : mg "BadOperation" = some (.ref (He.ga K "BadOperation"))
  g_Illegal : mg "Illegal" = some (.ref (He.ga K "Illegal"))
  g_BadSize : mg "BadSize" = some (.ref (He.ga K "BadSize"))
  g_BadNode : mg "BadNode" = some (.ref (He.ga K "BadNode"))
  g_BadGap : mg "BadGap" = some (.ref (He.ga K "BadGap"))
  g_BadDump : mg "BadDump" = some (.ref (He.ga K "BadDump"))
  g_BadCount : mg "BadCount" = some (.ref (He.ga K "BadCount"))
  g_BadWeights : mg "BadWeights" = some (.ref (He.ga K "BadWeights"))
  g_NotRepairable : mg "NotRepairable" = some (.ref (He.ga K "NotRepairable"))
  g_Links : mg "Links" = some (.ref (He.ga K "Links"))
  gf__law_bag : mg "_law_bag" = some (.ref (He.ga K "_law_bag"))
  gf__law_draw : mg "_law_draw" = some (.ref (He.ga K "_law_draw"))
  gf_check_size : mg "check_size" = some (.ref (He.ga K "check_size"))
  gf_is_positive : mg "is_positive" = some (.ref (He.ga K "is_positive"))
  gf__read_numbers : mg "_read_numbers" = some (.ref (He.ga K "_read_numbers"))
  gf__read_lefts : mg "_read_lefts" = some (.ref (He.ga K "_read_lefts"))
  gf__read_outs : mg "_read_outs" = some (.ref (He.ga K "_read_outs"))
  gf__read_rights : mg "_read_rights" = some (.ref (He.ga K "_read_rights"))
  gf__law_copy : mg "_law_copy" = some (.ref (He.ga K "_law_copy"))
  gf__law_dump : mg "_law_dump" = some (.ref (He.ga K "_law_dump"))
  gf__law_is_whole : mg "_law_is_whole" = some (.ref (He.ga K "_law_is_whole"))
  gf__law_operation : mg "_law_operation" = some (.ref (He.ga K "_law_operation"))
  gf__law_step : mg "_law_step" = some (.ref (He.ga K "_law_step"))
  gf__law_ends_whole : mg "_law_ends_whole" = some (.ref (He.ga K "_law_ends_whole"))
  gf__law_is_due : mg "_law_is_due" = some (.ref (He.ga K "_law_is_due"))
  gf__law_due : mg "_law_due" = some (.ref (He.ga K "_law_due"))
  gf__law_owed : mg "_law_owed" = some (.ref (He.ga K "_law_owed"))
  gf_check_gap : mg "check_gap" = some (.ref (He.ga K "check_gap"))
  gf_gap_state : mg "gap_state" = some (.ref (He.ga K "gap_state"))
  gf_gap_states : mg "gap_states" = some (.ref (He.ga K "gap_states"))
  gf_lost_gaps : mg "lost_gaps" = some (.ref (He.ga K "lost_gaps"))
  gf_check_repairable : mg "check_repairable" = some (.ref (He.ga K "check_repairable"))
  gf_sole_holders : mg "sole_holders" = some (.ref (He.ga K "sole_holders"))
  gf_due_nodes : mg "due_nodes" = some (.ref (He.ga K "due_nodes"))
  gf_repair_cost : mg "repair_cost" = some (.ref (He.ga K "repair_cost"))
  gf_debt_of : mg "debt_of" = some (.ref (He.ga K "debt_of"))
  gf_check_operation : mg "check_operation" = some (.ref (He.ga K "check_operation"))
  gf_play : mg "play" = some (.ref (He.ga K "play"))
  gf_is_repair : mg "is_repair" = some (.ref (He.ga K "is_repair"))
  gf_is_least_repair : mg "is_least_repair" = some (.ref (He.ga K "is_least_repair"))
  gf__law_judged : mg "_law_judged" = some (.ref (He.ga K "_law_judged"))
  gf__law_number : mg "_law_number" = some (.ref (He.ga K "_law_number"))
  gf__law_fits : mg "_law_fits" = some (.ref (He.ga K "_law_fits"))
  gf__law_lost : mg "_law_lost" = some (.ref (He.ga K "_law_lost"))
  gf__law_told : mg "_law_told" = some (.ref (He.ga K "_law_told"))
  gf__law_led : mg "_law_led" = some (.ref (He.ga K "_law_led"))
  gf__law_lowers : mg "_law_lowers" = some (.ref (He.ga K "_law_lowers"))
  gf__law_log : mg "_law_log" = some (.ref (He.ga K "_law_log"))
  gf__law_key : mg "_law_key" = some (.ref (He.ga K "_law_key"))
  gf__law_distance : mg "_law_distance" = some (.ref (He.ga K "_law_distance"))
  gf__law_numbers : mg "_law_numbers" = some (.ref (He.ga K "_law_numbers"))
  gf_foreign_writes : mg "foreign_writes" = some (.ref (He.ga K "foreign_writes"))
  gf_left_to : mg "left_to" = some (.ref (He.ga K "left_to"))
  gf__spoils_nothing : mg "_spoils_nothing" = some (.ref (He.ga K "_spoils_nothing"))
  gf__steps : mg "_steps" = some (.ref (He.ga K "_steps"))
  gf__still_due : mg "_still_due" = some (.ref (He.ga K "_still_due"))
  gf_repairs : mg "repairs" = some (.ref (He.ga K "repairs"))
  gf_first_repair : mg "first_repair" = some (.ref (He.ga K "first_repair"))
  gf__law_searched : mg "_law_searched" = some (.ref (He.ga K "_law_searched"))
  gf__law_size : mg "_law_size" = some (.ref (He.ga K "_law_size"))
  gf__law_standing : mg "_law_standing" = some (.ref (He.ga K "_law_standing"))
  gf_law : mg "law" = some (.ref (He.ga K "law"))
  b_ValueError : mg "ValueError" = none
  b_abs : mg "abs" = none
  b_all : mg "all" = none
  b_any : mg "any" = none
  b_bool : mg "bool" = none
  b_enumerate : mg "enumerate" = none
  b_int : mg "int" = none
  b_isinstance : mg "isinstance" = none
  b_len : mg "len" = none
  b_list : mg "list" = none
  b_range : mg "range" = none
  b_reversed : mg "reversed" = none
  b_set : mg "set" = none
  b_sorted : mg "sorted" = none
  b_str : mg "str" = none
  b_sum : mg "sum" = none
  b_tuple : mg "tuple" = none
  b_zip : mg "zip" = none
  k_DIGITS : ∃ t, mg "DIGITS" = some (.str "0123456789" t)
  k_MOST_DIGITS : ∃ t, mg "MOST_DIGITS" = some (.int 9 t)
  cc_Links_MOST : ∃ mc u, ClX.CRead K (He.ga K "Links") mc ∧ ClX.CVal K (He.ga K "Links") mc "MOST" (.int 60) u
  cl_Links : Cls K (He.ga K "Links")
  ty_Links : PySem.W.findIn K (.ref (He.ga K "Links")) "__class__" = some (some (.builtin "object.__class__")) ∧ PySem.W.mroIn K (He.ga K "Links") (.type "object") = some true
  na_Links__lefts : NoAttr K (He.ga K "Links") "_lefts"
  na_Links__out : NoAttr K (He.ga K "Links") "_out"
  na_Links__rights : NoAttr K (He.ga K "Links") "_rights"
  na_Links_size : NoAttr K (He.ga K "Links") "size"
  mk_Links : Mk K (He.ga K "Links") (He.ma K (He.ga K "Links") "__init__")
  sm_Links_read : ClX.CRead K (He.ga K "Links") (.type "type") ∧ ∃ (p : Addr) (rest : List Value), PySem.W.findCls K (.ref (He.ga K "Links")) (.type "type") "read" = some (.get (.builtin "staticmethod.__get__") (.ref p) .none (.ref (He.ga K "Links"))) ∧ PySem.W.recIn K p "staticmethod" = some (.ref (He5.wf K (He.ga K "Links") "staticmethod" "read") :: rest)
  me_Links_is_out : Meth K (He.ga K "Links") "is_out" (He.ma K (He.ga K "Links") "is_out")
  me_Links_left : Meth K (He.ga K "Links") "left" (He.ma K (He.ga K "Links") "left")
  me_Links_right : Meth K (He.ga K "Links") "right" (He.ma K (He.ga K "Links") "right")
  me_Links_outs : Meth K (He.ga K "Links") "outs" (He.ma K (He.ga K "Links") "outs")
  me_Links___eq__ : Meth K (He.ga K "Links") "__eq__" (He.ma K (He.ga K "Links") "__eq__")
  me_Links_is_whole : Meth K (He.ga K "Links") "is_whole" (He.ma K (He.ga K "Links") "is_whole")
  me_Links_is_legal : Meth K (He.ga K "Links") "is_legal" (He.ma K (He.ga K "Links") "is_legal")
  me_Links_check : Meth K (He.ga K "Links") "check" (He.ma K (He.ga K "Links") "check")
  me_Links_apply_at : Meth K (He.ga K "Links") "apply_at" (He.ma K (He.ga K "Links") "apply_at")
  me_Links_copy : Meth K (He.ga K "Links") "copy" (He.ma K (He.ga K "Links") "copy")
  me_Links_apply : Meth K (He.ga K "Links") "apply" (He.ma K (He.ga K "Links") "apply")
  ex_BadCount : ExK K (He.ga K "BadCount")
  ex_BadDump : ExK K (He.ga K "BadDump")
  ex_BadGap : ExK K (He.ga K "BadGap")
  ex_BadNode : ExK K (He.ga K "BadNode")
  ex_BadOperation : ExK K (He.ga K "BadOperation")
  ex_BadSize : ExK K (He.ga K "BadSize")
  ex_BadWeights : ExK K (He.ga K "BadWeights")
  ex_Illegal : ExK K (He.ga K "Illegal")
  ex_LinkError : ExK K (He.ga K "LinkError")
  ex_LogError : ExK K (He.ga K "LogError")
  ex_NotRepairable : ExK K (He.ga K "NotRepairable")
  oe_BadCount : OexC K (He.ga K "BadCount") ∧ ∀ f ∈ (["count"] : List Str), PySem.W.findIn K (.ref (He.ga K "BadCount")) f = some none
  in_BadCount : PySem.W.findIn K (.ref (He.ga K "BadCount")) "__init__" = some (some (.ref (He.ma K (He.ga K "BadCount") "__init__"))) ∧ PySem.W.typeIn K (.ref (He.ma K (He.ga K "BadCount") "__init__")) = some (.type "function")
  kit_BadCount_BadCount : PySem.W.kitOne K (.ref (He.ga K "BadCount")) (.ref (He.ga K "BadCount")) = some true
  kit_BadCount_BadDump : PySem.W.kitOne K (.ref (He.ga K "BadCount")) (.ref (He.ga K "BadDump")) = some false
  kit_BadCount_BadGap : PySem.W.kitOne K (.ref (He.ga K "BadCount")) (.ref (He.ga K "BadGap")) = some false
  kit_BadCount_BadNode : PySem.W.kitOne K (.ref (He.ga K "BadCount")) (.ref (He.ga K "BadNode")) = some false
  kit_BadCount_BadOperation : PySem.W.kitOne K (.ref (He.ga K "BadCount")) (.ref (He.ga K "BadOperation")) = some false
  kit_BadCount_BadSize : PySem.W.kitOne K (.ref (He.ga K "BadCount")) (.ref (He.ga K "BadSize")) = some false
  kit_BadCount_BadWeights : PySem.W.kitOne K (.ref (He.ga K "BadCount")) (.ref (He.ga K "BadWeights")) = some false
  kit_BadCount_Illegal : PySem.W.kitOne K (.ref (He.ga K "BadCount")) (.ref (He.ga K "Illegal")) = some false
  kit_BadCount_LinkError : PySem.W.kitOne K (.ref (He.ga K "BadCount")) (.ref (He.ga K "LinkError")) = some true
  kit_BadCount_LogError : PySem.W.kitOne K (.ref (He.ga K "BadCount")) (.ref (He.ga K "LogError")) = some false
  exm_BadCount_LogError : PySem.W.exmOne K (.ref (He.ga K "BadCount")) (.ref (He.ga K "LogError")) = some false
  kit_BadCount_NotRepairable : PySem.W.kitOne K (.ref (He.ga K "BadCount")) (.ref (He.ga K "NotRepairable")) = some false
  exm_BadCount_NotRepairable : PySem.W.exmOne K (.ref (He.ga K "BadCount")) (.ref (He.ga K "NotRepairable")) = some false
  kit_BadCount_ValueError : PySem.W.kitOne K (.ref (He.ga K "BadCount")) (.type "ValueError") = some true
  oe_BadDump : OexC K (He.ga K "BadDump") ∧ ∀ f ∈ (["part"] : List Str), PySem.W.findIn K (.ref (He.ga K "BadDump")) f = some none
  in_BadDump : PySem.W.findIn K (.ref (He.ga K "BadDump")) "__init__" = some (some (.ref (He.ma K (He.ga K "BadDump") "__init__"))) ∧ PySem.W.typeIn K (.ref (He.ma K (He.ga K "BadDump") "__init__")) = some (.type "function")
  kit_BadDump_BadCount : PySem.W.kitOne K (.ref (He.ga K "BadDump")) (.ref (He.ga K "BadCount")) = some false
  kit_BadDump_BadDump : PySem.W.kitOne K (.ref (He.ga K "BadDump")) (.ref (He.ga K "BadDump")) = some true
  kit_BadDump_BadGap : PySem.W.kitOne K (.ref (He.ga K "BadDump")) (.ref (He.ga K "BadGap")) = some false
  kit_BadDump_BadNode : PySem.W.kitOne K (.ref (He.ga K "BadDump")) (.ref (He.ga K "BadNode")) = some false
  kit_BadDump_BadOperation : PySem.W.kitOne K (.ref (He.ga K "BadDump")) (.ref (He.ga K "BadOperation")) = some false
  kit_BadDump_BadSize : PySem.W.kitOne K (.ref (He.ga K "BadDump")) (.ref (He.ga K "BadSize")) = some false
  kit_BadDump_BadWeights : PySem.W.kitOne K (.ref (He.ga K "BadDump")) (.ref (He.ga K "BadWeights")) = some false
  kit_BadDump_Illegal : PySem.W.kitOne K (.ref (He.ga K "BadDump")) (.ref (He.ga K "Illegal")) = some false
  kit_BadDump_LinkError : PySem.W.kitOne K (.ref (He.ga K "BadDump")) (.ref (He.ga K "LinkError")) = some true
  kit_BadDump_LogError : PySem.W.kitOne K (.ref (He.ga K "BadDump")) (.ref (He.ga K "LogError")) = some false
  exm_BadDump_LogError : PySem.W.exmOne K (.ref (He.ga K "BadDump")) (.ref (He.ga K "LogError")) = some false
  kit_BadDump_NotRepairable : PySem.W.kitOne K (.ref (He.ga K "BadDump")) (.ref (He.ga K "NotRepairable")) = some false
  exm_BadDump_NotRepairable : PySem.W.exmOne K (.ref (He.ga K "BadDump")) (.ref (He.ga K "NotRepairable")) = some false
  kit_BadDump_ValueError : PySem.W.kitOne K (.ref (He.ga K "BadDump")) (.type "ValueError") = some true
  oe_BadGap : OexC K (He.ga K "BadGap") ∧ ∀ f ∈ (["gap"] : List Str), PySem.W.findIn K (.ref (He.ga K "BadGap")) f = some none
  in_BadGap : PySem.W.findIn K (.ref (He.ga K "BadGap")) "__init__" = some (some (.ref (He.ma K (He.ga K "BadGap") "__init__"))) ∧ PySem.W.typeIn K (.ref (He.ma K (He.ga K "BadGap") "__init__")) = some (.type "function")
  kit_BadGap_BadCount : PySem.W.kitOne K (.ref (He.ga K "BadGap")) (.ref (He.ga K "BadCount")) = some false
  kit_BadGap_BadDump : PySem.W.kitOne K (.ref (He.ga K "BadGap")) (.ref (He.ga K "BadDump")) = some false
  kit_BadGap_BadGap : PySem.W.kitOne K (.ref (He.ga K "BadGap")) (.ref (He.ga K "BadGap")) = some true
  kit_BadGap_BadNode : PySem.W.kitOne K (.ref (He.ga K "BadGap")) (.ref (He.ga K "BadNode")) = some false
  kit_BadGap_BadOperation : PySem.W.kitOne K (.ref (He.ga K "BadGap")) (.ref (He.ga K "BadOperation")) = some false
  kit_BadGap_BadSize : PySem.W.kitOne K (.ref (He.ga K "BadGap")) (.ref (He.ga K "BadSize")) = some false
  kit_BadGap_BadWeights : PySem.W.kitOne K (.ref (He.ga K "BadGap")) (.ref (He.ga K "BadWeights")) = some false
  kit_BadGap_Illegal : PySem.W.kitOne K (.ref (He.ga K "BadGap")) (.ref (He.ga K "Illegal")) = some false
  kit_BadGap_LinkError : PySem.W.kitOne K (.ref (He.ga K "BadGap")) (.ref (He.ga K "LinkError")) = some true
  kit_BadGap_LogError : PySem.W.kitOne K (.ref (He.ga K "BadGap")) (.ref (He.ga K "LogError")) = some false
  exm_BadGap_LogError : PySem.W.exmOne K (.ref (He.ga K "BadGap")) (.ref (He.ga K "LogError")) = some false
  kit_BadGap_NotRepairable : PySem.W.kitOne K (.ref (He.ga K "BadGap")) (.ref (He.ga K "NotRepairable")) = some false
  exm_BadGap_NotRepairable : PySem.W.exmOne K (.ref (He.ga K "BadGap")) (.ref (He.ga K "NotRepairable")) = some false
  kit_BadGap_ValueError : PySem.W.kitOne K (.ref (He.ga K "BadGap")) (.type "ValueError") = some true
  oe_BadNode : OexC K (He.ga K "BadNode") ∧ ∀ f ∈ (["node"] : List Str), PySem.W.findIn K (.ref (He.ga K "BadNode")) f = some none
  in_BadNode : PySem.W.findIn K (.ref (He.ga K "BadNode")) "__init__" = some (some (.ref (He.ma K (He.ga K "BadNode") "__init__"))) ∧ PySem.W.typeIn K (.ref (He.ma K (He.ga K "BadNode") "__init__")) = some (.type "function")
  kit_BadNode_BadCount : PySem.W.kitOne K (.ref (He.ga K "BadNode")) (.ref (He.ga K "BadCount")) = some false
  kit_BadNode_BadDump : PySem.W.kitOne K (.ref (He.ga K "BadNode")) (.ref (He.ga K "BadDump")) = some false
  kit_BadNode_BadGap : PySem.W.kitOne K (.ref (He.ga K "BadNode")) (.ref (He.ga K "BadGap")) = some false
  kit_BadNode_BadNode : PySem.W.kitOne K (.ref (He.ga K "BadNode")) (.ref (He.ga K "BadNode")) = some true
  kit_BadNode_BadOperation : PySem.W.kitOne K (.ref (He.ga K "BadNode")) (.ref (He.ga K "BadOperation")) = some false
  kit_BadNode_BadSize : PySem.W.kitOne K (.ref (He.ga K "BadNode")) (.ref (He.ga K "BadSize")) = some false
  kit_BadNode_BadWeights : PySem.W.kitOne K (.ref (He.ga K "BadNode")) (.ref (He.ga K "BadWeights")) = some false
  kit_BadNode_Illegal : PySem.W.kitOne K (.ref (He.ga K "BadNode")) (.ref (He.ga K "Illegal")) = some false
  kit_BadNode_LinkError : PySem.W.kitOne K (.ref (He.ga K "BadNode")) (.ref (He.ga K "LinkError")) = some true
  kit_BadNode_LogError : PySem.W.kitOne K (.ref (He.ga K "BadNode")) (.ref (He.ga K "LogError")) = some false
  exm_BadNode_LogError : PySem.W.exmOne K (.ref (He.ga K "BadNode")) (.ref (He.ga K "LogError")) = some false
  kit_BadNode_NotRepairable : PySem.W.kitOne K (.ref (He.ga K "BadNode")) (.ref (He.ga K "NotRepairable")) = some false
  exm_BadNode_NotRepairable : PySem.W.exmOne K (.ref (He.ga K "BadNode")) (.ref (He.ga K "NotRepairable")) = some false
  kit_BadNode_ValueError : PySem.W.kitOne K (.ref (He.ga K "BadNode")) (.type "ValueError") = some true
  oe_BadOperation : OexC K (He.ga K "BadOperation") ∧ ∀ f ∈ (["operation", "index"] : List Str), PySem.W.findIn K (.ref (He.ga K "BadOperation")) f = some none
  in_BadOperation : PySem.W.findIn K (.ref (He.ga K "BadOperation")) "__init__" = some (some (.ref (He.ma K (He.ga K "BadOperation") "__init__"))) ∧ PySem.W.typeIn K (.ref (He.ma K (He.ga K "BadOperation") "__init__")) = some (.type "function")
  sm_BadOperation : He.ma K (He.ga K "BadOperation") "__init__" = He.ma K (He.ga K "LogError") "__init__"
  kit_BadOperation_BadCount : PySem.W.kitOne K (.ref (He.ga K "BadOperation")) (.ref (He.ga K "BadCount")) = some false
  kit_BadOperation_BadDump : PySem.W.kitOne K (.ref (He.ga K "BadOperation")) (.ref (He.ga K "BadDump")) = some false
  kit_BadOperation_BadGap : PySem.W.kitOne K (.ref (He.ga K "BadOperation")) (.ref (He.ga K "BadGap")) = some false
  kit_BadOperation_BadNode : PySem.W.kitOne K (.ref (He.ga K "BadOperation")) (.ref (He.ga K "BadNode")) = some false
  kit_BadOperation_BadOperation : PySem.W.kitOne K (.ref (He.ga K "BadOperation")) (.ref (He.ga K "BadOperation")) = some true
  kit_BadOperation_BadSize : PySem.W.kitOne K (.ref (He.ga K "BadOperation")) (.ref (He.ga K "BadSize")) = some false
  kit_BadOperation_BadWeights : PySem.W.kitOne K (.ref (He.ga K "BadOperation")) (.ref (He.ga K "BadWeights")) = some false
  kit_BadOperation_Illegal : PySem.W.kitOne K (.ref (He.ga K "BadOperation")) (.ref (He.ga K "Illegal")) = some false
  kit_BadOperation_LinkError : PySem.W.kitOne K (.ref (He.ga K "BadOperation")) (.ref (He.ga K "LinkError")) = some true
  kit_BadOperation_LogError : PySem.W.kitOne K (.ref (He.ga K "BadOperation")) (.ref (He.ga K "LogError")) = some true
  exm_BadOperation_LogError : PySem.W.exmOne K (.ref (He.ga K "BadOperation")) (.ref (He.ga K "LogError")) = some true
  kit_BadOperation_NotRepairable : PySem.W.kitOne K (.ref (He.ga K "BadOperation")) (.ref (He.ga K "NotRepairable")) = some false
  exm_BadOperation_NotRepairable : PySem.W.exmOne K (.ref (He.ga K "BadOperation")) (.ref (He.ga K "NotRepairable")) = some false
  kit_BadOperation_ValueError : PySem.W.kitOne K (.ref (He.ga K "BadOperation")) (.type "ValueError") = some true
  oe_BadSize : OexC K (He.ga K "BadSize") ∧ ∀ f ∈ (["size"] : List Str), PySem.W.findIn K (.ref (He.ga K "BadSize")) f = some none
  in_BadSize : PySem.W.findIn K (.ref (He.ga K "BadSize")) "__init__" = some (some (.ref (He.ma K (He.ga K "BadSize") "__init__"))) ∧ PySem.W.typeIn K (.ref (He.ma K (He.ga K "BadSize") "__init__")) = some (.type "function")
  kit_BadSize_BadCount : PySem.W.kitOne K (.ref (He.ga K "BadSize")) (.ref (He.ga K "BadCount")) = some false
  kit_BadSize_BadDump : PySem.W.kitOne K (.ref (He.ga K "BadSize")) (.ref (He.ga K "BadDump")) = some false
  kit_BadSize_BadGap : PySem.W.kitOne K (.ref (He.ga K "BadSize")) (.ref (He.ga K "BadGap")) = some false
  kit_BadSize_BadNode : PySem.W.kitOne K (.ref (He.ga K "BadSize")) (.ref (He.ga K "BadNode")) = some false
  kit_BadSize_BadOperation : PySem.W.kitOne K (.ref (He.ga K "BadSize")) (.ref (He.ga K "BadOperation")) = some false
  kit_BadSize_BadSize : PySem.W.kitOne K (.ref (He.ga K "BadSize")) (.ref (He.ga K "BadSize")) = some true
  kit_BadSize_BadWeights : PySem.W.kitOne K (.ref (He.ga K "BadSize")) (.ref (He.ga K "BadWeights")) = some false
  kit_BadSize_Illegal : PySem.W.kitOne K (.ref (He.ga K "BadSize")) (.ref (He.ga K "Illegal")) = some false
  kit_BadSize_LinkError : PySem.W.kitOne K (.ref (He.ga K "BadSize")) (.ref (He.ga K "LinkError")) = some true
  kit_BadSize_LogError : PySem.W.kitOne K (.ref (He.ga K "BadSize")) (.ref (He.ga K "LogError")) = some false
  exm_BadSize_LogError : PySem.W.exmOne K (.ref (He.ga K "BadSize")) (.ref (He.ga K "LogError")) = some false
  kit_BadSize_NotRepairable : PySem.W.kitOne K (.ref (He.ga K "BadSize")) (.ref (He.ga K "NotRepairable")) = some false
  exm_BadSize_NotRepairable : PySem.W.exmOne K (.ref (He.ga K "BadSize")) (.ref (He.ga K "NotRepairable")) = some false
  kit_BadSize_ValueError : PySem.W.kitOne K (.ref (He.ga K "BadSize")) (.type "ValueError") = some true
  oe_BadWeights : OexC K (He.ga K "BadWeights") ∧ ∀ f ∈ (["count"] : List Str), PySem.W.findIn K (.ref (He.ga K "BadWeights")) f = some none
  in_BadWeights : PySem.W.findIn K (.ref (He.ga K "BadWeights")) "__init__" = some (some (.ref (He.ma K (He.ga K "BadWeights") "__init__"))) ∧ PySem.W.typeIn K (.ref (He.ma K (He.ga K "BadWeights") "__init__")) = some (.type "function")
  kit_BadWeights_BadCount : PySem.W.kitOne K (.ref (He.ga K "BadWeights")) (.ref (He.ga K "BadCount")) = some false
  kit_BadWeights_BadDump : PySem.W.kitOne K (.ref (He.ga K "BadWeights")) (.ref (He.ga K "BadDump")) = some false
  kit_BadWeights_BadGap : PySem.W.kitOne K (.ref (He.ga K "BadWeights")) (.ref (He.ga K "BadGap")) = some false
  kit_BadWeights_BadNode : PySem.W.kitOne K (.ref (He.ga K "BadWeights")) (.ref (He.ga K "BadNode")) = some false
  kit_BadWeights_BadOperation : PySem.W.kitOne K (.ref (He.ga K "BadWeights")) (.ref (He.ga K "BadOperation")) = some false
  kit_BadWeights_BadSize : PySem.W.kitOne K (.ref (He.ga K "BadWeights")) (.ref (He.ga K "BadSize")) = some false
  kit_BadWeights_BadWeights : PySem.W.kitOne K (.ref (He.ga K "BadWeights")) (.ref (He.ga K "BadWeights")) = some true
  kit_BadWeights_Illegal : PySem.W.kitOne K (.ref (He.ga K "BadWeights")) (.ref (He.ga K "Illegal")) = some false
  kit_BadWeights_LinkError : PySem.W.kitOne K (.ref (He.ga K "BadWeights")) (.ref (He.ga K "LinkError")) = some true
  kit_BadWeights_LogError : PySem.W.kitOne K (.ref (He.ga K "BadWeights")) (.ref (He.ga K "LogError")) = some false
  exm_BadWeights_LogError : PySem.W.exmOne K (.ref (He.ga K "BadWeights")) (.ref (He.ga K "LogError")) = some false
  kit_BadWeights_NotRepairable : PySem.W.kitOne K (.ref (He.ga K "BadWeights")) (.ref (He.ga K "NotRepairable")) = some false
  exm_BadWeights_NotRepairable : PySem.W.exmOne K (.ref (He.ga K "BadWeights")) (.ref (He.ga K "NotRepairable")) = some false
  kit_BadWeights_ValueError : PySem.W.kitOne K (.ref (He.ga K "BadWeights")) (.type "ValueError") = some true
  oe_Illegal : OexC K (He.ga K "Illegal") ∧ ∀ f ∈ (["operation", "index"] : List Str), PySem.W.findIn K (.ref (He.ga K "Illegal")) f = some none
  in_Illegal : PySem.W.findIn K (.ref (He.ga K "Illegal")) "__init__" = some (some (.ref (He.ma K (He.ga K "Illegal") "__init__"))) ∧ PySem.W.typeIn K (.ref (He.ma K (He.ga K "Illegal") "__init__")) = some (.type "function")
  sm_Illegal : He.ma K (He.ga K "Illegal") "__init__" = He.ma K (He.ga K "LogError") "__init__"
  kit_Illegal_BadCount : PySem.W.kitOne K (.ref (He.ga K "Illegal")) (.ref (He.ga K "BadCount")) = some false
  kit_Illegal_BadDump : PySem.W.kitOne K (.ref (He.ga K "Illegal")) (.ref (He.ga K "BadDump")) = some false
  kit_Illegal_BadGap : PySem.W.kitOne K (.ref (He.ga K "Illegal")) (.ref (He.ga K "BadGap")) = some false
  kit_Illegal_BadNode : PySem.W.kitOne K (.ref (He.ga K "Illegal")) (.ref (He.ga K "BadNode")) = some false
  kit_Illegal_BadOperation : PySem.W.kitOne K (.ref (He.ga K "Illegal")) (.ref (He.ga K "BadOperation")) = some false
  kit_Illegal_BadSize : PySem.W.kitOne K (.ref (He.ga K "Illegal")) (.ref (He.ga K "BadSize")) = some false
  kit_Illegal_BadWeights : PySem.W.kitOne K (.ref (He.ga K "Illegal")) (.ref (He.ga K "BadWeights")) = some false
  kit_Illegal_Illegal : PySem.W.kitOne K (.ref (He.ga K "Illegal")) (.ref (He.ga K "Illegal")) = some true
  kit_Illegal_LinkError : PySem.W.kitOne K (.ref (He.ga K "Illegal")) (.ref (He.ga K "LinkError")) = some true
  kit_Illegal_LogError : PySem.W.kitOne K (.ref (He.ga K "Illegal")) (.ref (He.ga K "LogError")) = some true
  exm_Illegal_LogError : PySem.W.exmOne K (.ref (He.ga K "Illegal")) (.ref (He.ga K "LogError")) = some true
  kit_Illegal_NotRepairable : PySem.W.kitOne K (.ref (He.ga K "Illegal")) (.ref (He.ga K "NotRepairable")) = some false
  exm_Illegal_NotRepairable : PySem.W.exmOne K (.ref (He.ga K "Illegal")) (.ref (He.ga K "NotRepairable")) = some false
  kit_Illegal_ValueError : PySem.W.kitOne K (.ref (He.ga K "Illegal")) (.type "ValueError") = some true
  oe_NotRepairable : OexC K (He.ga K "NotRepairable") ∧ ∀ f ∈ (["gap"] : List Str), PySem.W.findIn K (.ref (He.ga K "NotRepairable")) f = some none
  in_NotRepairable : PySem.W.findIn K (.ref (He.ga K "NotRepairable")) "__init__" = some (some (.ref (He.ma K (He.ga K "NotRepairable") "__init__"))) ∧ PySem.W.typeIn K (.ref (He.ma K (He.ga K "NotRepairable") "__init__")) = some (.type "function")
  kit_NotRepairable_BadCount : PySem.W.kitOne K (.ref (He.ga K "NotRepairable")) (.ref (He.ga K "BadCount")) = some false
  kit_NotRepairable_BadDump : PySem.W.kitOne K (.ref (He.ga K "NotRepairable")) (.ref (He.ga K "BadDump")) = some false
  kit_NotRepairable_BadGap : PySem.W.kitOne K (.ref (He.ga K "NotRepairable")) (.ref (He.ga K "BadGap")) = some false
  kit_NotRepairable_BadNode : PySem.W.kitOne K (.ref (He.ga K "NotRepairable")) (.ref (He.ga K "BadNode")) = some false
  kit_NotRepairable_BadOperation : PySem.W.kitOne K (.ref (He.ga K "NotRepairable")) (.ref (He.ga K "BadOperation")) = some false
  kit_NotRepairable_BadSize : PySem.W.kitOne K (.ref (He.ga K "NotRepairable")) (.ref (He.ga K "BadSize")) = some false
  kit_NotRepairable_BadWeights : PySem.W.kitOne K (.ref (He.ga K "NotRepairable")) (.ref (He.ga K "BadWeights")) = some false
  kit_NotRepairable_Illegal : PySem.W.kitOne K (.ref (He.ga K "NotRepairable")) (.ref (He.ga K "Illegal")) = some false
  kit_NotRepairable_LinkError : PySem.W.kitOne K (.ref (He.ga K "NotRepairable")) (.ref (He.ga K "LinkError")) = some true
  kit_NotRepairable_LogError : PySem.W.kitOne K (.ref (He.ga K "NotRepairable")) (.ref (He.ga K "LogError")) = some false
  exm_NotRepairable_LogError : PySem.W.exmOne K (.ref (He.ga K "NotRepairable")) (.ref (He.ga K "LogError")) = some false
  kit_NotRepairable_NotRepairable : PySem.W.kitOne K (.ref (He.ga K "NotRepairable")) (.ref (He.ga K "NotRepairable")) = some true
  exm_NotRepairable_NotRepairable : PySem.W.exmOne K (.ref (He.ga K "NotRepairable")) (.ref (He.ga K "NotRepairable")) = some true
  kit_NotRepairable_ValueError : PySem.W.kitOne K (.ref (He.ga K "NotRepairable")) (.type "ValueError") = some true
theorem txt_of {K : PySem.W.Frag} {h : Heap} {mg : Str → Option Value} (X : K.In h) (G : h.Ns mainGlobals mg) (c : SaysY chkL fnL K) : Txt K mg where
  g_LinkError := He.glo_ok X G (c.fact 0 (f := fa_ (.glo "LinkError")) rfl)
  g_LogError := He.glo_ok X G (c.fact 1 (f := fa_ (.glo "LogError")) rfl)
  g_BadOperation := He.glo_ok X G (c.fact 2 (f := fa_ (.glo "BadOperation")) rfl)
  g_Illegal := He.glo_ok X G (c.fact 3 (f := fa_ (.glo "Illegal")) rfl)
  g_BadSize := He.glo_ok X G (c.fact 4 (f := fa_ (.glo "BadSize")) rfl)
  g_BadNode := He.glo_ok X G (c.fact 5 (f := fa_ (.glo "BadNode")) rfl)
  g_BadGap := He.glo_ok X G (c.fact 6 (f := fa_ (.glo "BadGap")) rfl)
  g_BadDump := He.glo_ok X G (c.fact 7 (f := fa_ (.glo "BadDump")) rfl)
  g_BadCount := He.glo_ok X G (c.fact 8 (f := fa_ (.glo "BadCount")) rfl)
  g_BadWeights := He.glo_ok X G (c.fact 9 (f := fa_ (.glo "BadWeights")) rfl)
  g_NotRepairable := He.glo_ok X G (c.fact 10 (f := fa_ (.glo "NotRepairable")) rfl)
  g_Links := He.glo_ok X G (c.fact 11 (f := fa_ (.glo "Links")) rfl)
  gf__law_bag := He.glo_ok X G (c.fact 12 (f := fa_ (.glo "_law_bag")) rfl)
  gf__law_draw := He.glo_ok X G (c.fact 13 (f := fa_ (.glo "_law_draw")) rfl)
  gf_check_size := He.glo_ok X G (c.fact 14 (f := fa_ (.glo "check_size")) rfl)
  gf_is_positive := He.glo_ok X G (c.fact 15 (f := fa_ (.glo "is_positive")) rfl)
  gf__read_numbers := He.glo_ok X G (c.fact 16 (f := fa_ (.glo "_read_numbers")) rfl)
  gf__read_lefts := He.glo_ok X G (c.fact 17 (f := fa_ (.glo "_read_lefts")) rfl)
  gf__read_outs := He.glo_ok X G (c.fact 18 (f := fa_ (.glo "_read_outs")) rfl)
  gf__read_rights := He.glo_ok X G (c.fact 19 (f := fa_ (.glo "_read_rights")) rfl)
  gf__law_copy := He.glo_ok X G (c.fact 20 (f := fa_ (.glo "_law_copy")) rfl)
  gf__law_dump := He.glo_ok X G (c.fact 21 (f := fa_ (.glo "_law_dump")) rfl)
  gf__law_is_whole := He.glo_ok X G (c.fact 22 (f := fa_ (.glo "_law_is_whole")) rfl)
  gf__law_operation := He.glo_ok X G (c.fact 23 (f := fa_ (.glo "_law_operation")) rfl)
  gf__law_step := He.glo_ok X G (c.fact 24 (f := fa_ (.glo "_law_step")) rfl)
  gf__law_ends_whole := He.glo_ok X G (c.fact 25 (f := fa_ (.glo "_law_ends_whole")) rfl)
  gf__law_is_due := He.glo_ok X G (c.fact 26 (f := fa_ (.glo "_law_is_due")) rfl)
  gf__law_due := He.glo_ok X G (c.fact 27 (f := fa_ (.glo "_law_due")) rfl)
  gf__law_owed := He.glo_ok X G (c.fact 28 (f := fa_ (.glo "_law_owed")) rfl)
  gf_check_gap := He.glo_ok X G (c.fact 29 (f := fa_ (.glo "check_gap")) rfl)
  gf_gap_state := He.glo_ok X G (c.fact 30 (f := fa_ (.glo "gap_state")) rfl)
  gf_gap_states := He.glo_ok X G (c.fact 31 (f := fa_ (.glo "gap_states")) rfl)
  gf_lost_gaps := He.glo_ok X G (c.fact 32 (f := fa_ (.glo "lost_gaps")) rfl)
  gf_check_repairable := He.glo_ok X G (c.fact 33 (f := fa_ (.glo "check_repairable")) rfl)
  gf_sole_holders := He.glo_ok X G (c.fact 34 (f := fa_ (.glo "sole_holders")) rfl)
  gf_due_nodes := He.glo_ok X G (c.fact 35 (f := fa_ (.glo "due_nodes")) rfl)
  gf_repair_cost := He.glo_ok X G (c.fact 36 (f := fa_ (.glo "repair_cost")) rfl)
  gf_debt_of := He.glo_ok X G (c.fact 37 (f := fa_ (.glo "debt_of")) rfl)
  gf_check_operation := He.glo_ok X G (c.fact 38 (f := fa_ (.glo "check_operation")) rfl)
  gf_play := He.glo_ok X G (c.fact 39 (f := fa_ (.glo "play")) rfl)
  gf_is_repair := He.glo_ok X G (c.fact 40 (f := fa_ (.glo "is_repair")) rfl)
  gf_is_least_repair := He.glo_ok X G (c.fact 41 (f := fa_ (.glo "is_least_repair")) rfl)
  gf__law_judged := He.glo_ok X G (c.fact 42 (f := fa_ (.glo "_law_judged")) rfl)
  gf__law_number := He.glo_ok X G (c.fact 43 (f := fa_ (.glo "_law_number")) rfl)
  gf__law_fits := He.glo_ok X G (c.fact 44 (f := fa_ (.glo "_law_fits")) rfl)
  gf__law_lost := He.glo_ok X G (c.fact 45 (f := fa_ (.glo "_law_lost")) rfl)
  gf__law_told := He.glo_ok X G (c.fact 46 (f := fa_ (.glo "_law_told")) rfl)
  gf__law_led := He.glo_ok X G (c.fact 47 (f := fa_ (.glo "_law_led")) rfl)
  gf__law_lowers := He.glo_ok X G (c.fact 48 (f := fa_ (.glo "_law_lowers")) rfl)
  gf__law_log := He.glo_ok X G (c.fact 49 (f := fa_ (.glo "_law_log")) rfl)
  gf__law_key := He.glo_ok X G (c.fact 50 (f := fa_ (.glo "_law_key")) rfl)
  gf__law_distance := He.glo_ok X G (c.fact 51 (f := fa_ (.glo "_law_distance")) rfl)
  gf__law_numbers := He.glo_ok X G (c.fact 52 (f := fa_ (.glo "_law_numbers")) rfl)
  gf_foreign_writes := He.glo_ok X G (c.fact 53 (f := fa_ (.glo "foreign_writes")) rfl)
  gf_left_to := He.glo_ok X G (c.fact 54 (f := fa_ (.glo "left_to")) rfl)
  gf__spoils_nothing := He.glo_ok X G (c.fact 55 (f := fa_ (.glo "_spoils_nothing")) rfl)
  gf__steps := He.glo_ok X G (c.fact 56 (f := fa_ (.glo "_steps")) rfl)
  gf__still_due := He.glo_ok X G (c.fact 57 (f := fa_ (.glo "_still_due")) rfl)
  gf_repairs := He.glo_ok X G (c.fact 58 (f := fa_ (.glo "repairs")) rfl)
  gf_first_repair := He.glo_ok X G (c.fact 59 (f := fa_ (.glo "first_repair")) rfl)
  gf__law_searched := He.glo_ok X G (c.fact 60 (f := fa_ (.glo "_law_searched")) rfl)
  gf__law_size := He.glo_ok X G (c.fact 61 (f := fa_ (.glo "_law_size")) rfl)
  gf__law_standing := He.glo_ok X G (c.fact 62 (f := fa_ (.glo "_law_standing")) rfl)
  gf_law := He.glo_ok X G (c.fact 63 (f := fa_ (.glo "law")) rfl)
  b_ValueError := He.free_ok X G (c.fact 64 (f := fa_ (.free "ValueError")) rfl)
  b_abs := He.free_ok X G (c.fact 65 (f := fa_ (.free "abs")) rfl)
  b_all := He.free_ok X G (c.fact 66 (f := fa_ (.free "all")) rfl)
  b_any := He.free_ok X G (c.fact 67 (f := fa_ (.free "any")) rfl)
  b_bool := He.free_ok X G (c.fact 68 (f := fa_ (.free "bool")) rfl)
  b_enumerate := He.free_ok X G (c.fact 69 (f := fa_ (.free "enumerate")) rfl)
  b_int := He.free_ok X G (c.fact 70 (f := fa_ (.free "int")) rfl)
  b_isinstance := He.free_ok X G (c.fact 71 (f := fa_ (.free "isinstance")) rfl)
  b_len := He.free_ok X G (c.fact 72 (f := fa_ (.free "len")) rfl)
  b_list := He.free_ok X G (c.fact 73 (f := fa_ (.free "list")) rfl)
  b_range := He.free_ok X G (c.fact 74 (f := fa_ (.free "range")) rfl)
  b_reversed := He.free_ok X G (c.fact 75 (f := fa_ (.free "reversed")) rfl)
  b_set := He.free_ok X G (c.fact 76 (f := fa_ (.free "set")) rfl)
  b_sorted := He.free_ok X G (c.fact 77 (f := fa_ (.free "sorted")) rfl)
  b_str := He.free_ok X G (c.fact 78 (f := fa_ (.free "str")) rfl)
  b_sum := He.free_ok X G (c.fact 79 (f := fa_ (.free "sum")) rfl)
  b_tuple := He.free_ok X G (c.fact 80 (f := fa_ (.free "tuple")) rfl)
  b_zip := He.free_ok X G (c.fact 81 (f := fa_ (.free "zip")) rfl)
  k_DIGITS := He.str_ok X G (c.fact 82 (f := fa_ (.str "DIGITS" "0123456789")) rfl)
  k_MOST_DIGITS := He.int_ok X G (c.fact 83 (f := fa_ (.int "MOST_DIGITS" 9)) rfl)
  cc_Links_MOST := ccB_ok (c.fact 84 (f := ccB "Links" "MOST" 60) rfl)
  cl_Links := He.cls_ok (c.fact 85 (f := fa_ (.cls "Links")) rfl)
  ty_Links := tyB_ok (c.fact 86 (f := tyB "Links") rfl)
  na_Links__lefts := He.noat_ok (c.fact 87 (f := fa_ (.noat "Links" "_lefts")) rfl)
  na_Links__out := He.noat_ok (c.fact 88 (f := fa_ (.noat "Links" "_out")) rfl)
  na_Links__rights := He.noat_ok (c.fact 89 (f := fa_ (.noat "Links" "_rights")) rfl)
  na_Links_size := He.noat_ok (c.fact 90 (f := fa_ (.noat "Links" "size")) rfl)
  mk_Links := He.mkr_ok (c.fact 91 (f := fa_ (.mkr "Links")) rfl)
  sm_Links_read := smB_ok (c.fact 92 (f := smB "Links" "read") rfl)
  me_Links_is_out := He.meth_ok (c.fact 93 (f := fa_ (.meth "Links" "is_out")) rfl)
  me_Links_left := He.meth_ok (c.fact 94 (f := fa_ (.meth "Links" "left")) rfl)
  me_Links_right := He.meth_ok (c.fact 95 (f := fa_ (.meth "Links" "right")) rfl)
  me_Links_outs := He.meth_ok (c.fact 96 (f := fa_ (.meth "Links" "outs")) rfl)
  me_Links___eq__ := He.meth_ok (c.fact 97 (f := fa_ (.meth "Links" "__eq__")) rfl)
  me_Links_is_whole := He.meth_ok (c.fact 98 (f := fa_ (.meth "Links" "is_whole")) rfl)
  me_Links_is_legal := He.meth_ok (c.fact 99 (f := fa_ (.meth "Links" "is_legal")) rfl)
  me_Links_check := He.meth_ok (c.fact 100 (f := fa_ (.meth "Links" "check")) rfl)
  me_Links_apply_at := He.meth_ok (c.fact 101 (f := fa_ (.meth "Links" "apply_at")) rfl)
  me_Links_copy := He.meth_ok (c.fact 102 (f := fa_ (.meth "Links" "copy")) rfl)
  me_Links_apply := He.meth_ok (c.fact 103 (f := fa_ (.meth "Links" "apply")) rfl)
  ex_BadCount := askB_ok (c.fact 104 (f := askB "BadCount") rfl)
  ex_BadDump := askB_ok (c.fact 105 (f := askB "BadDump") rfl)
  ex_BadGap := askB_ok (c.fact 106 (f := askB "BadGap") rfl)
  ex_BadNode := askB_ok (c.fact 107 (f := askB "BadNode") rfl)
  ex_BadOperation := askB_ok (c.fact 108 (f := askB "BadOperation") rfl)
  ex_BadSize := askB_ok (c.fact 109 (f := askB "BadSize") rfl)
  ex_BadWeights := askB_ok (c.fact 110 (f := askB "BadWeights") rfl)
  ex_Illegal := askB_ok (c.fact 111 (f := askB "Illegal") rfl)
  ex_LinkError := askB_ok (c.fact 112 (f := askB "LinkError") rfl)
  ex_LogError := askB_ok (c.fact 113 (f := askB "LogError") rfl)
  ex_NotRepairable := askB_ok (c.fact 114 (f := askB "NotRepairable") rfl)
  oe_BadCount := excB_ok (c.fact 115 (f := excB "BadCount" ["count"]) rfl)
  in_BadCount := iniB_ok (c.fact 116 (f := iniB "BadCount") rfl)
  kit_BadCount_BadCount := of_decide_eq_true (c.fact 117 (f := kitB2 "BadCount" "BadCount" true) rfl)
  kit_BadCount_BadDump := of_decide_eq_true (c.fact 118 (f := kitB2 "BadCount" "BadDump" false) rfl)
  kit_BadCount_BadGap := of_decide_eq_true (c.fact 119 (f := kitB2 "BadCount" "BadGap" false) rfl)
  kit_BadCount_BadNode := of_decide_eq_true (c.fact 120 (f := kitB2 "BadCount" "BadNode" false) rfl)
  kit_BadCount_BadOperation := of_decide_eq_true (c.fact 121 (f := kitB2 "BadCount" "BadOperation" false) rfl)
  kit_BadCount_BadSize := of_decide_eq_true (c.fact 122 (f := kitB2 "BadCount" "BadSize" false) rfl)
  kit_BadCount_BadWeights := of_decide_eq_true (c.fact 123 (f := kitB2 "BadCount" "BadWeights" false) rfl)
  kit_BadCount_Illegal := of_decide_eq_true (c.fact 124 (f := kitB2 "BadCount" "Illegal" false) rfl)
  kit_BadCount_LinkError := of_decide_eq_true (c.fact 125 (f := kitB2 "BadCount" "LinkError" true) rfl)
  kit_BadCount_LogError := of_decide_eq_true (c.fact 126 (f := kitB2 "BadCount" "LogError" false) rfl)
  exm_BadCount_LogError := of_decide_eq_true (c.fact 127 (f := exmB "BadCount" "LogError" false) rfl)
  kit_BadCount_NotRepairable := of_decide_eq_true (c.fact 128 (f := kitB2 "BadCount" "NotRepairable" false) rfl)
  exm_BadCount_NotRepairable := of_decide_eq_true (c.fact 129 (f := exmB "BadCount" "NotRepairable" false) rfl)
  kit_BadCount_ValueError := of_decide_eq_true (c.fact 130 (f := kitT2 "BadCount" "ValueError" true) rfl)
  oe_BadDump := excB_ok (c.fact 131 (f := excB "BadDump" ["part"]) rfl)
  in_BadDump := iniB_ok (c.fact 132 (f := iniB "BadDump") rfl)
  kit_BadDump_BadCount := of_decide_eq_true (c.fact 133 (f := kitB2 "BadDump" "BadCount" false) rfl)
  kit_BadDump_BadDump := of_decide_eq_true (c.fact 134 (f := kitB2 "BadDump" "BadDump" true) rfl)
  kit_BadDump_BadGap := of_decide_eq_true (c.fact 135 (f := kitB2 "BadDump" "BadGap" false) rfl)
  kit_BadDump_BadNode := of_decide_eq_true (c.fact 136 (f := kitB2 "BadDump" "BadNode" false) rfl)
  kit_BadDump_BadOperation := of_decide_eq_true (c.fact 137 (f := kitB2 "BadDump" "BadOperation" false) rfl)
  kit_BadDump_BadSize := of_decide_eq_true (c.fact 138 (f := kitB2 "BadDump" "BadSize" false) rfl)
  kit_BadDump_BadWeights := of_decide_eq_true (c.fact 139 (f := kitB2 "BadDump" "BadWeights" false) rfl)
  kit_BadDump_Illegal := of_decide_eq_true (c.fact 140 (f := kitB2 "BadDump" "Illegal" false) rfl)
  kit_BadDump_LinkError := of_decide_eq_true (c.fact 141 (f := kitB2 "BadDump" "LinkError" true) rfl)
  kit_BadDump_LogError := of_decide_eq_true (c.fact 142 (f := kitB2 "BadDump" "LogError" false) rfl)
  exm_BadDump_LogError := of_decide_eq_true (c.fact 143 (f := exmB "BadDump" "LogError" false) rfl)
  kit_BadDump_NotRepairable := of_decide_eq_true (c.fact 144 (f := kitB2 "BadDump" "NotRepairable" false) rfl)
  exm_BadDump_NotRepairable := of_decide_eq_true (c.fact 145 (f := exmB "BadDump" "NotRepairable" false) rfl)
  kit_BadDump_ValueError := of_decide_eq_true (c.fact 146 (f := kitT2 "BadDump" "ValueError" true) rfl)
  oe_BadGap := excB_ok (c.fact 147 (f := excB "BadGap" ["gap"]) rfl)
  in_BadGap := iniB_ok (c.fact 148 (f := iniB "BadGap") rfl)
  kit_BadGap_BadCount := of_decide_eq_true (c.fact 149 (f := kitB2 "BadGap" "BadCount" false) rfl)
  kit_BadGap_BadDump := of_decide_eq_true (c.fact 150 (f := kitB2 "BadGap" "BadDump" false) rfl)
  kit_BadGap_BadGap := of_decide_eq_true (c.fact 151 (f := kitB2 "BadGap" "BadGap" true) rfl)
  kit_BadGap_BadNode := of_decide_eq_true (c.fact 152 (f := kitB2 "BadGap" "BadNode" false) rfl)
  kit_BadGap_BadOperation := of_decide_eq_true (c.fact 153 (f := kitB2 "BadGap" "BadOperation" false) rfl)
  kit_BadGap_BadSize := of_decide_eq_true (c.fact 154 (f := kitB2 "BadGap" "BadSize" false) rfl)
  kit_BadGap_BadWeights := of_decide_eq_true (c.fact 155 (f := kitB2 "BadGap" "BadWeights" false) rfl)
  kit_BadGap_Illegal := of_decide_eq_true (c.fact 156 (f := kitB2 "BadGap" "Illegal" false) rfl)
  kit_BadGap_LinkError := of_decide_eq_true (c.fact 157 (f := kitB2 "BadGap" "LinkError" true) rfl)
  kit_BadGap_LogError := of_decide_eq_true (c.fact 158 (f := kitB2 "BadGap" "LogError" false) rfl)
  exm_BadGap_LogError := of_decide_eq_true (c.fact 159 (f := exmB "BadGap" "LogError" false) rfl)
  kit_BadGap_NotRepairable := of_decide_eq_true (c.fact 160 (f := kitB2 "BadGap" "NotRepairable" false) rfl)
  exm_BadGap_NotRepairable := of_decide_eq_true (c.fact 161 (f := exmB "BadGap" "NotRepairable" false) rfl)
  kit_BadGap_ValueError := of_decide_eq_true (c.fact 162 (f := kitT2 "BadGap" "ValueError" true) rfl)
  oe_BadNode := excB_ok (c.fact 163 (f := excB "BadNode" ["node"]) rfl)
  in_BadNode := iniB_ok (c.fact 164 (f := iniB "BadNode") rfl)
  kit_BadNode_BadCount := of_decide_eq_true (c.fact 165 (f := kitB2 "BadNode" "BadCount" false) rfl)
  kit_BadNode_BadDump := of_decide_eq_true (c.fact 166 (f := kitB2 "BadNode" "BadDump" false) rfl)
  kit_BadNode_BadGap := of_decide_eq_true (c.fact 167 (f := kitB2 "BadNode" "BadGap" false) rfl)
  kit_BadNode_BadNode := of_decide_eq_true (c.fact 168 (f := kitB2 "BadNode" "BadNode" true) rfl)
  kit_BadNode_BadOperation := of_decide_eq_true (c.fact 169 (f := kitB2 "BadNode" "BadOperation" false) rfl)
  kit_BadNode_BadSize := of_decide_eq_true (c.fact 170 (f := kitB2 "BadNode" "BadSize" false) rfl)
  kit_BadNode_BadWeights := of_decide_eq_true (c.fact 171 (f := kitB2 "BadNode" "BadWeights" false) rfl)
  kit_BadNode_Illegal := of_decide_eq_true (c.fact 172 (f := kitB2 "BadNode" "Illegal" false) rfl)
  kit_BadNode_LinkError := of_decide_eq_true (c.fact 173 (f := kitB2 "BadNode" "LinkError" true) rfl)
  kit_BadNode_LogError := of_decide_eq_true (c.fact 174 (f := kitB2 "BadNode" "LogError" false) rfl)
  exm_BadNode_LogError := of_decide_eq_true (c.fact 175 (f := exmB "BadNode" "LogError" false) rfl)
  kit_BadNode_NotRepairable := of_decide_eq_true (c.fact 176 (f := kitB2 "BadNode" "NotRepairable" false) rfl)
  exm_BadNode_NotRepairable := of_decide_eq_true (c.fact 177 (f := exmB "BadNode" "NotRepairable" false) rfl)
  kit_BadNode_ValueError := of_decide_eq_true (c.fact 178 (f := kitT2 "BadNode" "ValueError" true) rfl)
  oe_BadOperation := excB_ok (c.fact 179 (f := excB "BadOperation" ["operation", "index"]) rfl)
  in_BadOperation := iniB_ok (c.fact 180 (f := iniB "BadOperation") rfl)
  sm_BadOperation := of_decide_eq_true (c.fact 181 (f := (fun K => decide (He.ma K (He.ga K "BadOperation") "__init__" = He.ma K (He.ga K "LogError") "__init__"))) rfl)
  kit_BadOperation_BadCount := of_decide_eq_true (c.fact 182 (f := kitB2 "BadOperation" "BadCount" false) rfl)
  kit_BadOperation_BadDump := of_decide_eq_true (c.fact 183 (f := kitB2 "BadOperation" "BadDump" false) rfl)
  kit_BadOperation_BadGap := of_decide_eq_true (c.fact 184 (f := kitB2 "BadOperation" "BadGap" false) rfl)
  kit_BadOperation_BadNode := of_decide_eq_true (c.fact 185 (f := kitB2 "BadOperation" "BadNode" false) rfl)
  kit_BadOperation_BadOperation := of_decide_eq_true (c.fact 186 (f := kitB2 "BadOperation" "BadOperation" true) rfl)
  kit_BadOperation_BadSize := of_decide_eq_true (c.fact 187 (f := kitB2 "BadOperation" "BadSize" false) rfl)
  kit_BadOperation_BadWeights := of_decide_eq_true (c.fact 188 (f := kitB2 "BadOperation" "BadWeights" false) rfl)
  kit_BadOperation_Illegal := of_decide_eq_true (c.fact 189 (f := kitB2 "BadOperation" "Illegal" false) rfl)
  kit_BadOperation_LinkError := of_decide_eq_true (c.fact 190 (f := kitB2 "BadOperation" "LinkError" true) rfl)
  kit_BadOperation_LogError := of_decide_eq_true (c.fact 191 (f := kitB2 "BadOperation" "LogError" true) rfl)
  exm_BadOperation_LogError := of_decide_eq_true (c.fact 192 (f := exmB "BadOperation" "LogError" true) rfl)
  kit_BadOperation_NotRepairable := of_decide_eq_true (c.fact 193 (f := kitB2 "BadOperation" "NotRepairable" false) rfl)
  exm_BadOperation_NotRepairable := of_decide_eq_true (c.fact 194 (f := exmB "BadOperation" "NotRepairable" false) rfl)
  kit_BadOperation_ValueError := of_decide_eq_true (c.fact 195 (f := kitT2 "BadOperation" "ValueError" true) rfl)
  oe_BadSize := excB_ok (c.fact 196 (f := excB "BadSize" ["size"]) rfl)
  in_BadSize := iniB_ok (c.fact 197 (f := iniB "BadSize") rfl)
  kit_BadSize_BadCount := of_decide_eq_true (c.fact 198 (f := kitB2 "BadSize" "BadCount" false) rfl)
  kit_BadSize_BadDump := of_decide_eq_true (c.fact 199 (f := kitB2 "BadSize" "BadDump" false) rfl)
  kit_BadSize_BadGap := of_decide_eq_true (c.fact 200 (f := kitB2 "BadSize" "BadGap" false) rfl)
  kit_BadSize_BadNode := of_decide_eq_true (c.fact 201 (f := kitB2 "BadSize" "BadNode" false) rfl)
  kit_BadSize_BadOperation := of_decide_eq_true (c.fact 202 (f := kitB2 "BadSize" "BadOperation" false) rfl)
  kit_BadSize_BadSize := of_decide_eq_true (c.fact 203 (f := kitB2 "BadSize" "BadSize" true) rfl)
  kit_BadSize_BadWeights := of_decide_eq_true (c.fact 204 (f := kitB2 "BadSize" "BadWeights" false) rfl)
  kit_BadSize_Illegal := of_decide_eq_true (c.fact 205 (f := kitB2 "BadSize" "Illegal" false) rfl)
  kit_BadSize_LinkError := of_decide_eq_true (c.fact 206 (f := kitB2 "BadSize" "LinkError" true) rfl)
  kit_BadSize_LogError := of_decide_eq_true (c.fact 207 (f := kitB2 "BadSize" "LogError" false) rfl)
  exm_BadSize_LogError := of_decide_eq_true (c.fact 208 (f := exmB "BadSize" "LogError" false) rfl)
  kit_BadSize_NotRepairable := of_decide_eq_true (c.fact 209 (f := kitB2 "BadSize" "NotRepairable" false) rfl)
  exm_BadSize_NotRepairable := of_decide_eq_true (c.fact 210 (f := exmB "BadSize" "NotRepairable" false) rfl)
  kit_BadSize_ValueError := of_decide_eq_true (c.fact 211 (f := kitT2 "BadSize" "ValueError" true) rfl)
  oe_BadWeights := excB_ok (c.fact 212 (f := excB "BadWeights" ["count"]) rfl)
  in_BadWeights := iniB_ok (c.fact 213 (f := iniB "BadWeights") rfl)
  kit_BadWeights_BadCount := of_decide_eq_true (c.fact 214 (f := kitB2 "BadWeights" "BadCount" false) rfl)
  kit_BadWeights_BadDump := of_decide_eq_true (c.fact 215 (f := kitB2 "BadWeights" "BadDump" false) rfl)
  kit_BadWeights_BadGap := of_decide_eq_true (c.fact 216 (f := kitB2 "BadWeights" "BadGap" false) rfl)
  kit_BadWeights_BadNode := of_decide_eq_true (c.fact 217 (f := kitB2 "BadWeights" "BadNode" false) rfl)
  kit_BadWeights_BadOperation := of_decide_eq_true (c.fact 218 (f := kitB2 "BadWeights" "BadOperation" false) rfl)
  kit_BadWeights_BadSize := of_decide_eq_true (c.fact 219 (f := kitB2 "BadWeights" "BadSize" false) rfl)
  kit_BadWeights_BadWeights := of_decide_eq_true (c.fact 220 (f := kitB2 "BadWeights" "BadWeights" true) rfl)
  kit_BadWeights_Illegal := of_decide_eq_true (c.fact 221 (f := kitB2 "BadWeights" "Illegal" false) rfl)
  kit_BadWeights_LinkError := of_decide_eq_true (c.fact 222 (f := kitB2 "BadWeights" "LinkError" true) rfl)
  kit_BadWeights_LogError := of_decide_eq_true (c.fact 223 (f := kitB2 "BadWeights" "LogError" false) rfl)
  exm_BadWeights_LogError := of_decide_eq_true (c.fact 224 (f := exmB "BadWeights" "LogError" false) rfl)
  kit_BadWeights_NotRepairable := of_decide_eq_true (c.fact 225 (f := kitB2 "BadWeights" "NotRepairable" false) rfl)
  exm_BadWeights_NotRepairable := of_decide_eq_true (c.fact 226 (f := exmB "BadWeights" "NotRepairable" false) rfl)
  kit_BadWeights_ValueError := of_decide_eq_true (c.fact 227 (f := kitT2 "BadWeights" "ValueError" true) rfl)
  oe_Illegal := excB_ok (c.fact 228 (f := excB "Illegal" ["operation", "index"]) rfl)
  in_Illegal := iniB_ok (c.fact 229 (f := iniB "Illegal") rfl)
  sm_Illegal := of_decide_eq_true (c.fact 230 (f := (fun K => decide (He.ma K (He.ga K "Illegal") "__init__" = He.ma K (He.ga K "LogError") "__init__"))) rfl)
  kit_Illegal_BadCount := of_decide_eq_true (c.fact 231 (f := kitB2 "Illegal" "BadCount" false) rfl)
  kit_Illegal_BadDump := of_decide_eq_true (c.fact 232 (f := kitB2 "Illegal" "BadDump" false) rfl)
  kit_Illegal_BadGap := of_decide_eq_true (c.fact 233 (f := kitB2 "Illegal" "BadGap" false) rfl)
  kit_Illegal_BadNode := of_decide_eq_true (c.fact 234 (f := kitB2 "Illegal" "BadNode" false) rfl)
  kit_Illegal_BadOperation := of_decide_eq_true (c.fact 235 (f := kitB2 "Illegal" "BadOperation" false) rfl)
  kit_Illegal_BadSize := of_decide_eq_true (c.fact 236 (f := kitB2 "Illegal" "BadSize" false) rfl)
  kit_Illegal_BadWeights := of_decide_eq_true (c.fact 237 (f := kitB2 "Illegal" "BadWeights" false) rfl)
  kit_Illegal_Illegal := of_decide_eq_true (c.fact 238 (f := kitB2 "Illegal" "Illegal" true) rfl)
  kit_Illegal_LinkError := of_decide_eq_true (c.fact 239 (f := kitB2 "Illegal" "LinkError" true) rfl)
  kit_Illegal_LogError := of_decide_eq_true (c.fact 240 (f := kitB2 "Illegal" "LogError" true) rfl)
  exm_Illegal_LogError := of_decide_eq_true (c.fact 241 (f := exmB "Illegal" "LogError" true) rfl)
  kit_Illegal_NotRepairable := of_decide_eq_true (c.fact 242 (f := kitB2 "Illegal" "NotRepairable" false) rfl)
  exm_Illegal_NotRepairable := of_decide_eq_true (c.fact 243 (f := exmB "Illegal" "NotRepairable" false) rfl)
  kit_Illegal_ValueError := of_decide_eq_true (c.fact 244 (f := kitT2 "Illegal" "ValueError" true) rfl)
  oe_NotRepairable := excB_ok (c.fact 245 (f := excB "NotRepairable" ["gap"]) rfl)
  in_NotRepairable := iniB_ok (c.fact 246 (f := iniB "NotRepairable") rfl)
  kit_NotRepairable_BadCount := of_decide_eq_true (c.fact 247 (f := kitB2 "NotRepairable" "BadCount" false) rfl)
  kit_NotRepairable_BadDump := of_decide_eq_true (c.fact 248 (f := kitB2 "NotRepairable" "BadDump" false) rfl)
  kit_NotRepairable_BadGap := of_decide_eq_true (c.fact 249 (f := kitB2 "NotRepairable" "BadGap" false) rfl)
  kit_NotRepairable_BadNode := of_decide_eq_true (c.fact 250 (f := kitB2 "NotRepairable" "BadNode" false) rfl)
  kit_NotRepairable_BadOperation := of_decide_eq_true (c.fact 251 (f := kitB2 "NotRepairable" "BadOperation" false) rfl)
  kit_NotRepairable_BadSize := of_decide_eq_true (c.fact 252 (f := kitB2 "NotRepairable" "BadSize" false) rfl)
  kit_NotRepairable_BadWeights := of_decide_eq_true (c.fact 253 (f := kitB2 "NotRepairable" "BadWeights" false) rfl)
  kit_NotRepairable_Illegal := of_decide_eq_true (c.fact 254 (f := kitB2 "NotRepairable" "Illegal" false) rfl)
  kit_NotRepairable_LinkError := of_decide_eq_true (c.fact 255 (f := kitB2 "NotRepairable" "LinkError" true) rfl)
  kit_NotRepairable_LogError := of_decide_eq_true (c.fact 256 (f := kitB2 "NotRepairable" "LogError" false) rfl)
  exm_NotRepairable_LogError := of_decide_eq_true (c.fact 257 (f := exmB "NotRepairable" "LogError" false) rfl)
  kit_NotRepairable_NotRepairable := of_decide_eq_true (c.fact 258 (f := kitB2 "NotRepairable" "NotRepairable" true) rfl)
  exm_NotRepairable_NotRepairable := of_decide_eq_true (c.fact 259 (f := exmB "NotRepairable" "NotRepairable" true) rfl)
  kit_NotRepairable_ValueError := of_decide_eq_true (c.fact 260 (f := kitT2 "NotRepairable" "ValueError" true) rfl)
end G
set_option Elab.async false
set_option linter.all false
set_option maxRecDepth 100000
set_option maxHeartbeats 4000000
/-! k21: certificates of loss. -/
namespace G
open PySem PySem.Spec PyProof.Rows L2
theorem jl : ¬ (("joined" : Str) = "lost") := by decide +kernel
theorem ll : ¬ (("left" : Str) = "lost") := by decide +kernel
theorem rl_ : ¬ (("right" : Str) = "lost") := by decide +kernel
theorem jl2 : ¬ (("left" : Str) = "joined") := by decide +kernel
theorem jr2 : ¬ (("right" : Str) = "joined") := by decide +kernel
theorem jx2 : ¬ (("lost" : Str) = "joined") := by decide +kernel
theorem stT_joined {s : Sd} {g : Nat} : stT s g = "joined" ↔ gI s.R g = (g : Int) + 1 ∧ gI s.L (g + 1) = (g : Int) := by
  unfold stT
  split <;> split <;> rename_i a b
  · exact ⟨fun _ => ⟨a, b⟩, fun _ => rfl⟩
  · exact ⟨fun z => absurd z jl2, fun z => absurd z.2 b⟩
  · exact ⟨fun z => absurd z jr2, fun z => absurd z.1 a⟩
  · exact ⟨fun z => absurd z jx2, fun z => absurd z.1 a⟩
theorem stT_lost2 {s : Sd} {g : Nat} : stT s g = "lost" ↔ ¬ gI s.R g = (g : Int) + 1 ∧ ¬ gI s.L (g + 1) = (g : Int) := by
  unfold stT
  split <;> split <;> rename_i a b
  · exact ⟨fun z => absurd z jl, fun z => absurd a z.1⟩
  · exact ⟨fun z => absurd z ll, fun z => absurd a z.1⟩
  · exact ⟨fun z => absurd z rl_, fun z => absurd b z.2⟩
  · exact ⟨fun _ => ⟨a, b⟩, fun _ => rfl⟩
/-! ### triples -/
abbrev Ct := Int × Int × Int
def ctV (t : Ct) : List V := [.int t.1, .int t.2.1, .int t.2.2]
def CPs (H : Hp) (xs : List V) (es : List Ct) : Prop := xs.length = es.length ∧ ∀ (i : Nat) (e : Ct), es[i]? = some e → ∃ a, xs[i]? = some (.ref a) ∧ H a = some (.tup (ctV e))
theorem CPs.kp {S : List Addr} {H H' : Hp} {xs : List V} {es : List Ct} (h : CPs H xs es) (k : Kp S H H') (hS : ∀ b ∈ S, ∀ ys, H b ≠ some (.tup ys)) : CPs H' xs es := by
  refine ⟨h.1, fun i t e => ?_⟩
  obtain ⟨a, h1, h2⟩ := h.2 i t e
  exact ⟨a, h1, k _ _ (fun z => hS a z _ h2) h2⟩
theorem CPs.k0 {H H' : Hp} {xs : List V} {es : List Ct} (h : CPs H xs es) (k : Kp [] H H') : CPs H' xs es := h.kp k (by simp)
theorem CPs.one {H : Hp} {a : Addr} {t : Ct} (ha : H a = some (.tup (ctV t))) : CPs H [.ref a] [t] := by
  refine ⟨rfl, fun i u e => ?_⟩
  match i, e with
  | 0, e =>
    have eu : t = u := by simpa using e
    subst eu
    exact ⟨a, rfl, ha⟩
  | i + 1, e => simp at e
theorem CPs.nil {H : Hp} : CPs H [] [] := ⟨rfl, fun i t e => by simp at e⟩
theorem CPs.tail {H : Hp} {x : V} {xs : List V} {e : Ct} {es : List Ct} (h : CPs H (x :: xs) (e :: es)) : CPs H xs es := by
  have := h.1
  refine ⟨by simpa using this, fun i u z => ?_⟩
  obtain ⟨a, h1, h2⟩ := h.2 (i + 1) u (by simpa using z)
  exact ⟨a, by simpa using h1, h2⟩
/-! ### the law's things -/
structure Bk5 (H : Hp) (w l r o : Addr) (s : Sd) : Prop where
  ob : H w = some (.lst [.int s.n, .ref l, .ref r, .ref o])
  hl : ∃ L' : List Int, H l = some (.lst (L'.map V.int)) ∧ L'.length = s.n + 2 ∧ ∀ v, 1 ≤ v → v ≤ s.n + 1 → gI L' v = gI s.L v
  hr : ∃ R' : List Int, H r = some (.lst (R'.map V.int)) ∧ R'.length = s.n + 2 ∧ ∀ v, v ≤ s.n → gI R' v = gI s.R v
  ho : H o = some (.lst (s.O.map V.bl))
  ne : l ≠ r ∧ l ≠ o ∧ r ≠ o ∧ w ≠ l ∧ w ≠ r ∧ w ≠ o
  wf : Wf s
theorem Bk5.kp {H H' : Hp} {w l r o : Addr} {s : Sd} {S : List Addr} (a : Bk5 H w l r o s) (k : Kp S H H') (h1 : w ∉ S) (h2 : l ∉ S) (h3 : r ∉ S) (h4 : o ∉ S) : Bk5 H' w l r o s := by
  obtain ⟨L', e1, e2⟩ := a.hl
  obtain ⟨R', f1, f2⟩ := a.hr
  exact ⟨k _ _ h1 a.ob, ⟨L', k _ _ h2 e1, e2⟩, ⟨R', k _ _ h3 f1, f2⟩, k _ _ h4 a.ho, a.ne, a.wf⟩
theorem Bk5.k0 {H H' : Hp} {w l r o : Addr} {s : Sd} (a : Bk5 H w l r o s) (k : Kp [] H H') : Bk5 H' w l r o s := a.kp k (by simp) (by simp) (by simp) (by simp)
theorem Bk5.fr {H : Hp} {w l r o x : Addr} {s : Sd} (a : Bk5 H w l r o s) (n : H x = none) : w ≠ x ∧ l ≠ x ∧ r ≠ x ∧ o ≠ x := by
  obtain ⟨L', e1, e2⟩ := a.hl
  obtain ⟨R', f1, f2⟩ := a.hr
  exact ⟨ne_of_none a.ob n, ne_of_none e1 n, ne_of_none f1 n, ne_of_none a.ho n⟩
theorem legO_ok' {s : Sd} {v : Nat} (h1 : 1 ≤ v) (h2 : v ≤ s.n) : OkOp s (legO s v) ∧ (legO s v).natAbs = v := by
  unfold legO
  by_cases c : gB s.O v = true
  · rw [if_pos c]
    refine ⟨⟨⟨by omega, by omega⟩, ?_⟩, by omega⟩
    rw [Int.natAbs_natCast, c]
    symm
    exact decide_eq_true (by omega)
  · rw [if_neg c]
    refine ⟨⟨⟨by omega, by omega⟩, ?_⟩, by omega⟩
    rw [Int.natAbs_neg, Int.natAbs_natCast, Bool.not_eq_true] at *
    rw [c]
    symm
    exact decide_eq_false (by omega)
structure Bag5 (H : Hp) (b c : Addr) : Prop where
  ob : ∃ p q m t : Int, H b = some (.lst [.ref c, .int p, .int q, .int m, .int t]) ∧ 0 ≤ p
  hc : ∃ ns : List Int, H c = some (.lst (ns.map V.int)) ∧ ns.length ≤ 63
theorem Bag5.ne {H : Hp} {b c : Addr} (h : Bag5 H b c) : b ≠ c := by
  obtain ⟨p, q, m, t, h1, _⟩ := h.ob
  obtain ⟨ns, h2, _⟩ := h.hc
  rintro rfl
  rw [h1] at h2
  injection h2 with h2
  injection h2 with h2
  cases ns with
  | nil => cases h2
  | cons x ns =>
    injection h2 with h2
    cases h2
theorem Bag5.kp {H H' : Hp} {b c : Addr} {S : List Addr} (a : Bag5 H b c) (k : Kp S H H') (h1 : b ∉ S) (h2 : c ∉ S) : Bag5 H' b c := by
  obtain ⟨p, q, m, t, e1, p0⟩ := a.ob
  obtain ⟨ns, e2, e3⟩ := a.hc
  exact ⟨⟨p, q, m, t, k _ _ h1 e1, p0⟩, ⟨ns, k _ _ h2 e2, e3⟩⟩
theorem Bag5.k0 {H H' : Hp} {b c : Addr} (a : Bag5 H b c) (k : Kp [] H H') : Bag5 H' b c := a.kp k (by simp) (by simp)
theorem Bag5.fr {H : Hp} {b c x : Addr} (a : Bag5 H b c) (n : H x = none) : x ≠ b ∧ x ≠ c := by
  obtain ⟨_, _, _, _, e1, _⟩ := a.ob
  obtain ⟨_, e2, _⟩ := a.hc
  exact ⟨(ne_of_none e1 n).symm, (ne_of_none e2 n).symm⟩
structure ValS (b : Addr) (H : Hp) (v : V) : Prop where
  ex : ∃ d, Vl b H v d ∧ SeqAt.shaped d = true
theorem ValS.k1 {b : Addr} {H H' : Hp} {v : V} (h : ValS b H v) (k : Kp [b] H H') : ValS b H' v := by
  obtain ⟨d, h1, h2⟩ := h.ex
  exact ⟨d, Vl.kp k d v h1, h2⟩
theorem ValS.k0 {b : Addr} {H H' : Hp} {v : V} (h : ValS b H v) (k : Kp [] H H') : ValS b H' v := h.k1 k.all
/-! ### promises -/
section
def sp21__law_bag (K : PySem.W.Frag) : Sp := fun vs H Q E => ∃ (a : Addr) (ns : List Int), vs = [.ref a] ∧ SqL K H a (ns.map V.int) ∧ ns.length ≤ 63 ∧ ∀ b c H', H b = none → H c = none → Kp [] H H' → Bag5 H' b c → Q (.ref b) H'
def sp21__law_draw (K : PySem.W.Frag) : Sp := fun vs H Q E => ∃ (b c : Addr) (many : Int), vs = [.ref b, .int many] ∧ 0 < many ∧ many < 2 ^ 30 ∧ Bag5 H b c ∧ ∀ (d : Int) H', 0 ≤ d → d < many → Kp [b] H H' → Bag5 H' b c → Q (.int d) H'
def sp__law_operation (K : PySem.W.Frag) : Sp := fun vs H Q E => ∃ (w l r o : Addr) (s : Sd) (v : Nat), vs = [.ref w, .int (v : Int)] ∧ Bk5 H w l r o s ∧ v ≤ s.n + 1 ∧ Q (.int (legO s v)) H
end
end G
set_option Elab.async false
set_option linter.all false
set_option maxRecDepth 100000
set_option maxHeartbeats 4000000
/-! k06: sole holders; promises. -/
namespace G
open PySem PySem.Spec PyProof.Rows L2
/-- v holds a gap alone -/
def soleB (s : Sd) (v : Nat) : Bool := decide (stT s v = "left") || decide (stT s (v - 1) = "right")
def aloneL (s : Sd) : List Int := (((List.range s.n).map fun (v : Nat) => v + 1).filter fun v => soleB s v).map fun (v : Nat) => (v : Int)
theorem stT_left {s : Sd} {g : Nat} : stT s g = "left" ↔ gI s.R g = (g : Int) + 1 ∧ gI s.L (g + 1) ≠ (g : Int) := by
  obtain ⟨a, b, c, d, e, f, h, i, j, k, l, m⟩ := ne_w
  unfold stT
  by_cases h1 : gI s.R g = (g : Int) + 1 <;> by_cases h2 : gI s.L (g + 1) = (g : Int)
  · rw [if_pos h1, if_pos h2]
    exact ⟨fun z => absurd z k, fun z => absurd h2 z.2⟩
  · rw [if_pos h1, if_neg h2]
    exact ⟨fun _ => ⟨h1, h2⟩, fun _ => rfl⟩
  · rw [if_neg h1, if_pos h2]
    exact ⟨fun z => absurd z h, fun z => absurd z.1 h1⟩
  · rw [if_neg h1, if_neg h2]
    exact ⟨fun z => absurd z i, fun z => absurd z.1 h1⟩
theorem stT_right {s : Sd} {g : Nat} : stT s g = "right" ↔ gI s.R g ≠ (g : Int) + 1 ∧ gI s.L (g + 1) = (g : Int) := by
  obtain ⟨a, b, c, d, e, f, h, i, j, k, l, m⟩ := ne_w
  unfold stT
  by_cases h1 : gI s.R g = (g : Int) + 1 <;> by_cases h2 : gI s.L (g + 1) = (g : Int)
  · rw [if_pos h1, if_pos h2]
    exact ⟨fun z => absurd z l, fun z => absurd h1 z.1⟩
  · rw [if_pos h1, if_neg h2]
    exact ⟨fun z => absurd z m, fun z => absurd h1 z.1⟩
  · rw [if_neg h1, if_pos h2]
    exact ⟨fun _ => ⟨h1, h2⟩, fun _ => rfl⟩
  · rw [if_neg h1, if_neg h2]
    exact ⟨fun z => absurd z j, fun z => absurd z.2 h2⟩
theorem not_left0 {s : Sd} (w : Wf s) : stT s 0 ≠ "left" := fun z => by
  have h1 := (stT_left.mp z).2
  have h2 := w.lb 1 (by omega) (by omega)
  have e : gI s.L (0 + 1) = gI s.L 1 := rfl
  rw [e] at h1
  omega
theorem not_rightn {s : Sd} (w : Wf s) : stT s s.n ≠ "right" := fun z => by
  have h := (stT_right.mp z).1
  have := w.rb s.n (by omega)
  omega
theorem mem_alone {s : Sd} {i : Int} : i ∈ aloneL s ↔ 1 ≤ i ∧ i ≤ s.n ∧ soleB s i.toNat = true := by
  unfold aloneL
  constructor
  · intro h
    obtain ⟨v, hv, rfl⟩ := List.mem_map.mp h
    obtain ⟨h1, h2⟩ := List.mem_filter.mp hv
    obtain ⟨u, hu, rfl⟩ := List.mem_map.mp h1
    have := List.mem_range.mp hu
    rw [Int.toNat_natCast]
    exact ⟨by omega, by omega, h2⟩
  · rintro ⟨h1, h2, h3⟩
    exact List.mem_map.mpr ⟨i.toNat, List.mem_filter.mpr ⟨List.mem_map.mpr ⟨i.toNat - 1, List.mem_range.mpr (by omega), by omega⟩, h3⟩, by omega⟩
theorem alone_sorted (s : Sd) : (aloneL s).Pairwise (· < ·) := by
  unfold aloneL
  refine List.Pairwise.map (R := fun a b : Nat => a < b) _ (fun a b h => ?_) (List.Pairwise.filter (R := fun a b : Nat => a < b) _ (List.Pairwise.map (R := fun a b : Nat => a < b) (S := fun a b : Nat => a < b) _ (fun a b h => ?_) (List.pairwise_lt_range (n := s.n))))
  · exact Int.ofNat_lt.mpr h
  · exact Nat.succ_lt_succ h
theorem alone_len (s : Sd) : (aloneL s).length ≤ s.n := by
  unfold aloneL
  rw [List.length_map]
  refine Nat.le_trans (List.length_filter_le _ _) ?_
  rw [List.length_map, List.length_range]
  exact Nat.le_refl _
theorem sorted_ext : ∀ {a b : List Int}, a.Pairwise (· < ·) → b.Pairwise (· < ·) → (∀ x, x ∈ a ↔ x ∈ b) → a = b
  | [], [], _, _, _ => rfl
  | [], y :: b, _, _, h => by
    have := (h y).mpr List.mem_cons_self
    cases this
  | x :: a, [], _, _, h => by
    have := (h x).mp List.mem_cons_self
    cases this
  | x :: a, y :: b, ha, hb, h => by
    obtain ⟨a1, a2⟩ := List.pairwise_cons.mp ha
    obtain ⟨b1, b2⟩ := List.pairwise_cons.mp hb
    have exy : x = y := by
      rcases List.mem_cons.mp ((h x).mp List.mem_cons_self) with e | e
      · exact e
      · rcases List.mem_cons.mp ((h y).mpr List.mem_cons_self) with f | f
        · exact f.symm
        · have := a1 y f
          have := b1 x e
          omega
    subst exy
    congr 1
    refine sorted_ext a2 b2 fun z => ⟨fun hz => ?_, fun hz => ?_⟩
    · rcases List.mem_cons.mp ((h z).mp (List.mem_cons_of_mem _ hz)) with e | e
      · have := a1 z hz
        omega
      · exact e
    · rcases List.mem_cons.mp ((h z).mpr (List.mem_cons_of_mem _ hz)) with e | e
      · have := b1 z hz
        omega
      · exact e
/-- the holders found behind i gaps -/
def holdB (s : Sd) (i : Nat) (k : Int) : Bool := (List.range i).any fun g => (decide (stT s g = "left") && decide (k = (g : Int))) || (decide (stT s g = "right") && decide (k = (g : Int) + 1))
theorem holdB_all {s : Sd} (w : Wf s) {k : Int} : holdB s (s.n + 1) k = true ↔ k ∈ aloneL s := by
  rw [mem_alone]
  unfold holdB soleB
  rw [List.any_eq_true]
  constructor
  · rintro ⟨g, hg, h⟩
    have hg := List.mem_range.mp hg
    rw [Bool.or_eq_true, Bool.and_eq_true, Bool.and_eq_true, decide_eq_true_iff, decide_eq_true_iff, decide_eq_true_iff, decide_eq_true_iff] at h
    rcases h with ⟨h1, rfl⟩ | ⟨h1, rfl⟩
    · have g0 : g ≠ 0 := fun z => by
        subst z
        exact not_left0 w h1
      have gn : g ≠ s.n ∨ g = s.n := by omega
      refine ⟨by omega, ?_, ?_⟩
      · omega
      · rw [Int.toNat_natCast, decide_eq_true h1, Bool.true_or]
    · have gn : g ≠ s.n := fun z => by
        subst z
        exact not_rightn w h1
      refine ⟨by omega, by omega, ?_⟩
      rw [show ((g : Int) + 1).toNat = g + 1 by omega, Nat.add_sub_cancel, decide_eq_true h1, Bool.or_true]
  · rintro ⟨h1, h2, h3⟩
    obtain ⟨v, rfl⟩ : ∃ v : Nat, k = (v : Int) := ⟨k.toNat, by omega⟩
    rw [Int.toNat_natCast, Bool.or_eq_true, decide_eq_true_iff, decide_eq_true_iff] at h3
    rcases h3 with h3 | h3
    · exact ⟨v, List.mem_range.mpr (by omega), by rw [decide_eq_true h3, decide_eq_true rfl] <;> rfl⟩
    · refine ⟨v - 1, List.mem_range.mpr (by omega), ?_⟩
      rw [Bool.or_eq_true]
      refine .inr ?_
      rw [decide_eq_true h3, decide_eq_true (by omega)] <;> rfl
theorem holdB_snoc (s : Sd) (i : Nat) (k : Int) : holdB s (i + 1) k = (holdB s i k || ((decide (stT s i = "left") && decide (k = (i : Int))) || (decide (stT s i = "right") && decide (k = (i : Int) + 1)))) := by
  unfold holdB
  rw [List.range_succ, List.any_append]
  simp
/-- the four words of a state, one by one -/
theorem st_cases (s : Sd) (g : Nat) : (gI s.R g = (g : Int) + 1 ∧ gI s.L (g + 1) = (g : Int) ∧ stT s g = "joined") ∨ (gI s.R g = (g : Int) + 1 ∧ ¬ gI s.L (g + 1) = (g : Int) ∧ stT s g = "left") ∨
    (¬ gI s.R g = (g : Int) + 1 ∧ gI s.L (g + 1) = (g : Int) ∧ stT s g = "right") ∨ (¬ gI s.R g = (g : Int) + 1 ∧ ¬ gI s.L (g + 1) = (g : Int) ∧ stT s g = "lost") := by
  unfold stT
  by_cases h1 : gI s.R g = (g : Int) + 1 <;> by_cases h2 : gI s.L (g + 1) = (g : Int)
  · exact .inl ⟨h1, h2, by rw [if_pos h1, if_pos h2]⟩
  · exact .inr (.inl ⟨h1, h2, by rw [if_pos h1, if_neg h2]⟩)
  · exact .inr (.inr (.inl ⟨h1, h2, by rw [if_neg h1, if_pos h2]⟩))
  · exact .inr (.inr (.inr ⟨h1, h2, by rw [if_neg h1, if_neg h2]⟩))
/-! ### promises -/
section
def sp_sole_holders (K : PySem.W.Frag) : Sp := fun vs H Q E => ∃ (p r l o : Addr) (s : Sd), vs = [.ref p] ∧ LinksAt K H p r l o s ∧ NewL H ((aloneL s).map V.int) Q
end
end G
set_option Elab.async false
set_option linter.all false
set_option maxRecDepth 100000
set_option maxHeartbeats 4000000
/-! k00: promises. -/
namespace G
open PySem PySem.Spec PyProof.Rows L2 TL
/-- the law's box of draws: cells, place, number, seed, count -/
structure BxI (H : Hp) (b c : Addr) : Prop where
  ob : ∃ p q m t : Int, H b = some (.lst [.ref c, .int p, .int q, .int m, .int t]) ∧ 0 ≤ p
  hc : ∃ ns : List Int, H c = some (.lst (ns.map V.int)) ∧ ns.length ≤ 63
theorem BxI.ne {H : Hp} {b c : Addr} (h : BxI H b c) : b ≠ c := by
  obtain ⟨p, q, m, t, h1, _⟩ := h.ob
  obtain ⟨ns, h2, _⟩ := h.hc
  rintro rfl
  rw [h1] at h2
  injection h2 with h2
  injection h2 with h2
  cases ns with
  | nil => cases h2
  | cons x ns =>
    injection h2 with h2
    cases h2
theorem BxI.kp {H H' : Hp} {b c : Addr} {S : List Addr} (a : BxI H b c) (k : Kp S H H') (h1 : b ∉ S) (h2 : c ∉ S) : BxI H' b c := by
  obtain ⟨p, q, m, t, e1, p0⟩ := a.ob
  obtain ⟨ns, e2, e3⟩ := a.hc
  exact ⟨⟨p, q, m, t, k _ _ h1 e1, p0⟩, ⟨ns, k _ _ h2 e2, e3⟩⟩
theorem BxI.k0 {H H' : Hp} {b c : Addr} (a : BxI H b c) (k : Kp [] H H') : BxI H' b c := a.kp k (by simp) (by simp)
theorem BxI.fr {H : Hp} {b c x : Addr} (a : BxI H b c) (n : H x = none) : x ≠ b ∧ x ≠ c := by
  obtain ⟨_, _, _, _, e1, _⟩ := a.ob
  obtain ⟨_, e2, _⟩ := a.hc
  exact ⟨(ne_of_none e1 n).symm, (ne_of_none e2 n).symm⟩
/-- what a reading of the text is due to tell -/
def DueA (H : Hp) (t : Str) (xs : List V) : Prop := (∃ k : Nat, badW (wordsT t) = some k ∧ xs = [.bl false, .int (k : Int)]) ∨ (badW (wordsT t) = none ∧ ∃ l, xs = [.bl true, .ref l] ∧ H l = some (.lst (((wordsT t).map valW).map V.int)))
theorem DueA.k0 {H H' : Hp} {t : Str} {xs : List V} (h : DueA H t xs) (k : Kp [] H H') : DueA H' t xs := by
  rcases h with h | ⟨h, l, e, hl⟩
  · exact .inl h
  · exact .inr ⟨h, l, e, k.at0 hl⟩
end G
set_option Elab.async false
set_option linter.all false
set_option maxRecDepth 100000
set_option maxHeartbeats 4000000
/-! k03: dumps of any form. -/
namespace G
open PySem PySem.Spec PyProof.Rows L2 TL NumText
/-! ### canonical digits -/
def numZ (w : Str) : Int := if tl w = [48] then 0 else if posL (tl w) = true then ((digitsVal (tl w) : Nat) : Int) else -1
/-! ### what is split is joined again -/
/-! ### the parts of a dump -/
def nz (t : Str) : List Int := (Txt.split t spS).map numZ
theorem nz_len (t : Str) : (nz t).length = (Txt.split t spS).length := List.length_map ..
theorem nz_ne (t : Str) : nz t ≠ [] := fun z => (split_sum t).2.2 (by
  have := nz_len t
  rw [z] at this
  exact List.length_eq_zero_iff.mp this.symm)
def okR (R : List Int) : Prop := R.length ≤ 61 ∧ ∀ v, v < R.length → (v : Int) < gI R v ∧ gI R v ≤ R.length
def okL (L : List Int) (n : Nat) : Prop := L.length = n + 1 ∧ ∀ v, v ≤ n → 0 ≤ gI L v ∧ gI L v ≤ v
def okO (O : List Int) (n : Nat) : Prop := ∀ i, i < O.length → gI (0 :: O) i < gI O i ∧ gI O i ≤ n
def prt (t : Str) (i : Nat) : Str := (Txt.split t barS ++ (["", ""] : List Str)).getD i ""
def szT (t : Str) : Nat := (nz (prt t 0)).length - 1
def osT (t : Str) : List Int := if prt t 2 = noneS then [] else nz (prt t 2)
def bitsO (n : Nat) (O : List Int) : List Bool := (List.range (n + 2)).map fun (v : Nat) => decide ((v : Int) ∈ O)
def sdT (t : Str) : Sd := ⟨szT t, nz (prt t 0), 0 :: nz (prt t 1), bitsO (szT t) (osT t)⟩
theorem bits_len (n : Nat) (O : List Int) : (bitsO n O).length = n + 2 := by
  unfold bitsO
  rw [List.length_map, List.length_range]
/-- a right text -/
structure RightT (t : Str) : Prop where
  r : okR (nz (prt t 0))
  l : okL (nz (prt t 1)) (szT t)
  o : okO (osT t) (szT t)
theorem RightT.wf {t : Str} (h : RightT t) : Wf (sdT t) := by
  have hn := List.length_pos_iff.mpr (nz_ne (prt t 0))
  have e : (nz (prt t 0)).length = szT t + 1 := by
    unfold szT
    omega
  refine ⟨?_, e, by show (nz (prt t 1)).length + 1 = _; rw [h.l.1] <;> rfl, bits_len _ _, fun v hv => ?_, fun v h1 h2 => ?_⟩
  · have := h.r.1
    show szT t ≤ 60
    omega
  · have := h.r.2 v (by rw [e]; exact Nat.lt_succ_of_le hv)
    rw [e] at this
    exact this
  · obtain ⟨u, rfl⟩ : ∃ u, v = u + 1 := ⟨v - 1, by omega⟩
    have := h.l.2 u (by show u ≤ szT t; have : u + 1 ≤ szT t + 1 := h2; omega)
    show 0 ≤ gI (nz (prt t 1)) u ∧ gI (nz (prt t 1)) u < _
    omega
end G
set_option Elab.async false
set_option linter.all false
set_option maxRecDepth 100000
set_option maxHeartbeats 4000000
/-! k03: promises. -/
namespace G
open PySem PySem.Spec PyProof.Rows L2 TL
/-- the law's lists of links -/
structure WdZ (H : Hp) (r l o : Addr) (n : Nat) (R L : List Int) (O : List Bool) : Prop where
  hr : H r = some (.lst (R.map V.int))
  hl : H l = some (.lst (L.map V.int))
  ho : H o = some (.lst (O.map V.bl))
  ne : r ≠ l ∧ r ≠ o ∧ l ≠ o
  lR : R.length = n + 1
  lL : L.length = n + 2
  lO : O.length = n + 2
  rb : ∀ v : Nat, v ≤ n → (v : Int) < gI R v ∧ gI R v ≤ (n : Int) + 1
  lb : ∀ v : Nat, 1 ≤ v → v ≤ n + 1 → 0 ≤ gI L v ∧ gI L v < (v : Int)
  o0 : gB O 0 = false
  o1 : gB O (n + 1) = false
theorem WdZ.kp {H H' : Hp} {r l o : Addr} {n : Nat} {R L : List Int} {O : List Bool} {S : List Addr} (a : WdZ H r l o n R L O) (k : Kp S H H') (h1 : r ∉ S) (h2 : l ∉ S) (h3 : o ∉ S) : WdZ H' r l o n R L O :=
  ⟨k _ _ h1 a.hr, k _ _ h2 a.hl, k _ _ h3 a.ho, a.ne, a.lR, a.lL, a.lO, a.rb, a.lb, a.o0, a.o1⟩
theorem WdZ.k0 {H H' : Hp} {r l o : Addr} {n : Nat} {R L : List Int} {O : List Bool} (a : WdZ H r l o n R L O) (k : Kp [] H H') : WdZ H' r l o n R L O := a.kp k (by simp) (by simp) (by simp)
theorem WdZ.setR {H H' : Hp} {r l o : Addr} {n v : Nat} {x : Int} {R L : List Int} {O : List Bool} (a : WdZ H r l o n R L O) (hv : v ≤ n) (h1 : (v : Int) < x) (h2 : x ≤ (n : Int) + 1) (k : Kp [r] H H') (h : H' r = some (.lst ((R.map V.int).set v (.int x)))) : WdZ H' r l o n (R.set v x) L O := by
  refine ⟨by rw [h, set_I], k.at1 (Ne.symm a.ne.1) a.hl, k.at1 (Ne.symm a.ne.2.1) a.ho, a.ne, by rw [List.length_set, a.lR], a.lL, a.lO, fun u hu => ?_, a.lb, a.o0, a.o1⟩
  rw [gI_set (by rw [a.lR]; omega)]
  by_cases c : u = v
  · rw [if_pos c]
    omega
  · rw [if_neg c]
    exact a.rb u hu
theorem WdZ.setL {H H' : Hp} {r l o : Addr} {n v : Nat} {x : Int} {R L : List Int} {O : List Bool} (a : WdZ H r l o n R L O) (hv1 : 1 ≤ v) (hv : v ≤ n + 1) (h1 : 0 ≤ x) (h2 : x < (v : Int)) (k : Kp [l] H H') (h : H' l = some (.lst ((L.map V.int).set v (.int x)))) : WdZ H' r l o n R (L.set v x) O := by
  refine ⟨k.at1 a.ne.1 a.hr, by rw [h, set_I], k.at1 (Ne.symm a.ne.2.2) a.ho, a.ne, a.lR, by rw [List.length_set, a.lL], a.lO, a.rb, fun u hu1 hu => ?_, a.o0, a.o1⟩
  rw [gI_set (by rw [a.lL]; omega)]
  by_cases c : u = v
  · rw [if_pos c]
    omega
  · rw [if_neg c]
    exact a.lb u hu1 hu
theorem WdZ.setO {H H' : Hp} {r l o : Addr} {n v : Nat} {x : Bool} {R L : List Int} {O : List Bool} (a : WdZ H r l o n R L O) (hv1 : 1 ≤ v) (hv : v ≤ n) (k : Kp [o] H H') (h : H' o = some (.lst ((O.map V.bl).set v (.bl x)))) : WdZ H' r l o n R L (O.set v x) := by
  refine ⟨k.at1 a.ne.2.1 a.hr, k.at1 a.ne.2.2 a.hl, by rw [h, set_B], a.ne, a.lR, a.lL, by rw [List.length_set, a.lO], a.rb, a.lb, ?_, ?_⟩
  · rw [gB_set (by rw [a.lO]; omega), if_neg (by omega)]
    exact a.o0
  · rw [gB_set (by rw [a.lO]; omega), if_neg (by omega)]
    exact a.o1
section
def sp03_Links_is_out (K : PySem.W.Frag) : Sp := fun vs H Q E => ∃ (p r l o : Addr) (s : Sd) (v : Nat), vs = [.ref p, .int (v : Int)] ∧ LinksAt K H p r l o s ∧ v ≤ s.n + 1 ∧ Q (.bl (gB s.O v)) H
end
end G
set_option Elab.async false
set_option linter.all false
set_option maxRecDepth 100000
set_option maxHeartbeats 4000000
/-! k02: mathematics and promises. -/
namespace G
open PySem PySem.Spec PyProof.Rows L2 TL
/-! ### the standing of the law's lists -/
def wS (n : Nat) (R L : List Int) (O : List Bool) : Sd := ⟨n, R, 0 :: L.drop 1, O⟩
theorem gI_wL {L : List Int} {v : Nat} (h : 1 ≤ v) : gI (0 :: L.drop 1) v = gI L v := by
  obtain ⟨u, rfl⟩ : ∃ u, v = u + 1 := ⟨v - 1, by omega⟩
  show (L.drop 1).getD u 0 = L.getD (u + 1) 0
  rw [List.getD_eq_getElem?_getD, List.getD_eq_getElem?_getD, List.getElem?_drop, Nat.add_comm]
theorem WdZ.wf {H : Hp} {r l o : Addr} {n : Nat} {R L : List Int} {O : List Bool} (a : WdZ H r l o n R L O) (hn : n ≤ 60) : Wf (wS n R L O) := by
  refine ⟨hn, a.lR, ?_, a.lO, a.rb, fun v h1 h2 => ?_⟩
  · show (L.drop 1).length + 1 = n + 2
    rw [List.length_drop, a.lL]
    omega
  · show 0 ≤ gI (0 :: L.drop 1) v ∧ gI (0 :: L.drop 1) v < _
    rw [gI_wL h1]
    exact a.lb v h1 h2
/-! ### dumps are alike exactly if the standings are -/
end G
set_option Elab.async false
set_option linter.all false
set_option maxRecDepth 100000
set_option maxHeartbeats 4000000
/-! k02: promises. -/
set_option Elab.async false
set_option linter.all false
set_option maxRecDepth 100000
set_option maxHeartbeats 4000000
/-! k04: mathematics. -/
namespace G
open PySem PySem.Spec PyProof.Rows L2 TL
/-! ### walks -/
/-! ### sound, whole -/
/-! ### the mirror -/
theorem sd_ext {s t : Sd} (w : Wf s) (w' : Wf t) (d : Snd s) (d' : Snd t) (hn : s.n = t.n) (hR : ∀ v, v ≤ s.n → gI s.R v = gI t.R v) (hL : ∀ v, 1 ≤ v → v ≤ s.n + 1 → gI s.L v = gI t.L v) (hO : ∀ v, v ≤ s.n + 1 → gB s.O v = gB t.O v) : s = t := by
  have l1 := w.lR
  have l2 := w.lL
  have l3 := w.lO
  have m1 := w'.lR
  have m2 := w'.lL
  have m3 := w'.lO
  obtain ⟨x, hx⟩ := d.l0
  obtain ⟨y, hy⟩ := d'.l0
  have e1 : s.R = t.R := List.ext_getElem? fun i => by
    by_cases hi : i < s.n + 1
    · rw [gI_at (l := s.R) (by omega), gI_at (l := t.R) (by omega), hR i (by omega)]
    · rw [List.getElem?_eq_none (by omega), List.getElem?_eq_none (by omega)]
  have e2 : s.L = t.L := List.ext_getElem? fun i => by
    by_cases hi : i < s.n + 2
    · cases i with
      | zero => rw [hx, hy] <;> rfl
      | succ i => rw [gI_at (l := s.L) (by omega), gI_at (l := t.L) (by omega), hL (i + 1) (by omega) (by omega)]
    · rw [List.getElem?_eq_none (by omega), List.getElem?_eq_none (by omega)]
  have e3 : s.O = t.O := List.ext_getElem? fun i => by
    by_cases hi : i < s.n + 2
    · rw [gB_at (l := s.O) (by omega), gB_at (l := t.O) (by omega), hO i (by omega)]
    · rw [List.getElem?_eq_none (by omega), List.getElem?_eq_none (by omega)]
  obtain ⟨n, R, L, O⟩ := s
  obtain ⟨n', R', L', O'⟩ := t
  cases hn; cases e1; cases e2; cases e3
  rfl
theorem step_gB {s : Sd} (w : Wf s) {op : Int} (h : IsOp s.n op) (v : Nat) : gB (stepS s op).O v = if v = op.natAbs then decide (op < 0) else gB s.O v := by
  show gB (s.O.set op.natAbs (decide (op < 0))) v = _
  have := w.lO
  have := h.2
  rw [gB_set (by omega)]
theorem step_gI {s : Sd} (w : Wf s) {op : Int} (h : IsOp s.n op) (v : Nat) : gI (stepS s op).R v = (if v = (gI s.L op.natAbs).toNat then (if op < 0 then gI s.R op.natAbs else (op.natAbs : Int)) else gI s.R v) ∧ gI (stepS s op).L v = (if v = (gI s.R op.natAbs).toNat then (if op < 0 then gI s.L op.natAbs else (op.natAbs : Int)) else gI s.L v) := by
  have h1 := h.1
  have h2 := h.2
  have rb := w.rb op.natAbs h2
  have lb := w.lb op.natAbs h1 (by omega)
  have l1 := w.lR
  have l2 := w.lL
  refine ⟨?_, ?_⟩
  · show gI (s.R.set _ _) v = _
    rw [gI_set (by omega)]
  · show gI (s.L.set _ _) v = _
    rw [gI_set (by omega)]
end G
set_option Elab.async false
set_option linter.all false
set_option maxRecDepth 100000
set_option maxHeartbeats 4000000
/-! k16: due nodes, debts, finishing by relinks: mathematics. -/
namespace G
open PySem PySem.Spec PyProof.Rows L2
def dueB (s : Sd) (v : Nat) : Bool := gB s.O v || soleB s v
def dueL (s : Sd) : List Int := (((List.range s.n).map fun (v : Nat) => v + 1).filter fun v => dueB s v).map fun (v : Nat) => (v : Int)
theorem mem_due {s : Sd} {i : Int} : i ∈ dueL s ↔ 1 ≤ i ∧ i ≤ s.n ∧ dueB s i.toNat = true := by
  unfold dueL
  constructor
  · intro h
    obtain ⟨v, hv, rfl⟩ := List.mem_map.mp h
    obtain ⟨h1, h2⟩ := List.mem_filter.mp hv
    obtain ⟨u, hu, rfl⟩ := List.mem_map.mp h1
    have := List.mem_range.mp hu
    rw [Int.toNat_natCast]
    exact ⟨by omega, by omega, h2⟩
  · rintro ⟨h1, h2, h3⟩
    exact List.mem_map.mpr ⟨i.toNat, List.mem_filter.mpr ⟨List.mem_map.mpr ⟨i.toNat - 1, List.mem_range.mpr (by omega), by omega⟩, h3⟩, by omega⟩
theorem due_len (s : Sd) : (dueL s).length ≤ s.n := by
  unfold dueL
  rw [List.length_map]
  refine Nat.le_trans (List.length_filter_le _ _) ?_
  rw [List.length_map, List.length_range]
  exact Nat.le_refl _
theorem due_pair (s : Sd) : (dueL s).Pairwise (· < ·) := by
  unfold dueL
  rw [List.pairwise_map]
  refine List.Pairwise.imp (fun {a b} (h : a < b) => by omega) (List.Pairwise.filter _ ?_)
  rw [List.pairwise_map]
  exact List.Pairwise.imp (fun {a b} (h : a < b) => by omega) List.pairwise_lt_range
theorem mem_outs {s : Sd} {i : Int} : i ∈ outN s.n s.O ↔ 1 ≤ i ∧ i ≤ s.n ∧ gB s.O i.toNat = true := by
  unfold outN
  constructor
  · intro h
    obtain ⟨v, hv, rfl⟩ := List.mem_map.mp h
    obtain ⟨h1, h2⟩ := List.mem_filter.mp hv
    obtain ⟨u, hu, rfl⟩ := List.mem_map.mp h1
    have := List.mem_range.mp hu
    rw [Int.toNat_natCast]
    exact ⟨by omega, by omega, h2⟩
  · rintro ⟨h1, h2, h3⟩
    exact List.mem_map.mpr ⟨i.toNat, List.mem_filter.mpr ⟨List.mem_map.mpr ⟨i.toNat - 1, List.mem_range.mpr (by omega), by omega⟩, h3⟩, by omega⟩
theorem due_union {s : Sd} {i : Int} : i ∈ dueL s ↔ i ∈ outN s.n s.O ∨ i ∈ aloneL s := by
  rw [mem_due, mem_outs, mem_alone]
  unfold dueB
  rw [Bool.or_eq_true]
  constructor
  · rintro ⟨a, b, c | c⟩
    · exact .inl ⟨a, b, c⟩
    · exact .inr ⟨a, b, c⟩
  · rintro (⟨a, b, c⟩ | ⟨a, b, c⟩)
    · exact ⟨a, b, .inl c⟩
    · exact ⟨a, b, .inr c⟩
def costB (b : Bool) : Int := if b then 1 else 2
def owedS (s : Sd) : Int := ((dueL s).map fun v => costB (gB s.O v.toNat)).sum
/-! ### finishing by relinks alone -/
def FinP (s : Sd) : Prop := lostL s = [] ∧ ∀ v ∈ aloneL s, gB s.O v.toNat = true
def WhP (s : Sd) : Prop := ∀ g, g ≤ s.n → gI s.R g = (g : Int) + 1 ∧ gI s.L (g + 1) = (g : Int) ∧ gB s.O g = false
theorem lost_nil {s : Sd} : lostL s = [] ↔ ∀ g, g ≤ s.n → stT s g ≠ "lost" := by
  unfold lostL
  rw [List.filter_eq_nil_iff]
  constructor
  · intro h g hg z
    exact h g (List.mem_range.mpr (by omega)) (decide_eq_true z)
  · intro h g hg z
    exact h g (by have := List.mem_range.mp hg; omega) (of_decide_eq_true z)
theorem sole_iff {s : Sd} {v : Nat} : soleB s v = true ↔ stT s v = "left" ∨ stT s (v - 1) = "right" := by
  unfold soleB
  rw [Bool.or_eq_true, decide_eq_true_iff, decide_eq_true_iff]
theorem fin_iff {s : Sd} : FinP s ↔ (∀ g, g ≤ s.n → stT s g ≠ "lost") ∧ ∀ v : Nat, 1 ≤ v → v ≤ s.n → soleB s v = true → gB s.O v = true := by
  unfold FinP
  rw [lost_nil]
  constructor
  · rintro ⟨h1, h2⟩
    refine ⟨h1, fun v a b c => ?_⟩
    have := h2 (v : Int) (mem_alone.mpr ⟨by omega, by omega, by rw [Int.toNat_natCast]; exact c⟩)
    rwa [Int.toNat_natCast] at this
  · rintro ⟨h1, h2⟩
    refine ⟨h1, fun i hi => ?_⟩
    obtain ⟨a, b, c⟩ := mem_alone.mp hi
    exact h2 i.toNat (by omega) (by omega) c
theorem st_four4 (s : Sd) (g : Nat) : stT s g = "joined" ∨ stT s g = "left" ∨ stT s g = "right" ∨ stT s g = "lost" := by
  unfold stT
  split <;> split <;> simp
theorem fin_wh {s : Sd} (w : Wf s) (d : Snd s) (h : FinP s) (ho : ∀ v : Nat, 1 ≤ v → v ≤ s.n → gB s.O v = false) : WhP s := by
  obtain ⟨h1, h2⟩ := fin_iff.mp h
  intro g hg
  have og : gB s.O g = false := by
    by_cases c : g = 0
    · rw [c]; exact d.o0
    · exact ho g (by omega) hg
  have j : stT s g = "joined" := by
    rcases st_four4 s g with e | e | e | e
    · exact e
    · exfalso
      have g0 : g ≠ 0 := fun z => not_left0 w (by rw [← z]; exact e)
      have := h2 g (by omega) hg (sole_iff.mpr (.inl e))
      rw [og] at this
      cases this
    · exfalso
      have gn : g ≠ s.n := fun z => not_rightn w (by rw [← z]; exact e)
      have := h2 (g + 1) (by omega) (by omega) (sole_iff.mpr (.inr e))
      rw [ho (g + 1) (by omega) (by omega)] at this
      cases this
    · exact absurd e (h1 g hg)
  obtain ⟨a, b⟩ := stT_joined.mp j
  exact ⟨a, b, og⟩
/-! ### rows -/
end G
set_option Elab.async false
set_option linter.all false
set_option maxRecDepth 100000
set_option maxHeartbeats 4000000
/-! k16: promises. -/
namespace G
open PySem PySem.Spec PyProof.Rows L2
def whlG (s : Sd) (g : Nat) : Bool := decide (gI s.R g = (g : Int) + 1) && (decide (gI s.L (g + 1) = (g : Int)) && !gB s.O g)
def whlB (s : Sd) : Bool := (List.range (s.n + 1)).all fun g => whlG s g
theorem whlB_iff {s : Sd} : whlB s = true ↔ WhP s := by
  unfold whlB WhP
  rw [List.all_eq_true]
  constructor
  · intro h g hg
    have := h g (List.mem_range.mpr (by omega))
    unfold whlG at this
    rw [Bool.and_eq_true, Bool.and_eq_true, decide_eq_true_iff, decide_eq_true_iff, Bool.not_eq_true'] at this
    exact ⟨this.1, this.2.1, this.2.2⟩
  · intro h g hg
    obtain ⟨a, b, c⟩ := h g (by have := List.mem_range.mp hg; omega)
    unfold whlG
    rw [decide_eq_true a, decide_eq_true b, c]
    rfl
/-- the rows on the heap, none of them anything of z -/
def RowAt (H : Hp) (z w : Addr) (t : Sd) : Prop := ∃ l r o, Bk5 H w l r o t ∧ Snd t ∧ w ≠ z ∧ l ≠ z ∧ r ≠ z ∧ o ≠ z
theorem RowAt.kz {H H' : Hp} {z w : Addr} {t : Sd} (h : RowAt H z w t) (k : Kp [z] H H') : RowAt H' z w t := by
  obtain ⟨l, r, o, b, d, h1, h2, h3, h4⟩ := h
  exact ⟨l, r, o, b.kp k (by simpa using h1) (by simpa using h2) (by simpa using h3) (by simpa using h4), d, h1, h2, h3, h4⟩
theorem RowAt.new {H : Hp} {z z' w : Addr} {t : Sd} (h : RowAt H z w t) (n : H z' = none) : RowAt H z' w t := by
  obtain ⟨l, r, o, b, d, _⟩ := h
  obtain ⟨x1, x2, x3, x4⟩ := b.fr n
  exact ⟨l, r, o, b, d, x1, x2, x3, x4⟩
def RowsAt (H : Hp) (z : Addr) (ws : List Addr) (ts : List Sd) : Prop := ws.length = ts.length ∧ ∀ (i : Nat) (w : Addr) (t : Sd), ws[i]? = some w → ts[i]? = some t → RowAt H z w t
theorem RowsAt.kz {H H' : Hp} {z : Addr} {ws : List Addr} {ts : List Sd} (h : RowsAt H z ws ts) (k : Kp [z] H H') : RowsAt H' z ws ts := ⟨h.1, fun i w t a b => (h.2 i w t a b).kz k⟩
theorem RowsAt.k0 {H H' : Hp} {z : Addr} {ws : List Addr} {ts : List Sd} (h : RowsAt H z ws ts) (k : Kp [] H H') : RowsAt H' z ws ts := h.kz k.all
theorem RowsAt.new {H : Hp} {z z' : Addr} {ws : List Addr} {ts : List Sd} (h : RowsAt H z ws ts) (n : H z' = none) : RowsAt H z' ws ts := ⟨h.1, fun i w t a b => (h.2 i w t a b).new n⟩
theorem RowsAt.nil (H : Hp) (z : Addr) : RowsAt H z [] [] := ⟨rfl, fun i w t a _ => by simp at a⟩
theorem RowsAt.snoc {H : Hp} {z w : Addr} {t : Sd} {ws : List Addr} {ts : List Sd} (h : RowsAt H z ws ts) (r : RowAt H z w t) : RowsAt H z (ws ++ [w]) (ts ++ [t]) := by
  refine ⟨by rw [List.length_append, List.length_append, h.1]; rfl, fun i u q a b => ?_⟩
  rcases Nat.lt_or_ge i ws.length with c | c
  · rw [List.getElem?_append_left c] at a
    rw [List.getElem?_append_left (by rw [← h.1]; exact c)] at b
    exact h.2 i u q a b
  · rw [List.getElem?_append_right c] at a
    rw [List.getElem?_append_right (by rw [← h.1]; exact c)] at b
    have c2 : i - ws.length = 0 := by
      have := (List.getElem?_eq_some_iff.mp a).1
      simp at this
      omega
    rw [c2] at a
    rw [← h.1, c2] at b
    injection a with a
    injection b with b
    subst a b
    exact r
def NotRep (K : PySem.W.Frag) (s : Sd) (E : XK) (H : Hp) : Prop := ∀ (g : Nat) (gs : List Nat), lostL s = g :: gs → ∀ H', Kp [] H H' → Ex K "NotRepairable" [("gap", .int (g : Int))] E H'
theorem NotRep.k0 {K : PySem.W.Frag} {s : Sd} {E : XK} {H H1 : Hp} (h : NotRep K s E H) (k : Kp [] H H1) : NotRep K s E H1 := fun g gs e H' k' => h g gs e H' (k.trans k')
section
def sp16_due_nodes (K : PySem.W.Frag) : Sp := fun vs H Q E => ∃ (p r l o : Addr) (s : Sd), vs = [.ref p] ∧ LinksAt K H p r l o s ∧ NewL H ((dueL s).map V.int) Q
def sp16_check_repairable (K : PySem.W.Frag) : Sp := fun vs H Q E => ∃ (p r l o : Addr) (s : Sd), vs = [.ref p] ∧ LinksAt K H p r l o s ∧ (lostL s = [] → Any H .non Q) ∧ NotRep K s E H
def sp16_repair_cost (K : PySem.W.Frag) : Sp := fun vs H Q E => ∃ (p r l o a : Addr) (s : Sd), vs = [.ref p, .ref a] ∧ LinksAt K H p r l o s ∧ H a = some (.lst ((List.replicate s.n (1 : Int)).map V.int)) ∧ (lostL s = [] → Any H (.int (owedS s)) Q) ∧ NotRep K s E H
def sp16_debt_of (K : PySem.W.Frag) : Sp := fun vs H Q E => ∃ (p r l o : Addr) (s : Sd), vs = [.ref p] ∧ LinksAt K H p r l o s ∧ (lostL s = [] → Any H (.int (owedS s)) Q) ∧ NotRep K s E H
def sp16__law_size (K : PySem.W.Frag) : Sp := fun vs H Q E => ∃ (b c : Addr), vs = [.ref b] ∧ Bag5 H b c ∧ ∀ (n : Nat) H', n ≤ 60 → Kp [b] H H' → Bag5 H' b c → Q (.int (n : Int)) H'
def sp16__law_standing (K : PySem.W.Frag) : Sp := fun vs H Q E => ∃ (b c : Addr) (n : Nat) (lossy : Int), vs = [.ref b, .int (n : Int), .int lossy] ∧ n ≤ 60 ∧ Bag5 H b c ∧ ∀ (s : Sd) w l r o H', s.n = n → Snd s → H w = none → H l = none → H r = none → H o = none → Kp [b] H H' → Bag5 H' b c → Bk5 H' w l r o s → Q (.ref w) H'
def sp16__law_dump (K : PySem.W.Frag) : Sp := fun vs H Q E => ∃ (w l r o : Addr) (s : Sd), vs = [.ref w] ∧ Bk5 H w l r o s ∧ Snd s ∧ Any H (.str (dumpS s)) Q
def sp16__law_is_whole (K : PySem.W.Frag) : Sp := fun vs H Q E => ∃ (w l r o : Addr) (s : Sd), vs = [.ref w] ∧ Bk5 H w l r o s ∧ Q (.bl (whlB s)) H
def sp16__law_lost (K : PySem.W.Frag) : Sp := fun vs H Q E => ∃ (w l r o : Addr) (s : Sd), vs = [.ref w] ∧ Bk5 H w l r o s ∧ NewL H (((lostL s).map fun (v : Nat) => (v : Int)).map V.int) Q
def sp16__law_is_due (K : PySem.W.Frag) : Sp := fun vs H Q E => ∃ (w l r o : Addr) (s : Sd) (v : Nat), vs = [.ref w, .int (v : Int)] ∧ Bk5 H w l r o s ∧ 1 ≤ v ∧ v ≤ s.n ∧ Q (.bl (dueB s v)) H
def sp16__law_due (K : PySem.W.Frag) : Sp := fun vs H Q E => ∃ (w l r o : Addr) (s : Sd), vs = [.ref w] ∧ Bk5 H w l r o s ∧ NewL H ((dueL s).map V.int) Q
def sp16__law_owed (K : PySem.W.Frag) : Sp := fun vs H Q E => ∃ (w l r o : Addr) (s : Sd), vs = [.ref w] ∧ Bk5 H w l r o s ∧ Any H (.int (owedS s)) Q
def sp16__law_number (K : PySem.W.Frag) : Sp := fun vs H Q E => ∃ i : Int, vs = [.int i] ∧ Q (.bl true) H
def sp16__law_numbers (K : PySem.W.Frag) : Sp := fun vs H Q E => ∃ (a : Addr) (xs : List Int), vs = [.ref a] ∧ H a = some (.lst (xs.map V.int)) ∧ xs.length ≤ 1000 ∧ Any H (.bl true) Q
end
end G
set_option Elab.async false
set_option linter.all false
set_option maxRecDepth 100000
set_option maxHeartbeats 4000000
/-! k05: the mathematics of squeezed logs. -/
namespace G
open PySem PySem.Spec PyProof.Rows L2 TL
/-! ### runs -/
/-! ### short runs -/
/-! ### what a squeezed log does -/
theorem runS_app (s : Sd) (a b : List Int) : runS s (a ++ b) = runS (runS s a) b := by
  unfold runS
  rw [List.foldl_append]
theorem leg_app {s : Sd} {a b : List Int} : Leg s (a ++ b) ↔ Leg s a ∧ Leg (runS s a) b := by
  constructor
  · intro h
    refine ⟨?_, fun i op hop => ?_⟩
    · have := h.take a.length
      rwa [List.take_left'] at this
      rfl
    · have := h (a.length + i) op (by rw [List.getElem?_append_right (by omega), show a.length + i - a.length = i by omega]; exact hop)
      rwa [List.take_append, List.take_of_length_le (by omega), show a.length + i - a.length = i by omega, runS_app] at this
  · rintro ⟨h1, h2⟩ i op hop
    by_cases c : i < a.length
    · rw [List.getElem?_append_left c] at hop
      have := h1 i op hop
      rwa [List.take_append_of_le_length (by omega)]
    · rw [List.getElem?_append_right (by omega)] at hop
      have e : (a ++ b).take i = a ++ b.take (i - a.length) := by rw [List.take_append, List.take_of_length_le (by omega)]
      rw [e, runS_app]
      exact h2 (i - a.length) op hop
theorem leg_cons {s : Sd} {x : Int} {l : List Int} : Leg s (x :: l) ↔ OkOp s x ∧ Leg (stepS s x) l := by
  have e := leg_app (s := s) (a := [x]) (b := l)
  constructor
  · intro h
    obtain ⟨h1, h2⟩ := e.mp h
    exact ⟨h1 0 x rfl, h2⟩
  · rintro ⟨h1, h2⟩
    refine e.mpr ⟨fun i op hop => ?_, h2⟩
    cases i with
    | zero =>
      cases hop
      exact h1
    | succ i => simp at hop
end G
set_option Elab.async false
set_option linter.all false
set_option maxRecDepth 100000
set_option maxHeartbeats 4000000
/-! k17: first repairs: mathematics. -/
namespace G
open PySem PySem.Spec PyProof.Rows L2
theorem abs_low {A B A' B' O D : Nat → Prop} {v low h n : Nat} {pos : Prop}
  (h1 : low ≤ v) (h2 : v < h) (h3 : h ≤ n) (hv : v + 1 ≤ n)
  (nl : ∀ g, g ≤ n → A g ∨ B g)
  (bl : B v ↔ low = v) (ah : A (v + 1) ↔ h = v + 1)
  (a' : ∀ g, A' g ↔ (g = low ∧ pos ∧ low = v) ∨ (g ≠ low ∧ A g))
  (b' : ∀ g, B' g ↔ (g = h ∧ pos ∧ v + 1 = h) ∨ (g ≠ h ∧ B g))
  (d : ∀ u, D (u + 1) ↔ O (u + 1) ∨ (A (u + 1) ∧ ¬ B (u + 1)) ∨ (¬ A u ∧ B u))
  (hl : low = v ∨ ¬ A low ∨ (B low ∧ D (low + 1)))
  (hh : h = v + 1 ∨ ¬ B h ∨ (A h ∧ D h)) :
  (∀ g, g ≤ n → A' g ∨ B' g) ∧ (∀ u, u + 1 ≤ n → u ≠ v → ((O (u + 1) ∨ (A' (u + 1) ∧ ¬ B' (u + 1)) ∨ (¬ A' u ∧ B' u)) ↔ D (u + 1))) ∧ (pos → ¬ ((A' (v + 1) ∧ ¬ B' (v + 1)) ∨ (¬ A' v ∧ B' v))) := by
  refine ⟨?_, ?_, ?_⟩
  · intro g hg
    have n1 := nl g hg
    have e1 := a' g
    have e2 := b' g
    clear d a' b' nl
    by_cases c1 : g = low
    · subst c1
      grind
    · by_cases c2 : g = h
      · subst c2
        grind
      · grind
  · intro u h4 h5
    have n1 := nl u (by omega)
    have n2 := nl (u+1) (by omega)
    have n3 := nl v (by omega)
    have n4 := nl (v+1) (by omega)
    have e := d u
    have e1 := a' u
    have e2 := a' (u+1)
    have e3 := b' u
    have e4 := b' (u+1)
    obtain ⟨k, rfl⟩ : ∃ k, h = k + 1 := ⟨h - 1, by omega⟩
    have ek := d k
    have el := d low
    clear d a' b' nl
    by_cases c1 : u = low
    · subst c1
      grind
    · by_cases c2 : u + 1 = low
      · subst c2
        grind
      · by_cases c3 : u = k + 1
        · subst c3
          grind
        · by_cases c4 : u = k
          · subst c4
            grind
          · grind
  · intro p
    have n3 := nl v (by omega)
    have n4 := nl (v+1) (by omega)
    have e1 := a' v
    have e2 := a' (v+1)
    have e3 := b' v
    have e4 := b' (v+1)
    clear d a' b' nl
    grind
theorem abs_up {A B D bL bR : Nat → Prop} {n : Nat} (nl : ∀ g, g ≤ n → A g ∨ B g) (hbl : ∀ u, bL (u + 1) → ¬ B u) (hbr : ∀ u, bR u → ¬ A u) (an : A n)
    (d : ∀ u, (A (u + 1) ∧ ¬ B (u + 1)) ∨ (¬ A u ∧ B u) → D (u + 1)) : ∀ (k x : Nat), x + k = n → D x → ¬ bL x → ∃ y, x ≤ y ∧ y ≤ n ∧ D y ∧ ¬ bL y ∧ ¬ bR y
  | 0, x, e, h1, h2 => ⟨x, Nat.le_refl _, by omega, h1, h2, fun z => hbr x z (by have e' : x = n := by omega
                                                                                 rw [e']; exact an)⟩
  | k + 1, x, e, h1, h2 => by
    by_cases c : bR x
    · have na := hbr x c
      have bx := (nl x (by omega)).resolve_left na
      obtain ⟨y, y1, y2⟩ := abs_up nl hbl hbr an d k (x + 1) (by omega) (d x (.inr ⟨na, bx⟩)) (fun z => hbl x z bx)
      exact ⟨y, by omega, y2⟩
    · exact ⟨x, Nat.le_refl _, by omega, h1, h2, c⟩
theorem abs_prog {A B D bL bR : Nat → Prop} {n : Nat} (nl : ∀ g, g ≤ n → A g ∨ B g) (hbl : ∀ u, bL (u + 1) → ¬ B u) (hbr : ∀ u, bR u → ¬ A u) (an : A n) (b0 : B 0)
    (d : ∀ u, (A (u + 1) ∧ ¬ B (u + 1)) ∨ (¬ A u ∧ B u) → D (u + 1)) : ∀ (m : Nat), m + 1 ≤ n → D (m + 1) → ∃ y, 1 ≤ y ∧ y ≤ n ∧ D y ∧ ¬ bL y ∧ ¬ bR y
  | m, hm, h => by
    by_cases c : bL (m + 1)
    · have nb := hbl m c
      have am := (nl m (by omega)).resolve_right nb
      cases m with
      | zero => exact absurd b0 nb
      | succ j => exact abs_prog nl hbl hbr an b0 d j (by omega) (d j (.inl ⟨am, nb⟩))
    · obtain ⟨y, y1, y2, y3⟩ := abs_up nl hbl hbr an d (n - (m + 1)) (m + 1) (by omega) h c
      exact ⟨y, by omega, y2, y3⟩
/-! ### lowering operations -/
abbrev gA (s : Sd) (g : Nat) : Prop := gI s.R g = (g : Int) + 1
abbrev gBk (s : Sd) (g : Nat) : Prop := gI s.L (g + 1) = (g : Int)
theorem due_AB {s : Sd} (u : Nat) : dueB s (u + 1) = true ↔ gB s.O (u + 1) = true ∨ (gA s (u + 1) ∧ ¬ gBk s (u + 1)) ∨ (¬ gA s u ∧ gBk s u) := by
  unfold dueB
  rw [Bool.or_eq_true, sole_iff, Nat.add_sub_cancel, stT_left, stT_right]
theorem nl_AB {s : Sd} (h : lostL s = []) (g : Nat) (hg : g ≤ s.n) : gA s g ∨ gBk s g := by
  by_cases a : gA s g
  · exact .inl a
  · by_cases b : gBk s g
    · exact .inr b
    · exact absurd (stT_lost2.mpr ⟨a, b⟩) (lost_nil.mp h g hg)
theorem nl_of {s : Sd} (h : ∀ g, g ≤ s.n → gA s g ∨ gBk s g) : lostL s = [] := lost_nil.mpr fun g hg z => by
  obtain ⟨a, b⟩ := stT_lost2.mp z
  rcases h g hg with c | c
  · exact a c
  · exact b c
/-- no gap of the left, of the right is spoilt -/
def okLB (s : Sd) (v : Nat) : Bool := decide (gI s.L v = (v : Int) - 1) || (!decide (gI s.R (gI s.L v).toNat = gI s.L v + 1) || (decide (gI s.L (gI s.L v + 1).toNat = gI s.L v) && dueB s (gI s.L v + 1).toNat))
def okRB (s : Sd) (v : Nat) : Bool := decide (gI s.R v = (v : Int) + 1) || (!decide (gI s.L (gI s.R v).toNat = gI s.R v - 1) || (decide (gI s.R (gI s.R v - 1).toNat = gI s.R v) && dueB s (gI s.R v - 1).toNat))
def okB (s : Sd) (v : Nat) : Bool := okLB s v && okRB s v
def lowB (s : Sd) (v : Nat) : Bool := dueB s v && okB s v
/-- where a node's links stand -/
theorem low_at {s : Sd} (w : Wf s) {v : Nat} (hv : v + 1 ≤ s.n) : ∃ l h : Nat, gI s.L (v + 1) = (l : Int) ∧ gI s.R (v + 1) = (h : Int) + 1 ∧ l ≤ v ∧ v < h ∧ h ≤ s.n := by
  obtain ⟨a, b⟩ := w.lb (v + 1) (by omega) (by omega)
  obtain ⟨c, d⟩ := w.rb (v + 1) hv
  exact ⟨(gI s.L (v + 1)).toNat, (gI s.R (v + 1)).toNat - 1, by omega, by omega, by omega, by omega, by omega⟩
theorem okL_iff {s : Sd} {v l : Nat} (e : gI s.L (v + 1) = (l : Int)) : okLB s (v + 1) = true ↔ l = v ∨ ¬ gA s l ∨ (gBk s l ∧ dueB s (l + 1) = true) := by
  unfold okLB
  rw [e, Int.toNat_natCast, show ((l : Int) + 1).toNat = l + 1 by omega, Bool.or_eq_true, Bool.or_eq_true, Bool.and_eq_true, decide_eq_true_iff, decide_eq_true_iff, Bool.not_eq_true', decide_eq_false_iff_not]
  have : (l : Int) = ((v + 1 : Nat) : Int) - 1 ↔ l = v := by omega
  rw [this]
theorem okR_iff {s : Sd} {v h : Nat} (e : gI s.R (v + 1) = (h : Int) + 1) : okRB s (v + 1) = true ↔ h = v + 1 ∨ ¬ gBk s h ∨ (gA s h ∧ dueB s h = true) := by
  unfold okRB
  rw [e, show ((h : Int) + 1).toNat = h + 1 by omega, show ((h : Int) + 1 - 1).toNat = h by omega, Bool.or_eq_true, Bool.or_eq_true, Bool.and_eq_true, decide_eq_true_iff, decide_eq_true_iff, Bool.not_eq_true', decide_eq_false_iff_not]
  have e1 : (h : Int) + 1 = ((v + 1 : Nat) : Int) + 1 ↔ h = v + 1 := by omega
  have e2 : (h : Int) + 1 - 1 = (h : Int) := by omega
  rw [e1, e2]
theorem low_exists {s : Sd} (w : Wf s) (nl : lostL s = []) {v : Nat} (h1 : 1 ≤ v) (h2 : v ≤ s.n) (hd : dueB s v = true) : ∃ y, 1 ≤ y ∧ y ≤ s.n ∧ lowB s y = true := by
  obtain ⟨m, rfl⟩ : ∃ m, v = m + 1 := ⟨v - 1, by omega⟩
  have hbl : ∀ u, (u + 1 ≤ s.n ∧ okLB s (u + 1) = false) → ¬ gBk s u := by
    rintro u ⟨hu, hb⟩ z
    obtain ⟨l, h, e1, e2, e3, e4, e5⟩ := low_at w hu
    have : okLB s (u + 1) = true := (okL_iff e1).mpr (.inl (by omega))
    rw [hb] at this
    cases this
  have hbr : ∀ u, (1 ≤ u ∧ u ≤ s.n ∧ okRB s u = false) → ¬ gA s u := by
    rintro u ⟨hu0, hu, hb⟩ z
    obtain ⟨x, rfl⟩ : ∃ x, u = x + 1 := ⟨u - 1, by omega⟩
    obtain ⟨l, h, e1, e2, e3, e4, e5⟩ := low_at w hu
    have : okRB s (x + 1) = true := (okR_iff e2).mpr (.inl (by omega))
    rw [hb] at this
    cases this
  obtain ⟨y, y1, y2, y3, y4, y5⟩ := abs_prog (A := gA s) (B := gBk s) (D := fun u => dueB s u = true) (bL := fun u => u ≤ s.n ∧ okLB s u = false) (bR := fun u => 1 ≤ u ∧ u ≤ s.n ∧ okRB s u = false) (n := s.n) (nl_AB nl) hbl hbr
    (by have := w.rb s.n (Nat.le_refl _); show gI s.R s.n = _; omega) (by have := w.lb 1 (Nat.le_refl _) (by omega); show gI s.L 1 = _; omega) (fun u h => due_AB u |>.mpr (.inr h)) m h2 hd
  refine ⟨y, y1, y2, ?_⟩
  unfold lowB okB
  rw [y3, Bool.true_and, Bool.and_eq_true]
  constructor
  · cases c : okLB s y with
    | true => rfl
    | false => exact absurd ⟨y2, c⟩ y4
  · cases c : okRB s y with
    | true => rfl
    | false => exact absurd ⟨y1, y2, c⟩ y5
theorem low_step {s : Sd} (w : Wf s) (nl : lostL s = []) {v : Nat} (h1 : 1 ≤ v) (h2 : v ≤ s.n) (hl : lowB s v = true) :
    lostL (stepS s (legO s v)) = [] ∧ ∀ u, 1 ≤ u → u ≤ s.n → dueB (stepS s (legO s v)) u = if u = v ∧ 0 < legO s v then false else dueB s u := by
  obtain ⟨m, rfl⟩ : ∃ m, v = m + 1 := ⟨v - 1, by omega⟩
  obtain ⟨l, h, e1, e2, e3, e4, e5⟩ := low_at w h2
  obtain ⟨⟨op1, op2⟩, op3⟩ := legO_ok' (s := s) (v := m + 1) (by omega) h2
  generalize legO s (m + 1) = op at op1 op2 op3
  rw [op3] at op2
  unfold lowB okB at hl
  rw [Bool.and_eq_true, Bool.and_eq_true] at hl
  obtain ⟨hd, ha, hb⟩ := hl
  rw [okL_iff e1] at ha
  rw [okR_iff e2] at hb
  have a' : ∀ g, gA (stepS s op) g ↔ (g = l ∧ 0 < op ∧ l = m) ∨ (g ≠ l ∧ gA s g) := by
    intro g
    unfold gA
    rw [(step_gI w op1 g).1, op3, e1, e2, Int.toNat_natCast]
    by_cases c : g = l
    · rw [if_pos c]
      by_cases o : op < 0
      · rw [if_pos o]; omega
      · rw [if_neg o]; omega
    · rw [if_neg c]; omega
  have b' : ∀ g, gBk (stepS s op) g ↔ (g = h ∧ 0 < op ∧ m + 1 = h) ∨ (g ≠ h ∧ gBk s g) := by
    intro g
    unfold gBk
    rw [(step_gI w op1 (g + 1)).2, op3, e1, e2, show ((h : Int) + 1).toNat = h + 1 by omega]
    by_cases c : g = h
    · rw [if_pos (by omega)]
      by_cases o : op < 0
      · rw [if_pos o]; omega
      · rw [if_neg o]; omega
    · rw [if_neg (by omega)]; omega
  obtain ⟨r1, r2, r3⟩ := abs_low (A := gA s) (B := gBk s) (A' := gA (stepS s op)) (B' := gBk (stepS s op)) (O := fun u => gB s.O u = true) (D := fun u => dueB s u = true) (v := m) (low := l) (h := h) (n := s.n) (pos := 0 < op) e3 e4 e5 h2 (nl_AB nl)
    (by unfold gBk; rw [e1]; omega) (by unfold gA; rw [e2]; omega) a' b' (fun u => due_AB u) ha hb
  refine ⟨nl_of r1, fun u u1 u2 => ?_⟩
  obtain ⟨x, rfl⟩ : ∃ x, u = x + 1 := ⟨u - 1, by omega⟩
  have eo := step_gB w op1 (x + 1)
  rw [op3] at eo
  by_cases c : x = m
  · subst c
    rw [if_pos rfl] at eo
    by_cases o : 0 < op
    · rw [if_pos ⟨rfl, o⟩]
      cases z : dueB (stepS s op) (x + 1) with
      | false => rfl
      | true =>
        exfalso
        rcases (due_AB x).mp z with y | y
        · rw [eo, decide_eq_true_iff] at y
          omega
        · exact r3 o y
    · rw [if_neg (by rintro ⟨_, z⟩; exact o z), hd]
      exact (due_AB x).mpr (.inl (by rw [eo, decide_eq_true_iff]; omega))
  · rw [if_neg (by omega)] at eo
    rw [if_neg (by omega), Bool.eq_iff_iff, due_AB, eo]
    exact r2 x u2 c
theorem cost_pos (b : Bool) : 1 ≤ costB b ∧ costB b ≤ 2 := by
  cases b
  · exact ⟨by decide, by decide⟩
  · exact ⟨by decide, by decide⟩
theorem sum_cost (f : Int → Bool) : ∀ l : List Int, (l.length : Int) ≤ (l.map fun v => costB (f v)).sum ∧ (l.map fun v => costB (f v)).sum ≤ 2 * (l.length : Int)
  | [] => ⟨by simp, by simp⟩
  | x :: l => by
    have h := sum_cost f l
    have c := cost_pos (f x)
    rw [List.map_cons, List.sum_cons, List.length_cons]
    constructor <;> omega
theorem owed_len (s : Sd) : ((dueL s).length : Int) ≤ owedS s ∧ owedS s ≤ 2 * ((dueL s).length : Int) := sum_cost _ _
theorem owed_zero {s : Sd} : owedS s = 0 ↔ dueL s = [] := by
  constructor
  · intro h
    have := (owed_len s).1
    exact List.eq_nil_of_length_eq_zero (by omega)
  · intro h
    unfold owedS
    rw [h]
    rfl
theorem sum_same {f g : Int → Int} {l : List Int} (h : ∀ y ∈ l, g y = f y) : (l.map g).sum = (l.map f).sum := by
  rw [List.map_congr_left h]
theorem sum_upd {f g : Int → Int} {x : Int} : ∀ {l : List Int}, l.Nodup → x ∈ l → (∀ y ∈ l, y ≠ x → g y = f y) → g x = f x - 1 → (l.map g).sum = (l.map f).sum - 1
  | [], _, h, _, _ => by cases h
  | y :: l, nd, h, e, ex => by
    obtain ⟨n1, n2⟩ := List.nodup_cons.mp nd
    rw [List.map_cons, List.map_cons, List.sum_cons, List.sum_cons]
    by_cases c : y = x
    · subst c
      rw [sum_same (f := f) (g := g) (l := l) fun z hz => e z (List.mem_cons_of_mem _ hz) (by rintro rfl; exact n1 hz), ex]
      omega
    · have hx : x ∈ l := by
        rcases List.mem_cons.mp h with z | z
        · exact absurd z.symm c
        · exact z
      rw [sum_upd n2 hx (fun z hz => e z (List.mem_cons_of_mem _ hz)) ex, e y (List.mem_cons_self ..) c]
      omega
theorem sum_del {f g : Int → Int} {x : Int} : ∀ {l : List Int}, l.Nodup → x ∈ l → (∀ y ∈ l, y ≠ x → g y = f y) → f x = 1 → ((l.filter fun y => decide (y ≠ x)).map g).sum = (l.map f).sum - 1
  | [], _, h, _, _ => by cases h
  | y :: l, nd, h, e, ex => by
    obtain ⟨n1, n2⟩ := List.nodup_cons.mp nd
    rw [List.map_cons, List.sum_cons]
    by_cases c : y = x
    · subst c
      rw [List.filter_cons_of_neg (by simp), List.filter_eq_self.mpr (fun z hz => decide_eq_true (by rintro rfl; exact n1 hz)), sum_same (f := f) (g := g) (l := l) fun z hz => e z (List.mem_cons_of_mem _ hz) (by rintro rfl; exact n1 hz), ex]
      omega
    · have hx : x ∈ l := by
        rcases List.mem_cons.mp h with z | z
        · exact absurd z.symm c
        · exact z
      rw [List.filter_cons_of_pos (p := fun y => decide (y ≠ x)) (decide_eq_true c), List.map_cons, List.sum_cons, sum_del n2 hx (fun z hz => e z (List.mem_cons_of_mem _ hz)) ex, e y (List.mem_cons_self ..) c]
      omega
theorem due_nodup (s : Sd) : (dueL s).Nodup := (due_pair s).imp fun h => by omega
def stillL (due : List Int) (op : Int) : List Int := if op < 0 then due else due.filter fun v => decide (v ≠ op)
theorem legO_sign {s : Sd} {v : Nat} (h1 : 1 ≤ v) : (0 < legO s v ↔ gB s.O v = true) ∧ (legO s v = (v : Int) ∨ legO s v = -(v : Int)) := by
  unfold legO
  cases gB s.O v with
  | true => rw [if_pos rfl]; exact ⟨⟨fun _ => rfl, fun _ => by omega⟩, .inl rfl⟩
  | false => rw [if_neg Bool.false_ne_true]; exact ⟨⟨fun z => by omega, fun z => by cases z⟩, .inr rfl⟩
theorem still_due {s : Sd} (w : Wf s) (nl : lostL s = []) {v : Nat} (h1 : 1 ≤ v) (h2 : v ≤ s.n) (hl : lowB s v = true) : dueL (stepS s (legO s v)) = stillL (dueL s) (legO s v) := by
  have hd := (low_step w nl h1 h2 hl).2
  obtain ⟨g1, g2⟩ := legO_sign (s := s) h1
  unfold stillL
  show ((((List.range s.n).map fun (v : Nat) => v + 1).filter fun u => dueB (stepS s (legO s v)) u).map fun (v : Nat) => (v : Int)) = _
  have rg : ∀ u ∈ (List.range s.n).map fun (v : Nat) => v + 1, 1 ≤ u ∧ u ≤ s.n := by
    intro u hu
    obtain ⟨x, hx, rfl⟩ := List.mem_map.mp hu
    have := List.mem_range.mp hx
    exact ⟨by omega, by omega⟩
  by_cases c : legO s v < 0
  · rw [if_pos c]
    unfold dueL
    rw [List.filter_congr fun u hu => by rw [hd u (rg u hu).1 (rg u hu).2, if_neg (by omega)]]
  · rw [if_neg c]
    have e : legO s v = (v : Int) := by omega
    rw [e]
    unfold dueL
    have e2 : ∀ (q : Nat → Bool) (l : List Nat), ((l.filter q).map fun (v : Nat) => (v : Int)).filter (fun y => decide (y ≠ (v : Int))) = (l.filter fun (u : Nat) => decide ((u : Int) ≠ (v : Int)) && q u).map fun (v : Nat) => (v : Int) := fun q l => by
      rw [List.filter_map, List.filter_filter]
      rfl
    rw [e2]
    refine congrArg _ (List.filter_congr fun u hu => ?_)
    rw [← e, hd u (rg u hu).1 (rg u hu).2, e]
    show _ = (decide ((u : Int) ≠ (v : Int)) && dueB s u)
    by_cases z : u = v
    · subst z
      rw [if_pos ⟨rfl, by omega⟩, decide_eq_false (by simp)]
      rfl
    · rw [if_neg (by omega), decide_eq_true (by omega)]
      rfl
theorem owed_step {s : Sd} (w : Wf s) (nl : lostL s = []) {v : Nat} (h1 : 1 ≤ v) (h2 : v ≤ s.n) (hl : lowB s v = true) : owedS (stepS s (legO s v)) = owedS s - 1 := by
  obtain ⟨g1, g2⟩ := legO_sign (s := s) h1
  obtain ⟨op1, op3⟩ := legO_ok' (s := s) h1 h2
  have hv : (v : Int) ∈ dueL s := mem_due.mpr ⟨by omega, by omega, by
    unfold lowB at hl
    rw [Bool.and_eq_true] at hl
    rw [Int.toNat_natCast]
    exact hl.1⟩
  have eo := fun u => step_gB w op1.1 u
  rw [op3] at eo
  have oth : ∀ y ∈ dueL s, y ≠ (v : Int) → costB (gB (stepS s (legO s v)).O y.toNat) = costB (gB s.O y.toNat) := by
    intro y hy ny
    have := (mem_due.mp hy).1
    rw [eo, if_neg (by omega)]
  unfold owedS
  rw [still_due w nl h1 h2 hl]
  unfold stillL
  by_cases c : legO s v < 0
  · rw [if_pos c]
    refine sum_upd (due_nodup s) hv oth ?_
    have e : gB s.O v = false := by
      cases z : gB s.O v with
      | false => rfl
      | true => have := g1.mpr z; omega
    rw [eo, Int.toNat_natCast, if_pos rfl, decide_eq_true c, e]
    rfl
  · rw [if_neg c]
    have e : legO s v = (v : Int) := by omega
    have eb : gB s.O v = true := g1.mp (by omega)
    have := sum_del (f := fun y => costB (gB s.O y.toNat)) (g := fun y => costB (gB (stepS s (legO s v)).O y.toNat)) (due_nodup s) hv oth (by
      show costB (gB s.O ((v : Int)).toNat) = 1
      rw [Int.toNat_natCast, eb]
      rfl)
    rw [e] at this ⊢
    exact this
/-! ### the first repair -/
def stepsL (s : Sd) : List Int := ((dueL s).map fun v => legO s v.toNat).filter fun op => okB s op.natAbs
theorem steps_head {s : Sd} (w : Wf s) (nl : lostL s = []) (hd : dueL s ≠ []) : ∃ (v : Nat) (ops : List Int), 1 ≤ v ∧ v ≤ s.n ∧ stepsL s = legO s v :: ops ∧ lowB s v = true ∧ ∀ u, 1 ≤ u → u < v → lowB s u = false := by
  have e1 : stepsL s = ((dueL s).filter fun v => okB s v.toNat).map fun v => legO s v.toNat := by
    unfold stepsL
    rw [List.filter_map]
    refine congrArg _ (List.filter_congr fun x hx => ?_)
    obtain ⟨a, b, _⟩ := mem_due.mp hx
    show okB s (legO s x.toNat).natAbs = _
    rw [(legO_ok' (s := s) (v := x.toNat) (by omega) (by omega)).2]
  obtain ⟨x, hx⟩ := List.exists_mem_of_ne_nil _ hd
  obtain ⟨a, b, c⟩ := mem_due.mp hx
  obtain ⟨y, y1, y2, y3⟩ := low_exists w nl (v := x.toNat) (by omega) (by omega) c
  have memf : ∀ u : Nat, 1 ≤ u → u ≤ s.n → lowB s u = true → (u : Int) ∈ (dueL s).filter fun v => okB s v.toNat := by
    intro u u1 u2 u3
    unfold lowB at u3
    rw [Bool.and_eq_true] at u3
    exact List.mem_filter.mpr ⟨mem_due.mpr ⟨by omega, by omega, by rw [Int.toNat_natCast]; exact u3.1⟩, by rw [Int.toNat_natCast]; exact u3.2⟩
  have pw : ((dueL s).filter fun v => okB s v.toNat).Pairwise (· < ·) := (due_pair s).filter _
  cases ef : (dueL s).filter fun v => okB s v.toNat with
  | nil =>
    have := memf y y1 y2 y3
    rw [ef] at this
    cases this
  | cons z zs =>
    rw [ef] at pw
    have hz : z ∈ (dueL s).filter fun v => okB s v.toNat := by rw [ef]; exact List.mem_cons_self ..
    obtain ⟨hz1, hz2⟩ := List.mem_filter.mp hz
    obtain ⟨p, q, r⟩ := mem_due.mp hz1
    refine ⟨z.toNat, zs.map fun v => legO s v.toNat, by omega, by omega, by rw [e1, ef]; rfl, by unfold lowB; rw [r, hz2]; rfl, fun u u1 u2 => ?_⟩
    cases cu : lowB s u with
    | false => rfl
    | true =>
      exfalso
      have := memf u u1 (by omega) cu
      rw [ef] at this
      rcases List.mem_cons.mp this with e | e
      · omega
      · have := (List.pairwise_cons.mp pw).1 _ e
        omega
def grd : Nat → Sd → List Int
  | 0, _ => []
  | k + 1, s => match stepsL s with
    | [] => []
    | op :: _ => op :: grd k (stepS s op)
def firstR (s : Sd) : List Int := grd (owedS s).toNat s
theorem grd_cons {s : Sd} {op : Int} {ops : List Int} (h : stepsL s = op :: ops) (k : Nat) : grd (k + 1) s = op :: grd k (stepS s op) := by
  rw [grd, h]
theorem grd_next {s : Sd} (w : Wf s) (nl : lostL s = []) {k : Nat} (e : owedS s = ((k + 1 : Nat) : Int)) : ∃ (v : Nat) (ops : List Int), 1 ≤ v ∧ v ≤ s.n ∧ stepsL s = legO s v :: ops ∧ lowB s v = true ∧ (∀ u, 1 ≤ u → u < v → lowB s u = false) ∧
    grd (k + 1) s = legO s v :: grd k (stepS s (legO s v)) ∧ Wf (stepS s (legO s v)) ∧ lostL (stepS s (legO s v)) = [] ∧ owedS (stepS s (legO s v)) = (k : Int) ∧ dueL (stepS s (legO s v)) = stillL (dueL s) (legO s v) ∧ OkOp s (legO s v) ∧ (legO s v).natAbs = v := by
  obtain ⟨v, ops, h1, h2, h3, h4, h5⟩ := steps_head w nl (fun z => by rw [owed_zero.mpr z] at e; omega)
  obtain ⟨op1, op3⟩ := legO_ok' (s := s) h1 h2
  exact ⟨v, ops, h1, h2, h3, h4, h5, grd_cons h3 k, w.step op1.1, (low_step w nl h1 h2 h4).1, by rw [owed_step w nl h1 h2 h4]; omega, still_due w nl h1 h2 h4, op1, op3⟩
theorem grd_all : ∀ (k : Nat) (s : Sd), Wf s → lostL s = [] → owedS s = (k : Int) → (grd k s).length = k ∧ Leg s (grd k s) ∧ ∀ i, i ≤ k → Wf (runS s ((grd k s).take i)) ∧ lostL (runS s ((grd k s).take i)) = [] ∧ owedS (runS s ((grd k s).take i)) = ((k - i : Nat) : Int) ∧ grd (k - i) (runS s ((grd k s).take i)) = (grd k s).drop i
  | 0, s, w, nl, e => ⟨rfl, (fun i op h => by cases h), fun i hi => by
      have : i = 0 := by omega
      subst this
      exact ⟨w, nl, e, rfl⟩⟩
  | k + 1, s, w, nl, e => by
    obtain ⟨v, ops, h1, h2, h3, h4, h5, h6, h7, h8, h9, h10, h11, h12⟩ := grd_next w nl e
    obtain ⟨i1, i2, i3⟩ := grd_all k (stepS s (legO s v)) h7 h8 h9
    rw [h6]
    refine ⟨by rw [List.length_cons, i1], leg_cons.mpr ⟨h11, i2⟩, fun i hi => ?_⟩
    cases i with
    | zero => exact ⟨w, nl, e, h6⟩
    | succ j =>
      rw [List.take_succ_cons, List.drop_succ_cons, show k + 1 - (j + 1) = k - j by omega]
      exact i3 j (by omega)
theorem whole_end {s : Sd} (w : Wf s) (d : Snd s) (nl : lostL s = []) (e : owedS s = 0) : whlB s = true := by
  have hn := owed_zero.mp e
  have nd : ∀ v : Nat, 1 ≤ v → v ≤ s.n → dueB s v = false := by
    intro v h1 h2
    cases c : dueB s v with
    | false => rfl
    | true =>
      have := (mem_due (s := s) (i := (v : Int))).mpr ⟨by omega, by omega, by rw [Int.toNat_natCast]; exact c⟩
      rw [hn] at this
      cases this
  have no : ∀ v : Nat, 1 ≤ v → v ≤ s.n → gB s.O v = false := fun v h1 h2 => by
    have := nd v h1 h2
    unfold dueB at this
    rw [Bool.or_eq_false_iff] at this
    exact this.1
  refine whlB_iff.mpr (fin_wh w d (fin_iff.mpr ⟨lost_nil.mp nl, fun v h1 h2 h3 => ?_⟩) no)
  have := nd v h1 h2
  unfold dueB at this
  rw [h3, Bool.or_true] at this
  cases this
end G
set_option Elab.async false
set_option linter.all false
set_option maxRecDepth 100000
set_option maxHeartbeats 4000000
/-! k17: promises. -/
namespace G
open PySem PySem.Spec PyProof.Rows L2
def ltI (v : Nat) (g : Int) : Int := if g < (v : Int) then g + 1 else g
def spG (s : Sd) (v : Nat) (g : Int) : Bool := decide (stT s g.toNat = "joined") && decide (ltI v g ∈ dueL s)
theorem mem_due_n {s : Sd} {u : Nat} (h1 : 1 ≤ u) (h2 : u ≤ s.n) : decide ((u : Int) ∈ dueL s) = dueB s u := by
  rw [Bool.eq_iff_iff, decide_eq_true_iff, mem_due, Int.toNat_natCast]
  exact ⟨fun h => h.2.2, fun h => ⟨by omega, by omega, h⟩⟩
theorem ok_for {s : Sd} (w : Wf s) {v : Nat} (h1 : 1 ≤ v) (h2 : v ≤ s.n) : ((forW s v).all fun g => spG s v g) = okB s v := by
  obtain ⟨m, rfl⟩ : ∃ m, v = m + 1 := ⟨v - 1, by omega⟩
  obtain ⟨l, h, e1, e2, e3, e4, e5⟩ := low_at w h2
  unfold forW okB
  rw [List.all_append]
  congr 1
  · rw [Bool.eq_iff_iff, okL_iff e1, e1, Int.toNat_natCast]
    by_cases c : l = m
    · rw [if_neg (by omega)]
      exact ⟨fun _ => .inl c, fun _ => rfl⟩
    · by_cases a : gA s l
      · rw [if_pos ⟨by omega, a⟩]
        rw [List.all_cons, List.all_nil, Bool.and_true]
        unfold spG ltI
        rw [if_pos (by omega), Int.toNat_natCast, Bool.and_eq_true, decide_eq_true_iff, stT_joined, show (l : Int) + 1 = ((l + 1 : Nat) : Int) by omega, mem_due_n (by omega) (by omega)]
        constructor
        · rintro ⟨⟨_, x⟩, y⟩
          exact .inr (.inr ⟨x, y⟩)
        · rintro (x | x | ⟨x, y⟩)
          · exact absurd x c
          · exact absurd a x
          · exact ⟨⟨a, x⟩, y⟩
      · rw [if_neg (fun z => a z.2)]
        exact ⟨fun _ => .inr (.inl a), fun _ => rfl⟩
  · rw [Bool.eq_iff_iff, okR_iff e2, e2, show ((h : Int) + 1).toNat = h + 1 by omega, show (h : Int) + 1 - 1 = (h : Int) by omega]
    by_cases c : h = m + 1
    · rw [if_neg (by omega)]
      exact ⟨fun _ => .inl c, fun _ => rfl⟩
    · by_cases a : gBk s h
      · rw [if_pos ⟨by omega, a⟩]
        rw [List.all_cons, List.all_nil, Bool.and_true]
        unfold spG ltI
        rw [if_neg (by omega), Int.toNat_natCast, Bool.and_eq_true, decide_eq_true_iff, stT_joined, mem_due_n (by omega) (by omega)]
        constructor
        · rintro ⟨⟨x, _⟩, y⟩
          exact .inr (.inr ⟨x, y⟩)
        · rintro (x | x | ⟨x, y⟩)
          · exact absurd x c
          · exact absurd a x
          · exact ⟨⟨x, a⟩, y⟩
      · rw [if_neg (fun z => a z.2)]
        exact ⟨fun _ => .inr (.inl a), fun _ => rfl⟩
theorem first_len {s : Sd} (w : Wf s) (nl : lostL s = []) : ((firstR s).length : Int) = owedS s ∧ (firstR s).length ≤ 120 := by
  have h1 := owed_len s
  have h2 := due_len s
  have n60 := w.n60
  have := (grd_all (owedS s).toNat s w nl (by omega)).1
  unfold firstR
  rw [this]
  constructor <;> omega
def Dj (A B : List Addr) : Prop := ∀ x ∈ A, x ∉ B
theorem Dj.hd {A B : List Addr} {b : Addr} (d : Dj A (b :: B)) : Dj A [b] := fun x hx z => d x hx (by rw [List.mem_singleton.mp z]; exact List.mem_cons_self ..)
theorem Dj.tl {A B : List Addr} {p : Addr} (d : Dj (p :: A) B) : Dj B A := fun x hx z => d x (List.mem_cons_of_mem _ z) hx
theorem Dj.tr {A B : List Addr} {p : Addr} (d : Dj A (p :: B)) : Dj A B := fun x hx z => d x hx (List.mem_cons_of_mem _ z)
section
def sp17_left_to (K : PySem.W.Frag) : Sp := fun vs H Q E => ∃ op g : Int, vs = [.int op, .int g] ∧ Q (.int (ltI op.natAbs g)) H
def sp17__spoils_nothing (K : PySem.W.Frag) : Sp := fun vs H Q E => ∃ (p r l o d : Addr) (s : Sd) (op : Int), vs = [.ref p, .int op, .ref d] ∧ LinksAt K H p r l o s ∧ OkOp s op ∧ H d = some (.lst ((dueL s).map V.int)) ∧ Any H (.bl (okB s op.natAbs)) Q
def sp17__steps (K : PySem.W.Frag) : Sp := fun vs H Q E => ∃ (p r l o d : Addr) (s : Sd), vs = [.ref p, .ref d] ∧ LinksAt K H p r l o s ∧ H d = some (.lst ((dueL s).map V.int)) ∧ NewL H ((stepsL s).map V.int) Q
def sp17__still_due (K : PySem.W.Frag) : Sp := fun vs H Q E => ∃ (d : Addr) (due : List Int) (op : Int), vs = [.ref d, .int op] ∧ H d = some (.lst (due.map V.int)) ∧ due.length ≤ 1000 ∧ ∀ a H', (a = d ∨ H a = none) → Kp [] H H' → H' a = some (.lst ((stillL due op).map V.int)) → Q (.ref a) H'
def sp17_repairs (K : PySem.W.Frag) : Sp := fun vs H Q E => ∃ (p r l o : Addr) (s : Sd), vs = [.ref p, .int 1] ∧ LinksAt K H p r l o s ∧ (lostL s = [] → ∀ f a H', H f = none → H a = none → Kp [] H H' → H' f = some (.lst [.ref a]) → H' a = some (.lst ((firstR s).map V.int)) → Q (.ref f) H') ∧ NotRep K s E H
def sp17_first_repair (K : PySem.W.Frag) : Sp := fun vs H Q E => ∃ (p r l o : Addr) (s : Sd), vs = [.ref p] ∧ LinksAt K H p r l o s ∧ (lostL s = [] → NewL H ((firstR s).map V.int) Q) ∧ NotRep K s E H
def sp17__law_lowers (K : PySem.W.Frag) : Sp := fun vs H Q E => ∃ (w l r o : Addr) (s : Sd) (v : Nat), vs = [.ref w, .int (v : Int)] ∧ Bk5 H w l r o s ∧ 1 ≤ v ∧ v ≤ s.n ∧ Q (.bl (lowB s v)) H
end
end G
set_option Elab.async false
set_option linter.all false
set_option maxRecDepth 100000
set_option maxHeartbeats 4000000
/-! k22: once-only logs, late writes. -/
namespace G
open PySem PySem.Spec PyProof.Rows L2
def OnceA (log : List Int) : Prop := ∀ (i : Nat) (op : Int), log[i]? = some op → op < 0 → op ∉ log.take i
theorem OnceA.take {log : List Int} (h : OnceA log) (k : Nat) : OnceA (log.take k) := by
  intro i op hi ho
  have hk : i < (log.take k).length := (List.getElem?_eq_some_iff.mp hi).1
  rw [List.length_take] at hk
  rw [List.getElem?_take_of_lt (by omega)] at hi
  rw [List.take_take, Nat.min_eq_left (by omega)]
  exact h i op hi ho
theorem OnceA.snoc {log : List Int} {op : Int} (h : OnceA log) (ho : op < 0 → op ∉ log) : OnceA (log ++ [op]) := by
  intro i x hi hx
  by_cases c : i < log.length
  · rw [List.getElem?_append_left c] at hi
    rw [List.take_append_of_le_length (by omega)]
    exact h i x hi hx
  · have hl := (List.getElem?_eq_some_iff.mp hi).1
    rw [List.length_append] at hl
    have ei : i = log.length := by simp at hl; omega
    subst ei
    rw [List.getElem?_append_right (Nat.le_refl _), Nat.sub_self] at hi
    have e : op = x := by simpa using hi
    subst e
    rw [List.take_left' rfl]
    exact ho hx
/-- 0: has not acted, 1: out, 2: back -/
def stgF (log : List Int) (v : Nat) : Nat := match log.reverse.find? (fun x => decide (x.natAbs = v)) with
  | some x => if x < 0 then 1 else 2
  | none => 0
/-! ### late writes -/
def lateL (s : Sd) (earlier : List Int) (x : Nat) : List Int :=
  (if gI s.L x ≠ (x : Int) - 1 ∧ gI s.L x + 1 ∈ earlier then [gI s.L x] else []) ++ (if gI s.R x ≠ (x : Int) + 1 ∧ gI s.R x - 1 ∈ earlier then [gI s.R x - 1] else [])
/-! ### faults -/
/-- the first second unlink -/
def TwiceAt (log : List Int) (i : Nat) : Prop := ∃ op, log[i]? = some op ∧ op < 0 ∧ op ∈ log.take i ∧ OnceA (log.take i)
structure OnE (K : PySem.W.Frag) (H : Hp) (size : Int) (log : List Int) (E : XK) : Prop where
  re : RepE K H size log E
  tw : SizeOk size → Leg (wholeS size.toNat) log → ∀ i, TwiceAt log i → ∀ H', Kp [] H H' → Ex K "NotOnce" [("index", .int (i : Int))] E H'
theorem OnE.kp {K : PySem.W.Frag} {H H1 : Hp} {size : Int} {log : List Int} {E : XK} (r : OnE K H size log E) (k : Kp [] H H1) : OnE K H1 size log E := ⟨r.re.kp k, fun a b i t H' k' => r.tw a b i t H' (k.trans k')⟩
/-! ### the law's things -/
/-- the law's book: left links, right links, stages -/
structure LB (H : Hp) (w l r g : Addr) (n : Nat) (log : List Int) : Prop where
  ob : H w = some (.lst [.ref l, .ref r, .ref g])
  hl : ∃ L' : List Int, H l = some (.lst (L'.map V.int)) ∧ L'.length = n + 2 ∧ ∀ v, 1 ≤ v → v ≤ n + 1 → gI L' v = gI (runS (wholeS n) log).L v
  hr : ∃ R' : List Int, H r = some (.lst (R'.map V.int)) ∧ R'.length = n + 2 ∧ ∀ v, v ≤ n → gI R' v = gI (runS (wholeS n) log).R v
  hg : ∃ G' : List Int, H g = some (.lst (G'.map V.int)) ∧ G'.length = n + 2 ∧ (∀ v, 1 ≤ v → v ≤ n → gI G' v = (stgF log v : Int)) ∧ gI G' 0 = 0 ∧ gI G' (n + 1) = 0
  ne : l ≠ r ∧ l ≠ g ∧ r ≠ g ∧ w ≠ l ∧ w ≠ r ∧ w ≠ g
  le : Leg (wholeS n) log
  oo : OnceA log
  n60 : n ≤ 60
theorem LB.kp {H H' : Hp} {w l r g : Addr} {n : Nat} {log : List Int} {S : List Addr} (a : LB H w l r g n log) (k : Kp S H H') (h1 : w ∉ S) (h2 : l ∉ S) (h3 : r ∉ S) (h4 : g ∉ S) : LB H' w l r g n log := by
  obtain ⟨L', e1, e2⟩ := a.hl
  obtain ⟨R', f1, f2⟩ := a.hr
  obtain ⟨G', g1, g2⟩ := a.hg
  exact ⟨k _ _ h1 a.ob, ⟨L', k _ _ h2 e1, e2⟩, ⟨R', k _ _ h3 f1, f2⟩, ⟨G', k _ _ h4 g1, g2⟩, a.ne, a.le, a.oo, a.n60⟩
theorem LB.k0 {H H' : Hp} {w l r g : Addr} {n : Nat} {log : List Int} (a : LB H w l r g n log) (k : Kp [] H H') : LB H' w l r g n log := a.kp k (by simp) (by simp) (by simp) (by simp)
/-- the law's box of draws -/
structure BoxI (H : Hp) (b c : Addr) : Prop where
  ob : ∃ x y z : Int, H b = some (.lst [.int x, .int y, .int z, .ref c])
  hc : ∃ ns : List Int, H c = some (.lst (ns.map V.int)) ∧ ns.length ≤ 63
theorem BoxI.ne {H : Hp} {b c : Addr} (h : BoxI H b c) : b ≠ c := by
  obtain ⟨x, y, z, h1⟩ := h.ob
  obtain ⟨ns, h2, _⟩ := h.hc
  rintro rfl
  rw [h1] at h2
  injection h2 with h2
  injection h2 with h2
  match ns, h2 with
  | [_, _, _, d], h2 =>
    simp at h2
theorem BoxI.kp {H H' : Hp} {b c : Addr} {S : List Addr} (a : BoxI H b c) (k : Kp S H H') (h1 : b ∉ S) (h2 : c ∉ S) : BoxI H' b c := by
  obtain ⟨x, y, z, e1⟩ := a.ob
  obtain ⟨ns, e2, e3⟩ := a.hc
  exact ⟨⟨x, y, z, k _ _ h1 e1⟩, ⟨ns, k _ _ h2 e2, e3⟩⟩
theorem BoxI.k0 {H H' : Hp} {b c : Addr} (a : BoxI H b c) (k : Kp [] H H') : BoxI H' b c := a.kp k (by simp) (by simp)
theorem BoxI.fr {H : Hp} {b c x : Addr} (a : BoxI H b c) (n : H x = none) : x ≠ b ∧ x ≠ c := by
  obtain ⟨_, _, _, e1⟩ := a.ob
  obtain ⟨_, e2, _⟩ := a.hc
  exact ⟨(ne_of_none e1 n).symm, (ne_of_none e2 n).symm⟩
/-- pairs of numbers -/
def PPs (H : Hp) (xs : List V) (es : List (Int × Int)) : Prop := xs.length = es.length ∧ ∀ (i : Nat) (e : Int × Int), es[i]? = some e → ∃ a, xs[i]? = some (.ref a) ∧ H a = some (.tup [.int e.1, .int e.2])
theorem PPs.kp {S : List Addr} {H H' : Hp} {xs : List V} {es : List (Int × Int)} (h : PPs H xs es) (k : Kp S H H') (hS : ∀ b ∈ S, ∀ ys, H b ≠ some (.tup ys)) : PPs H' xs es := by
  refine ⟨h.1, fun i t e => ?_⟩
  obtain ⟨a, h1, h2⟩ := h.2 i t e
  exact ⟨a, h1, k _ _ (fun z => hS a z _ h2) h2⟩
theorem PPs.k0 {H H' : Hp} {xs : List V} {es : List (Int × Int)} (h : PPs H xs es) (k : Kp [] H H') : PPs H' xs es := h.kp k (by simp)
theorem PPs.one {H : Hp} {a : Addr} {t : Int × Int} (ha : H a = some (.tup [.int t.1, .int t.2])) : PPs H [.ref a] [t] := by
  refine ⟨rfl, fun i u e => ?_⟩
  match i, e with
  | 0, e =>
    have eu : t = u := by simpa using e
    subst eu
    exact ⟨a, rfl, ha⟩
  | i + 1, e => simp at e
theorem PPs.nil {H : Hp} : PPs H [] [] := ⟨rfl, fun i t e => by simp at e⟩
/-! ### promises -/
section
/-- a log that is legal and once-only -/
structure LgO (n : Nat) (ds : List Int) : Prop where
  ops : ∀ x ∈ ds, IsOp n x
  alt : Alt ds
  one : OnceA ds
  len : ds.length ≤ 120
end
end G
set_option Elab.async false
set_option linter.all false
set_option maxRecDepth 100000
set_option maxHeartbeats 4000000
/-! k23: the main fact about once-only logs: mathematics. -/
namespace G
open PySem PySem.Spec PyProof.Rows L2
abbrev kF (log : List Int) (u : Nat) : Prop := stgF log u = 2
def LateG (n : Nat) (log : List Int) (g : Nat) : Prop := ∃ i op, log[i]? = some op ∧ (g : Int) ∈ lateL (runS (wholeS n) (log.take i)) (log.take i) op.natAbs
theorem lateG_snoc {n : Nat} {log : List Int} {op : Int} {g : Nat} : LateG n (log ++ [op]) g ↔ LateG n log g ∨ (g : Int) ∈ lateL (runS (wholeS n) log) log op.natAbs := by
  constructor
  · rintro ⟨i, x, hi, h⟩
    by_cases c : i < log.length
    · rw [List.getElem?_append_left c] at hi
      rw [List.take_append_of_le_length (by omega)] at h
      exact .inl ⟨i, x, hi, h⟩
    · have hl := (List.getElem?_eq_some_iff.mp hi).1
      rw [List.length_append] at hl
      have ei : i = log.length := by simp at hl; omega
      subst ei
      rw [List.getElem?_append_right (Nat.le_refl _), Nat.sub_self] at hi
      have e : op = x := by simpa using hi
      subst e
      rw [List.take_left' rfl] at h
      exact .inr h
  · rintro (⟨i, x, hi, h⟩ | h)
    · have hl := (List.getElem?_eq_some_iff.mp hi).1
      exact ⟨i, x, by rw [List.getElem?_append_left hl]; exact hi, by rw [List.take_append_of_le_length (by omega)]; exact h⟩
    · exact ⟨log.length, op, by simp, by rw [List.take_left' rfl]; exact h⟩
theorem whole_links {n u : Nat} (h : u ≤ n) : gI (wholeS n).R u = (u : Int) + 1 ∧ gI (wholeS n).L (u + 1) = (u : Int) := by
  constructor
  · show gI (rgI 1 (n + 1)) u = _
    rw [gI_range (by omega)]
    omega
  · show gI (rgI 0 (n + 1)) u = _
    rw [gI_range (by omega)]
    omega
/-! ### what follows -/
end G
set_option Elab.async false
set_option linter.all false
set_option maxRecDepth 100000
set_option maxHeartbeats 4000000
/-! k23: promises. -/
namespace G
open PySem PySem.Spec PyProof.Rows L2
/-- no late write in the log at all; all that act are back -/
def Calm (n : Nat) (log : List Int) : Prop := ∀ g, g ≤ n → ¬ LateG n log g
section
def sp23_Links___eq__ (K : PySem.W.Frag) : Sp := fun vs H Q E => ∃ (p r l o p2 r2 l2 o2 : Addr) (s t : Sd), vs = [.ref p, .ref p2] ∧ LinksAt K H p r l o s ∧ LinksAt K H p2 r2 l2 o2 t ∧ Q (.bl (decide (s.R = t.R) && (decide (s.L = t.L) && decide (s.O = t.O)))) H
def sp23_Links_is_whole (K : PySem.W.Frag) : Sp := fun vs H Q E => ∃ (p r l o : Addr) (s : Sd), vs = [.ref p] ∧ LinksAt K H p r l o s ∧ Any H (.bl (decide (s.R = (wholeS s.n).R) && (decide (s.L = (wholeS s.n).L) && decide (s.O = (wholeS s.n).O)))) Q
end
end G
set_option Elab.async false
set_option linter.all false
set_option maxRecDepth 100000
set_option maxHeartbeats 4000000
/-! k23: whole lists, late writes as pairs, debts. -/
namespace G
open PySem PySem.Spec PyProof.Rows L2
def wholeB (s : Sd) : Bool := decide (s.R = (wholeS s.n).R) && (decide (s.L = (wholeS s.n).L) && decide (s.O = (wholeS s.n).O))
theorem gB_rep (m v : Nat) : gB (List.replicate m false) v = false := by
  unfold gB
  rw [List.getD_eq_getElem?_getD]
  by_cases h : v < m
  · rw [List.getElem?_replicate_of_lt h] <;> rfl
  · rw [List.getElem?_eq_none (by rw [List.length_replicate]; omega)] <;> rfl
theorem whB_joined {s : Sd} (h : wholeB s = true) {g : Nat} (hg : g ≤ s.n) : stT s g = "joined" := by
  unfold wholeB at h
  rw [Bool.and_eq_true, Bool.and_eq_true, decide_eq_true_iff, decide_eq_true_iff, decide_eq_true_iff] at h
  obtain ⟨a, b, _⟩ := h
  rw [stT_joined, a, b]
  exact whole_links hg
theorem joined_whB {s : Sd} (w : Wf s) (d : Snd s) (hj : ∀ g, g ≤ s.n → stT s g = "joined") (ho : ∀ v, gB s.O v = false) : wholeB s = true := by
  have e : s = wholeS s.n := by
    refine sd_ext w (Wf.whole w.n60) d (wholeS_snd _) rfl (fun v hv => ?_) (fun v h1 h2 => ?_) fun v hv => ?_
    · rw [(stT_joined.mp (hj v hv)).1, (whole_links hv).1]
    · obtain ⟨u, rfl⟩ : ∃ u, v = u + 1 := ⟨v - 1, by omega⟩
      rw [(stT_joined.mp (hj u (by omega))).2, (whole_links (show u ≤ s.n by omega)).2]
    · rw [ho v]
      exact (gB_rep _ _).symm
  have e1 := congrArg Sd.R e
  have e2 := congrArg Sd.L e
  have e3 := congrArg Sd.O e
  unfold wholeB
  rw [decide_eq_true e1, decide_eq_true e2, decide_eq_true e3] <;> rfl
theorem LgO.take {n : Nat} {log : List Int} (L : LgO n log) (k : Nat) : LgO n (log.take k) := by
  refine ⟨fun x hx => L.ops x (List.mem_of_mem_take hx), fun i op hi => ?_, L.one.take k, by rw [List.length_take]; have := L.len; omega⟩
  have hk : i < (log.take k).length := (List.getElem?_eq_some_iff.mp hi).1
  rw [List.length_take] at hk
  rw [List.getElem?_take_of_lt (by omega)] at hi
  rw [List.take_take, Nat.min_eq_left (by omega)]
  exact L.alt i op hi
theorem Calm.take {n : Nat} {log : List Int} (c : Calm n log) (k : Nat) : Calm n (log.take k) := by
  rintro g hg ⟨i, op, hi, h⟩
  have hk : i < (log.take k).length := (List.getElem?_eq_some_iff.mp hi).1
  rw [List.length_take] at hk
  rw [List.getElem?_take_of_lt (by omega)] at hi
  rw [List.take_take, Nat.min_eq_left (by omega)] at h
  exact c g hg ⟨i, op, hi, h⟩
theorem Calm.snoc {n : Nat} {log : List Int} {op : Int} (c : Calm n log) (h : lateL (runS (wholeS n) log) log op.natAbs = []) : Calm n (log ++ [op]) := by
  intro g hg z
  rcases lateG_snoc.mp z with z | z
  · exact c g hg z
  · rw [h] at z
    cases z
end G
set_option Elab.async false
set_option linter.all false
set_option maxRecDepth 100000
set_option maxHeartbeats 4000000
/-! k48: an operation lowers the debt exactly if it spoils nothing. -/
namespace G
open PySem PySem.Spec PyProof.Rows L2
theorem sum_lin (f g : Nat → Int) (m : Nat) : ∀ n : Nat, ((List.range n).map fun u => g u - f u + if u = m then 1 else 0).sum = ((List.range n).map g).sum - ((List.range n).map f).sum + if m < n then 1 else 0 := by
  intro n
  induction n with
  | zero => rfl
  | succ n ih =>
    rw [List.range_succ, List.map_append, List.map_append, List.map_append, List.sum_append, List.sum_append, List.sum_append, ih]
    show _ + ((g n - f n + if n = m then 1 else 0) + 0) = (_ + (g n + 0)) - (_ + (f n + 0)) + _
    by_cases c : n = m
    · rw [if_pos c, if_neg (by omega), if_pos (by omega)]; omega
    · rw [if_neg c]
      by_cases d : m < n
      · rw [if_pos d, if_pos (by omega)]; omega
      · rw [if_neg d, if_neg (by omega)]; omega
def costS (s : Sd) (u : Nat) : Int := if dueB s (u + 1) = true then costB (gB s.O (u + 1)) else 0
theorem owed_sum (s : Sd) : owedS s = ((List.range s.n).map fun u => costS s u).sum := by
  unfold owedS dueL
  generalize s.n = n
  induction n with
  | zero => rfl
  | succ n ih =>
    rw [List.range_succ, List.map_append, List.filter_append, List.map_append, List.map_append, List.sum_append, ih, List.map_append, List.sum_append]
    congr 1
    show ((([n + 1].filter fun v => dueB s v).map fun (v : Nat) => (v : Int)).map fun v => costB (gB s.O v.toNat)).sum = costS s n + 0
    unfold costS
    by_cases c : dueB s (n + 1) = true
    · rw [List.filter_cons_of_pos c, if_pos c]
      show costB (gB s.O ((n + 1 : Nat) : Int).toNat) + 0 = _
      rw [Int.toNat_natCast]
    · rw [List.filter_cons_of_neg c, if_neg c]
      rfl
/-- the debt as the law counts it -/
def debtS (s : Sd) : Int := if lostL s = [] then owedS s else -1
theorem owed_nn (s : Sd) : 0 ≤ owedS s := by
  have := (owed_len s).1
  omega
end G
set_option Elab.async false
set_option linter.all false
set_option maxRecDepth 100000
set_option maxHeartbeats 4000000
/-! k48: the law's things; promises. -/
namespace G
open PySem PySem.Spec PyProof.Rows L2
/-- the law's state of a list: right links, left links, who is out -/
structure St3 (H : Hp) (w r l o : Addr) (s : Sd) : Prop where
  ob : H w = some (.lst [.ref r, .ref l, .ref o])
  hr : H r = some (.lst (s.R.map V.int))
  hl : H l = some (.lst (((-1 : Int) :: s.L.tail).map V.int))
  ho : H o = some (.lst (s.O.map V.bl))
  ne : r ≠ l ∧ r ≠ o ∧ l ≠ o ∧ w ≠ r ∧ w ≠ l ∧ w ≠ o
  wf : Wf s
  sn : Snd s
theorem St3.kp {H H' : Hp} {w r l o : Addr} {s : Sd} {S : List Addr} (a : St3 H w r l o s) (k : Kp S H H') (h1 : w ∉ S) (h2 : r ∉ S) (h3 : l ∉ S) (h4 : o ∉ S) : St3 H' w r l o s :=
  ⟨k _ _ h1 a.ob, k _ _ h2 a.hr, k _ _ h3 a.hl, k _ _ h4 a.ho, a.ne, a.wf, a.sn⟩
theorem St3.k0 {H H' : Hp} {w r l o : Addr} {s : Sd} (a : St3 H w r l o s) (k : Kp [] H H') : St3 H' w r l o s := a.kp k (by simp) (by simp) (by simp) (by simp)
theorem St3.fr {H : Hp} {w r l o x : Addr} {s : Sd} (a : St3 H w r l o s) (n : H x = none) : w ≠ x ∧ r ≠ x ∧ l ≠ x ∧ o ≠ x := ⟨ne_of_none a.ob n, ne_of_none a.hr n, ne_of_none a.hl n, ne_of_none a.ho n⟩
/-- the law's box of draws: a list of great cells, three counters -/
structure Bx8 (N : Nat) (H : Hp) (b c : Addr) : Prop where
  ob : ∃ (x y z : Int) (ns : List Int), H b = some (.lst [.ref c, .int x, .int y, .int z]) ∧ H c = some (.lst (ns.map V.int)) ∧ ns.length ≤ 63 ∧ 0 ≤ z ∧ z ≤ N
theorem Bx8.mono {N M : Nat} {H : Hp} {b c : Addr} (a : Bx8 N H b c) (h : N ≤ M) : Bx8 M H b c := by
  obtain ⟨x, y, z, ns, h1, h2, h3, h4, h5⟩ := a.ob
  exact ⟨x, y, z, ns, h1, h2, h3, h4, by omega⟩
theorem Bx8.kp {N : Nat} {H H' : Hp} {b c : Addr} {S : List Addr} (a : Bx8 N H b c) (k : Kp S H H') (h1 : b ∉ S) (h2 : c ∉ S) : Bx8 N H' b c := by
  obtain ⟨x, y, z, ns, e1, e2, e3⟩ := a.ob
  exact ⟨x, y, z, ns, k _ _ h1 e1, k _ _ h2 e2, e3⟩
theorem Bx8.k0 {N : Nat} {H H' : Hp} {b c : Addr} (a : Bx8 N H b c) (k : Kp [] H H') : Bx8 N H' b c := a.kp k (by simp) (by simp)
theorem Bx8.fr {N : Nat} {H : Hp} {b c x : Addr} (a : Bx8 N H b c) (n : H x = none) : x ≠ b ∧ x ≠ c := by
  obtain ⟨_, _, _, ns, h1, h2, _⟩ := a.ob
  exact ⟨(ne_of_none h1 n).symm, (ne_of_none h2 n).symm⟩
theorem Bx8.ne {N : Nat} {H : Hp} {b c : Addr} (a : Bx8 N H b c) : b ≠ c := by
  obtain ⟨_, _, _, ns, h1, h2, _⟩ := a.ob
  rintro rfl
  rw [h1] at h2
  injection h2 with h2
  injection h2 with h2
  match ns, h2 with
  | u :: _, h2 => injection h2 with h2; cases h2
/-- the list of great cells behind draws: the old one or a new one -/
def Nx8 (H : Hp) (c c' : Addr) : Prop := c' = c ∨ H c' = none
theorem Nx8.trans {N : Nat} {H H' : Hp} {b c c' c'' : Addr} (x : Nx8 H c c') (y : Nx8 H' c' c'') (k : Kp [b] H H') (bx : Bx8 N H' b c') : Nx8 H c c'' := by
  rcases y with rfl | y
  · exact x
  · refine .inr ?_
    by_cases e : c'' = b
    · obtain ⟨_, _, _, _, h1, _⟩ := bx.ob
      rw [e, h1] at y
      cases y
    · exact k.free (by simpa using e) y
/-- alike data, to a depth -/
def Atom : V → Prop
  | .non => True
  | .bl _ => True
  | .int _ => True
  | .str _ => True
  | _ => False
def SamV : Nat → Hp → V → V → Prop
  | 0, _, _, _ => False
  | n + 1, H, x, y => (x = y ∧ Atom x) ∨ ∃ (a b : Addr) (xs ys : List V), x = .ref a ∧ y = .ref b ∧ ((H a = some (.lst xs) ∧ H b = some (.lst ys)) ∨ (H a = some (.tup xs) ∧ H b = some (.tup ys))) ∧ xs.length = ys.length ∧ ys.length ≤ 1000 ∧
      ∀ (i : Nat) u v, xs[i]? = some u → ys[i]? = some v → SamV n H u v
theorem SamV.at {n : Nat} {H : Hp} {x : V} (h : Atom x) : SamV (n + 1) H x x := .inl ⟨rfl, h⟩
theorem SamV.tup {n : Nat} {H : Hp} {a b : Addr} {xs ys : List V} (h1 : H a = some (.tup xs)) (h2 : H b = some (.tup ys)) (hl : xs.length = ys.length) (hm : ys.length ≤ 1000) (h : ∀ (i : Nat) u v, xs[i]? = some u → ys[i]? = some v → SamV n H u v) : SamV (n + 1) H (.ref a) (.ref b) :=
  .inr ⟨a, b, xs, ys, rfl, rfl, .inr ⟨h1, h2⟩, hl, hm, h⟩
/-- a log leads a standing to the whole list -/
def leadB : Sd → List Int → Bool
  | s, [] => wholeB s
  | s, x :: xs => decide (OkOp s x) && leadB (stepS s x) xs
section
def sp48_is_repair (K : PySem.W.Frag) : Sp := fun vs H Q E => ∃ (p r l o a : Addr) (s : Sd) (row : List Int), vs = [.ref p, .ref a] ∧ LinksAt K H p r l o s ∧ SqL K H a (row.map V.int) ∧ Any H (.bl (leadB s row)) Q
def sp48_is_least_repair (K : PySem.W.Frag) : Sp := fun vs H Q E => ∃ (p r l o a : Addr) (s : Sd) (row : List Int), vs = [.ref p, .ref a] ∧ LinksAt K H p r l o s ∧ SqL K H a (row.map V.int) ∧ Any H (.bl (leadB s row && decide ((row.length : Int) = owedS s))) Q
end
end G
set_option Elab.async false
set_option linter.all false
set_option maxRecDepth 100000
set_option maxHeartbeats 4000000
/-! k48: what is lost stays lost; logs that lead to the whole list; == of nested rows. -/
namespace G
open PySem PySem.Spec PyProof.Rows L2
theorem lost_keep {s : Sd} (w : Wf s) {op : Int} (io : IsOp s.n op) {g : Nat} (hg : stT s g = "lost") : stT (stepS s op) g = "lost" := by
  obtain ⟨m, hm⟩ : ∃ m, op.natAbs = m + 1 := ⟨op.natAbs - 1, by have := io.1; omega⟩
  have io' := io
  obtain ⟨o1, o2⟩ := io
  obtain ⟨l, h, e1, e2, e3, e4, e5⟩ := low_at w (v := m) (by omega)
  obtain ⟨a, b⟩ := stT_lost2.mp hg
  have s1 := (step_gI w io' g).1
  have s2 := (step_gI w io' (g + 1)).2
  rw [hm, e1, e2, Int.toNat_natCast] at s1
  rw [hm, e1, e2, show ((h : Int) + 1).toNat = h + 1 by omega] at s2
  refine stT_lost2.mpr ⟨?_, ?_⟩
  · rw [s1]
    by_cases c : g = l
    · rw [if_pos c]
      have : g ≠ m := fun z => b (by rw [z, e1]; omega)
      split <;> omega
    · rw [if_neg c]; exact a
  · rw [s2]
    by_cases c : g = h
    · rw [if_pos (by omega)]
      have : g ≠ m + 1 := fun z => a (by rw [z, e2]; omega)
      split <;> omega
    · rw [if_neg (by omega)]; exact b
theorem whole_nolost {s : Sd} (h : wholeB s = true) : lostL s = [] := lost_nil.mpr fun g hg z => by
  rw [whB_joined h hg] at z
  exact jl z
theorem lead_nolost : ∀ {row : List Int} {s : Sd}, Wf s → leadB s row = true → lostL s = []
  | [], s, _, h => whole_nolost h
  | x :: xs, s, w, h => by
    have h : (decide (OkOp s x) && leadB (stepS s x) xs) = true := h
    rw [Bool.and_eq_true, decide_eq_true_iff] at h
    have ih := lead_nolost (w.step h.1.1) h.2
    refine lost_nil.mpr fun g hg z => ?_
    exact lost_nil.mp ih g hg (lost_keep w h.1.1 z)
theorem lead_eq : ∀ {row : List Int} {s : Sd}, Leg s row → leadB s row = wholeB (runS s row)
  | [], s, _ => rfl
  | x :: xs, s, h => by
    obtain ⟨a, b⟩ := leg_cons.mp h
    show (decide (OkOp s x) && leadB (stepS s x) xs) = wholeB (runS (stepS s x) xs)
    rw [decide_eq_true a, Bool.true_and, lead_eq b]
theorem lead_bad : ∀ {row : List Int} {s : Sd} {i : Nat} {op : Int}, row[i]? = some op → ¬ OkOp (runS s (row.take i)) op → leadB s row = false
  | [], s, i, op, h, _ => by simp at h
  | x :: xs, s, 0, op, h, n => by
    have e : x = op := by simpa using h
    subst e
    have n : ¬ OkOp s x := n
    show (decide (OkOp s x) && leadB (stepS s x) xs) = false
    rw [decide_eq_false n, Bool.false_and]
  | x :: xs, s, i + 1, op, h, n => by
    show (decide (OkOp s x) && leadB (stepS s x) xs) = false
    rw [lead_bad (s := stepS s x) (i := i) (op := op) (by simpa using h) n, Bool.and_false]
/-! nested rows -/
section
variable {K : PySem.W.Frag}
theorem dpB8 {H : Hp} : ∀ xs : List Bool, DpAll K H (xs.map V.bl) (xs.map PyData.bool)
  | [] => .nil
  | x :: xs => .cons (.bl x) (dpB8 xs)
theorem layB8 : ∀ xs : List Bool, PyData.canLayAll0 (xs.map PyData.bool) = true
  | [] => rfl
  | x :: xs => by
    show PyData.canLayAll0 (PyData.bool x :: xs.map PyData.bool) = true
    rw [PyData.canLayAll0, layB8 xs] <;> rfl
theorem depB8 : ∀ xs : List Bool, PyData.depthAll (xs.map PyData.bool) ≤ 1
  | [] => by simp [PyData.depthAll]
  | x :: xs => by
    have := depB8 xs
    show PyData.depthAll (PyData.bool x :: xs.map PyData.bool) ≤ 1
    rw [PyData.depthAll]
    simp [PyData.depth]
    omega
end
end G
set_option Elab.async false
set_option linter.all false
set_option maxRecDepth 100000
set_option maxHeartbeats 4000000
/-! A try with any clauses. -/
set_option Elab.async false
set_option linter.all false
set_option maxRecDepth 100000
set_option maxHeartbeats 4000000
/-! A def that is handed the exception that is being handled. -/
set_option Elab.async false
set_option linter.all false
set_option maxRecDepth 100000
set_option maxHeartbeats 4000000
/-! Dicts whose keys are tuples of numbers, of truth values, of such tuples. -/
namespace G
open PySem PySem.Spec PyProof.Rows L2
mutual
/-- the value x is the key k -/
inductive NK (H : Hp) : V → NestedKey → Prop
  | int (i : Int) : NK H (.int i) (.num i)
  | bl (b : Bool) : NK H (.bl b) (.num (if b = true then 1 else 0))
  | tup {a : Addr} {xs : List V} {ks : List NestedKey} : H a = some (.tup xs) → NKs H xs ks → NK H (.ref a) (.tup ks)
inductive NKs (H : Hp) : List V → List NestedKey → Prop
  | nil : NKs H [] []
  | cons {x : V} {k : NestedKey} {xs : List V} {ks : List NestedKey} : NK H x k → NKs H xs ks → NKs H (x :: xs) (k :: ks)
end
mutual
theorem NK.held {P : Program} {w : World} {H : Hp} {h : Heap} (ok : HOk P w H h) : ∀ (k : NestedKey) (x : V) (u : Value), NK H x k → RelV x u → NestedIs h k u
  | .num i, x, u, z, r => by
    cases z with
    | int => obtain ⟨t, rfl⟩ := (show ∃ t, u = Value.int i t from r); exact .int i t
    | bl b => cases (show u = Value.bool b from r); exact .bool rfl
  | .tup ks, x, u, z, r => by
    cases z with
    | @tup a xs _ e hs =>
      cases (show u = Value.ref a from r)
      obtain ⟨_, its, rv, o, h1, h2, n, h3⟩ := (show ObjOk P w H h a (.tup xs) from ok a _ e)
      exact .tup h1 h2 h3 (NKs.held ok ks xs _ hs rv)
  | .none, x, u, z, r => by cases z
  | .text t, x, u, z, r => by cases z
theorem NKs.held {P : Program} {w : World} {H : Hp} {h : Heap} (ok : HOk P w H h) : ∀ (ks : List NestedKey) (xs : List V) (us : List Value), NKs H xs ks → Vals xs us → NestedAll h ks us
  | [], xs, us, z, r => by cases z; cases r; exact .nil
  | k :: ks, xs, us, z, r => by
    cases z with
    | cons z1 z2 =>
      cases r with
      | cons r1 r2 => exact .cons (NK.held ok k _ _ z1 r1) (NKs.held ok ks _ _ z2 r2)
end
mutual
theorem NK.hash {H : Hp} : ∀ (k : NestedKey) (x : V), NK H x k → ∀ w w' : World, k.hash w = k.hash w'
  | .num i, x, z, w, w' => by rw [NestedKey.hash, NestedKey.hash]
  | .tup ks, x, z, w, w' => by
    cases z with
    | tup e hs => rw [NestedKey.hash, NestedKey.hash, NKs.hash ks _ hs w w']
  | .none, x, z, w, w' => by cases z
  | .text t, x, z, w, w' => by cases z
theorem NKs.hash {H : Hp} : ∀ (ks : List NestedKey) (xs : List V), NKs H xs ks → ∀ w w' : World, NestedKey.hashes w ks = NestedKey.hashes w' ks
  | [], xs, z, w, w' => by rw [NestedKey.hashes, NestedKey.hashes]
  | k :: ks, xs, z, w, w' => by
    cases z with
    | cons z1 z2 => rw [NestedKey.hashes, NestedKey.hashes, NK.hash k _ z1 w w', NKs.hash ks _ z2 w w']
end
mutual
theorem NK.kp {H H' : Hp} {S : List Addr} (k : Kp S H H') (hS : ∀ a ∈ S, ∀ xs, H a ≠ some (.tup xs)) : ∀ (n : NestedKey) (x : V), NK H x n → NK H' x n
  | .num i, x, z => by
    cases z with
    | int => exact .int i
    | bl b => exact .bl b
  | .tup ks, x, z => by
    cases z with
    | @tup a xs _ e hs => exact .tup (k a _ (fun m => hS a m xs e) e) (NKs.kp k hS ks xs hs)
  | .none, x, z => by cases z
  | .text t, x, z => by cases z
theorem NKs.kp {H H' : Hp} {S : List Addr} (k : Kp S H H') (hS : ∀ a ∈ S, ∀ xs, H a ≠ some (.tup xs)) : ∀ (ns : List NestedKey) (xs : List V), NKs H xs ns → NKs H' xs ns
  | [], xs, z => by cases z; exact .nil
  | n :: ns, xs, z => by
    cases z with
    | cons z1 z2 => exact .cons (NK.kp k hS n _ z1) (NKs.kp k hS ns _ z2)
end
abbrev ZX := NestedKey × Addr × V
def RelZ : ZX → NestedKey × Addr × Value → Prop := fun p q => p.1 = q.1 ∧ p.2.1 = q.2.1 ∧ RelV p.2.2 q.2.2
def dicP (a : Addr) (xs : List ZX) (h : Heap) : Prop := xs.length ≤ sizeLine ∧ (a == sysModules) = false ∧ ∃ (w : World) (ys : List (NestedKey × Addr × Value)), Paired RelZ xs ys ∧
  ∃ o es ep, h.get? a = some o ∧ o.ExactDict ∧ o.data = .dict es ep ∧ es.toList = ys.map (fun y => (⟨y.1.hash w, .ref y.2.1, y.2.2⟩ : DictEntry)) ∧ (ys.map (·.1)).Nodup
/-- a dict: its keys, where they stand, what it holds there -/
structure Dz (H : Hp) (a : Addr) (xs : List ZX) : Prop where
  ob : H a = some (.ext (dicP a xs))
  ks : ∀ x ∈ xs, NK H (.ref x.2.1) x.1 ∧ x.1.depth ≤ 8
theorem Dz.kp {H H' : Hp} {a : Addr} {xs : List ZX} {S : List Addr} (d : Dz H a xs) (k : Kp S H H') (ha : a ∉ S) (hS : ∀ a ∈ S, ∀ xs, H a ≠ some (.tup xs)) : Dz H' a xs :=
  ⟨k _ _ ha d.ob, fun x hx => ⟨NK.kp k hS _ _ (d.ks x hx).1, (d.ks x hx).2⟩⟩
theorem Dz.k0 {H H' : Hp} {a : Addr} {xs : List ZX} (d : Dz H a xs) (k : Kp [] H H') : Dz H' a xs := d.kp k (by simp) (by simp)
theorem relz_mem : ∀ {xs : List ZX} {ys : List (NestedKey × Addr × Value)}, Paired RelZ xs ys → ∀ y ∈ ys, ∃ x ∈ xs, RelZ x y
  | _, _, .nil, y, hy => by cases hy
  | _, _, .cons r t, y, hy => by
    rcases List.mem_cons.mp hy with rfl | hy
    · exact ⟨_, List.mem_cons_self, r⟩
    · obtain ⟨x, hx, z⟩ := relz_mem t y hy
      exact ⟨x, List.mem_cons_of_mem _ hx, z⟩
def getZ (xs : List ZX) (k : NestedKey) : Option V := (xs.find? fun x => decide (x.1 = k)).map (·.2.2)
def putZ (xs : List ZX) (k : NestedKey) (b : Addr) (v : V) : List ZX := if (getZ xs k).isSome then xs.map (fun x => if x.1 = k then (x.1, x.2.1, v) else x) else xs ++ [(k, b, v)]
theorem relz_get (k : NestedKey) : ∀ {xs : List ZX} {ys : List (NestedKey × Addr × Value)}, Paired RelZ xs ys → (getZ xs k = none ∧ atKey ys k = none) ∨ ∃ v p, getZ xs k = some v ∧ atKey ys k = some p ∧ RelV v p.2
  | _, _, .nil => .inl ⟨rfl, rfl⟩
  | x :: xs, y :: ys, .cons r t => by
    obtain ⟨r1, r2, r3⟩ := r
    unfold getZ atKey
    by_cases c : x.1 = k
    · rw [List.find?_cons_of_pos (p := fun x : ZX => decide (x.1 = k)) (decide_eq_true c), List.find?_cons_of_pos (p := fun x : NestedKey × Addr × Value => decide (x.1 = k)) (decide_eq_true (r1 ▸ c))]
      exact .inr ⟨_, _, rfl, rfl, r3⟩
    · rw [List.find?_cons_of_neg (p := fun x : ZX => decide (x.1 = k)) (by rw [decide_eq_false c]; exact Bool.false_ne_true), List.find?_cons_of_neg (p := fun x : NestedKey × Addr × Value => decide (x.1 = k)) (by rw [decide_eq_false (r1 ▸ c)]; exact Bool.false_ne_true)]
      exact relz_get k t
theorem relz_map (k : NestedKey) {v : V} {u : Value} (rv : RelV v u) : ∀ {xs : List ZX} {ys : List (NestedKey × Addr × Value)}, Paired RelZ xs ys → Paired RelZ (xs.map (fun x => if x.1 = k then (x.1, x.2.1, v) else x)) (ys.map (putAt k u))
  | _, _, .nil => .nil
  | x :: xs, y :: ys, .cons r t => by
    obtain ⟨r1, r2, r3⟩ := r
    refine .cons ?_ (relz_map k rv t)
    show RelZ (if x.1 = k then (x.1, x.2.1, v) else x) (if y.1 = k then (y.1, y.2.1, u) else y)
    by_cases c : x.1 = k
    · rw [if_pos c, if_pos (r1 ▸ c)]
      exact ⟨r1, r2, rv⟩
    · rw [if_neg c, if_neg (r1 ▸ c)]
      exact ⟨r1, r2, r3⟩
theorem relz_snoc {b : Addr} {k : NestedKey} {v : V} {u : Value} (rv : RelV v u) : ∀ {xs : List ZX} {ys : List (NestedKey × Addr × Value)}, Paired RelZ xs ys → Paired RelZ (xs ++ [(k, b, v)]) (ys ++ [(k, b, u)])
  | _, _, .nil => .cons ⟨rfl, rfl, rv⟩ .nil
  | _, _, .cons r t => .cons r (relz_snoc rv t)
theorem relz_put {k : NestedKey} {b : Addr} {v : V} {u : Value} (rv : RelV v u) {xs : List ZX} {ys : List (NestedKey × Addr × Value)} (r : Paired RelZ xs ys) : Paired RelZ (putZ xs k b v) (storedH ys k b u) := by
  unfold putZ storedH
  rcases relz_get k r with ⟨e1, e2⟩ | ⟨v', p, e1, e2, _⟩
  · rw [e1, e2]
    exact relz_snoc rv r
  · rw [e1, e2]
    exact relz_map k rv r
theorem putZ_len (xs : List ZX) (k : NestedKey) (b : Addr) (v : V) : (putZ xs k b v).length ≤ xs.length + 1 := by
  unfold putZ
  split
  · rw [List.length_map]; omega
  · rw [List.length_append]; exact Nat.le_refl _
theorem putZ_mem {xs : List ZX} {k : NestedKey} {b : Addr} {v : V} {x : ZX} (h : x ∈ putZ xs k b v) : (∃ y ∈ xs, y.1 = x.1 ∧ y.2.1 = x.2.1) ∨ x = (k, b, v) := by
  unfold putZ at h
  split at h
  · obtain ⟨y, hy, rfl⟩ := List.mem_map.mp h
    refine .inl ⟨y, hy, ?_⟩
    split <;> exact ⟨rfl, rfl⟩
  · rcases List.mem_append.mp h with h | h
    · exact .inl ⟨x, h, rfl, rfl⟩
    · exact .inr (by simpa using h)
section
variable {P : Program} {w : World} {H : Hp} {h : Heap} {a : Addr} {xs : List ZX}
theorem Dz.rd (ok : HOk P w H h) (d : Dz H a xs) : xs.length ≤ sizeLine ∧ (a == sysModules) = false ∧ ∃ ys, Paired RelZ xs ys ∧ h.DictOfH (nestedKind P w) a ys := by
  obtain ⟨⟨z, y, w', ys, r, o, es, ep, h1, h2, h3, h4, h5⟩, _⟩ := (show ObjOk P w H h a (.ext (dicP a xs)) from ok a _ d.ob)
  refine ⟨z, y, ys, r, o, es, ep, h1, h2, h3, ?_, fun q hq => ?_, h5⟩
  · rw [h4]
    refine List.map_congr_left fun q hq => ?_
    obtain ⟨x, hx, e1, e2, _⟩ := relz_mem r q hq
    have := NK.hash _ _ (d.ks x hx).1 w' w
    show DictEntry.mk _ _ _ = DictEntry.mk (q.1.hash w) _ _
    rw [← e1, this]
  · obtain ⟨x, hx, e1, e2, _⟩ := relz_mem r q hq
    have := NK.held ok x.1 (.ref x.2.1) (.ref x.2.1) (d.ks x hx).1 rfl
    rw [e1, e2] at this
    exact ⟨this, e1 ▸ (d.ks x hx).2⟩
theorem dic_ok {ys : List (NestedKey × Addr × Value)} (z : xs.length ≤ sizeLine) (y : (a == sysModules) = false) (r : Paired RelZ xs ys) (dd : h.DictOfH (nestedKind P w) a ys) : ObjOk P w H h a (.ext (dicP a xs)) := by
  obtain ⟨o, es, ep, h1, h2, h3, h4, _, h5⟩ := dd
  refine ⟨⟨z, y, w, ys, r, o, es, ep, h1, h2, h3, h4, h5⟩, ⟨o, h1⟩, ?_⟩
  rintro g1 g2 ⟨z, y, w', ys', r', o', es', ep', i1, i2⟩ k
  exact ⟨z, y, w', ys', r', o', es', ep', k _ i1, i2⟩
end
section
variable {X : Cx} {pins : List (Addr × Obj)} {σ : L2.St} {H : Hp} {s : Shared} {a b : Addr} {xs : List ZX} {k : NestedKey} {v : V} {r : Value} {j : Nat}
theorem room_z {A : Around} (hr : Room j A) : A.in1.units + 8 < cLine := by
  have := hr.units
  show A.units + _ + 8 < cLine
  omega
theorem key_z (I : Inv X pins σ H s) (n : NK H (.ref b) k) (hd : k.depth ≤ 8) : (nestedKind X.prog X.w).is s.heap k b := ⟨NK.held I.hok k _ _ n rfl, hd⟩
def rInZ (neg : Bool) : R2 := fun x y H Q => ∃ (a : Addr) (xs : List ZX) (b : Addr) (k : NestedKey), y = .ref a ∧ Dz H a xs ∧ x = .ref b ∧ NK H (.ref b) k ∧ k.depth ≤ 8 ∧ Q (.bl (if neg then !(getZ xs k).isSome else (getZ xs k).isSome)) H
theorem op_ninZ (hr : Room j X.A) : OpR X (compareOp .NotIn) (rInZ true) := by
  rintro pins s σ H x y u v Q I rx ry ⟨a, xs, b, k, rfl, d, rfl, n, hd, q⟩
  cases rx
  cases ry
  obtain ⟨z, hm, ys, r, dd⟩ := d.rd I.hok
  refine wpAny_notIn_heap (knd := nestedKind X.prog X.w) (room_z hr) (key_z I n hd) hm dd ?_
  have e : (atKey ys k).isSome = (getZ xs k).isSome := by
    rcases relz_get k r with ⟨e1, e2⟩ | ⟨_, _, e1, e2, _⟩ <;> rw [e1, e2] <;> rfl
  rw [e]
  exact ⟨.bl (!(getZ xs k).isSome), H, I.tok _, rfl, q⟩
theorem z_set {Q : Unit → Shared → Prop} (hr : Room j X.A) (I : Inv X pins σ H s) (d : Dz H a xs) (n : NK H (.ref b) k) (hd : k.depth ≤ 8) (hl : xs.length < sizeLine) (rv : RelV v r)
    (g : ∀ s2 H2, Inv X pins σ H2 s2 → Kp [a] H H2 → Dz H2 a (putZ xs k b v) → Q () s2) : wpAny (model X.prog X.w) X.A (setItem (.ref a) (.ref b) r) Q X.xe s := by
  obtain ⟨z, hm, ys, rl, dd⟩ := d.rd I.hok
  have hz : ys.length ≤ sizeLine := by rw [← Paired.length rl]; exact z
  refine wpAny_setItem_heap (knd := nestedKind X.prog X.w) (hsz := hz) (room_z hr) (key_z I n hd) dd fun h2 dd2 hs => ?_
  have lp : (putZ xs k b v).length ≤ sizeLine := by have := putZ_len xs k b v; omega
  have hS : ∀ c ∈ [a], ∀ ys, H c ≠ some (.tup ys) := fun c hc ys e => by
    rw [List.mem_singleton.mp hc, d.ob] at e
    cases e
  have kp : Kp [a] H (upd H a (.ext (dicP a (putZ xs k b v)))) := Kp.put (by simp)
  refine g _ (upd H a (.ext (dicP a (putZ xs k b v)))) (d_write I (by rw [d.ob]; exact True.intro) hs ?_ (dic_ok lp hm (relz_put rv rl) dd2)) kp ⟨upd_same, fun x hx => ?_⟩
  · obtain ⟨q, _, _, hq, _⟩ := dd2
    exact ⟨q, hq⟩
  · rcases putZ_mem hx with ⟨y, hy, e1, e2⟩ | rfl
    · rw [← e1, ← e2]
      exact ⟨NK.kp kp hS _ _ (d.ks y hy).1, (d.ks y hy).2⟩
    · exact ⟨NK.kp kp hS _ _ n, hd⟩
end
/-- d[y] = v -/
def sZPut (td ty tv : TE) : TS := fun D σ H => tv σ H fun v H1 => td σ H1 fun x H2 => ty σ H2 fun y H3 => ∃ (a : Addr) (xs : List ZX) (b : Addr) (k : NestedKey), x = .ref a ∧ Dz H3 a xs ∧ y = .ref b ∧ NK H3 (.ref b) k ∧ k.depth ≤ 8 ∧ xs.length < sizeLine ∧
  ∀ H4, Kp [a] H3 H4 → Dz H4 a (putZ xs k b v) → D.nx σ H4
/-- {k: v} -/
def tZNew (tk tv : TE) : TE := fun σ H Q => ∀ p H1, H p = none → Kp [] H H1 → Dz H1 p [] → tk σ H1 fun x H2 => tv σ H2 fun y H3 => ∃ (b : Addr) (k : NestedKey), Dz H3 p [] ∧ x = .ref b ∧ NK H3 (.ref b) k ∧ k.depth ≤ 8 ∧ ∀ H4, Kp [p] H3 H4 → Dz H4 p [(k, b, y)] → Q (.ref p) H4
section
variable {X : Cx} {o i kx vx value : Expr} {pos pos' : Pos} {td ty tk tv : TE} {j : Nat}
theorem ps_zput (hr : Room j X.A) (ho : PE X o td) (hi : PE X i ty) (hv : PE X value tv) (hs : swapsWith value (some (.Subscript o i pos')) pos.line X.env = pure false) : PS X (.Assign [.Subscript o i pos'] value pos) (sZPut td ty tv) := by
  constructor
  intro pins s σ H D I h
  refine wpAny_Assign_Subscript (thn (hv.run pins s σ H _ I h) ?_) hs
  rintro r s1 ⟨v, H1, I1, rv, q1⟩
  refine thn (ho.run pins s1 σ H1 _ I1 q1) ?_
  rintro u s2 ⟨x, H2, I2, rx, q2⟩
  refine thn (hi.run pins s2 σ H2 _ I2 q2) ?_
  rintro iv s3 ⟨y, H3, I3, ry, a, xs, b, k, rfl, d, rfl, n, hd, hl, q3⟩
  cases rx
  cases ry
  exact z_set hr I3 d n hd hl rv fun s4 H4 I4 kp d4 => ⟨σ, H4, I4, q3 H4 kp d4⟩
theorem pe_znew (hr : Room j X.A) (hk : PE X kx tk) (hv : PE X vx tv) : PE X (.Dict [some kx] [vx] pos) (tZNew tk tv) := by
  constructor
  intro pins s σ H Q I q
  have np := I.hok.fresh (Nat.le_refl s.heap.objs.size)
  have sm : (s.heap.objs.size == sysModules) = false := beq_eq_false_iff_ne.mpr (Ne.symm (Nat.ne_of_lt I.big))
  have I1 := I.laid (a := s.heap.objs.size) (o := .ext (dicP s.heap.objs.size [])) (h' := s.heap.push { cls := .type "dict", data := .dict #[] }) (t' := s.toks) (fun _ _ z => Heap.get?_push_of_some _ z) (Nat.le_refl _) (dic_ok (P := X.prog) (w := X.w) (Nat.zero_le _) sm .nil (Heap.DictOfH.new s.heap))
  have d1 : Dz (upd H s.heap.objs.size (.ext (dicP s.heap.objs.size []))) s.heap.objs.size [] := ⟨upd_same, fun x hx => by cases hx⟩
  have q1 := q _ _ np (Kp.new np) d1
  have shape : (evalEachOpt [some kx] X.env).zip ((evalEach [vx] X.env).map fun v => do let x ← v; standAt pos; pure x) = (pairTrees [some kx] [vx] X.env pos).map fun p => (some p.1, p.2) := rfl
  rw [arm_eval_Dict, shape, dictDisplay_pairs _ (by simp [pairTrees]) (by simp [pairTrees])]
  have rm : (nestedKind X.prog X.w).room X.A := by
    have := hr.units
    show X.A.units + 8 < cLine
    omega
  refine wpAny_bind (wpAny_standAt (wpAny_bind (wpAny_subDictH (knd := nestedKind X.prog X.w) (Q := fun d s2 => wpAny (model X.prog X.w) X.A (pure (Value.ref d)) _ X.xe s2) rm (by simp [pairTrees]) ?_)))
  refine pairTrees_cons_walk (thn (hk.run pins _ σ _ _ I1 q1) ?_)
  rintro u s1 ⟨x, H1, J1, rx, q2⟩
  refine thn (hv.run pins s1 σ H1 _ J1 q2) ?_
  rintro t s2 ⟨y, H2, J2, ry, b, k, d2, rfl, n, hd, q3⟩
  cases rx
  refine pairTrees_nil_walk ⟨[(k, b, t)], ⟨rfl, rfl, key_z J2 n hd, trivial⟩, ?_, ?_⟩
  · obtain ⟨_, _, ys, r, dd⟩ := d2.rd J2.hok
    cases r
    exact dd
  · intro h4 tk4 dd4 hs4
    have hS : ∀ c ∈ [s.heap.objs.size], ∀ ys, H2 c ≠ some (.tup ys) := fun c hc ys e => by
      rw [List.mem_singleton.mp hc, d2.ob] at e
      cases e
    have kp : Kp [s.heap.objs.size] H2 (upd H2 s.heap.objs.size (.ext (dicP s.heap.objs.size [(k, b, y)]))) := Kp.put (by simp)
    refine wpAny_pure ⟨.ref s.heap.objs.size, _, d_write J2 (by rw [d2.ob]; exact True.intro) hs4 ?_ (dic_ok (by rw [sizeLine_eq]; simp) sm (.cons ⟨rfl, rfl, ry⟩ .nil) dd4), rfl, q3 _ kp ⟨upd_same, fun z hz => ?_⟩⟩
    · obtain ⟨o4, _, _, ho, _⟩ := dd4
      exact ⟨o4, ho⟩
    · rw [List.mem_singleton.mp hz]
      exact ⟨NK.kp kp hS _ _ n, hd⟩
end
section
variable {σ : L2.St} {H : Hp} {Q : VK} {td ty tk tv : TE} {D : Ends}
theorem w_zput (g : tv σ H fun v H1 => td σ H1 fun x H2 => ty σ H2 fun y H3 => ∃ (a : Addr) (xs : List ZX) (b : Addr) (k : NestedKey), x = .ref a ∧ Dz H3 a xs ∧ y = .ref b ∧ NK H3 (.ref b) k ∧ k.depth ≤ 8 ∧ xs.length < sizeLine ∧ ∀ H4, Kp [a] H3 H4 → Dz H4 a (putZ xs k b v) → D.nx σ H4) : sZPut td ty tv D σ H := g
theorem w_inZk {neg : Bool} {a b : Addr} {xs : List ZX} {k : NestedKey} (d : Dz H a xs) (n : NK H (.ref b) k) (hd : k.depth ≤ 8) (g : Q (.bl (if neg then !(getZ xs k).isSome else (getZ xs k).isSome)) H) : rInZ neg (.ref b) (.ref a) H Q := ⟨a, xs, b, k, rfl, d, rfl, n, hd, g⟩
end
end G
set_option Elab.async false
set_option linter.all false
set_option maxRecDepth 100000
set_option maxHeartbeats 4000000
/-! k18: no repair is shorter; the search over all standings. -/
namespace G
open PySem PySem.Spec PyProof.Rows L2
theorem sum_nn (f : Nat → Int) : ∀ n : Nat, (∀ u, u < n → 0 ≤ f u) → 0 ≤ ((List.range n).map f).sum := by
  intro n
  induction n with
  | zero => intro _; exact Int.le_refl _
  | succ n ih =>
    intro h
    have a := ih fun u hu => h u (by omega)
    have b := h n (by omega)
    rw [List.range_succ, List.map_append, List.sum_append]
    show 0 ≤ _ + (f n + 0)
    omega
theorem sum_one (f g : Nat → Int) (m : Nat) : ∀ n : Nat, (∀ u, u < n → u ≠ m → g u = f u) → ((List.range n).map g).sum = ((List.range n).map f).sum + if m < n then g m - f m else 0 := by
  intro n
  induction n with
  | zero => intro _; rfl
  | succ n ih =>
    intro h
    rw [List.range_succ, List.map_append, List.map_append, List.sum_append, List.sum_append, ih fun u hu => h u (by omega)]
    show _ + (g n + 0) = _ + (f n + 0) + _
    by_cases c : n = m
    · rw [if_neg (by omega), if_pos (by omega), c]; omega
    · rw [h n (by omega) c]
      by_cases d : m < n
      · rw [if_pos d, if_pos (by omega)]; omega
      · rw [if_neg d, if_neg (by omega)]; omega
theorem owed_fallV {s : Sd} (w : Wf s) (nl : lostL s = []) {v : Nat} (h1 : 1 ≤ v) (h2 : v ≤ s.n) (nl' : lostL (stepS s (legO s v)) = []) : owedS s - 1 ≤ owedS (stepS s (legO s v)) := by
  obtain ⟨m, rfl⟩ : ∃ m, v = m + 1 := ⟨v - 1, by omega⟩
  obtain ⟨l, h, e1, e2, e3, e4, e5⟩ := low_at w h2
  obtain ⟨⟨op1, op2⟩, op3⟩ := legO_ok' (s := s) (v := m + 1) (by omega) h2
  generalize legO s (m + 1) = op at *
  rw [op3] at op2
  have a' : ∀ g, gA (stepS s op) g ↔ (g = l ∧ 0 < op ∧ l = m) ∨ (g ≠ l ∧ gA s g) := by
    intro g
    unfold gA
    rw [(step_gI w op1 g).1, op3, e1, e2, Int.toNat_natCast]
    by_cases c : g = l
    · rw [if_pos c]
      by_cases o : op < 0
      · rw [if_pos o]; omega
      · rw [if_neg o]; omega
    · rw [if_neg c]; omega
  have b' : ∀ g, gBk (stepS s op) g ↔ (g = h ∧ 0 < op ∧ m + 1 = h) ∨ (g ≠ h ∧ gBk s g) := by
    intro g
    unfold gBk
    rw [(step_gI w op1 (g + 1)).2, op3, e1, e2, show ((h : Int) + 1).toNat = h + 1 by omega]
    by_cases c : g = h
    · rw [if_pos (by omega)]
      by_cases o : op < 0
      · rw [if_pos o]; omega
      · rw [if_neg o]; omega
    · rw [if_neg (by omega)]; omega
  have en : (stepS s op).n = s.n := rfl
  have n1 := nl_AB nl
  have n2 : ∀ g, g ≤ s.n → gA (stepS s op) g ∨ gBk (stepS s op) g := fun g hg => nl_AB nl' g hg
  have ob : ∀ u, gB (stepS s op).O (u + 1) = if u = m then decide (op < 0) else gB s.O (u + 1) := fun u => by
    rw [step_gB w op1 (u + 1), op3]
    by_cases c : u = m
    · rw [if_pos (by omega), if_pos c]
    · rw [if_neg (by omega), if_neg c]
  have bm : gBk s l → l ≠ m → True := fun _ _ => trivial
  have mono : ∀ u, u < s.n → u ≠ m → dueB s (u + 1) = true → dueB (stepS s op) (u + 1) = true := by
    intro u hu hm hd
    rw [due_AB] at hd ⊢
    rw [ob u, if_neg hm]
    have x1 := a' u
    have x2 := a' (u + 1)
    have x3 := b' u
    have x4 := b' (u + 1)
    have x5 := n2 u (by omega)
    have x6 := n2 (u + 1) (by omega)
    generalize gA s u = A0 at *
    generalize gA s (u + 1) = A1 at *
    generalize gBk s u = B0 at *
    generalize gBk s (u + 1) = B1 at *
    generalize gA (stepS s op) u = A0' at *
    generalize gA (stepS s op) (u + 1) = A1' at *
    generalize gBk (stepS s op) u = B0' at *
    generalize gBk (stepS s op) (u + 1) = B1' at *
    clear a' b' n1 n2 ob
    grind
  have cst : ∀ b, 1 ≤ costB b ∧ costB b ≤ 2 := cost_pos
  have le : ∀ u, u < s.n → u ≠ m → costS s u ≤ costS (stepS s op) u := by
    intro u hu hm
    unfold costS
    have mu := mono u hu hm
    by_cases c : dueB s (u + 1) = true
    · rw [if_pos c, if_pos (mu c), ob u, if_neg hm]
      exact Int.le_refl _
    · rw [if_neg c]
      split
      · have := cst (gB (stepS s op).O (u + 1))
        omega
      · exact Int.le_refl _
  have me : costS s m - 1 ≤ costS (stepS s op) m := by
    have obm := ob m
    rw [if_pos rfl] at obm
    unfold costS
    by_cases o : op < 0
    · have d1 : dueB (stepS s op) (m + 1) = true := (due_AB m).mpr (.inl (by rw [obm]; exact decide_eq_true o))
      rw [if_pos d1, obm, decide_eq_true o]
      have := cst (gB s.O (m + 1))
      show _ - 1 ≤ (1 : Int)
      split <;> omega
    · have og : gB s.O (m + 1) = true := by rw [op2]; exact decide_eq_true (by have := op1.1; omega)
      have d1 : dueB s (m + 1) = true := (due_AB m).mpr (.inl og)
      rw [if_pos d1, og]
      show (1 : Int) - 1 ≤ _
      split
      · have := cst (gB (stepS s op).O (m + 1))
        omega
      · exact Int.le_refl _
  rw [owed_sum, owed_sum, en]
  have z := sum_nn (fun u => costS (stepS s op) u - costS s u + if u = m then 1 else 0) s.n (fun u hu => by
    show 0 ≤ costS (stepS s op) u - costS s u + if u = m then 1 else 0
    by_cases c : u = m
    · rw [if_pos c, c]; omega
    · rw [if_neg c]
      have := le u hu c
      omega)
  rw [sum_lin, if_pos (show m < s.n by omega)] at z
  show (List.map (costS s) (List.range s.n)).sum - 1 ≤ (List.map (costS (stepS s op)) (List.range s.n)).sum
  omega
theorem ok_leg {s : Sd} {op : Int} (o : OkOp s op) : 1 ≤ op.natAbs ∧ op.natAbs ≤ s.n ∧ op = legO s op.natAbs := by
  obtain ⟨⟨h1, h2⟩, h3⟩ := o
  refine ⟨h1, h2, ?_⟩
  unfold legO
  by_cases c : 0 < op
  · rw [h3, decide_eq_true c, if_pos rfl]; omega
  · rw [h3, decide_eq_false c, if_neg (by decide)]; omega
theorem owed_fall {s : Sd} (w : Wf s) (nl : lostL s = []) {op : Int} (o : OkOp s op) (nl' : lostL (stepS s op) = []) : owedS s - 1 ≤ owedS (stepS s op) := by
  obtain ⟨h1, h2, e⟩ := ok_leg o
  rw [e] at nl' ⊢
  exact owed_fallV w nl h1 h2 nl'
theorem lost_back {s : Sd} (w : Wf s) {op : Int} (io : IsOp s.n op) (nl : lostL (stepS s op) = []) : lostL s = [] :=
  lost_nil.mpr fun g hg z => lost_nil.mp nl g hg (lost_keep w io z)
/-- nodes that are out, counted -/
def outC (s : Sd) : Int := ((List.range s.n).map fun u => if gB s.O (u + 1) = true then (1 : Int) else 0).sum
theorem owed_par (s : Sd) : ∃ k : Int, owedS s = outC s + 2 * k := by
  rw [owed_sum]
  unfold outC
  generalize s.n = n
  induction n with
  | zero => exact ⟨0, rfl⟩
  | succ n ih =>
    obtain ⟨k, e⟩ := ih
    rw [List.range_succ, List.map_append, List.map_append, List.sum_append, List.sum_append, e]
    show ∃ k', _ + (costS s n + 0) = _ + ((if gB s.O (n + 1) = true then (1 : Int) else 0) + 0) + 2 * k'
    unfold costS
    by_cases c : gB s.O (n + 1) = true
    · rw [if_pos c, if_pos ((due_AB n).mpr (.inl c)), c]
      exact ⟨k, by show _ + ((1 : Int) + 0) = _; omega⟩
    · rw [if_neg c]
      by_cases d : dueB s (n + 1) = true
      · rw [if_pos d, eq_false_of_ne_true c]
        exact ⟨k + 1, by show _ + ((2 : Int) + 0) = _; omega⟩
      · rw [if_neg d]
        exact ⟨k, by omega⟩
theorem outC_step {s : Sd} (w : Wf s) {op : Int} (o : OkOp s op) : outC (stepS s op) = outC s + 1 ∨ outC (stepS s op) = outC s - 1 := by
  obtain ⟨⟨h1, h2⟩, h3⟩ := o
  obtain ⟨m, hm⟩ : ∃ m, op.natAbs = m + 1 := ⟨op.natAbs - 1, by omega⟩
  have ob : ∀ u, gB (stepS s op).O (u + 1) = if u = m then decide (op < 0) else gB s.O (u + 1) := fun u => by
    rw [step_gB w ⟨h1, h2⟩ (u + 1), hm]
    by_cases c : u = m
    · rw [if_pos (by omega), if_pos c]
    · rw [if_neg (by omega), if_neg c]
  have := sum_one (fun u => if gB s.O (u + 1) = true then (1 : Int) else 0) (fun u => if gB (stepS s op).O (u + 1) = true then (1 : Int) else 0) m s.n (fun u _ c => by
    show (if gB (stepS s op).O (u + 1) = true then (1 : Int) else 0) = _
    rw [ob u, if_neg c])
  have this : outC (stepS s op) = outC s + _ := this
  rw [if_pos (by omega), ob m, if_pos rfl] at this
  rw [hm] at h3
  rw [this, h3]
  by_cases c : op < 0
  · rw [decide_eq_true c, decide_eq_false (show ¬ 0 < op by omega)]
    left; rfl
  · rw [decide_eq_false c, decide_eq_true (show 0 < op by omega)]
    right; rfl
theorem whole_owed {s : Sd} (h : whlB s = true) : owedS s = 0 ∧ outC s = 0 := by
  have z := whlB_iff.mp h
  have o : ∀ u, u < s.n → gB s.O (u + 1) = false := fun u hu => (z (u + 1) (by omega)).2.2
  have c0 : ∀ u, u < s.n → costS s u = 0 := fun u hu => by
    unfold costS
    rw [if_neg]
    intro d
    rcases (due_AB u).mp d with d | ⟨_, d⟩ | ⟨d, _⟩
    · rw [o u hu] at d; cases d
    · exact d (z (u + 1) (by omega)).2.1
    · exact d (z u (by omega)).1
  have s0 : ∀ n, ((List.range n).map fun _ => (0 : Int)).sum = 0 := fun n => by
    induction n with
    | zero => rfl
    | succ n ih => rw [List.range_succ, List.map_append, List.sum_append, ih]; rfl
  constructor
  · rw [owed_sum, List.map_congr_left (g := fun _ => (0 : Int)) fun u hu => c0 u (List.mem_range.mp hu)]
    exact s0 _
  · unfold outC
    rw [List.map_congr_left (g := fun _ => (0 : Int)) fun u hu => by
      rw [o u (List.mem_range.mp hu), if_neg (by decide)]]
    exact s0 _
theorem whole_whl {s : Sd} (h : wholeB s = true) : whlB s = true := by
  have ho : s.O = (wholeS s.n).O := by
    unfold wholeB at h
    rw [Bool.and_eq_true, Bool.and_eq_true, decide_eq_true_iff, decide_eq_true_iff, decide_eq_true_iff] at h
    exact h.2.2
  refine whlB_iff.mpr fun g hg => ?_
  obtain ⟨a, b⟩ := stT_joined.mp (whB_joined h hg)
  exact ⟨a, b, by rw [ho]; exact gB_rep _ _⟩
theorem whl_whole {s : Sd} (w : Wf s) (d : Snd s) : wholeB s = whlB s := by
  rw [Bool.eq_iff_iff]
  refine ⟨whole_whl, fun h => ?_⟩
  have z := whlB_iff.mp h
  refine joined_whB w d (fun g hg => stT_joined.mpr ⟨(z g hg).1, (z g hg).2.1⟩) fun v => ?_
  by_cases c : v ≤ s.n
  · exact (z v c).2.2
  · by_cases e : v = s.n + 1
    · rw [e]; exact d.o1
    · have := w.lO
      unfold gB
      rw [List.getD_eq_getElem?_getD, List.getElem?_eq_none (by omega)] <;> rfl
theorem lead_owed : ∀ {row : List Int} {s : Sd}, Wf s → leadB s row = true → owedS s ≤ row.length ∧ ∃ k : Int, (row.length : Int) - owedS s = 2 * k ∧ outC s ≤ row.length ∧ ∃ j : Int, (row.length : Int) - outC s = 2 * j
  | [], s, w, h => by
    have h : wholeB s = true := h
    obtain ⟨a, b⟩ := whole_owed (whole_whl h)
    rw [a, b]
    exact ⟨Int.le_refl _, 0, rfl, Int.le_refl _, 0, rfl⟩
  | x :: xs, s, w, h => by
    have h : (decide (OkOp s x) && leadB (stepS s x) xs) = true := h
    rw [Bool.and_eq_true, decide_eq_true_iff] at h
    have nl' := lead_nolost (w.step h.1.1) h.2
    have nl := lost_back w h.1.1 nl'
    obtain ⟨a, k, b, c, j, d⟩ := lead_owed (w.step h.1.1) h.2
    have f := owed_fall w nl h.1 nl'
    obtain ⟨p, hp⟩ := owed_par s
    have o := outC_step w h.1
    rw [List.length_cons]
    have en : ((xs.length + 1 : Nat) : Int) = (xs.length : Int) + 1 := by omega
    rw [en]
    rcases o with o | o
    · exact ⟨by omega, j + 1 - p, by omega, by omega, j + 1, by omega⟩
    · exact ⟨by omega, j - p, by omega, by omega, j, by omega⟩
end G
set_option Elab.async false
set_option linter.all false
set_option maxRecDepth 100000
set_option maxHeartbeats 4000000
/-! k04: runs, outs, promises. -/
namespace G
open PySem PySem.Spec PyProof.Rows L2 TL
theorem leg_split {s : Sd} {l : List Int} {x : Int} (h : Leg s (l ++ [x])) : Leg s l ∧ OkOp (runS s l) x := by
  refine ⟨?_, ?_⟩
  · have := h.take l.length
    rwa [List.take_left'] at this
    rfl
  · have := h l.length x (by simp)
    rwa [List.take_left'] at this
    rfl
end G
set_option Elab.async false
set_option linter.all false
set_option maxRecDepth 100000
set_option maxHeartbeats 4000000
/-! k18: the search: how many standings there are; the search's invariants. -/
namespace G
open PySem PySem.Spec PyProof.Rows L2
/-! ### standings are few -/
theorem nd_len : ∀ (N : Nat) (l : List Nat), l.Nodup → (∀ x ∈ l, x < N) → l.length ≤ N
  | 0, [], _, _ => Nat.le_refl _
  | 0, x :: l, _, h => absurd (h x List.mem_cons_self) (Nat.not_lt_zero _)
  | N + 1, l, d, h => by
    have := nd_len N (l.erase N) (d.erase N) (fun x hx => by
      have hm := List.mem_of_mem_erase hx
      have h1 := h x hm
      have h2 : x ≠ N := fun e => by
        rw [e] at hx
        exact List.Nodup.not_mem_erase d hx
      omega)
    rw [List.length_erase] at this
    split at this <;> omega
def mix : List (Nat × Nat) → Nat
  | [] => 0
  | p :: t => p.1 + p.2 * mix t
def prd : List Nat → Nat
  | [] => 1
  | r :: t => r * prd t
theorem mix_lt : ∀ l : List (Nat × Nat), (∀ p ∈ l, p.1 < p.2) → mix l < prd (l.map (·.2))
  | [], _ => Nat.zero_lt_one
  | p :: t, h => by
    have a := mix_lt t fun q hq => h q (List.mem_cons_of_mem _ hq)
    have b := h p List.mem_cons_self
    show p.1 + p.2 * mix t < p.2 * prd (t.map (·.2))
    have c : p.2 * mix t + p.2 ≤ p.2 * prd (t.map (·.2)) := by
      rw [← Nat.mul_succ]
      exact Nat.mul_le_mul_left _ a
    omega
theorem mix_inj : ∀ l m : List (Nat × Nat), l.map (·.2) = m.map (·.2) → (∀ p ∈ l, p.1 < p.2) → (∀ p ∈ m, p.1 < p.2) → mix l = mix m → l = m
  | [], [], _, _, _, _ => rfl
  | [], _ :: _, h, _, _, _ => by cases h
  | _ :: _, [], h, _, _, _ => by cases h
  | p :: l, q :: m, h, hl, hm, e => by
    have h : p.2 :: l.map (·.2) = q.2 :: m.map (·.2) := h
    injection h with h1 h2
    have e : p.1 + p.2 * mix l = q.1 + q.2 * mix m := e
    have a := hl p List.mem_cons_self
    have b := hm q List.mem_cons_self
    rw [← h1] at e b
    have e1 : p.1 = q.1 := by
      have := congrArg (· % p.2) e
      simp only [Nat.add_mul_mod_self_left] at this
      rw [Nat.mod_eq_of_lt a, Nat.mod_eq_of_lt b] at this
      exact this
    have e2 : mix l = mix m := by
      have : p.2 * mix l = p.2 * mix m := by omega
      exact Nat.eq_of_mul_eq_mul_left (by omega) this
    rw [mix_inj l m h2 (fun x hx => hl x (List.mem_cons_of_mem _ hx)) (fun x hx => hm x (List.mem_cons_of_mem _ hx)) e2, show p = q from Prod.ext e1 h1]
def digs (s : Sd) : List (Nat × Nat) :=
  ((List.range (s.n + 1)).map fun g => ((gI s.R g - (g : Int) - 1).toNat, s.n + 1 - g)) ++
  (((List.range (s.n + 1)).map fun v => ((gI s.L (v + 1)).toNat, v + 1)) ++
  ((List.range s.n).map fun u => (if gB s.O (u + 1) = true then 1 else 0, 2)))
def radN (n : Nat) : List Nat := ((List.range (n + 1)).map fun g => n + 1 - g) ++ (((List.range (n + 1)).map fun v => v + 1) ++ ((List.range n).map fun _ => 2))
theorem digs_rad (s : Sd) : (digs s).map (·.2) = radN s.n := by
  unfold digs radN
  rw [List.map_append, List.map_append, List.map_map, List.map_map, List.map_map] <;> rfl
theorem digs_lt {s : Sd} (w : Wf s) : ∀ p ∈ digs s, p.1 < p.2 := by
  intro p hp
  unfold digs at hp
  rcases List.mem_append.mp hp with h | h
  · obtain ⟨g, hg, rfl⟩ := List.mem_map.mp h
    have := List.mem_range.mp hg
    have := w.rb g (by omega)
    show (gI s.R g - (g : Int) - 1).toNat < s.n + 1 - g
    omega
  · rcases List.mem_append.mp h with h | h
    · obtain ⟨g, hg, rfl⟩ := List.mem_map.mp h
      have := List.mem_range.mp hg
      have := w.lb (g + 1) (by omega) (by omega)
      show (gI s.L (g + 1)).toNat < g + 1
      omega
    · obtain ⟨g, hg, rfl⟩ := List.mem_map.mp h
      show (if gB s.O (g + 1) = true then 1 else 0) < 2
      split <;> omega
theorem digs_inj {s t : Sd} (w : Wf s) (w' : Wf t) (d : Snd s) (d' : Snd t) (en : s.n = t.n) (h : digs s = digs t) : s = t := by
  unfold digs at h
  rw [en] at h
  obtain ⟨h1, h⟩ := List.append_inj h (by rw [List.length_map, List.length_map])
  obtain ⟨h2, h3⟩ := List.append_inj h (by rw [List.length_map, List.length_map])
  rw [List.map_inj_left] at h1 h2 h3
  refine sd_ext w w' d d' en (fun v hv => ?_) (fun v v1 v2 => ?_) fun v hv => ?_
  · have := h1 v (List.mem_range.mpr (by omega))
    have := congrArg Prod.fst this
    have this : (gI s.R v - (v : Int) - 1).toNat = (gI t.R v - (v : Int) - 1).toNat := this
    have a := w.rb v hv
    have b := w'.rb v (by omega)
    omega
  · obtain ⟨u, rfl⟩ : ∃ u, v = u + 1 := ⟨v - 1, by omega⟩
    have := h2 u (List.mem_range.mpr (by omega))
    have := congrArg Prod.fst this
    have this : (gI s.L (u + 1)).toNat = (gI t.L (u + 1)).toNat := this
    have a := w.lb (u + 1) v1 v2
    have b := w'.lb (u + 1) v1 (by omega)
    omega
  · by_cases c : v = 0
    · rw [c, d.o0, d'.o0]
    · by_cases c2 : v = s.n + 1
      · rw [c2, d.o1, en, d'.o1]
      · obtain ⟨u, rfl⟩ : ∃ u, v = u + 1 := ⟨v - 1, by omega⟩
        have := h3 u (List.mem_range.mpr (by omega))
        have := congrArg Prod.fst this
        have this : (if gB s.O (u + 1) = true then 1 else 0) = (if gB t.O (u + 1) = true then 1 else 0) := this
        cases x : gB s.O (u + 1) <;> cases y : gB t.O (u + 1) <;> rw [x, y] at this <;> first | rfl | (simp at this)
theorem rad4 {n : Nat} (h : n ≤ 4) : prd (radN n) ≤ 230400 := by
  rcases (by omega : n = 0 ∨ n = 1 ∨ n = 2 ∨ n = 3 ∨ n = 4) with rfl | rfl | rfl | rfl | rfl <;> decide +kernel
theorem few {n : Nat} (hn : n ≤ 4) {l : List Sd} (nd : l.Nodup) (h : ∀ t ∈ l, t.n = n ∧ Wf t ∧ Snd t) : l.length ≤ 230400 := by
  have := nd_len (prd (radN n)) (l.map fun t => mix (digs t)) (List.pairwise_map.mpr (nd.imp_of_mem fun {a b} ha hb ne e => by
    obtain ⟨a1, a2, a3⟩ := h a ha
    obtain ⟨b1, b2, b3⟩ := h b hb
    exact ne (digs_inj a2 b2 a3 b3 (by omega) (mix_inj _ _ (by rw [digs_rad, digs_rad, a1, b1]) (digs_lt a2) (digs_lt b2) e)))) (fun x hx => by
    obtain ⟨t, ht, rfl⟩ := List.mem_map.mp hx
    obtain ⟨a1, a2, a3⟩ := h t ht
    have := mix_lt _ (digs_lt a2)
    rwa [digs_rad, a1] at this)
  rw [List.length_map] at this
  exact Nat.le_trans this (rad4 hn)
/-! ### keys -/
def keyL (L' R' : List Int) (O : List Bool) : NestedKey := .tup (L'.map NestedKey.num ++ R'.map NestedKey.num ++ O.map fun b => NestedKey.num (if b = true then 1 else 0))
def exL (x : Int) (s : Sd) : List Int := s.L.set 0 x
def exR (y : Int) (s : Sd) : List Int := s.R ++ [y]
def keyS (x y : Int) (s : Sd) : NestedKey := keyL (exL x s) (exR y s) s.O
theorem map_inj_num : ∀ {a b : List Int}, a.map NestedKey.num = b.map NestedKey.num → a = b
  | [], [], _ => rfl
  | [], _ :: _, h => by cases h
  | _ :: _, [], h => by cases h
  | x :: a, y :: b, h => by
    have h' : NestedKey.num x :: a.map NestedKey.num = NestedKey.num y :: b.map NestedKey.num := h
    injection h' with h1 h2
    injection h1 with h1
    rw [h1, map_inj_num h2]
theorem map_inj_nb : ∀ {a b : List Bool}, (a.map fun b => NestedKey.num (if b = true then 1 else 0)) = (b.map fun b => NestedKey.num (if b = true then 1 else 0)) → a = b
  | [], [], _ => rfl
  | [], _ :: _, h => by cases h
  | _ :: _, [], h => by cases h
  | x :: a, y :: b, h => by
    have h' : NestedKey.num (if x = true then 1 else 0) :: (a.map fun b => NestedKey.num (if b = true then 1 else 0)) = NestedKey.num (if y = true then 1 else 0) :: (b.map fun b => NestedKey.num (if b = true then 1 else 0)) := h
    injection h' with h1 h2
    injection h1 with h1
    rw [map_inj_nb h2]
    cases x <;> cases y <;> first | rfl | (simp at h1)
theorem keyS_inj {x y : Int} {s t : Sd} (w : Wf s) (w' : Wf t) (d : Snd s) (d' : Snd t) (en : s.n = t.n) (h : keyS x y s = keyS x y t) : s = t := by
  unfold keyS keyL at h
  injection h with h
  have l1 := w.lL
  have l2 := w'.lL
  have l3 := w.lR
  have l4 := w'.lR
  have e1 : (exL x s).length = (exL x t).length := by unfold exL; rw [List.length_set, List.length_set]; omega
  have e2 : (exR y s).length = (exR y t).length := by unfold exR; rw [List.length_append, List.length_append]; omega
  obtain ⟨h1, h3⟩ := List.append_inj h (by rw [List.length_append, List.length_append, List.length_map, List.length_map, List.length_map, List.length_map, e1, e2])
  obtain ⟨h1, h2⟩ := List.append_inj h1 (by rw [List.length_map, List.length_map, e1])
  have h1 := map_inj_num h1
  have h2 := map_inj_num h2
  have h3 := map_inj_nb h3
  obtain ⟨a, ea⟩ := d.l0
  obtain ⟨b, eb⟩ := d'.l0
  have h1 : s.L.set 0 x = t.L.set 0 x := h1
  have h2 : s.R ++ [y] = t.R ++ [y] := h2
  rw [ea, eb] at h1
  have h1 : x :: a = x :: b := h1
  injection h1 with _ h1
  have h2 := (List.append_inj h2 (by omega)).1
  have h4 : s.L = t.L := by rw [ea, eb, h1]
  exact sd_ext w w' d d' en (fun v hv => by rw [h2]) (fun v _ _ => by rw [h4]) fun v _ => by rw [h3]
theorem dep_num : ∀ l : List NestedKey, (∀ k ∈ l, ∃ i, k = .num i) → NestedKey.depthAll l ≤ 1
  | [], _ => by simp [NestedKey.depthAll]
  | k :: l, h => by
    have a := dep_num l fun z hz => h z (List.mem_cons_of_mem _ hz)
    obtain ⟨i, rfl⟩ := h k List.mem_cons_self
    simp [NestedKey.depthAll, NestedKey.depth]
    omega
theorem keyL_depth (L' R' : List Int) (O : List Bool) : (keyL L' R' O).depth ≤ 8 := by
  unfold keyL
  have := dep_num (L'.map NestedKey.num ++ R'.map NestedKey.num ++ O.map fun b => NestedKey.num (if b = true then 1 else 0)) (fun k hk => by
    rcases List.mem_append.mp hk with hk | hk
    · rcases List.mem_append.mp hk with hk | hk
      · obtain ⟨i, _, rfl⟩ := List.mem_map.mp hk
        exact ⟨_, rfl⟩
      · obtain ⟨i, _, rfl⟩ := List.mem_map.mp hk
        exact ⟨_, rfl⟩
    · obtain ⟨i, _, rfl⟩ := List.mem_map.mp hk
      exact ⟨_, rfl⟩)
  rw [NestedKey.depth]
  omega
theorem NKs.app {H : Hp} : ∀ {xs ys : List V} {ks ls : List NestedKey}, NKs H xs ks → NKs H ys ls → NKs H (xs ++ ys) (ks ++ ls)
  | [], _, _, _, a, b => by cases a; exact b
  | x :: xs, _, _, _, a, b => by
    cases a with
    | cons a1 a2 => exact .cons a1 (NKs.app a2 b)
theorem nks_int {H : Hp} : ∀ l : List Int, NKs H (l.map V.int) (l.map NestedKey.num)
  | [] => .nil
  | x :: l => .cons (.int x) (nks_int l)
theorem nks_bl {H : Hp} : ∀ l : List Bool, NKs H (l.map V.bl) (l.map fun b => NestedKey.num (if b = true then 1 else 0))
  | [] => .nil
  | x :: l => .cons (.bl x) (nks_bl l)
theorem keyL_nk {H : Hp} {a : Addr} {L' R' : List Int} {O : List Bool} (h : H a = some (.tup (L'.map V.int ++ R'.map V.int ++ O.map V.bl))) : NK H (.ref a) (keyL L' R' O) :=
  .tup h (NKs.app (NKs.app (nks_int _) (nks_int _)) (nks_bl _))
/-! ### reached in so many operations -/
inductive Rch (s0 : Sd) : Nat → Sd → Prop
  | z : Rch s0 0 s0
  | s {k : Nat} {t : Sd} {op : Int} : Rch s0 k t → OkOp t op → Rch s0 (k + 1) (stepS t op)
section
variable {s0 : Sd}
theorem Rch.ok (w : Wf s0) (d : Snd s0) : ∀ {k : Nat} {t : Sd}, Rch s0 k t → t.n = s0.n ∧ Wf t ∧ Snd t := by
  intro k t r
  induction r with
  | z => exact ⟨rfl, w, d⟩
  | s r o ih => exact ⟨ih.1, ih.2.1.step o.1, stepS_snd ih.2.1 ih.2.2 o.1⟩
theorem Rch.debt (w : Wf s0) (d : Snd s0) : ∀ {k : Nat} {t : Sd}, Rch s0 k t → lostL t = [] → lostL s0 = [] ∧ owedS s0 ≤ owedS t + k := by
  intro k t r
  induction r with
  | z => exact fun nl => ⟨nl, by omega⟩
  | s r o ih =>
    intro nl
    obtain ⟨_, w1, _⟩ := r.ok w d
    have nl1 := lost_back w1 o.1 nl
    have f := owed_fall w1 nl1 o nl
    obtain ⟨a, b⟩ := ih nl1
    exact ⟨a, by omega⟩
theorem Rch.log : ∀ {log : List Int}, Leg s0 log → Rch s0 log.length (runS s0 log) := by
  intro log
  induction log using snoc_ind with
  | h0 => exact fun _ => .z
  | h1 l x ih =>
    intro h
    obtain ⟨h1, h2⟩ := leg_split h
    rw [runS_snoc, List.length_append]
    exact .s (ih h1) h2
theorem whl_lost {s : Sd} (w : Wf s) (d : Snd s) (h : whlB s = true) : lostL s = [] := whole_nolost (whl_whole w d ▸ h)
/-- whole within the debt's operations -/
theorem Rch.near (w : Wf s0) (d : Snd s0) (nl : lostL s0 = []) : ∃ t, Rch s0 (owedS s0).toNat t ∧ whlB t = true := by
  have nn := owed_nn s0
  obtain ⟨a, b, c⟩ := grd_all (owedS s0).toNat s0 w nl (by omega)
  have r := Rch.log b
  rw [a] at r
  refine ⟨_, r, ?_⟩
  obtain ⟨_, w1, d1⟩ := r.ok w d
  obtain ⟨_, c2, c3⟩ := c _ (Nat.le_refl _)
  rw [List.take_of_length_le (by omega)] at c2 c3
  exact whole_end w1 d1 c2 (by omega)
structure Bfs (s0 : Sd) (d : Nat) (sn lev : List Sd) : Prop where
  lv : ∀ t ∈ lev, Rch s0 d t
  sub : ∀ t ∈ lev, t ∈ sn
  sg : ∀ t ∈ sn, ∃ k, Rch s0 k t
  all : ∀ k t, k ≤ d → Rch s0 k t → t ∈ sn
  cl : ∀ t ∈ sn, t ∈ lev ∨ (whlB t = false ∧ ∀ v, 1 ≤ v → v ≤ t.n → stepS t (legO t v) ∈ sn)
  nw : ∀ k t, k < d → Rch s0 k t → whlB t = false
  nd : sn.Nodup
  ln : d < sn.length
structure Mid (s0 : Sd) (d : Nat) (sn lev later : List Sd) (i j : Nat) : Prop where
  nd : (sn ++ later).Nodup
  lt : ∀ t ∈ later, Rch s0 (d + 1) t
  old : ∀ i' t, i' < i → lev[i']? = some t → ∀ v, 1 ≤ v → v ≤ t.n → stepS t (legO t v) ∈ sn ++ later
  now : ∀ t, lev[i]? = some t → ∀ v, 1 ≤ v → v ≤ j → stepS t (legO t v) ∈ sn ++ later
theorem Bfs.start (s0 : Sd) : Bfs s0 0 [s0] [s0] where
  lv := fun t ht => by rw [List.mem_singleton.mp ht]; exact .z
  sub := fun t ht => ht
  sg := fun t ht => ⟨0, by rw [List.mem_singleton.mp ht]; exact .z⟩
  all := fun k t hk r => by
    cases r with
    | z => exact List.mem_singleton.mpr rfl
    | s => omega
  cl := fun t ht => .inl ht
  nw := fun k t hk _ => by omega
  nd := List.pairwise_singleton _ _
  ln := Nat.zero_lt_one
variable {d : Nat} {sn lev later : List Sd}
theorem Bfs.hit (w : Wf s0) (dd : Snd s0) (b : Bfs s0 d sn lev) {t : Sd} (ht : t ∈ lev) (h : whlB t = true) : debtS s0 = (d : Int) := by
  have r := b.lv t ht
  obtain ⟨_, w1, d1⟩ := r.ok w dd
  obtain ⟨a, c⟩ := r.debt w dd (whl_lost w1 d1 h)
  rw [(whole_owed h).1] at c
  unfold debtS
  rw [if_pos a]
  obtain ⟨t2, r2, h2⟩ := Rch.near w dd a
  have nn := owed_nn s0
  by_cases z : (owedS s0).toNat < d
  · rw [b.nw _ _ z r2] at h2
    cases h2
  · omega
theorem Bfs.mid (b : Bfs s0 d sn lev) : Mid s0 d sn lev [] 0 0 where
  nd := by rw [List.append_nil]; exact b.nd
  lt := fun t ht => by cases ht
  old := fun i' t hi => by omega
  now := fun t _ v h1 h2 => by omega
theorem Mid.seen {i j : Nat} (m : Mid s0 d sn lev later i j) {t : Sd} (ht : lev[i]? = some t) (h : stepS t (legO t (j + 1)) ∈ sn ++ later) : Mid s0 d sn lev later i (j + 1) where
  nd := m.nd
  lt := m.lt
  old := m.old
  now := fun u hu v h1 h2 => by
    rw [ht] at hu
    cases hu
    by_cases c : v = j + 1
    · rw [c]; exact h
    · exact m.now t ht v h1 (by omega)
theorem Mid.new {i j : Nat} (b : Bfs s0 d sn lev) (m : Mid s0 d sn lev later i j) {t : Sd} (ht : lev[i]? = some t) (hj : j + 1 ≤ t.n) (h : stepS t (legO t (j + 1)) ∉ sn ++ later) : Mid s0 d sn lev (later ++ [stepS t (legO t (j + 1))]) i (j + 1) := by
  have up : ∀ u, u ∈ sn ++ later → u ∈ sn ++ (later ++ [stepS t (legO t (j + 1))]) := fun u hu => by
    rw [← List.append_assoc]
    exact List.mem_append_left _ hu
  refine ⟨?_, fun u hu => ?_, fun i' u hi hu v h1 h2 => up _ (m.old i' u hi hu v h1 h2), fun u hu v h1 h2 => ?_⟩
  · rw [← List.append_assoc]
    refine List.nodup_append.mpr ⟨m.nd, List.pairwise_singleton _ _, fun a ha c hc e => ?_⟩
    rw [List.mem_singleton.mp hc] at e
    rw [e] at ha
    exact h ha
  · rcases List.mem_append.mp hu with hu | hu
    · exact m.lt u hu
    · rw [List.mem_singleton.mp hu]
      exact .s (b.lv t (List.mem_of_getElem? ht)) (legO_ok' (by omega) hj).1
  · rw [ht] at hu
    cases hu
    by_cases c : v = j + 1
    · rw [c, ← List.append_assoc]
      exact List.mem_append_right _ (List.mem_singleton.mpr rfl)
    · exact up _ (m.now t ht v h1 (by omega))
theorem Mid.next {i : Nat} {t : Sd} (m : Mid s0 d sn lev later i t.n) (ht : lev[i]? = some t) : Mid s0 d sn lev later (i + 1) 0 where
  nd := m.nd
  lt := m.lt
  old := fun i' u hi hu v h1 h2 => by
    by_cases c : i' = i
    · rw [c, ht] at hu
      cases hu
      exact m.now t ht v h1 h2
    · exact m.old i' u (by omega) hu v h1 h2
  now := fun u _ v h1 h2 => by omega
theorem Mid.sg {i j : Nat} (b : Bfs s0 d sn lev) (m : Mid s0 d sn lev later i j) : ∀ t ∈ sn ++ later, ∃ k, Rch s0 k t := fun t ht => by
  rcases List.mem_append.mp ht with h | h
  · exact b.sg t h
  · exact ⟨_, m.lt t h⟩
theorem Bfs.succ (b : Bfs s0 d sn lev) (m : Mid s0 d sn lev later lev.length 0) (nw : ∀ t ∈ lev, whlB t = false) {t : Sd} (ht : t ∈ sn) : whlB t = false ∧ ∀ v, 1 ≤ v → v ≤ t.n → stepS t (legO t v) ∈ sn ++ later := by
  rcases b.cl t ht with h | ⟨h, h2⟩
  · refine ⟨nw t h, fun v h1 h2 => ?_⟩
    obtain ⟨i, hi, e⟩ := List.mem_iff_getElem.mp h
    exact m.old i t hi (by rw [List.getElem?_eq_getElem hi, e]) v h1 h2
  · exact ⟨h, fun v a b => List.mem_append_left _ (h2 v a b)⟩
theorem Bfs.more (b : Bfs s0 d sn lev) (m : Mid s0 d sn lev later lev.length 0) (nw : ∀ t ∈ lev, whlB t = false) (ne : later ≠ []) : Bfs s0 (d + 1) (sn ++ later) later where
  lv := m.lt
  sub := fun t ht => List.mem_append_right _ ht
  sg := m.sg b
  all := fun k t hk r => by
    by_cases c : k ≤ d
    · exact List.mem_append_left _ (b.all k t c r)
    · cases r with
      | z => omega
      | @s k t op r o =>
        obtain ⟨h1, h2, e⟩ := ok_leg o
        rw [e]
        exact (b.succ m nw (b.all k t (by omega) r)).2 _ h1 h2
  cl := fun t ht => by
    rcases List.mem_append.mp ht with h | h
    · exact .inr (b.succ m nw h)
    · exact .inl h
  nw := fun k t hk r => (b.succ m nw (b.all k t (by omega) r)).1
  nd := m.nd
  ln := by
    have := b.ln
    have := List.length_pos_iff.mpr ne
    rw [List.length_append]
    omega
theorem Bfs.none (w : Wf s0) (dd : Snd s0) (b : Bfs s0 d sn lev) (m : Mid s0 d sn lev [] lev.length 0) (nw : ∀ t ∈ lev, whlB t = false) : debtS s0 = -1 := by
  have cl : ∀ k t, Rch s0 k t → t ∈ sn := by
    intro k t r
    induction r with
    | z => exact b.all 0 s0 (Nat.zero_le _) .z
    | s r o ih =>
      obtain ⟨h1, h2, e⟩ := ok_leg o
      rw [e]
      have := (b.succ m nw ih).2 _ h1 h2
      rwa [List.append_nil] at this
  unfold debtS
  by_cases nl : lostL s0 = []
  · obtain ⟨t, r, h⟩ := Rch.near w dd nl
    rw [(b.succ m nw (cl _ _ r)).1] at h
    cases h
  · rw [if_neg nl]
theorem Mid.few {i j : Nat} (w : Wf s0) (dd : Snd s0) (hn : s0.n ≤ 4) (b : Bfs s0 d sn lev) (m : Mid s0 d sn lev later i j) : (sn ++ later).length ≤ 230400 :=
  G.few hn m.nd fun t ht => by
    obtain ⟨k, r⟩ := m.sg b t ht
    exact r.ok w dd
theorem Bfs.few (w : Wf s0) (dd : Snd s0) (hn : s0.n ≤ 4) (b : Bfs s0 d sn lev) : sn.length ≤ 230400 := by
  have := b.mid.few w dd hn b
  rwa [List.append_nil] at this
end
end G
set_option Elab.async false
set_option linter.all false
set_option maxRecDepth 100000
set_option maxHeartbeats 4000000
/-! k18: what its defs promise. -/
namespace G
open PySem PySem.Spec PyProof.Rows L2
/-- the law's lists are these -/
structure Ex5 (H : Hp) (l r : Addr) (x y : Int) (s : Sd) : Prop where
  hl : H l = some (.lst ((exL x s).map V.int))
  hr : H r = some (.lst ((exR y s).map V.int))
theorem Bk5.ex {H : Hp} {w l r o : Addr} {s : Sd} (a : Bk5 H w l r o s) : ∃ x y, Ex5 H l r x y s := by
  obtain ⟨L', hL, lL, eL⟩ := a.hl
  obtain ⟨R', hR, lR, eR⟩ := a.hr
  have wl := a.wf.lL
  have wr := a.wf.lR
  refine ⟨gI L' 0, gI R' (s.n + 1), ?_, ?_⟩
  · rw [show exL (gI L' 0) s = L' from ?_]
    · exact hL
    · unfold exL
      refine List.ext_getElem? fun i => ?_
      by_cases c : i < s.n + 2
      · rw [gI_at (by rw [List.length_set]; omega), gI_at (l := L') (by omega), gI_set (by omega)]
        by_cases z : i = 0
        · rw [if_pos z, z]
        · rw [if_neg z, eL i (by omega) (by omega)]
      · rw [List.getElem?_eq_none (by rw [List.length_set]; omega), List.getElem?_eq_none (by omega)]
  · rw [show exR (gI R' (s.n + 1)) s = R' from ?_]
    · exact hR
    · unfold exR
      refine List.ext_getElem? fun i => ?_
      by_cases c : i < s.n + 1
      · rw [List.getElem?_append_left (by omega), gI_at (by omega), gI_at (l := R') (by omega), eR i (by omega)]
      · by_cases z : i = s.n + 1
        · rw [List.getElem?_append_right (by omega), z, wr, Nat.sub_self, gI_at (l := R') (by omega)] <;> rfl
        · rw [List.getElem?_eq_none (by rw [List.length_append]; show s.R.length + 1 ≤ i; omega), List.getElem?_eq_none (by omega)]
theorem Ex5.kp {H H' : Hp} {l r : Addr} {x y : Int} {s : Sd} {S : List Addr} (a : Ex5 H l r x y s) (k : Kp S H H') (h1 : l ∉ S) (h2 : r ∉ S) : Ex5 H' l r x y s := ⟨k _ _ h1 a.hl, k _ _ h2 a.hr⟩
theorem ex_step {s : Sd} {v : Nat} {op : Int} (na : op.natAbs = v) {lo hi : Nat} (e1 : gI s.L v = (lo : Int)) (e2 : gI s.R v = (hi : Int) + 1) (hlo : lo < s.R.length) (x y : Int) : exL x (stepS s op) = (exL x s).set (hi + 1) (if op < 0 then (lo : Int) else (v : Int)) ∧ exR y (stepS s op) = (exR y s).set lo (if op < 0 then (hi : Int) + 1 else (v : Int)) := by
  constructor
  · show (s.L.set (gI s.R op.natAbs).toNat (if op < 0 then gI s.L op.natAbs else (op.natAbs : Int))).set 0 x = (s.L.set 0 x).set _ _
    rw [na, e1, e2, show ((hi : Int) + 1).toNat = hi + 1 by omega, List.set_comm _ _ (by omega)]
  · show (s.R.set (gI s.L op.natAbs).toNat (if op < 0 then gI s.R op.natAbs else (op.natAbs : Int))) ++ [y] = (s.R ++ [y]).set _ _
    rw [na, e1, e2, Int.toNat_natCast, List.set_append_left _ _ hlo]
/-- what is told of the debt -/
def toldS (s : Sd) : List V := if lostL s = [] then [.str "debt", .int (owedS s)] else [.str "lost", .int (((lostL s).headD 0 : Nat) : Int)]
def sp18__law_copy (K : PySem.W.Frag) : Sp := fun vs H Q E => ∃ (w l r o : Addr) (s : Sd), vs = [.ref w] ∧ Bk5 H w l r o s ∧ ∀ w' l' r' o' H', H w' = none → H l' = none → H r' = none → H o' = none → Kp [] H H' → Bk5 H' w' l' r' o' s → H' l' = H l → H' r' = H r → Q (.ref w') H'
def sp18__law_step (K : PySem.W.Frag) : Sp := fun vs H Q E => ∃ (w l r o : Addr) (s : Sd) (v : Nat), vs = [.ref w, .int (v : Int)] ∧ Bk5 H w l r o s ∧ 1 ≤ v ∧ v ≤ s.n ∧ ∀ H', Kp [l, r, o] H H' → Bk5 H' w l r o (stepS s (legO s v)) → (∀ x y, Ex5 H l r x y s → Ex5 H' l r x y (stepS s (legO s v))) → Q .non H'
def sp18__law_key (K : PySem.W.Frag) : Sp := fun vs H Q E => ∃ (w l r o : Addr) (s : Sd) (x y : Int), vs = [.ref w] ∧ Bk5 H w l r o s ∧ Ex5 H l r x y s ∧ ∀ t H', H t = none → Kp [] H H' → NK H' (.ref t) (keyS x y s) → Q (.ref t) H'
def sp18__law_distance (K : PySem.W.Frag) : Sp := fun vs H Q E => ∃ (w l r o : Addr) (s : Sd), vs = [.ref w] ∧ Bk5 H w l r o s ∧ Snd s ∧ s.n ≤ 4 ∧ Any H (.int (debtS s)) Q
def sp18__law_told (K : PySem.W.Frag) : Sp := fun vs H Q E => ∃ (p r l o : Addr) (s : Sd), vs = [.ref p] ∧ LinksAt K H p r l o s ∧ ∀ t H', Kp [] H H' → H' t = some (.tup (toldS s)) → Q (.ref t) H'
def sp18__law_fits (K : PySem.W.Frag) : Sp := fun vs H Q E => ∃ (t : Addr) (a b : Str) (n m : Int), vs = [.ref t, .str b, .int m] ∧ H t = some (.tup [.str a, .int n]) ∧ Q (.bl (decide (a = b) && decide (n = m))) H
def sp18__law_ends_whole (K : PySem.W.Frag) : Sp := fun vs H Q E => ∃ (w l r o a : Addr) (s : Sd) (ms : List Int), vs = [.ref w, .ref a] ∧ Bk5 H w l r o s ∧ Snd s ∧ H a = some (.lst (ms.map V.int)) ∧ Any H (.bl (leadB s ms)) Q
def sp18__law_searched (K : PySem.W.Frag) : Sp := fun vs H Q E => ∃ (w l r o : Addr) (s : Sd), vs = [.ref w] ∧ Bk5 H w l r o s ∧ Snd s ∧ s.n ≤ 4 ∧ Any H (.bl true) Q
def sp18__law_log (K : PySem.W.Frag) : Sp := fun vs H Q E => ∃ (b c w l r o : Addr) (s : Sd), vs = [.ref b, .ref w] ∧ Bag5 H b c ∧ Bk5 H w l r o s ∧ Snd s ∧ ∀ a (ms : List Int) H', Kp [b] H H' → Bag5 H' b c → H a = none → H' a = some (.lst (ms.map V.int)) → Leg s ms → ms.length ≤ 200 → Q (.ref a) H'
def sp18__law_led (K : PySem.W.Frag) : Sp := fun vs H Q E => ∃ (w l r o a : Addr) (s : Sd) (ms : List Int), vs = [.ref w, .ref a] ∧ Bk5 H w l r o s ∧ Snd s ∧ H a = some (.lst (ms.map V.int)) ∧ Leg s ms ∧ ms.length ≤ 200 ∧ Any H (.bl true) Q
def sp18__law_judged (K : PySem.W.Frag) : Sp := fun vs H Q E => ∃ (w l r o a : Addr) (s : Sd) (ms : List Int) (k : Nat), vs = [.ref w, .ref a, .int (k : Int)] ∧ Bk5 H w l r o s ∧ Snd s ∧ H a = some (.lst (ms.map V.int)) ∧ Leg s ms ∧ ms.length ≤ 200 ∧ k ≤ ms.length ∧ Any H (.bl true) Q
end G
set_option Elab.async false
set_option linter.all false
set_option maxRecDepth 100000
set_option maxHeartbeats 4000000
namespace G
open PySem PySem.Spec PyProof.Rows L2
def t__law_bag (K : PySem.W.Frag) (E : XK) : TS :=
  tRet (tLst (tCons (tSl (rSlL K) (tVar 0) (tNoPart) (tPart (tC (.int 63)))) (tCons (tC (.int 0)) (tCons (tC (.int 0)) (tCons (tC (.int 1)) (tCons (tC (.int 0)) (tNil)))))))
def t__law_draw (K : PySem.W.Frag) (E : XK) : TS :=
  tSeq (tIfS (tNot (tTr K (tOp (rIx K) (tVar 0) (tC (.int 0))))) (tRet (tC (.int 0))) (tNext)) (tSeq (tAsg (tOp rAddA (tOp (rIx K) (tVar 0) (tC (.int 4))) (tC (.int 1))) (gSub (tVar 0) (tC (.int 4)) rSetL)) (tSeq (tIfS (tAnd (tTest (tOp rLeA (tOp (rIx K) (tVar 0) (tC (.int 2))) (tC (.int 0)))) (tTest (tOp rLtA (tOp (rIx K) (tVar 0) (tC (.int 1))) (tCB (rLenA K) (tCons (tOp (rIx K) (tVar 0) (tC (.int 0))) (tNil)))))) (tSeq (tAsg (tOp (rIx K) (tOp (rIx K) (tVar 0) (tC (.int 0))) (tOp (rIx K) (tVar 0) (tC (.int 1)))) (gName 2)) (tSeq (tAsg (tOp rAddA (tOp (rIx K) (tVar 0) (tC (.int 1))) (tC (.int 1))) (gSub (tVar 0) (tC (.int 1)) rSetL)) (tIfS (tTest (tOp rGeA (tVar 2) (tOp rPowA (tC (.int 10)) (tC (.int 18))))) (tAsg (tVar 2) (gSub (tVar 0) (tC (.int 2)) rSetL)) (tAsg (tOp rModA (tCB rIntA (tCons (tOp rAddA (tOp rAddA (tOp rMulA (tOp (rIx K) (tVar 0) (tC (.int 3))) (tC (.int 48271))) (tOp rMulA (tVar 2) (tC (.int 69621)))) (tC (.int 7))) (tNil))) (tC (.int 2147483647))) (gSub (tVar 0) (tC (.int 3)) rSetL))))) (tNext)) (tSeq (tIfS (tTest (tOp rGtA (tOp (rIx K) (tVar 0) (tC (.int 2))) (tC (.int 0)))) (tSeq (tAsg (tOp rModA (tCB rIntA (tCons (tOp (rIx K) (tVar 0) (tC (.int 2))) (tNil))) (tVar 1)) (gName 3)) (tSeq (tAsg (tOp rDivA (tCB rIntA (tCons (tOp (rIx K) (tVar 0) (tC (.int 2))) (tNil))) (tVar 1)) (gSub (tVar 0) (tC (.int 2)) rSetL)) (tRet (tVar 3)))) (tNext)) (tSeq (tAsg (tOp rModA (tCB rIntA (tCons (tOp rAddA (tOp rAddA (tOp rMulA (tOp (rIx K) (tVar 0) (tC (.int 3))) (tC (.int 16807))) (tOp rMulA (tOp (rIx K) (tVar 0) (tC (.int 4))) (tC (.int 10007)))) (tC (.int 12345))) (tNil))) (tC (.int 2147483647))) (gSub (tVar 0) (tC (.int 3)) rSetL)) (tSeq (tAsg (tOp rModA (tCB rIntA (tCons (tOp rAddA (tOp rMulA (tOp rDivA (tOp (rIx K) (tVar 0) (tC (.int 3))) (tC (.int 16))) (tC (.int 69621))) (tOp (rIx K) (tVar 0) (tC (.int 4)))) (tNil))) (tC (.int 2147483629))) (gName 4)) (tRet (tOp rModA (tCB rIntA (tCons (tOp rDivA (tVar 4) (tC (.int 32))) (tNil))) (tVar 1))))))))
def t_check_size (K : PySem.W.Frag) (E : XK) : TS :=
  tIfS (tNot (tTest (tChain rLeA rLeA (tC (.int 0)) (tVar 0) (tC (.int 60))))) (tRz (He.ga K "BadSize") ["size"] (fun cls d _ H => E cls d H) (tCons (tVar 0) (tNil))) (tNext)
def t_Links___init__ (K : PySem.W.Frag) (E : XK) : TS :=
  tSeq (tDrop (tCl (sp_check_size K) (fun _ => E) (tCons (tVar 1) (tNil)))) (tSeq (sFld K (tVar 0) (tVar 1) "size") (tSeq (sFld K (tVar 0) (tLstRg (tRg2 (tC (.int 1)) (tOp rAddA (tVar 1) (tC (.int 2))))) "_rights") (tSeq (sFld K (tVar 0) (tOp rAddA (tLst (tCons (tC (.int 0)) (tNil))) (tLstRg (tRg1 (tOp rAddA (tVar 1) (tC (.int 1)))))) "_lefts") (sFld K (tVar 0) (tOp rMulA (tLst (tCons (tC (.bl false)) (tNil))) (tOp rAddA (tVar 1) (tC (.int 2)))) "_out"))))
def t_is_positive (K : PySem.W.Frag) (E : XK) : TS :=
  tRet (tAndV (tChain rLeA rLeA (tC (.int 1)) (tCB (rLenA K) (tCons (tVar 0) (tNil))) (tC (.int (9)))) (tAndV (tOp (rNeA K) (tOp (rIx K) (tVar 0) (tC (.int 0))) (tC (.str "0"))) (tCB (rAll K) (tCons (tLc (iStr (tVar 0)) (gName 1) (tYes) (tOp rInS (tVar 1) (tC (.str "0123456789"))) [1]) (tNil)))))
def t__read_numbers (K : PySem.W.Frag) (E : XK) : TS :=
  tSeq (tAsg (tM1 rSplit (tVar 0) (tC (.str " "))) (gName 2)) (tSeq (tIfS (tNot (tB (tCB (rAll K) (tCons (tLc (iList K (tVar 2)) (gName 3) (tYes) (tOrV (tOp (rEqA K) (tVar 3) (tC (.str "0"))) (tCl (sp_is_positive K) (fun _ => E0) (tCons (tVar 3) (tNil)))) [3]) (tNil))))) (tRz (He.ga K "BadDump") ["part"] (fun cls d _ H => E cls d H) (tCons (tVar 1) (tNil))) (tNext)) (tRet (tLc (iList K (tVar 2)) (gName 3) (tYes) (tCB rIntS (tCons (tVar 3) (tNil))) [3])))
def t__read_lefts (K : PySem.W.Frag) (E : XK) : TS :=
  tSeq (tAsg (tCl (sp__read_numbers K) (fun _ => E) (tCons (tVar 0) (tCons (tC (.int 1)) (tNil)))) (gName 2)) (tSeq (tIfS (tOr (tTest (tOp (rNeA K) (tCB (rLenA K) (tCons (tVar 2) (tNil))) (tOp rAddA (tVar 1) (tC (.int 1))))) (tNot (tB (tCB (rAll K) (tCons (tLc (iEnum K (tCons (tVar 2) (tNil))) (gTup K 2 (gCons (gName 3) (gCons (gName 4) (gNil)))) (tYes) (tOp rLeA (tVar 4) (tVar 3)) [3, 4]) (tNil)))))) (tRz (He.ga K "BadDump") ["part"] (fun cls d _ H => E cls d H) (tCons (tC (.int 1)) (tNil))) (tNext)) (tRet (tVar 2)))
def t__read_outs (K : PySem.W.Frag) (E : XK) : TS :=
  tSeq (tIfS (tTest (tOp (rEqA K) (tVar 0) (tC (.str "none")))) (tRet (tLst (tNil))) (tNext)) (tSeq (tAsg (tCl (sp__read_numbers K) (fun _ => E) (tCons (tVar 0) (tCons (tC (.int 2)) (tNil)))) (gName 2)) (tSeq (tAsg (tOp rAddA (tOp rAddA (tLst (tCons (tC (.int 0)) (tNil))) (tVar 2)) (tLst (tCons (tOp rAddA (tVar 1) (tC (.int 1))) (tNil)))) (gName 3)) (tSeq (tIfS (tNot (tB (tCB (rAll K) (tCons (tLc (iZip K (tCons (tVar 3) (tCons (tSl (rSlL K) (tVar 3) (tPart (tC (.int 1))) (tNoPart)) (tNil)))) (gTup K 2 (gCons (gName 4) (gCons (gName 5) (gNil)))) (tYes) (tOp rLtA (tVar 4) (tVar 5)) [4, 5]) (tNil))))) (tRz (He.ga K "BadDump") ["part"] (fun cls d _ H => E cls d H) (tCons (tC (.int 2)) (tNil))) (tNext)) (tRet (tVar 2)))))
def t__read_rights (K : PySem.W.Frag) (E : XK) : TS :=
  tSeq (tAsg (tCl (sp__read_numbers K) (fun _ => E) (tCons (tVar 0) (tCons (tC (.int 0)) (tNil)))) (gName 1)) (tSeq (tAsg (tOp rSubA (tCB (rLenA K) (tCons (tVar 1) (tNil))) (tC (.int 1))) (gName 2)) (tSeq (tIfS (tOr (tTest (tOp rGtA (tVar 2) (tC (.int 60)))) (tNot (tB (tCB (rAll K) (tCons (tLc (iEnum K (tCons (tVar 1) (tNil))) (gTup K 2 (gCons (gName 3) (gCons (gName 4) (gNil)))) (tYes) (tChain rLtA rLeA (tVar 3) (tVar 4) (tOp rAddA (tVar 2) (tC (.int 1)))) [3, 4]) (tNil)))))) (tRz (He.ga K "BadDump") ["part"] (fun cls d _ H => E cls d H) (tCons (tC (.int 0)) (tNil))) (tNext)) (tRet (tVar 1))))
def t_Links_read (K : PySem.W.Frag) (E : XK) : TS :=
  tSeq (tAsg (tM1 rSplit (tVar 0) (tC (.str " | "))) (gName 1)) (tSeq (tAsg (tSl (rSlL K) (tOp rAddA (tVar 1) (tLst (tCons (tC (.str "")) (tCons (tC (.str "")) (tNil))))) (tNoPart) (tPart (tC (.int 3)))) (gUnl K 3 (gCons (gName 2) (gCons (gName 3) (gCons (gName 4) (gNil)))))) (tSeq (tAsg (tCl (sp__read_rights K) (fun _ => E) (tCons (tVar 2) (tNil))) (gName 5)) (tSeq (tAsg (tMk (He.ga K "Links") (sp_Links___init__ K) (fun _ => E) (tCons (tOp rSubA (tCB (rLenA K) (tCons (tVar 5) (tNil))) (tC (.int 1))) (tNil))) (gName 6)) (tSeq (sFld K (tVar 6) (tVar 5) "_rights") (tSeq (sFld K (tVar 6) (tOp rAddA (tLst (tCons (tC (.int 0)) (tNil))) (tCl (sp__read_lefts K) (fun _ => E) (tCons (tVar 3) (tCons (tFld K (tVar 6) "size") (tNil))))) "_lefts") (tSeq (tFor (iList K (tCl (sp__read_outs K) (fun _ => E) (tCons (tVar 4) (tCons (tFld K (tVar 6) "size") (tNil))))) (gName 7) (tAsg (tC (.bl true)) (gSub (tFld K (tVar 6) "_out") (tVar 7) rSetL))) (tSeq (tIfS (tTest (tOp rGtA (tCB (rLenA K) (tCons (tVar 1) (tNil))) (tC (.int 3)))) (tRz (He.ga K "BadDump") ["part"] (fun cls d _ H => E cls d H) (tCons (tC (.int 3)) (tNil))) (tNext)) (tRet (tVar 6)))))))))
def t__law_copy (K : PySem.W.Frag) (E : XK) : TS :=
  tRet (tLst (tCons (tOp (rIx K) (tVar 0) (tC (.int 0))) (tCons (tCB (rListA K) (tCons (tOp (rIx K) (tVar 0) (tC (.int 1))) (tNil))) (tCons (tCB (rListA K) (tCons (tOp (rIx K) (tVar 0) (tC (.int 2))) (tNil))) (tCons (tCB (rListA K) (tCons (tOp (rIx K) (tVar 0) (tC (.int 3))) (tNil))) (tNil))))))
def t__law_dump (K : PySem.W.Frag) (E : XK) : TS :=
  tSeq (tAsg (tM1 (rJoin K) (tC (.str " ")) (tLc (iList K (tSl (rSlL K) (tOp (rIx K) (tVar 0) (tC (.int 2))) (tNoPart) (tPart (tOp rAddA (tOp (rIx K) (tVar 0) (tC (.int 0))) (tC (.int 1)))))) (gName 4) (tYes) (tCB rStrA (tCons (tVar 4) (tNil))) [4])) (gName 1)) (tSeq (tAsg (tM1 (rJoin K) (tC (.str " ")) (tLc (iList K (tSl (rSlL K) (tOp (rIx K) (tVar 0) (tC (.int 1))) (tPart (tC (.int 1))) (tNoPart))) (gName 4) (tYes) (tCB rStrA (tCons (tVar 4) (tNil))) [4])) (gName 2)) (tSeq (tAsg (tM1 (rJoin K) (tC (.str " ")) (tLc (iRng1 (tCons (tOp rAddA (tOp (rIx K) (tVar 0) (tC (.int 0))) (tC (.int 1))) (tNil))) (gName 5) (tB (tOp (rIx K) (tOp (rIx K) (tVar 0) (tC (.int 3))) (tVar 5))) (tCB rStrA (tCons (tVar 5) (tNil))) [5])) (gName 3)) (tSeq (tIfS (tTest (tOp (rEqA K) (tVar 3) (tC (.str "")))) (tAsg (tC (.str "none")) (gName 3)) (tNext)) (tRet (tOp rAddA (tOp rAddA (tOp rAddA (tOp rAddA (tVar 1) (tC (.str " | "))) (tVar 2)) (tC (.str " | "))) (tVar 3))))))
def t__law_is_whole (K : PySem.W.Frag) (E : XK) : TS :=
  tSeq (tFor (iRng1 (tCons (tOp rAddA (tOp (rIx K) (tVar 0) (tC (.int 0))) (tC (.int 1))) (tNil))) (gName 1) (tIfS (tOr (tTest (tOp (rNeA K) (tOp (rIx K) (tOp (rIx K) (tVar 0) (tC (.int 2))) (tVar 1)) (tOp rAddA (tVar 1) (tC (.int 1))))) (tOr (tTest (tOp (rNeA K) (tOp (rIx K) (tOp (rIx K) (tVar 0) (tC (.int 1))) (tOp rAddA (tVar 1) (tC (.int 1)))) (tVar 1))) (tB (tOp (rIx K) (tOp (rIx K) (tVar 0) (tC (.int 3))) (tVar 1))))) (tRet (tC (.bl false))) (tNext))) (tRet (tC (.bl true)))
def t__law_operation (K : PySem.W.Frag) (E : XK) : TS :=
  tSeq (tIfS (tB (tOp (rIx K) (tOp (rIx K) (tVar 0) (tC (.int 3))) (tVar 1))) (tRet (tVar 1)) (tNext)) (tRet (tUn rNegA (tVar 1)))
def t__law_step (K : PySem.W.Frag) (E : XK) : TS :=
  tSeq (tAsg (tOp (rIx K) (tVar 0) (tC (.int 1))) (gName 2)) (tSeq (tAsg (tOp (rIx K) (tVar 0) (tC (.int 2))) (gName 3)) (tSeq (tAsg (tOp (rIx K) (tVar 0) (tC (.int 3))) (gName 4)) (tSeq (tAsg (tOp (rIx K) (tVar 2) (tVar 1)) (gName 5)) (tSeq (tAsg (tOp (rIx K) (tVar 3) (tVar 1)) (gName 6)) (tSeq (tIfS (tB (tOp (rIx K) (tVar 4) (tVar 1))) (tSeq (tAsg (tVar 1) (gSub (tVar 3) (tVar 5) rSetL)) (tAsg (tVar 1) (gSub (tVar 2) (tVar 6) rSetL))) (tSeq (tAsg (tVar 6) (gSub (tVar 3) (tVar 5) rSetL)) (tAsg (tVar 5) (gSub (tVar 2) (tVar 6) rSetL)))) (tAsg (tNotV (tOp (rIx K) (tVar 4) (tVar 1))) (gSub (tVar 4) (tVar 1) rSetL)))))))
def t__law_ends_whole (K : PySem.W.Frag) (E : XK) : TS :=
  tSeq (tAsg (tCl (sp18__law_copy K) (fun _ => E) (tCons (tVar 0) (tNil))) (gName 2)) (tSeq (tFor (iList K (tVar 1)) (gName 3) (tSeq (tAsg (tCB rAbsA (tCons (tVar 3) (tNil))) (gName 4)) (tSeq (tIfS (tOr (tNot (tTest (tChain rLeA rLeA (tC (.int 1)) (tVar 4) (tOp (rIx K) (tVar 2) (tC (.int 0)))))) (tTest (tOp (rNeA K) (tVar 3) (tCl (sp__law_operation K) (fun _ => E) (tCons (tVar 2) (tCons (tVar 4) (tNil))))))) (tRet (tC (.bl false))) (tNext)) (tDrop (tCl (sp18__law_step K) (fun _ => E) (tCons (tVar 2) (tCons (tVar 4) (tNil)))))))) (tRet (tCl (sp16__law_is_whole K) (fun _ => E) (tCons (tVar 2) (tNil)))))
def t__law_is_due (K : PySem.W.Frag) (E : XK) : TS :=
  tSeq (tIfS (tB (tOp (rIx K) (tOp (rIx K) (tVar 0) (tC (.int 3))) (tVar 1))) (tRet (tC (.bl true))) (tNext)) (tSeq (tIfS (tAnd (tTest (tOp (rEqA K) (tOp (rIx K) (tOp (rIx K) (tVar 0) (tC (.int 1))) (tVar 1)) (tOp rSubA (tVar 1) (tC (.int 1))))) (tTest (tOp (rNeA K) (tOp (rIx K) (tOp (rIx K) (tVar 0) (tC (.int 2))) (tOp rSubA (tVar 1) (tC (.int 1)))) (tVar 1)))) (tRet (tC (.bl true))) (tNext)) (tRet (tAndV (tOp (rEqA K) (tOp (rIx K) (tOp (rIx K) (tVar 0) (tC (.int 2))) (tVar 1)) (tOp rAddA (tVar 1) (tC (.int 1)))) (tOp (rNeA K) (tOp (rIx K) (tOp (rIx K) (tVar 0) (tC (.int 1))) (tOp rAddA (tVar 1) (tC (.int 1)))) (tVar 1)))))
def t__law_due (K : PySem.W.Frag) (E : XK) : TS :=
  tRet (tLc (iRng2 (tCons (tC (.int 1)) (tCons (tOp rAddA (tOp (rIx K) (tVar 0) (tC (.int 0))) (tC (.int 1))) (tNil)))) (gName 1) (tB (tCl (sp16__law_is_due K) (fun _ => E0) (tCons (tVar 0) (tCons (tVar 1) (tNil))))) (tVar 1) [1])
def t__law_owed (K : PySem.W.Frag) (E : XK) : TS :=
  tRet (tCB (rSum K) (tCons (tLc (iList K (tCl (sp16__law_due K) (fun _ => E) (tCons (tVar 0) (tNil)))) (gName 1) (tYes) (tIf (tB (tOp (rIx K) (tOp (rIx K) (tVar 0) (tC (.int 3))) (tVar 1))) (tC (.int 1)) (tC (.int 2))) [1]) (tNil)))
def t_Links_is_out (K : PySem.W.Frag) (E : XK) : TS :=
  tSeq (tIfS (tNot (tTest (tChain rLeA rLeA (tC (.int 0)) (tVar 1) (tOp rAddA (tFld K (tVar 0) "size") (tC (.int 1)))))) (tRz (He.ga K "BadNode") ["node"] (fun cls d _ H => E cls d H) (tCons (tVar 1) (tNil))) (tNext)) (tRet (tOp (rIx K) (tFld K (tVar 0) "_out") (tVar 1)))
def t_Links_left (K : PySem.W.Frag) (E : XK) : TS :=
  tSeq (tIfS (tNot (tTest (tChain rLeA rLeA (tC (.int 1)) (tVar 1) (tOp rAddA (tFld K (tVar 0) "size") (tC (.int 1)))))) (tRz (He.ga K "BadNode") ["node"] (fun cls d _ H => E cls d H) (tCons (tVar 1) (tNil))) (tNext)) (tRet (tOp (rIx K) (tFld K (tVar 0) "_lefts") (tVar 1)))
def t_Links_right (K : PySem.W.Frag) (E : XK) : TS :=
  tSeq (tIfS (tNot (tTest (tChain rLeA rLeA (tC (.int 0)) (tVar 1) (tFld K (tVar 0) "size")))) (tRz (He.ga K "BadNode") ["node"] (fun cls d _ H => E cls d H) (tCons (tVar 1) (tNil))) (tNext)) (tRet (tOp (rIx K) (tFld K (tVar 0) "_rights") (tVar 1)))
def t_check_gap (K : PySem.W.Frag) (E : XK) : TS :=
  tIfS (tNot (tTest (tChain rLeA rLeA (tC (.int 0)) (tVar 1) (tVar 0)))) (tRz (He.ga K "BadGap") ["gap"] (fun cls d _ H => E cls d H) (tCons (tVar 1) (tNil))) (tNext)
def t_gap_state (K : PySem.W.Frag) (E : XK) : TS :=
  tSeq (tDrop (tCl (sp_check_gap K) (fun _ => E) (tCons (tFld K (tVar 0) "size") (tCons (tVar 1) (tNil))))) (tSeq (tAsg (tOp (rEqA K) (tMt (He.ga K "Links") "right" (sp_Links_right K) (fun _ => E) (tVar 0) (tCons (tVar 1) (tNil))) (tOp rAddA (tVar 1) (tC (.int 1)))) (gName 2)) (tSeq (tAsg (tOp (rEqA K) (tMt (He.ga K "Links") "left" (sp_Links_left K) (fun _ => E) (tVar 0) (tCons (tOp rAddA (tVar 1) (tC (.int 1))) (tNil))) (tVar 1)) (gName 3)) (tSeq (tIfS (tB (tVar 2)) (tRet (tIf (tB (tVar 3)) (tC (.str "joined")) (tC (.str "left")))) (tNext)) (tRet (tIf (tB (tVar 3)) (tC (.str "right")) (tC (.str "lost")))))))
def t_gap_states (K : PySem.W.Frag) (E : XK) : TS :=
  tRet (tLc (iRng1 (tCons (tOp rAddA (tFld K (tVar 0) "size") (tC (.int 1))) (tNil))) (gName 1) (tYes) (tCl (sp_gap_state K) (fun _ => E0) (tCons (tVar 0) (tCons (tVar 1) (tNil)))) [1])
def t_lost_gaps (K : PySem.W.Frag) (E : XK) : TS :=
  tRet (tLc (iEnum K (tCons (tCl (sp_gap_states K) (fun _ => E) (tCons (tVar 0) (tNil))) (tNil))) (gTup K 2 (gCons (gName 1) (gCons (gName 2) (gNil)))) (tTest (tOp (rEqA K) (tVar 2) (tC (.str "lost")))) (tVar 1) [1, 2])
def t_check_repairable (K : PySem.W.Frag) (E : XK) : TS :=
  tSeq (tAsg (tCl (sp_lost_gaps K) (fun _ => E) (tCons (tVar 0) (tNil))) (gName 1)) (tIfS (tTr K (tVar 1)) (tRz (He.ga K "NotRepairable") ["gap"] (fun cls d _ H => E cls d H) (tCons (tOp (rIx K) (tVar 1) (tC (.int 0))) (tNil))) (tNext))
def t_Links_outs (K : PySem.W.Frag) (E : XK) : TS :=
  tRet (tLc (iRng2 (tCons (tC (.int 1)) (tCons (tOp rAddA (tFld K (tVar 0) "size") (tC (.int 1))) (tNil)))) (gName 1) (tB (tOp (rIx K) (tFld K (tVar 0) "_out") (tVar 1))) (tVar 1) [1])
def t_sole_holders (K : PySem.W.Frag) (w : World) (E : XK) : TS :=
  tSeq (tAsg (tCB (rSet0 w) tNil) (gName 1)) (tSeq (tFor (iEnum K (tCons (tCl (sp_gap_states K) (fun _ => E) (tCons (tVar 0) (tNil))) (tNil))) (gTup K 2 (gCons (gName 2) (gCons (gName 3) (gNil)))) (tIfS (tTest (tOp (rIn K false) (tVar 3) (tTup (tCons (tC (.str "left")) (tCons (tC (.str "right")) (tNil)))))) (tDrop (tSAdd w (tVar 1) (tCons (tIf (tTest (tOp (rEqA K) (tVar 3) (tC (.str "left")))) (tVar 2) (tOp rAddA (tVar 2) (tC (.int 1)))) (tNil)))) (tNext))) (tRet (tCB (rSortedSet w) (tCons (tVar 1) (tNil)))))
def t_due_nodes (K : PySem.W.Frag) (w : World) (E : XK) : TS :=
  tRet (tCB (rSortedSet w) (tCons (tOp (rOrS w) (tCB (rSetOfL w K) (tCons (tMt (He.ga K "Links") "outs" (sp_Links_outs K) (fun _ => E) (tVar 0) tNil) (tNil))) (tCB (rSetOfL w K) (tCons (tCl (sp_sole_holders K) (fun _ => E) (tCons (tVar 0) (tNil))) (tNil)))) (tNil)))
def t_repair_cost (K : PySem.W.Frag) (E : XK) : TS :=
  tSeq (tIfS (tOr (tTest (tOp (rNeA K) (tCB (rLenA K) (tCons (tVar 1) (tNil))) (tFld K (tVar 0) "size"))) (tB (tCB (rAny K) (tCons (tLc (iList K (tVar 1)) (gName 2) (tYes) (tOp rLtA (tVar 2) (tC (.int 0))) [2]) (tNil))))) (tRz (He.ga K "BadWeights") ["count"] (fun cls d _ H => E cls d H) (tCons (tCB (rLenA K) (tCons (tVar 1) (tNil))) (tNil))) (tNext)) (tSeq (tDrop (tCl (sp16_check_repairable K) (fun _ => E) (tCons (tVar 0) (tNil)))) (tRet (tCB (rSum K) (tCons (tLc (iList K (tCl (sp16_due_nodes K) (fun _ => E) (tCons (tVar 0) (tNil)))) (gName 3) (tYes) (tOp rMulA (tOp (rIx K) (tVar 1) (tOp rSubA (tVar 3) (tC (.int 1)))) (tIf (tB (tMt (He.ga K "Links") "is_out" (sp03_Links_is_out K) (fun _ => E0) (tVar 0) (tCons (tVar 3) (tNil)))) (tC (.int 1)) (tC (.int 2)))) [3]) (tNil)))))
def t_debt_of (K : PySem.W.Frag) (E : XK) : TS :=
  tRet (tCl (sp16_repair_cost K) (fun _ => E) (tCons (tVar 0) (tCons (tOp rMulA (tLst (tCons (tC (.int 1)) (tNil))) (tFld K (tVar 0) "size")) (tNil))))
def t_Links___eq__ (K : PySem.W.Frag) (E : XK) : TS :=
  tRet (tAndV (tCB (rIsi K) (tCons (tVar 1) (tCons (tC (.ref (He.ga K "Links"))) (tNil)))) (tAndV (tOp (rEqA K) (tFld K (tVar 0) "_rights") (tFld K (tVar 1) "_rights")) (tAndV (tOp (rEqA K) (tFld K (tVar 0) "_lefts") (tFld K (tVar 1) "_lefts")) (tOp (rEqA K) (tFld K (tVar 0) "_out") (tFld K (tVar 1) "_out")))))
def t_Links_is_whole (K : PySem.W.Frag) (E : XK) : TS :=
  tRet (tOp (rEqO K (He.ga K "Links") (sp23_Links___eq__ K) E) (tVar 0) (tMk (He.ga K "Links") (sp_Links___init__ K) (fun _ => E) (tCons (tFld K (tVar 0) "size") (tNil))))
def t_Links_is_legal (K : PySem.W.Frag) (E : XK) : TS :=
  tRet (tOp (rEqA K) (tOp (rIx K) (tFld K (tVar 0) "_out") (tCB rAbsA (tCons (tVar 1) (tNil)))) (tOp rGtA (tVar 1) (tC (.int 0))))
def t_check_operation (K : PySem.W.Frag) (E : XK) : TS :=
  tIfS (tNot (tTest (tChain rLeA rLeA (tC (.int 1)) (tCB rAbsA (tCons (tVar 1) (tNil))) (tVar 0)))) (tRz (He.ga K "BadOperation") ["operation", "index"] (fun cls d _ H => E cls d H) (tCons (tVar 1) (tCons (tVar 2) (tNil)))) (tNext)
def t_Links_check (K : PySem.W.Frag) (E : XK) : TS :=
  tSeq (tDrop (tCl (sp_check_operation K) (fun _ => E) (tCons (tFld K (tVar 0) "size") (tCons (tVar 1) (tCons (tVar 2) (tNil)))))) (tIfS (tNot (tB (tMt (He.ga K "Links") "is_legal" (sp_Links_is_legal K) (fun _ => E) (tVar 0) (tCons (tVar 1) (tNil))))) (tRz (He.ga K "Illegal") ["operation", "index"] (fun cls d _ H => E cls d H) (tCons (tVar 1) (tCons (tVar 2) (tNil)))) (tNext))
def t_Links_apply_at (K : PySem.W.Frag) (E : XK) : TS :=
  tSeq (tDrop (tMt (He.ga K "Links") "check" (sp_Links_check K) (fun _ => E) (tVar 0) (tCons (tVar 1) (tCons (tVar 2) (tNil))))) (tSeq (tAsg (tCB rAbsA (tCons (tVar 1) (tNil))) (gName 3)) (tSeq (tAsg (tOp (rIx K) (tFld K (tVar 0) "_lefts") (tVar 3)) (gName 4)) (tSeq (tAsg (tOp (rIx K) (tFld K (tVar 0) "_rights") (tVar 3)) (gName 5)) (tSeq (tAsg (tOp rLtA (tVar 1) (tC (.int 0))) (gName 6)) (tSeq (tAsg (tIf (tB (tVar 6)) (tVar 5) (tVar 3)) (gSub (tFld K (tVar 0) "_rights") (tVar 4) rSetL)) (tSeq (tAsg (tIf (tB (tVar 6)) (tVar 4) (tVar 3)) (gSub (tFld K (tVar 0) "_lefts") (tVar 5) rSetL)) (tAsg (tVar 6) (gSub (tFld K (tVar 0) "_out") (tVar 3) rSetL))))))))
def t_Links_copy (K : PySem.W.Frag) (E : XK) : TS :=
  tSeq (tAsg (tMk (He.ga K "Links") (sp_Links___init__ K) (fun _ => E) (tCons (tFld K (tVar 0) "size") (tNil))) (gName 1)) (tSeq (sFld K (tVar 1) (tCB (rListA K) (tCons (tFld K (tVar 0) "_rights") (tNil))) "_rights") (tSeq (sFld K (tVar 1) (tCB (rListA K) (tCons (tFld K (tVar 0) "_lefts") (tNil))) "_lefts") (tSeq (sFld K (tVar 1) (tCB (rListA K) (tCons (tFld K (tVar 0) "_out") (tNil))) "_out") (tRet (tVar 1)))))
def t_play (K : PySem.W.Frag) (E : XK) : TS :=
  tSeq (tAsg (tMt (He.ga K "Links") "copy" (sp_Links_copy K) (fun _ => E) (tVar 0) tNil) (gName 2)) (tSeq (tFor (iEnum K (tCons (tVar 1) (tNil))) (gTup K 2 (gCons (gName 3) (gCons (gName 4) (gNil)))) (tDrop (tMt (He.ga K "Links") "apply_at" (sp_Links_apply_at K) (fun _ => E) (tVar 2) (tCons (tVar 4) (tCons (tVar 3) (tNil)))))) (tRet (tVar 2)))
def t_is_repair (K : PySem.W.Frag) (E : XK) : TS :=
  (fun D σ H => (fun (W : WX) => tRet (tMt (He.ga K "Links") "is_whole" (sp23_Links_is_whole K) (WE W) (tCl (sp_play K) (WE W) (tCons (tVar 0) (tCons (tVar 1) (tNil)))) tNil)) (wOnly K (.ref (He.ga K "LogError")) (fun a cls d => tRet (tC (.bl false))) (fun cls d _ H => E cls d H) D) D σ H)
def t_is_least_repair (K : PySem.W.Frag) (E : XK) : TS :=
  tRet (tAndV (tCl (sp48_is_repair K) (fun _ => E) (tCons (tVar 0) (tCons (tVar 1) (tNil)))) (tOp (rEqA K) (tCB (rLenA K) (tCons (tVar 1) (tNil))) (tCl (sp16_debt_of K) (fun _ => E) (tCons (tVar 0) (tNil)))))
def t__law_judged (K : PySem.W.Frag) (E : XK) : TS :=
  tSeq (tAsg (tCl (sp18__law_copy K) (fun _ => E) (tCons (tVar 0) (tNil))) (gName 3)) (tSeq (tFor (iList K (tSl (rSlL K) (tVar 1) (tNoPart) (tPart (tVar 2)))) (gName 4) (tDrop (tCl (sp18__law_step K) (fun _ => E) (tCons (tVar 3) (tCons (tCB rAbsA (tCons (tVar 4) (tNil))) (tNil)))))) (tSeq (tAsg (tSl (rSlL K) (tVar 1) (tPart (tVar 2)) (tNoPart)) (gName 5)) (tSeq (tAsg (tCl (sp18__law_ends_whole K) (fun _ => E) (tCons (tVar 3) (tCons (tVar 5) (tNil)))) (gName 6)) (tSeq (tAsg (tCl (sp_play K) (fun _ => E) (tCons (tCl (sp_Links_read K) (fun _ => E) (tCons (tCl (sp16__law_dump K) (fun _ => E) (tCons (tVar 0) (tNil))) (tNil))) (tCons (tSl (rSlL K) (tVar 1) (tNoPart) (tPart (tVar 2))) (tNil)))) (gName 7)) (tSeq (tAsg (tCl (sp48_is_repair K) (fun _ => E) (tCons (tVar 7) (tCons (tCB (rListA K) (tCons (tVar 5) (tNil))) (tNil)))) (gName 8)) (tSeq (tIfS (tOr (tNot (tB (tCB (rIsi K) (tCons (tVar 8) (tCons (tC (.ty "bool")) (tNil)))))) (tTest (tOp (rNeA K) (tVar 8) (tVar 6)))) (tRet (tC (.bl false))) (tNext)) (tSeq (tAsg (tCl (sp48_is_least_repair K) (fun _ => E) (tCons (tVar 7) (tCons (tCB (rListA K) (tCons (tVar 5) (tNil))) (tNil)))) (gName 8)) (tRet (tAndV (tCB (rIsi K) (tCons (tVar 8) (tCons (tC (.ty "bool")) (tNil)))) (tOp (rEqA K) (tVar 8) (tAndV (tVar 6) (tOp (rEqA K) (tCB (rLenA K) (tCons (tVar 5) (tNil))) (tCl (sp16__law_owed K) (fun _ => E) (tCons (tVar 3) (tNil)))))))))))))))
def t_Links_apply (K : PySem.W.Frag) (E : XK) : TS :=
  tDrop (tMt (He.ga K "Links") "apply_at" (sp_Links_apply_at K) (fun _ => E) (tVar 0) (tCons (tVar 1) (tCons (tC (.int 0)) (tNil))))
def t__law_number (K : PySem.W.Frag) (E : XK) : TS :=
  tRet (tAndV (tCB (rIsi K) (tCons (tVar 0) (tCons (tC (.ty "int")) (tNil)))) (tNotV (tCB (rIsi K) (tCons (tVar 0) (tCons (tC (.ty "bool")) (tNil))))))
def t__law_fits (K : PySem.W.Frag) (E : XK) : TS :=
  tRet (tAndV (tOp (rEqA K) (tOp (rIx K) (tVar 0) (tC (.int 0))) (tVar 1)) (tAndV (tCl (sp16__law_number K) (fun _ => E) (tCons (tOp (rIx K) (tVar 0) (tC (.int 1))) (tNil))) (tOp (rEqA K) (tOp (rIx K) (tVar 0) (tC (.int 1))) (tVar 2))))
def t__law_lost (K : PySem.W.Frag) (E : XK) : TS :=
  tRet (tLc (iRng1 (tCons (tOp rAddA (tOp (rIx K) (tVar 0) (tC (.int 0))) (tC (.int 1))) (tNil))) (gName 1) (tAnd (tTest (tOp (rNeA K) (tOp (rIx K) (tOp (rIx K) (tVar 0) (tC (.int 2))) (tVar 1)) (tOp rAddA (tVar 1) (tC (.int 1))))) (tTest (tOp (rNeA K) (tOp (rIx K) (tOp (rIx K) (tVar 0) (tC (.int 1))) (tOp rAddA (tVar 1) (tC (.int 1)))) (tVar 1)))) (tVar 1) [1])
def t__law_told (K : PySem.W.Frag) (E : XK) : TS :=
  tSeq ((fun D σ H => (fun (W : WX) => tAsg (tCl (sp16_debt_of K) (WE W) (tCons (tVar 0) (tNil))) (gName 1)) (wAs K (.ref (He.ga K "NotRepairable")) 2 (fun a cls d => tRet (tTup (tCons (tC (.str "lost")) (tCons (tXat K a cls d "gap" (tVar 2)) (tNil))))) (fun cls d _ H => E cls d H) D) D σ H)) (tRet (tTup (tCons (tC (.str "debt")) (tCons (tVar 1) (tNil)))))
def t__law_led (K : PySem.W.Frag) (E : XK) : TS :=
  tSeq (tAsg (tCl (sp18__law_ends_whole K) (fun _ => E) (tCons (tVar 0) (tCons (tVar 1) (tNil)))) (gName 2)) (tSeq (tAsg (tCl (sp18__law_copy K) (fun _ => E) (tCons (tVar 0) (tNil))) (gName 3)) (tSeq (tAsg (tCl (sp_Links_read K) (fun _ => E) (tCons (tCl (sp16__law_dump K) (fun _ => E) (tCons (tVar 3) (tNil))) (tNil))) (gName 4)) (tSeq (tAsg (tUn rNegA (tC (.int 1))) (gName 5)) (tSeq (tFor (iRng1 (tCons (tOp rAddA (tCB (rLenA K) (tCons (tVar 1) (tNil))) (tC (.int 1))) (tNil))) (gName 6) (tSeq (tAsg (tOp rSubA (tCB (rLenA K) (tCons (tVar 1) (tNil))) (tVar 6)) (gName 7)) (tSeq (tAsg (tCl (sp18__law_told K) (fun _ => E) (tCons (tVar 4) (tNil))) (gName 8)) (tSeq (tAsg (tCl (sp16__law_lost K) (fun _ => E) (tCons (tVar 3) (tNil))) (gName 9)) (tSeq (tIfS (tAnd (tTest (tOp (rNeA K) (tVar 9) (tLst (tNil)))) (tNot (tB (tCl (sp18__law_fits K) (fun _ => E) (tCons (tVar 8) (tCons (tC (.str "lost")) (tCons (tOp (rIx K) (tVar 9) (tC (.int 0))) (tNil)))))))) (tRet (tC (.bl false))) (tNext)) (tSeq (tIfS (tTest (tOp (rEqA K) (tVar 9) (tLst (tNil)))) (tSeq (tIfS (tOr (tNot (tB (tCl (sp18__law_fits K) (fun _ => E) (tCons (tVar 8) (tCons (tC (.str "debt")) (tCons (tCl (sp16__law_owed K) (fun _ => E) (tCons (tVar 3) (tNil))) (tNil))))))) (tTest (tOp rLtA (tOp (rIx K) (tVar 8) (tC (.int 1))) (tOp rSubA (tVar 5) (tC (.int 1)))))) (tRet (tC (.bl false))) (tNext)) (tSeq (tIfS (tAnd (tB (tVar 2)) (tOr (tTest (tOp rGtA (tOp (rIx K) (tVar 8) (tC (.int 1))) (tVar 7))) (tTest (tOp (rEqA K) (tOp rModA (tCB rIntA (tCons (tOp rSubA (tVar 7) (tOp (rIx K) (tVar 8) (tC (.int 1)))) (tNil))) (tC (.int 2))) (tC (.int 1)))))) (tRet (tC (.bl false))) (tNext)) (tAsg (tOp (rIx K) (tVar 8) (tC (.int 1))) (gName 5)))) (tNext)) (tIfS (tTest (tOp rLtA (tVar 6) (tCB (rLenA K) (tCons (tVar 1) (tNil))))) (tSeq (tDrop (tMt (He.ga K "Links") "apply" (sp_Links_apply K) (fun _ => E) (tVar 4) (tCons (tOp (rIx K) (tVar 1) (tVar 6)) (tNil)))) (tDrop (tCl (sp18__law_step K) (fun _ => E) (tCons (tVar 3) (tCons (tCB rAbsA (tCons (tOp (rIx K) (tVar 1) (tVar 6)) (tNil))) (tNil)))))) (tNext)))))))) (tRet (tC (.bl true)))))))
def t__law_lowers (K : PySem.W.Frag) (E : XK) : TS :=
  tSeq (tAsg (tOp (rIx K) (tOp (rIx K) (tVar 0) (tC (.int 1))) (tVar 1)) (gName 2)) (tSeq (tAsg (tOp (rIx K) (tOp (rIx K) (tVar 0) (tC (.int 2))) (tVar 1)) (gName 3)) (tSeq (tIfS (tNot (tB (tCl (sp16__law_is_due K) (fun _ => E) (tCons (tVar 0) (tCons (tVar 1) (tNil)))))) (tRet (tC (.bl false))) (tNext)) (tSeq (tIfS (tAnd (tTest (tOp (rNeA K) (tVar 2) (tOp rSubA (tVar 1) (tC (.int 1))))) (tTest (tOp (rEqA K) (tOp (rIx K) (tOp (rIx K) (tVar 0) (tC (.int 2))) (tVar 2)) (tOp rAddA (tVar 2) (tC (.int 1)))))) (tIfS (tOr (tTest (tOp (rNeA K) (tOp (rIx K) (tOp (rIx K) (tVar 0) (tC (.int 1))) (tOp rAddA (tVar 2) (tC (.int 1)))) (tVar 2))) (tNot (tB (tCl (sp16__law_is_due K) (fun _ => E) (tCons (tVar 0) (tCons (tOp rAddA (tVar 2) (tC (.int 1))) (tNil))))))) (tRet (tC (.bl false))) (tNext)) (tNext)) (tSeq (tIfS (tAnd (tTest (tOp (rNeA K) (tVar 3) (tOp rAddA (tVar 1) (tC (.int 1))))) (tTest (tOp (rEqA K) (tOp (rIx K) (tOp (rIx K) (tVar 0) (tC (.int 1))) (tVar 3)) (tOp rSubA (tVar 3) (tC (.int 1)))))) (tIfS (tOr (tTest (tOp (rNeA K) (tOp (rIx K) (tOp (rIx K) (tVar 0) (tC (.int 2))) (tOp rSubA (tVar 3) (tC (.int 1)))) (tVar 3))) (tNot (tB (tCl (sp16__law_is_due K) (fun _ => E) (tCons (tVar 0) (tCons (tOp rSubA (tVar 3) (tC (.int 1))) (tNil))))))) (tRet (tC (.bl false))) (tNext)) (tNext)) (tRet (tC (.bl true)))))))
def t__law_log (K : PySem.W.Frag) (E : XK) : TS :=
  tSeq (tAsg (tCl (sp18__law_copy K) (fun _ => E) (tCons (tVar 1) (tNil))) (gName 2)) (tSeq (tAsg (tLst (tNil)) (gName 3)) (tSeq (tAsg (tCl (sp21__law_draw K) (fun _ => E) (tCons (tVar 0) (tCons (tC (.int 13)) (tNil)))) (gName 4)) (tSeq (tIfS (tTest (tOp (rEqA K) (tOp (rIx K) (tVar 2) (tC (.int 0))) (tC (.int 0)))) (tAsg (tC (.int 0)) (gName 4)) (tNext)) (tSeq (tFor (iRng1 (tCons (tVar 4) (tNil))) (gName 5) (tSeq (tAsg (tOp rAddA (tC (.int 1)) (tCl (sp21__law_draw K) (fun _ => E) (tCons (tVar 0) (tCons (tOp (rIx K) (tVar 2) (tC (.int 0))) (tNil))))) (gName 6)) (tSeq (tDrop (tBM K "list" rAppend (tVar 3) (tCons (tCl (sp__law_operation K) (fun _ => E) (tCons (tVar 2) (tCons (tVar 6) (tNil)))) (tNil)))) (tDrop (tCl (sp18__law_step K) (fun _ => E) (tCons (tVar 2) (tCons (tVar 6) (tNil)))))))) (tSeq (tIfS (tTest (tOp (rEqA K) (tCl (sp16__law_lost K) (fun _ => E) (tCons (tVar 2) (tNil))) (tLst (tNil)))) (tFor (iRng1 (tCons (tCl (sp16__law_owed K) (fun _ => E) (tCons (tVar 2) (tNil))) (tNil))) (gName 5) (tSeq (tAsg (tLc (iRng2 (tCons (tC (.int 1)) (tCons (tOp rAddA (tOp (rIx K) (tVar 2) (tC (.int 0))) (tC (.int 1))) (tNil)))) (gName 6) (tB (tCl (sp17__law_lowers K) (fun _ => E0) (tCons (tVar 2) (tCons (tVar 6) (tNil))))) (tVar 6) [6]) (gName 7)) (tSeq (tAsg (tOp (rIx K) (tVar 7) (tCl (sp21__law_draw K) (fun _ => E) (tCons (tVar 0) (tCons (tCB (rLenA K) (tCons (tVar 7) (tNil))) (tNil))))) (gName 6)) (tSeq (tDrop (tBM K "list" rAppend (tVar 3) (tCons (tCl (sp__law_operation K) (fun _ => E) (tCons (tVar 2) (tCons (tVar 6) (tNil)))) (tNil)))) (tDrop (tCl (sp18__law_step K) (fun _ => E) (tCons (tVar 2) (tCons (tVar 6) (tNil))))))))) (tNext)) (tRet (tVar 3)))))))
def t__law_key (K : PySem.W.Frag) (E : XK) : TS :=
  tRet (tCB (rTupA K) (tCons (tOp rAddA (tOp rAddA (tOp (rIx K) (tVar 0) (tC (.int 1))) (tOp (rIx K) (tVar 0) (tC (.int 2)))) (tOp (rIx K) (tVar 0) (tC (.int 3)))) (tNil)))
def t__law_distance (K : PySem.W.Frag) (E : XK) : TS :=
  tSeq (tAsg (tZNew (tCl (sp18__law_key K) (fun _ => E) (tCons (tVar 0) (tNil))) (tC (.bl true))) (gName 1)) (tSeq (tAsg (tLst (tCons (tCl (sp18__law_copy K) (fun _ => E) (tCons (tVar 0) (tNil))) (tNil))) (gName 2)) (tSeq (tFor (iRng1 (tCons (tC (.int 230401)) (tNil))) (gName 3) (tSeq (tIfS (tTest (tOp (rNeA K) (tLc (iList K (tVar 2)) (gName 5) (tB (tCl (sp16__law_is_whole K) (fun _ => E0) (tCons (tVar 5) (tNil)))) (tVar 5) [5]) (tLst (tNil)))) (tRet (tVar 3)) (tNext)) (tSeq (tAsg (tLst (tNil)) (gName 4)) (tSeq (tFor (iList K (tVar 2)) (gName 5) (tFor (iRng2 (tCons (tC (.int 1)) (tCons (tOp rAddA (tOp (rIx K) (tVar 5) (tC (.int 0))) (tC (.int 1))) (tNil)))) (gName 6) (tSeq (tAsg (tCl (sp18__law_copy K) (fun _ => E) (tCons (tVar 5) (tNil))) (gName 7)) (tSeq (tDrop (tCl (sp18__law_step K) (fun _ => E) (tCons (tVar 7) (tCons (tVar 6) (tNil))))) (tSeq (tAsg (tCl (sp18__law_key K) (fun _ => E) (tCons (tVar 7) (tNil))) (gName 8)) (tIfS (tTest (tOp (rInZ true) (tVar 8) (tVar 1))) (tSeq (sZPut (tVar 1) (tVar 8) (tC (.bl true))) (tDrop (tBM K "list" rAppend (tVar 4) (tCons (tVar 7) (tNil))))) (tNext))))))) (tSeq (tIfS (tTest (tOp (rEqA K) (tVar 4) (tLst (tNil)))) (tRet (tUn rNegA (tC (.int 1)))) (tNext)) (tAsg (tVar 4) (gName 2))))))) (tRet (tUn rNegA (tC (.int 1))))))
def t__law_numbers (K : PySem.W.Frag) (E : XK) : TS :=
  tRet (tAndV (tCB (rIsi K) (tCons (tVar 0) (tCons (tC (.ty "list")) (tNil)))) (tOp (rEqA K) (tLc (iList K (tVar 0)) (gName 1) (tNot (tB (tCl (sp16__law_number K) (fun _ => E0) (tCons (tVar 1) (tNil))))) (tVar 1) [1]) (tLst (tNil))))
def t_foreign_writes (K : PySem.W.Frag) (E : XK) : TS :=
  tSeq (tDrop (tMt (He.ga K "Links") "check" (sp_Links_check K) (fun _ => E) (tVar 0) (tCons (tVar 1) (tCons (tC (.int 0)) (tNil))))) (tSeq (tAsg (tCB rAbsA (tCons (tVar 1) (tNil))) (gName 2)) (tSeq (tAsg (tMt (He.ga K "Links") "left" (sp_Links_left K) (fun _ => E) (tVar 0) (tCons (tVar 2) (tNil))) (gName 3)) (tSeq (tAsg (tMt (He.ga K "Links") "right" (sp_Links_right K) (fun _ => E) (tVar 0) (tCons (tVar 2) (tNil))) (gName 4)) (tSeq (tAsg (tLst (tNil)) (gName 5)) (tSeq (tIfS (tAnd (tTest (tOp (rNeA K) (tVar 3) (tOp rSubA (tVar 2) (tC (.int 1))))) (tTest (tOp (rEqA K) (tMt (He.ga K "Links") "right" (sp_Links_right K) (fun _ => E) (tVar 0) (tCons (tVar 3) (tNil))) (tOp rAddA (tVar 3) (tC (.int 1)))))) (tDrop (tBM K "list" rAppend (tVar 5) (tCons (tVar 3) (tNil)))) (tNext)) (tSeq (tIfS (tAnd (tTest (tOp (rNeA K) (tVar 4) (tOp rAddA (tVar 2) (tC (.int 1))))) (tTest (tOp (rEqA K) (tMt (He.ga K "Links") "left" (sp_Links_left K) (fun _ => E) (tVar 0) (tCons (tVar 4) (tNil))) (tOp rSubA (tVar 4) (tC (.int 1)))))) (tDrop (tBM K "list" rAppend (tVar 5) (tCons (tOp rSubA (tVar 4) (tC (.int 1))) (tNil)))) (tNext)) (tRet (tVar 5))))))))
def t_left_to (K : PySem.W.Frag) (E : XK) : TS :=
  tRet (tIf (tTest (tOp rLtA (tVar 1) (tCB rAbsA (tCons (tVar 0) (tNil))))) (tOp rAddA (tVar 1) (tC (.int 1))) (tVar 1))
def t__spoils_nothing (K : PySem.W.Frag) (E : XK) : TS :=
  tSeq (tFor (iList K (tCl (sp_foreign_writes K) (fun _ => E) (tCons (tVar 0) (tCons (tVar 1) (tNil))))) (gName 3) (tIfS (tOr (tTest (tOp (rNeA K) (tCl (sp_gap_state K) (fun _ => E) (tCons (tVar 0) (tCons (tVar 3) (tNil)))) (tC (.str "joined")))) (tTest (tOp (rIn K true) (tCl (sp17_left_to K) (fun _ => E) (tCons (tVar 1) (tCons (tVar 3) (tNil)))) (tVar 2)))) (tRet (tC (.bl false))) (tNext))) (tRet (tC (.bl true)))
def t__steps (K : PySem.W.Frag) (E : XK) : TS :=
  tSeq (tAsg (tLc (iList K (tVar 1)) (gName 3) (tYes) (tIf (tB (tMt (He.ga K "Links") "is_out" (sp03_Links_is_out K) (fun _ => E0) (tVar 0) (tCons (tVar 3) (tNil)))) (tVar 3) (tUn rNegA (tVar 3))) [3]) (gName 2)) (tRet (tLc (iList K (tVar 2)) (gName 4) (tB (tCl (sp17__spoils_nothing K) (fun _ => E0) (tCons (tVar 0) (tCons (tVar 4) (tCons (tVar 1) (tNil)))))) (tVar 4) [4]))
def t__still_due (K : PySem.W.Frag) (E : XK) : TS :=
  tRet (tIf (tTest (tOp rLtA (tVar 1) (tC (.int 0)))) (tVar 0) (tLc (iList K (tVar 0)) (gName 2) (tTest (tOp (rNeA K) (tVar 2) (tVar 1))) (tVar 2) [2]))
def t_repairs (K : PySem.W.Frag) (E : XK) : TS :=
  tSeq (tIfS (tTest (tOp rLtA (tVar 1) (tC (.int 1)))) (tRz (He.ga K "BadCount") ["count"] (fun cls d _ H => E cls d H) (tCons (tVar 1) (tNil))) (tNext)) (tSeq (tDrop (tCl (sp16_check_repairable K) (fun _ => E) (tCons (tVar 0) (tNil)))) (tSeq (tAsg (tLst (tNil)) (gName 2)) (tSeq (tAsg (tLst (tCons (tTup (tCons (tVar 0) (tCons (tLst (tNil)) (tCons (tCl (sp16_due_nodes K) (fun _ => E) (tCons (tVar 0) (tNil))) (tNil))))) (tNil))) (gName 3)) (tSeq (tWhile (tAnd (tTr K (tVar 3)) (tTest (tOp rLtA (tCB (rLenA K) (tCons (tVar 2) (tNil))) (tVar 1)))) (tSeq (tAsg (tBM0 K "list" rPop (tVar 3)) (gTup K 3 (gCons (gName 4) (gCons (gName 5) (gCons (gName 6) (gNil)))))) (tSeq (tAsg (tCl (sp_play K) (fun _ => E) (tCons (tVar 4) (tCons (tSl (rSlL K) (tVar 5) (tPart (tUn rNegA (tC (.int 1)))) (tNoPart)) (tNil)))) (gName 7)) (tSeq (tIfS (tNot (tTr K (tVar 6))) (tDrop (tBM K "list" rAppend (tVar 2) (tCons (tVar 5) (tNil)))) (tNext)) (tFor (RT.iRevA K (tCl (sp17__steps K) (fun _ => E) (tCons (tVar 7) (tCons (tVar 6) (tNil))))) (gName 8) (tDrop (tBM K "list" rAppend (tVar 3) (tCons (tTup (tCons (tVar 7) (tCons (tOp rAddA (tVar 5) (tLst (tCons (tVar 8) (tNil)))) (tCons (tCl (sp17__still_due K) (fun _ => E) (tCons (tVar 6) (tCons (tVar 8) (tNil)))) (tNil))))) (tNil))))))))) (tRet (tVar 2))))))
def t_first_repair (K : PySem.W.Frag) (E : XK) : TS :=
  tRet (tOp (rIx K) (tClK 1 (["most"] : List Str).length (sp17_repairs K) (fun _ => E) (tCons (tVar 0) (tNil)) (tCons (tC (.int 1)) (tNil))) (tC (.int 0)))
def t__law_searched (K : PySem.W.Frag) (E : XK) : TS :=
  tSeq (tAsg (tCl (sp18__law_distance K) (fun _ => E) (tCons (tVar 0) (tNil))) (gName 1)) (tSeq (tAsg (tCl (sp16__law_lost K) (fun _ => E) (tCons (tVar 0) (tNil))) (gName 2)) (tSeq (tAsg (tCl (sp_Links_read K) (fun _ => E) (tCons (tCl (sp16__law_dump K) (fun _ => E) (tCons (tVar 0) (tNil))) (tNil))) (gName 3)) (tSeq (tAsg (tCl (sp18__law_told K) (fun _ => E) (tCons (tVar 3) (tNil))) (gName 4)) (tSeq (tIfS (tTest (tOp rLtA (tVar 1) (tC (.int 0)))) (tRet (tAndV (tOp (rNeA K) (tVar 2) (tLst (tNil))) (tCl (sp18__law_fits K) (fun _ => E) (tCons (tVar 4) (tCons (tC (.str "lost")) (tCons (tOp (rIx K) (tVar 2) (tC (.int 0))) (tNil))))))) (tNext)) (tSeq (tIfS (tNot (tB (tCl (sp18__law_fits K) (fun _ => E) (tCons (tVar 4) (tCons (tC (.str "debt")) (tCons (tVar 1) (tNil))))))) (tRet (tC (.bl false))) (tNext)) (tSeq (tAsg (tCl (sp17_first_repair K) (fun _ => E) (tCons (tVar 3) (tNil))) (gName 5)) (tRet (tAndV (tCl (sp16__law_numbers K) (fun _ => E) (tCons (tVar 5) (tNil))) (tAndV (tOp (rEqA K) (tCB (rLenA K) (tCons (tVar 5) (tNil))) (tVar 1)) (tCl (sp18__law_ends_whole K) (fun _ => E) (tCons (tVar 0) (tCons (tVar 5) (tNil)))))))))))))
def t__law_size (K : PySem.W.Frag) (E : XK) : TS :=
  tSeq (tAsg (tOp (rIx K) (tLst (tCons (tC (.int 2)) (tCons (tC (.int 3)) (tCons (tC (.int 4)) (tCons (tC (.int 5)) (tCons (tC (.int 6)) (tCons (tC (.int 7)) (tCons (tC (.int 8)) (tCons (tC (.int 0)) (tCons (tC (.int 1)) (tCons (tC (.int 3)) (tCons (tC (.int 4)) (tCons (tC (.int 9)) (tNil)))))))))))))) (tCl (sp21__law_draw K) (fun _ => E) (tCons (tVar 0) (tCons (tC (.int 12)) (tNil))))) (gName 1)) (tSeq (tIfS (tTest (tOp (rEqA K) (tVar 1) (tC (.int 9)))) (tAsg (tOp rAddA (tC (.int 9)) (tCl (sp21__law_draw K) (fun _ => E) (tCons (tVar 0) (tCons (tC (.int 52)) (tNil))))) (gName 1)) (tNext)) (tRet (tVar 1)))
def t__law_standing (K : PySem.W.Frag) (E : XK) : TS :=
  tSeq (tAsg (tLc (iRng1 (tCons (tOp rAddA (tVar 1) (tC (.int 2))) (tNil))) (gName 11) (tYes) (tOp rSubA (tVar 11) (tC (.int 1))) [11]) (gName 3)) (tSeq (tAsg (tLc (iRng1 (tCons (tOp rAddA (tVar 1) (tC (.int 2))) (tNil))) (gName 11) (tYes) (tOp rAddA (tVar 11) (tC (.int 1))) [11]) (gName 4)) (tSeq (tAsg (tLc (iRng1 (tCons (tOp rAddA (tVar 1) (tC (.int 2))) (tNil))) (gName 11) (tYes) (tC (.bl false)) [11]) (gName 5)) (tSeq (tAsg (tCl (sp21__law_draw K) (fun _ => E) (tCons (tVar 0) (tCons (tC (.int 4)) (tNil)))) (gName 6)) (tSeq (tAsg (tC (.int 0)) (gName 7)) (tSeq (tIfS (tAnd (tTest (tOp (rEqA K) (tVar 2) (tC (.int 2)))) (tTest (tOp rGtA (tVar 1) (tC (.int 1))))) (tAsg (tOp rAddA (tC (.int 1)) (tCl (sp21__law_draw K) (fun _ => E) (tCons (tVar 0) (tCons (tOp rSubA (tVar 1) (tC (.int 1))) (tNil))))) (gName 7)) (tNext)) (tSeq (tFor (iRng1 (tCons (tOp rAddA (tVar 1) (tC (.int 1))) (tNil))) (gName 8) (tSeq (tAsg (tCl (sp21__law_draw K) (fun _ => E) (tCons (tVar 0) (tCons (tIf (tTest (tOp (rEqA K) (tVar 2) (tC (.int 1)))) (tC (.int 9)) (tC (.int 7))) (tNil)))) (gName 9)) (tSeq (tAsg (tAndV (tOp (rEqA K) (tVar 8) (tVar 7)) (tOp rGtA (tVar 7) (tC (.int 0)))) (gName 10)) (tSeq (tIfS (tAnd (tTest (tOp rGtA (tVar 8) (tC (.int 0)))) (tOr (tTest (tOp (rIn K false) (tVar 9) (tTup (tCons (tC (.int 0)) (tCons (tC (.int 1)) (tCons (tC (.int 7)) (tCons (tC (.int 8)) (tNil)))))))) (tB (tVar 10)))) (tAsg (tCl (sp21__law_draw K) (fun _ => E) (tCons (tVar 0) (tCons (tVar 8) (tNil)))) (gSub (tVar 3) (tOp rAddA (tVar 8) (tC (.int 1))) rSetL)) (tNext)) (tIfS (tAnd (tTest (tOp rLtA (tVar 8) (tVar 1))) (tOr (tTest (tOp (rIn K false) (tVar 9) (tTup (tCons (tC (.int 2)) (tCons (tC (.int 3)) (tCons (tC (.int 7)) (tCons (tC (.int 8)) (tNil)))))))) (tB (tVar 10)))) (tAsg (tOp rAddA (tOp rAddA (tVar 8) (tC (.int 2))) (tCl (sp21__law_draw K) (fun _ => E) (tCons (tVar 0) (tCons (tOp rSubA (tVar 1) (tVar 8)) (tNil))))) (gSub (tVar 4) (tVar 8) rSetL)) (tNext)))))) (tSeq (tFor (iRng2 (tCons (tC (.int 1)) (tCons (tOp rAddA (tVar 1) (tC (.int 1))) (tNil)))) (gName 11) (tAsg (tAndV (tOp (rNeA K) (tVar 6) (tC (.int 1))) (tOp (rEqA K) (tCl (sp21__law_draw K) (fun _ => E) (tCons (tVar 0) (tCons (tOp (rIx K) (tLst (tCons (tC (.int 2)) (tCons (tC (.int 1)) (tCons (tC (.int 5)) (tCons (tC (.int 3)) (tNil)))))) (tVar 6)) (tNil)))) (tC (.int 0)))) (gSub (tVar 5) (tVar 11) rSetL))) (tRet (tLst (tCons (tVar 1) (tCons (tVar 3) (tCons (tVar 4) (tCons (tVar 5) (tNil))))))))))))))
def t_law (K : PySem.W.Frag) (E : XK) : TS :=
  tSeq (tAsg (tCl (sp21__law_bag K) (fun _ => E) (tCons (tVar 0) (tNil))) (gName 1)) (tSeq (tAsg (tOp (rIx K) (tLst (tCons (tC (.int 2)) (tCons (tC (.int 3)) (tCons (tC (.int 1)) (tCons (tC (.int 3)) (tCons (tC (.int 2)) (tCons (tC (.int 3)) (tCons (tC (.int 0)) (tCons (tC (.int 4)) (tNil)))))))))) (tCl (sp21__law_draw K) (fun _ => E) (tCons (tVar 1) (tCons (tC (.int 8)) (tNil))))) (gName 2)) (tSeq (tIfS (tNot (tB (tCl (sp18__law_searched K) (fun _ => E) (tCons (tCl (sp16__law_standing K) (fun _ => E) (tCons (tVar 1) (tCons (tVar 2) (tCons (tOp (rIx K) (tLst (tCons (tC (.int 0)) (tCons (tC (.int 0)) (tCons (tC (.int 1)) (tCons (tC (.int 2)) (tNil)))))) (tCl (sp21__law_draw K) (fun _ => E) (tCons (tVar 1) (tCons (tC (.int 4)) (tNil))))) (tNil))))) (tNil))))) (tRet (tC (.bl false))) (tNext)) (tSeq (tAsg (tCl (sp16__law_size K) (fun _ => E) (tCons (tVar 1) (tNil))) (gName 3)) (tSeq (tAsg (tCl (sp16__law_standing K) (fun _ => E) (tCons (tVar 1) (tCons (tVar 3) (tCons (tOp (rIx K) (tLst (tCons (tC (.int 0)) (tCons (tC (.int 0)) (tCons (tC (.int 0)) (tCons (tC (.int 1)) (tNil)))))) (tCl (sp21__law_draw K) (fun _ => E) (tCons (tVar 1) (tCons (tC (.int 4)) (tNil))))) (tNil))))) (gName 4)) (tSeq (tAsg (tCl (sp18__law_log K) (fun _ => E) (tCons (tVar 1) (tCons (tVar 4) (tNil)))) (gName 5)) (tSeq (tIfS (tNot (tB (tCl (sp18__law_led K) (fun _ => E) (tCons (tVar 4) (tCons (tVar 5) (tNil)))))) (tRet (tC (.bl false))) (tNext)) (tRet (tCl (sp18__law_judged K) (fun _ => E) (tCons (tVar 4) (tCons (tVar 5) (tCons (tCl (sp21__law_draw K) (fun _ => E) (tCons (tVar 1) (tCons (tOp rAddA (tCB (rLenA K) (tCons (tVar 5) (tNil))) (tC (.int 1))) (tNil)))) (tNil))))))))))))
end G
set_option Elab.async false
set_option linter.all false
set_option maxRecDepth 100000
set_option maxHeartbeats 1000000
namespace G
--#FAM KD
open PySem PySem.Spec PyProof.Rows L2
local macro_rules
  | `(tactic| walk_at "1") => `(tactic| first
    | with_reducible refine w_seq ?_
    | with_reducible refine w_asg ?_
    | with_reducible refine w_asgS ?_
    | with_reducible refine w_asf ?_
    | with_reducible refine w_drop ?_
    | with_reducible refine w_ret ?_
    | with_reducible refine w_if ?_
    | with_reducible refine w_not ?_
    | with_reducible refine w_and ?_
    | with_reducible refine w_or ?_
    | with_reducible refine w_test ?_
    | with_reducible refine w_tb ?_
    | with_reducible refine w_chain ?_
    | with_reducible refine w_op ?_
    | with_reducible refine w_un ?_
    | with_reducible refine w_andV ?_
    | with_reducible refine w_orV ?_
    | with_reducible refine w_notV ?_
    | with_reducible refine w_ifE ?_
    | with_reducible refine w_cons ?_
    | with_reducible refine w_nil ?_
    | with_reducible refine w_cb ?_
    | with_reducible refine w_cl ?_
    | with_reducible refine w_mt ?_
    | with_reducible refine w_fld ?_
    | with_reducible refine w_tupN ?_
    | with_reducible refine w_lstN ?_
    | with_reducible refine w_bm ?_
    | with_reducible refine w_bm0 ?_
    | with_reducible refine w_for ?_
    | with_reducible refine w_lc ?_
    | with_reducible refine w_iR1 ?_
    | with_reducible refine w_iR2 ?_
    | with_reducible refine w_iL ?_
    | with_reducible refine w_iT ?_
    | with_reducible refine w_iE ?_
    | with_reducible refine w_iZ ?_
    | with_reducible refine w_var (by with_unfolding_all rfl) ?_
    | with_reducible refine w_c ?_
    | with_reducible refine w_next ?_
    | with_reducible refine w_i0 ?_
    | with_reducible refine w_u1 ?_
    | with_reducible refine w_addI ?_
    | with_reducible refine w_eqI ?_
    | with_reducible refine w_eqS ?_
    | with_reducible refine w_eqB ?_
    | with_reducible refine w_neI ?_
    | with_reducible refine w_neS ?_
    | with_reducible refine w_neB ?_
    | with_reducible refine w_abs ?_
    | with_reducible refine w_intI ?_
    | with_reducible refine w_min2 ?_
    | with_reducible refine w_max2 ?_
    | with_reducible refine w_isN0 ?_
    | with_reducible refine w_isN1 ref_ne ?_
    | with_reducible refine w_isN1 int_ne ?_
    | with_reducible refine w_notN0 ?_
    | with_reducible refine w_notN1 ref_ne ?_
    | with_reducible refine w_notN1 int_ne ?_
    | with_reducible refine w_ex1 ?_
    | with_reducible refine w_n1 ?_
    | with_reducible refine w_n2 ?_
    | with_reducible refine w_tT ?_
    | with_reducible refine w_tF ?_
    | with_reducible refine w_nT ?_
    | with_reducible refine w_nF ?_
    | with_reducible refine w_rz ?_
    | with_reducible refine w_mkN ?_
    | with_reducible refine w_lrgN ?_
    | with_reducible refine w_rg1 ?_
    | with_reducible refine w_rg2 ?_
    | with_reducible refine w_sl ?_
    | with_reducible refine w_np ?_
    | with_reducible refine w_pt ?_
    | with_reducible refine w_tr ?_
    | with_reducible refine w_gn ?_
    | with_reducible refine w_yes ?_
    | with_reducible refine w_m1 ?_
    | with_reducible refine w_asu ?_
    | with_reducible refine w_exS ?_
    | with_reducible refine w_iS ?_
    | with_reducible refine w_g1 ?_
    | with_reducible refine w_gc ?_
    | with_reducible refine w_gt (SqT.of upd_same) rfl ?_)
local macro_rules
  | `(tactic| walk_at "g") => `(tactic| repeat walk_at "1")
local macro_rules
  | `(tactic| walk_at "j1") => `(tactic| first
    | with_reducible refine w_seqI ?_
    | walk_at "1")
local macro_rules
  | `(tactic| walk_at "j") => `(tactic| repeat walk_at "j1")
section
variable {K : PySem.W.Frag} {mg : Str → Option Value}
theorem len_check_size (K : PySem.W.Frag) : ∀ vs H Q E, sp_check_size K vs H Q E → vs.length = (["size"] : List Str).length := by
  rintro vs H Q E ⟨_, rfl, _⟩
  rfl
theorem rd_check_size (T : Txt K mg) (vs : List V) (H : Hp) (Q : VK) (E : XK) (h : sp_check_size K vs H Q E) : t_check_size K E { nx := fun _ H' => Q .non H', rt := Q } (start ["size"] vs) H := by
  obtain ⟨size, rfl, h1, h2⟩ := h
  unfold t_check_size
  walk_at "g"
  refine w_iteD (fun c1 => ?_) (fun c1 => ?_)
  · walk_at "g"
    refine w_iteN (fun c2 => ?_) (fun c2 => ?_)
    · walk_at "g"
      exact ⟨rfl, Nat.le_of_ble_eq_true rfl, h2 fun z => c2 z.2⟩
    · walk_at "g"
      exact h1 ⟨c1, c2⟩
  · walk_at "g"
    exact ⟨rfl, Nat.le_of_ble_eq_true rfl, h2 fun z => c1 z.1⟩
theorem len_check_operation (K : PySem.W.Frag) : ∀ vs H Q E, sp_check_operation K vs H Q E → vs.length = (["size", "operation", "index"] : List Str).length := by
  rintro vs H Q E ⟨_, _, _, rfl, _⟩
  rfl
theorem rd_check_operation (T : Txt K mg) (vs : List V) (H : Hp) (Q : VK) (E : XK) (h : sp_check_operation K vs H Q E) : t_check_operation K E { nx := fun _ H' => Q .non H', rt := Q } (start ["size", "operation", "index"] vs) H := by
  obtain ⟨n, op, i, rfl, h1, h2⟩ := h
  unfold t_check_operation
  walk_at "g"
  rw [natAbs_if]
  refine w_iteD (fun c1 => ?_) (fun c1 => ?_)
  · walk_at "g"
    refine w_iteN (fun c2 => ?_) (fun c2 => ?_)
    · walk_at "g"
      exact ⟨rfl, Nat.le_of_ble_eq_true rfl, h2 fun z => c2 (by have := z.2; omega)⟩
    · walk_at "g"
      exact h1 ⟨by omega, by omega⟩
  · walk_at "g"
    exact ⟨rfl, Nat.le_of_ble_eq_true rfl, h2 fun z => c1 (by have := z.1; omega)⟩
theorem len_check_gap (K : PySem.W.Frag) : ∀ vs H Q E, sp_check_gap K vs H Q E → vs.length = (["size", "gap"] : List Str).length := by
  rintro vs H Q E ⟨_, _, rfl, _⟩
  rfl
theorem rd_check_gap (T : Txt K mg) (vs : List V) (H : Hp) (Q : VK) (E : XK) (h : sp_check_gap K vs H Q E) : t_check_gap K E { nx := fun _ H' => Q .non H', rt := Q } (start ["size", "gap"] vs) H := by
  obtain ⟨n, g, rfl, h1, h2⟩ := h
  unfold t_check_gap
  walk_at "g"
  refine w_iteD (fun c1 => ?_) (fun c1 => ?_)
  · walk_at "g"
    refine w_iteN (fun c2 => ?_) (fun c2 => ?_)
    · walk_at "g"
      exact ⟨rfl, Nat.le_of_ble_eq_true rfl, h2 fun z => c2 z.2⟩
    · walk_at "g"
      exact h1 ⟨c1, c2⟩
  · walk_at "g"
    exact ⟨rfl, Nat.le_of_ble_eq_true rfl, h2 fun z => c1 z.1⟩
theorem len_Links_is_legal (K : PySem.W.Frag) : ∀ vs H Q E, sp_Links_is_legal K vs H Q E → vs.length = (["self", "operation"] : List Str).length := by
  rintro vs H Q E ⟨_, _, _, _, _, _, rfl, _⟩
  rfl
theorem rd_Links_is_legal (T : Txt K mg) (vs : List V) (H : Hp) (Q : VK) (E : XK) (h : sp_Links_is_legal K vs H Q E) : t_Links_is_legal K E { nx := fun _ H' => Q .non H', rt := Q } (start ["self", "operation"] vs) H := by
  obtain ⟨p, r, l, o, s, op, rfl, a, hi, k⟩ := h
  unfold t_Links_is_legal
  walk_at "g"
  refine w_fO T.cl_Links T.na_Links__out a ?_
  walk_at "g"
  rw [natAbs_if]
  have hlt : (op.natAbs : Int) < (s.O.length : Int) := by
    rw [a.wf.lO]
    have := hi.2
    omega
  refine w_ixL (SqL.of a.ho) (at_B (by omega) hlt) ?_
  walk_at "g"
  exact k
theorem len_Links_check (K : PySem.W.Frag) : ∀ vs H Q E, sp_Links_check K vs H Q E → vs.length = (["self", "operation", "index"] : List Str).length := by
  rintro vs H Q E ⟨_, _, _, _, _, _, _, rfl, _⟩
  rfl
theorem rd_Links_check (T : Txt K mg) (vs : List V) (H : Hp) (Q : VK) (E : XK) (h : sp_Links_check K vs H Q E) : t_Links_check K E { nx := fun _ H' => Q .non H', rt := Q } (start ["self", "operation", "index"] vs) H := by
  obtain ⟨p, r, l, o, s, op, i, rfl, a, h1, h2⟩ := h
  unfold t_Links_check
  walk_at "g"
  refine w_fS T.cl_Links T.na_Links_size a ?_
  walk_at "g"
  refine ⟨s.n, op, i, rfl, fun hi => ?_, fun hi => ?_⟩
  · walk_at "g"
    refine w_me a no_m ?_
    walk_at "g"
    refine ⟨p, r, l, o, s, op, rfl, a, hi, ?_⟩
    walk_at "g"
    refine w_iteN (fun c => ?_) (fun c => ?_)
    · walk_at "g"
      refine ⟨rfl, Nat.le_of_ble_eq_true rfl, ?_⟩
      have e := h2 fun z => c z.2
      unfold OpE at e
      rw [if_pos hi] at e
      exact e
    · walk_at "g"
      exact h1 ⟨hi, c⟩
  · have e := h2 fun z => hi z.1
    unfold OpE at e
    rw [if_neg hi] at e
    exact e
theorem len_Links_apply_at (K : PySem.W.Frag) : ∀ vs H Q E, sp_Links_apply_at K vs H Q E → vs.length = (["self", "operation", "index"] : List Str).length := by
  rintro vs H Q E ⟨_, _, _, _, _, _, _, rfl, _⟩
  rfl
theorem rd_Links_apply_at (T : Txt K mg) (vs : List V) (H : Hp) (Q : VK) (E : XK) (h : sp_Links_apply_at K vs H Q E) : t_Links_apply_at K E { nx := fun _ H' => Q .non H', rt := Q } (start ["self", "operation", "index", "node", "low", "high", "is_unlink"] vs) H := by
  obtain ⟨p, r, l, o, s, op, i, rfl, a, h1, h2⟩ := h
  unfold t_Links_apply_at
  walk_at "g"
  refine w_me a no_m ?_
  walk_at "g"
  refine ⟨p, r, l, o, s, op, i, rfl, a, fun ok => ?_, h2⟩
  have hi := ok.1
  obtain ⟨i1, i2⟩ := hi
  have w := a.wf
  obtain ⟨r1, r2⟩ := w.rb op.natAbs (by omega)
  obtain ⟨l1, l2⟩ := w.lb op.natAbs i1 (by omega)
  obtain ⟨pr, pl, po⟩ := a.pr
  walk_at "g"
  rw [natAbs_if]
  refine w_fL T.cl_Links T.na_Links__lefts a ?_
  walk_at "g"
  refine w_ixL (SqL.of a.hl) (at_I (by omega) (by rw [w.lL]; omega)) ?_
  walk_at "g"
  refine w_fR T.cl_Links T.na_Links__rights a ?_
  walk_at "g"
  refine w_ixL (SqL.of a.hr) (at_I (by omega) (by rw [w.lR]; omega)) ?_
  walk_at "g"
  have fin : ∀ x y : Int, x = (if op < 0 then gI s.R op.natAbs else (op.natAbs : Int)) → y = (if op < 0 then gI s.L op.natAbs else (op.natAbs : Int)) →
      Q .non (upd (upd (upd H r (.lst ((s.R.map V.int).set (gI s.L op.natAbs).toNat (.int x)))) l (.lst ((s.L.map V.int).set (gI s.R op.natAbs).toNat (.int y)))) o (.lst ((s.O.map V.bl).set op.natAbs (.bl (decide (op < 0)))))) := by
    intro x y ex ey
    refine h1 ok _ ((((Kp.refl _ H).trans (Kp.put (by simp))).trans (Kp.put (by simp))).trans (Kp.put (by simp))) ?_
    obtain ⟨dx, ob⟩ := a.ob
    rw [set_I, set_I, set_B]
    refine ⟨⟨dx, ?_⟩, ?_, ?_, ?_, a.rl, a.ro, a.lo, w.step ok.1⟩
    · rw [upd_ne po, upd_ne pl, upd_ne pr]
      exact ob
    · rw [upd_ne a.ro, upd_ne a.rl, upd_same, ex] <;> rfl
    · rw [upd_ne a.lo, upd_same, ey] <;> rfl
    · rw [upd_same] <;> rfl
  obtain ⟨dx, ob⟩ := a.ob
  have e1 : (op.natAbs : Int).toNat = op.natAbs := Int.toNat_natCast _
  have il : ixN (List.map V.int s.R).length (gI s.L op.natAbs) = some (gI s.L op.natAbs).toNat := ixN_pos (by omega) (by rw [List.length_map, w.lR]; omega)
  have ir : ixN (List.map V.int s.L).length (gI s.R op.natAbs) = some (gI s.R op.natAbs).toNat := ixN_pos (by omega) (by rw [List.length_map, w.lL]; omega)
  have io : ixN (List.map V.bl s.O).length (op.natAbs : Int) = some op.natAbs := by
    rw [ixN_pos (by omega) (by rw [List.length_map, w.lO]; omega), e1]
  rw [e1]
  refine w_iteD (fun c => ?_) (fun c => ?_)
  all_goals
    walk_at "g"
    refine w_oR T.cl_Links T.na_Links__rights ob ?_
    walk_at "g"
    refine w_setL a.hr il ?_
    walk_at "g"
    first
      | refine w_iteD (fun _ => ?_) (fun z => absurd c z)
      | refine w_iteD (fun z => absurd z c) (fun _ => ?_)
    walk_at "g"
    refine w_oL T.cl_Links T.na_Links__lefts (H := upd H r _) (by rw [upd_ne pr]; exact ob) ?_
    walk_at "g"
    refine w_setL (H := upd H r _) (by rw [upd_ne (Ne.symm a.rl)]; exact a.hl) ir ?_
    walk_at "g"
    refine w_oO T.cl_Links T.na_Links__out (H := upd (upd H r _) l _) (by rw [upd_ne pl, upd_ne pr]; exact ob) ?_
    walk_at "g"
    refine w_setL (H := upd (upd H r _) l _) (by rw [upd_ne (Ne.symm a.lo), upd_ne (Ne.symm a.ro)]; exact a.ho) io ?_
    walk_at "g"
  · exact fin _ _ (if_pos c).symm (if_pos c).symm
  · exact fin _ _ (if_neg c).symm (if_neg c).symm
theorem len_Links_apply (K : PySem.W.Frag) : ∀ vs H Q E, sp_Links_apply K vs H Q E → vs.length = (["self", "operation"] : List Str).length := by
  rintro vs H Q E ⟨_, _, _, _, _, _, rfl, _⟩
  rfl
theorem rd_Links_apply (T : Txt K mg) (vs : List V) (H : Hp) (Q : VK) (E : XK) (h : sp_Links_apply K vs H Q E) : t_Links_apply K E { nx := fun _ H' => Q .non H', rt := Q } (start ["self", "operation"] vs) H := by
  obtain ⟨p, r, l, o, s, op, rfl, a, h1, h2⟩ := h
  unfold t_Links_apply
  walk_at "g"
  refine w_me a no_m ?_
  walk_at "g"
  exact ⟨p, r, l, o, s, op, 0, rfl, a, h1, h2⟩
theorem len_Links_left (K : PySem.W.Frag) : ∀ vs H Q E, sp_Links_left K vs H Q E → vs.length = (["self", "node"] : List Str).length := by
  rintro vs H Q E ⟨_, _, _, _, _, _, rfl, _⟩
  rfl
theorem rd_Links_left (T : Txt K mg) (vs : List V) (H : Hp) (Q : VK) (E : XK) (h : sp_Links_left K vs H Q E) : t_Links_left K E { nx := fun _ H' => Q .non H', rt := Q } (start ["self", "node"] vs) H := by
  obtain ⟨p, r, l, o, s, v, rfl, a, h1, h2, h3⟩ := h
  unfold t_Links_left
  walk_at "g"
  refine w_iteD (fun c1 => ?_) (fun c1 => absurd (by omega) c1)
  walk_at "g"
  refine w_fS T.cl_Links T.na_Links_size a ?_
  walk_at "g"
  refine w_iteN (fun c1 => absurd (by omega) c1) (fun c1 => ?_)
  walk_at "g"
  refine w_fL T.cl_Links T.na_Links__lefts a ?_
  walk_at "g"
  refine w_ixL (SqL.of a.hl) (at_I (by omega) (by rw [a.wf.lL]; omega)) ?_
  exact h3
theorem len_Links_right (K : PySem.W.Frag) : ∀ vs H Q E, sp_Links_right K vs H Q E → vs.length = (["self", "node"] : List Str).length := by
  rintro vs H Q E ⟨_, _, _, _, _, _, rfl, _⟩
  rfl
theorem rd_Links_right (T : Txt K mg) (vs : List V) (H : Hp) (Q : VK) (E : XK) (h : sp_Links_right K vs H Q E) : t_Links_right K E { nx := fun _ H' => Q .non H', rt := Q } (start ["self", "node"] vs) H := by
  obtain ⟨p, r, l, o, s, v, rfl, a, h2, h3⟩ := h
  unfold t_Links_right
  walk_at "g"
  refine w_iteD (fun c1 => ?_) (fun c1 => absurd (by omega) c1)
  walk_at "g"
  refine w_fS T.cl_Links T.na_Links_size a ?_
  walk_at "g"
  refine w_iteN (fun c1 => absurd (by omega) c1) (fun c1 => ?_)
  walk_at "g"
  refine w_fR T.cl_Links T.na_Links__rights a ?_
  walk_at "g"
  refine w_ixL (SqL.of a.hr) (at_I (by omega) (by rw [a.wf.lR]; omega)) ?_
  exact h3
theorem len_gap_state (K : PySem.W.Frag) : ∀ vs H Q E, sp_gap_state K vs H Q E → vs.length = (["links", "gap"] : List Str).length := by
  rintro vs H Q E ⟨_, _, _, _, _, _, rfl, _⟩
  rfl
theorem rd_gap_state (T : Txt K mg) (vs : List V) (H : Hp) (Q : VK) (E : XK) (h : sp_gap_state K vs H Q E) : t_gap_state K E { nx := fun _ H' => Q .non H', rt := Q } (start ["links", "gap", "is_held_left", "is_held_right"] vs) H := by
  obtain ⟨p, r, l, o, s, g, rfl, a, h1, h2⟩ := h
  unfold t_gap_state
  walk_at "g"
  refine w_fS T.cl_Links T.na_Links_size a ?_
  walk_at "g"
  refine ⟨s.n, g, rfl, fun c => ?_, h2⟩
  obtain ⟨v, rfl⟩ : ∃ v : Nat, g = (v : Int) := ⟨g.toNat, by omega⟩
  walk_at "g"
  refine w_me a no_m ?_
  walk_at "g"
  refine ⟨p, r, l, o, s, v, rfl, a, by omega, ?_⟩
  walk_at "g"
  refine w_me a no_m ?_
  walk_at "g"
  refine ⟨p, r, l, o, s, v + 1, rfl, a, by omega, by omega, ?_⟩
  walk_at "g"
  have k := h1 c
  rw [Int.toNat_natCast] at k
  unfold stT at k
  refine w_iteD (fun c1 => ?_) (fun c1 => ?_)
  · rw [if_pos c1] at k
    walk_at "g"
    refine w_iteD (fun c2 => ?_) (fun c2 => ?_)
    · rw [if_pos c2] at k
      walk_at "g"
      exact k
    · rw [if_neg c2] at k
      walk_at "g"
      exact k
  · rw [if_neg c1] at k
    walk_at "g"
    refine w_iteD (fun c2 => ?_) (fun c2 => ?_)
    · rw [if_pos c2] at k
      walk_at "g"
      exact k
    · rw [if_neg c2] at k
      walk_at "g"
      exact k
theorem rg_nat (n : Nat) : rgV 0 (n : Int) = (rgI 0 n).map V.int := by
  unfold rgV rgI
  rw [show ((n : Int) - 0).toNat = n by omega, List.map_map] <;> rfl
theorem rg_one (n : Nat) : rgV 1 ((n : Int) + 1) = (rgI 1 n).map V.int := by
  unfold rgV rgI
  rw [show ((n : Int) + 1 - 1).toNat = n by omega, List.map_map] <;> rfl
theorem rg_one' (n : Nat) : rgV 1 ((n : Int) + 2) = (rgI 1 (n + 1)).map V.int := by
  rw [← rg_one (n + 1)]
  congr 1
theorem rg_nat' (n : Nat) : rgV 0 ((n : Int) + 1) = (rgI 0 (n + 1)).map V.int := by
  rw [← rg_nat (n + 1)] <;> rfl
theorem rep_flat {α : Type} (n : Nat) (x : α) : (List.replicate n [x]).flatten = List.replicate n x := by
  induction n with
  | zero => rfl
  | succ n ih => rw [List.replicate_succ, List.flatten_cons, ih, List.replicate_succ] <;> rfl
theorem rep_mapB (n : Nat) (x : Bool) : (List.replicate n x).map V.bl = List.replicate n (V.bl x) := by rw [List.map_replicate]
theorem putF_len (f : Str) (v : V) : ∀ fs : List (Str × V), (putF f v fs).length ≤ fs.length + 1
  | [] => Nat.le_refl _
  | (g, w) :: fs => by
    have ih := putF_len f v fs
    unfold putF
    split
    · exact Nat.le_succ _
    · exact Nat.succ_le_succ ih
theorem pl1 (a : Str) (x : V) : (putF a x []).length < 1000 := Nat.lt_of_le_of_lt (putF_len _ _ _) (Nat.le_of_ble_eq_true rfl)
theorem pl2 (a b : Str) (x y : V) : (putF b y (putF a x [])).length < 1000 := Nat.lt_of_le_of_lt (putF_len _ _ _) (by
  have := putF_len a x []
  show (putF a x []).length + 1 < 1000
  have e : ([] : List (Str × V)).length = 0 := rfl
  omega)
theorem pl3 (a b c : Str) (x y z : V) : (putF c z (putF b y (putF a x []))).length < 1000 := Nat.lt_of_le_of_lt (putF_len _ _ _) (by
  have h1 := putF_len b y (putF a x [])
  have h2 := putF_len a x []
  have e : ([] : List (Str × V)).length = 0 := rfl
  omega)
theorem len_Links___init__ (K : PySem.W.Frag) : ∀ vs H Q E, sp_Links___init__ K vs H Q E → vs.length = (["self", "size"] : List Str).length := by
  rintro vs H Q E ⟨_, _, _, rfl, _⟩
  rfl
theorem rd_Links___init__ (T : Txt K mg) (vs : List V) (H : Hp) (Q : VK) (E : XK) (h : sp_Links___init__ K vs H Q E) : t_Links___init__ K E { nx := fun _ H' => Q .non H', rt := Q } (start ["self", "size"] vs) H := by
  obtain ⟨p, dx, size, rfl, hp, h1, h2⟩ := h
  unfold t_Links___init__
  walk_at "g"
  refine ⟨size, rfl, fun ok => ?_, h2⟩
  have h1 := h1 ok
  obtain ⟨ok1, ok2⟩ := ok
  obtain ⟨n, rfl⟩ : ∃ n : Nat, size = (n : Int) := ⟨size.toNat, by omega⟩
  rw [Int.toNat_natCast] at h1
  walk_at "g"
  refine w_sT T.cl_Links T.na_Links_size hp (by decide) fun H1 k1 p1 => ?_
  walk_at "g"
  refine ⟨.of_le (by omega) (by omega) (by omega) (by omega), nw fun r H2 nr k2 hr => ?_⟩
  walk_at "g"
  have pr : p ≠ r := ne_of_none p1 nr
  refine w_sT T.cl_Links T.na_Links__rights (k2.at0 p1) (pl1 _ _) fun H3 k3 p3 => ?_
  have hr3 := k3.at1 (Ne.symm pr) hr
  walk_at "g"
  refine ⟨sz_ok (by show 1 ≤ 1000000; omega), nw fun z H4 nz k4 hz => ?_⟩
  walk_at "g"
  refine ⟨.of_le (by omega) (by omega) (by omega) (by omega), nw fun l0 H5 nl0 k5 hl0 => ?_⟩
  walk_at "g"
  refine w_addLN (k5.at0 hz) hl0 (by rw [rgV_length]; exact sz_ok (by show 1 + _ ≤ _; omega)) fun l H6 nl k6 hl => ?_
  have k46 := (k4.trans k5).trans k6
  walk_at "g"
  have pl : p ≠ l := ne_of_none (k5.at0 (k4.at0 p3)) nl
  have rl : r ≠ l := ne_of_none (k5.at0 (k4.at0 hr3)) nl
  refine w_sT T.cl_Links T.na_Links__lefts (k46.at0 p3) (pl2 _ _ _ _) fun H7 k7 p7 => ?_
  have hr7 := k7.at1 (Ne.symm pr) (k46.at0 hr3)
  have hl7 := k7.at1 (Ne.symm pl) hl
  walk_at "g"
  refine ⟨sz_ok (by show 1 ≤ 1000000; omega), nw fun z2 H8 nz2 k8 hz2 => ?_⟩
  walk_at "g"
  refine w_mulLN hz2 (by omega) (by omega) (sz_ok (by show 1 * _ ≤ _; omega)) fun o H9 no k9 ho => ?_
  walk_at "g"
  have po : p ≠ o := ne_of_none (k8.at0 p7) no
  have ro : r ≠ o := ne_of_none (k8.at0 hr7) no
  have lo : l ≠ o := ne_of_none (k8.at0 hl7) no
  have k89 := k8.trans k9
  refine w_sT T.cl_Links T.na_Links__out (k89.at0 p7) (pl3 _ _ _ _ _ _) fun Hx kx px => ?_
  have k03 : Kp [p] H H3 := k1.trans (k2.all.trans k3)
  have k07 : Kp [p] H H7 := k03.trans (k46.all.trans k7)
  have k0x : Kp [p] H Hx := k07.trans (k89.all.trans kx)
  have mp : ∀ b, H b = none → H3 b = none → True := fun _ _ _ => trivial
  refine h1 r l o Hx (k1.free (by simpa using Ne.symm pr) nr) ?_ ?_ k0x ⟨⟨dx, px⟩, ?_, ?_, ?_, rl, ro, lo, .whole (by omega)⟩
  · exact (k03.trans (k4.trans k5).all).free (by simpa using Ne.symm pl) nl
  · exact (k07.trans k8.all).free (by simpa using Ne.symm po) no
  · rw [kx.at1 (Ne.symm pr) (k89.at0 hr7), rg_one'] <;> rfl
  · rw [kx.at1 (Ne.symm pl) (k89.at0 hl7), rg_nat'] <;> rfl
  · rw [kx.at1 (Ne.symm po) ho, show ((n : Int) + 2).toNat = n + 2 by omega, rep_flat, ← rep_mapB] <;> rfl
theorem Kp.cut {S S' : List Addr} {H H' : Hp} (k : Kp S H H') (h : ∀ b ∈ S, b ∈ S' ∨ H b = none) : Kp S' H H' := fun b o n e => k b o (fun z => by
  rcases h b z with q | q
  · exact n q
  · rw [q] at e
    cases e) e
theorem Kp.cut1 {H H' : Hp} {p : Addr} (k : Kp [p] H H') (h : H p = none) : Kp [] H H' := k.cut (by simp [h])
theorem at_map {α : Type} {f : α → V} {l : List α} {i : Nat} {x : V} (h : (l.map f)[i]? = some x) : ∃ y, l[i]? = some y ∧ f y = x := by
  rw [List.getElem?_map] at h
  cases e : l[i]? with
  | none => rw [e] at h; cases h
  | some y => rw [e] at h; exact ⟨y, rfl, by injection h⟩
theorem take_snoc {α : Type} {l : List α} {i : Nat} {x : α} (h : l[i]? = some x) : l.take (i + 1) = l.take i ++ [x] := by
  rw [List.take_succ, h] <;> rfl
theorem len_gap_states (K : PySem.W.Frag) : ∀ vs H Q E, sp_gap_states K vs H Q E → vs.length = (["links"] : List Str).length := by
  rintro vs H Q E ⟨_, _, _, _, _, rfl, _⟩
  rfl
theorem rd_gap_states (T : Txt K mg) (vs : List V) (H : Hp) (Q : VK) (E : XK) (h : sp_gap_states K vs H Q E) : t_gap_states K E { nx := fun _ H' => Q .non H', rt := Q } (start ["links", "gap"] vs) H := by
  obtain ⟨p, r, l, o, s, rfl, a, g⟩ := h
  unfold t_gap_states
  walk_at "g"
  refine w_fS T.cl_Links T.na_Links_size a ?_
  walk_at "g"
  have n60 := a.wf.n60
  refine w_r1 (by omega) ?_
  rw [show ((s.n : Int) + 1).toNat = s.n + 1 by omega]
  refine cp_rng (fun i => (List.range i).map fun (v : Nat) => V.str (stT s v)) (fun i hi => sz_lt (by rw [List.length_map, List.length_range]; omega)) rfl ?_ (fun D H' n k h => g D H' n k h)
  intro i H' S N hi k y nn
  walk_at "g"
  refine ⟨rfl, ?_⟩
  walk_at "g"
  rw [Int.zero_add]
  refine ⟨p, r, l, o, s, (i : Int), rfl, a.k0 k, fun _ => ?_, fun bad => absurd ⟨by omega, by omega⟩ bad⟩
  refine y _ _ (Kp.refl _ _) ?_
  rw [List.range_succ, List.map_append, Int.toNat_natCast] <;> rfl
theorem len_lost_gaps (K : PySem.W.Frag) : ∀ vs H Q E, sp_lost_gaps K vs H Q E → vs.length = (["links"] : List Str).length := by
  rintro vs H Q E ⟨_, _, _, _, _, rfl, _⟩
  rfl
theorem rd_lost_gaps (T : Txt K mg) (vs : List V) (H : Hp) (Q : VK) (E : XK) (h : sp_lost_gaps K vs H Q E) : t_lost_gaps K E { nx := fun _ H' => Q .non H', rt := Q } (start ["links", "gap", "state"] vs) H := by
  obtain ⟨p, r, l, o, s, rfl, a, g⟩ := h
  unfold t_lost_gaps
  walk_at "g"
  refine ⟨p, r, l, o, s, rfl, a, fun q H1 nq k1 hq => ?_⟩
  walk_at "g"
  have n60 := a.wf.n60
  have lenq : ((List.range (s.n + 1)).map fun (v : Nat) => V.str (stT s v)).length = s.n + 1 := by rw [List.length_map, List.length_range]
  refine ⟨q, _, rfl, SqL.of hq, cp_enum (SqL.of hq) (fun i => ((List.range i).filter fun v => decide (stT s v = "lost")).map fun (v : Nat) => V.int (v : Int)) (fun i hi => ?_) rfl ?_ ?_⟩
  · rw [lenq] at hi
    refine sz_lt ?_
    rw [List.length_map]
    have := List.length_filter_le (fun v => decide (stT s v = "lost")) (List.range i)
    rw [List.length_range] at this
    omega
  · intro i x Tq H' S N hx k nT yes no
    obtain ⟨v, hv, rfl⟩ := at_map hx
    have hv' : i = v := by
      have := (List.getElem?_eq_some_iff.mp hv).2
      simpa using this
    subst hv'
    have kT : Kp [] H' (upd H' Tq (.tup [.int (i : Int), .str (stT s i)])) := Kp.new nT
    walk_at "g"
    refine ⟨rfl, ?_⟩
    walk_at "g"
    refine w_iteD (fun c => ?_) (fun c => ?_)
    · walk_at "g"
      refine yes _ _ kT ?_
      rw [List.range_succ, List.filter_append, List.map_append, List.filter_cons_of_pos (by rw [decide_eq_true c])] <;> rfl
    · refine no _ kT ?_
      rw [List.range_succ, List.filter_append, List.map_append, List.filter_cons_of_neg (by rw [decide_eq_false c]; exact Bool.false_ne_true), List.filter_nil, List.map_nil, List.append_nil]
  · intro D H' nD k hD
    rw [lenq] at hD
    exact g D H' (k1.free0 nD) (k1.trans k) hD
theorem w_xat {σ : L2.St} {H : Hp} {Q : VK} {D dd a : Addr} {fs : List (Str × V)} {v : V} {f : Str} {te : TE} (hv : ∀ Q, Q (.ref a) H → te σ H Q) (hd : H dd = some (.xd fs)) (ex : ExK K D) (hf : PySem.W.findIn K (.ref D) f = some none) (hl : fs.lookup f = some v) (g : Q v H) : tXat K a (.ref D) (some dd) f te σ H Q := hv _ ⟨D, dd, fs, v, rfl, rfl, hd, ex, rfl, hf, hl, g⟩
theorem lk1 (f : Str) (v : V) (r : List (Str × V)) : ((f, v) :: r).lookup f = some v := by
  simp [List.lookup]
theorem w_sadd {w : World} {to : TE} {t : TA} {σ : L2.St} {H : Hp} {Q : VK} (g : to σ H fun x H1 => (∃ a S n, x = V.ref a ∧ H1 a = some (SetO w a S n)) ∧ t σ H1 fun xs H2 => rSAdd w x xs H2 Q) : tSAdd w to t σ H Q := g
theorem inS2 (x a b : Str) : inV (.str x) [.str a, .str b] = (decide (x = a) || decide (x = b)) := by
  show ((eqV (.str a) (.str x)) || ((eqV (.str b) (.str x)) || false)) = _
  have e : ∀ a b : Str, eqV (.str a) (.str b) = decide (b = a) := fun a b => by
    show (a == b) = _
    rw [Bool.eq_iff_iff, beq_iff_eq, decide_eq_true_iff]
    exact eq_comm
  rw [e, e, Bool.or_false]
theorem scan_ok {m : Nat} (h : m ≤ 100) : m + 1 < scanBound := Nat.lt_of_le_of_lt (Nat.succ_le_succ h) (by decide)
theorem len_sole_holders (K : PySem.W.Frag) : ∀ vs H Q E, sp_sole_holders K vs H Q E → vs.length = (["links"] : List Str).length := by
  rintro vs H Q E ⟨_, _, _, _, _, rfl, _⟩
  rfl
theorem rd_sole_holders (w : World) (T : Txt K mg) (vs : List V) (H : Hp) (Q : VK) (E : XK) (h : sp_sole_holders K vs H Q E) : t_sole_holders K w E { nx := fun _ H' => Q .non H', rt := Q } (start ["links", "holders", "gap", "state"] vs) H := by
  obtain ⟨p, r, l, o, s, rfl, a, g⟩ := h
  unfold t_sole_holders
  have wf := a.wf
  have n60 := wf.n60
  walk_at "g"
  refine ⟨rfl, fun q nq => ?_⟩
  have k1 : Kp [] H (upd H q (SetO w q (fun _ => false) 0)) := Kp.new nq
  have hq : (upd H q (SetO w q (fun _ => false) 0)) q = some (SetO w q (fun _ => false) 0) := upd_same
  generalize upd H q (SetO w q (fun _ => false) 0) = H1 at k1 hq ⊢
  walk_at "g"
  refine ⟨p, r, l, o, s, rfl, a.k0 k1, fun u H2 nu k2 hu => ?_⟩
  walk_at "g"
  have qu : q ≠ u := ne_of_none hq nu
  have lenu : ((List.range (s.n + 1)).map fun (v : Nat) => V.str (stT s v)).length = s.n + 1 := by rw [List.length_map, List.length_range]
  have S0 : holdB s 0 = fun _ => false := rfl
  rw [← S0] at hq
  refine ⟨u, _, rfl, SqL.of hu, lp_enum (xs := (List.range (s.n + 1)).map fun (v : Nat) => V.str (stT s v)) (fun i σ H' => (∃ x2 x3, σ = [some (.ref p), some (.ref q), x2, x3]) ∧ Kp [q] H2 H' ∧ ∃ m, H' q = some (SetO w q (holdB s i) m) ∧ m ≤ i) ⟨⟨_, _, rfl⟩, Kp.refl _ _, 0, k2.at0 hq, Nat.le_refl _⟩ ?_ ?_ ?_⟩
  · rintro i σ' H' hi ⟨_, k, _⟩
    exact SqL.of (k.at1 (Ne.symm qu) hu)
  · rintro i x T1 σ' H' hx ⟨⟨x2, x3, rfl⟩, k, m, hm, mi⟩ nT
    obtain ⟨v, hv, rfl⟩ := at_map hx
    have hv' : i = v := by
      have := (List.getElem?_eq_some_iff.mp hv).2
      simpa using this
    have hlt : i < s.n + 1 := by
      have := (List.getElem?_eq_some_iff.mp hv).1
      simpa using this
    subst hv'
    have kT : Kp [] H' (upd H' T1 (.tup [.int (i : Int), .str (stT s i)])) := Kp.new nT
    walk_at "g"
    refine ⟨sz_ok (by show 2 ≤ 1000000; omega), nw fun t H3 nt k3 ht => ?_⟩
    refine w_inT (SqT.of ht) rfl rfl ?_
    rw [if_neg Bool.false_ne_true, inS2]
    have hm3 : H3 q = some (SetO w q (holdB s i) m) := k3.at0 (kT.at0 hm)
    have kk : Kp [q] H2 H3 := k.trans (kT.trans k3).all
    have done : ∀ (z : Int) (H4 : Hp), H4 = upd H3 q (SetO w q (fun j => holdB s i j || decide (j = z)) (if holdB s i z = true then m else m + 1)) → (∀ j : Int, holdB s (i + 1) j = (holdB s i j || decide (j = z))) → Kp [q] H2 H4 ∧ ∃ m', H4 q = some (SetO w q (holdB s (i + 1)) m') ∧ m' ≤ i + 1 := by
      intro z H4 e4 eS
      subst e4
      refine ⟨kk.trans (Kp.put (by simp)), (if holdB s i z = true then m else m + 1), ?_, ?_⟩
      · rw [upd_same]
        congr 2
        funext j
        exact (eS j).symm
      · split <;> omega
    walk_at "g"
    rcases st_cases s i with ⟨y1, y2, y3⟩ | ⟨y1, y2, y3⟩ | ⟨y1, y2, y3⟩ | ⟨y1, y2, y3⟩
    · rw [y3]
      refine w_tF (A := _) ?_
      walk_at "g"
      refine ⟨⟨_, _, rfl⟩, kk, m, ?_, by omega⟩
      rw [hm3]
      congr 2
      funext j
      rw [holdB_snoc, y3]
      simp [ne_w]
    · rw [y3]
      refine w_tT (B := _) ?_
      walk_at "g"
      refine w_sadd ?_
      walk_at "g"
      refine ⟨⟨q, _, _, rfl, hm3⟩, ?_⟩
      walk_at "g"
      refine w_iteD (fun _ => ?_) (fun z => absurd rfl z)
      walk_at "g"
      refine ⟨q, (i : Int), _, m, rfl, rfl, hm3, scan_ok (by omega), ?_⟩
      obtain ⟨z1, z2⟩ := done i _ rfl fun j => by
        rw [holdB_snoc, y3]
        simp [ne_w]
      exact ⟨⟨_, _, rfl⟩, z1, z2⟩
    · rw [y3]
      refine w_tT (B := _) ?_
      walk_at "g"
      refine w_sadd ?_
      walk_at "g"
      refine ⟨⟨q, _, _, rfl, hm3⟩, ?_⟩
      walk_at "g"
      refine w_iteD (fun z => absurd z (by decide +kernel)) (fun _ => ?_)
      walk_at "g"
      refine ⟨q, (i : Int) + 1, _, m, rfl, rfl, hm3, scan_ok (by omega), ?_⟩
      obtain ⟨z1, z2⟩ := done ((i : Int) + 1) _ rfl fun j => by
        rw [holdB_snoc, y3]
        simp [ne_w]
      exact ⟨⟨_, _, rfl⟩, z1, z2⟩
    · rw [y3]
      refine w_tF (A := _) ?_
      walk_at "g"
      refine ⟨⟨_, _, rfl⟩, kk, m, ?_, by omega⟩
      rw [hm3]
      congr 2
      funext j
      rw [holdB_snoc, y3]
      simp [ne_w]
  · rintro σ' H' ⟨⟨x2, x3, rfl⟩, k, m, hm, mi⟩
    rw [lenu] at hm mi
    walk_at "g"
    refine ⟨q, _, m, rfl, hm, by omega, fun ns d so mem ln nd => ?_⟩
    have e : ns = aloneL s := sorted_ext so (alone_sorted s) fun x => by rw [mem, holdB_all wf]
    subst e
    have kH : Kp [] H H' := ((k1.trans k2).all.trans k).cut1 nq
    exact g d _ (kH.free0 nd) (kH.trans (Kp.new nd)) upd_same
theorem len_is_positive (K : PySem.W.Frag) : ∀ vs H Q E, sp_is_positive K vs H Q E → vs.length = (["word"] : List Str).length := by
  rintro vs H Q E ⟨_, rfl, _⟩
  rfl
theorem rd_is_positive (T : Txt K mg) (vs : List V) (H : Hp) (Q : VK) (E : XK) (h : sp_is_positive K vs H Q E) : t_is_positive K E { nx := fun _ H' => Q .non H', rt := Q } (start ["word", "letter"] vs) H := by
  obtain ⟨i, rfl, h1, h2, g⟩ := h
  unfold t_is_positive
  have l1 := numI_pos (i := i) (by omega)
  have l9 := numI_len (i := i) (by omega) h2
  have lz : (numI i).length ≤ sizeLine := sz_ok (by omega)
  walk_at "g"
  refine w_lenS lz ?_
  walk_at "g"
  refine w_iteD (fun _ => ?_) (fun c => absurd (by omega) c)
  walk_at "g"
  refine w_iteD (fun _ => ?_) (fun c => absurd (by omega) c)
  walk_at "g"
  have e : (numI i).cps.toList = TL.numL i.toNat := tl_numI (by omega)
  obtain ⟨c, r, ec⟩ : ∃ c r, TL.numL i.toNat = c :: r := by
    cases q : TL.numL i.toNat with
    | nil => exact absurd q (TL.numL_ne _)
    | cons c r => exact ⟨c, r, rfl⟩
  have hc := numL_head i.toNat (by omega) c r ec
  refine w_ixS (c := c) lz (by rw [e, ec, atI_pos (by omega) (by simp)] <;> rfl) ?_
  walk_at "g"
  refine w_iteN (fun _ => ?_) (fun z => ?_)
  · walk_at "g"
    refine ⟨_, rfl, cp_str (x := numI i) (fun j => List.replicate j (V.bl true)) (fun j hj => sz_lt (by rw [List.length_replicate]; have : (numI i).cps.size = (numI i).length := rfl; omega)) rfl (fun j c H' S N hc k y _ => ?_) (fun D H' nD k hD => ?_)⟩
    · walk_at "g"
      refine ⟨rfl, ?_⟩
      walk_at "g"
      refine w_inS ?_
      have m : c ∈ (numI i).cps.toList := by
        rw [Array.getElem?_eq_some_iff] at hc
        obtain ⟨hj, rfl⟩ := hc
        exact Array.getElem_mem_toList hj
      have m2 : c ∈ ("0123456789" : Str).cps.toList := numI_digits (by omega) m
      refine y _ _ (Kp.refl _ _) ?_
      rw [rep_snoc, decide_eq_true m2]
    · walk_at "g"
      exact w_allT (SqL.of hD) (g H' k)
  · exfalso
    have z2 : (⟨#[c]⟩ : Str).cps.toList = ("0" : Str).cps.toList := by rw [z]
    have z3 : ("0" : Str).cps.toList = [48] := by decide +kernel
    rw [z3] at z2
    have : c = 48 := by simpa using z2
    exact hc this
theorem len__read_numbers (K : PySem.W.Frag) : ∀ vs H Q E, sp__read_numbers K vs H Q E → vs.length = (["text", "part"] : List Str).length := by
  rintro vs H Q E ⟨_, _, rfl, _⟩
  rfl
theorem rd__read_numbers (T : Txt K mg) (vs : List V) (H : Hp) (Q : VK) (E : XK) (h : sp__read_numbers K vs H Q E) : t__read_numbers K E { nx := fun _ H' => Q .non H', rt := Q } (start ["text", "part", "words", "word"] vs) H := by
  obtain ⟨l, part, rfl, hne, h9, hl, g⟩ := h
  unfold t__read_numbers
  have h0 : ∀ i ∈ l, 0 ≤ i := fun i hi => (h9 i hi).1
  walk_at "g"
  have e1 : (" " : Str) = spS := rfl
  rw [e1]
  refine w_split (by decide +kernel) (by
    have := joinI_len h9
    exact sz_ok (by omega)) fun q H1 nq k1 hq => ?_
  rw [split_joinI hne h0] at hq
  walk_at "g"
  refine w_l1 (SqL.of hq) ?_
  have lq : ((l.map numI).map V.str).length = l.length := by rw [List.length_map, List.length_map]
  refine cp_lst (SqL.of hq) (fun j => List.replicate j (V.bl true)) (fun j hj => sz_lt (by rw [List.length_replicate]; omega)) rfl (fun j x H' S N hx k y _ => ?_) (fun D H2 nD k2 hD => ?_)
  · obtain ⟨w, hw, rfl⟩ := at_map hx
    rw [List.getElem?_map] at hw
    obtain ⟨i, hi, rfl⟩ : ∃ i, l[j]? = some i ∧ numI i = w := by
      cases e : l[j]? with
      | none => rw [e] at hw; cases hw
      | some i => rw [e] at hw; exact ⟨i, rfl, by injection hw⟩
    have hb := h9 i (List.mem_of_getElem? hi)
    walk_at "g"
    refine ⟨rfl, ?_⟩
    walk_at "g"
    refine w_iteD (fun _ => ?_) (fun c => ?_)
    · refine y _ _ (Kp.refl _ _) ?_
      rw [rep_snoc]
    · walk_at "g"
      refine ⟨i, rfl, ?_, hb.2, fun H3 k3 => y _ _ k3 (by rw [rep_snoc])⟩
      apply Classical.byContradiction
      intro z
      have : i = 0 := by omega
      subst this
      exact c zeroS
  · rw [lq] at hD
    walk_at "g"
    refine w_allT (SqL.of hD) ?_
    walk_at "g"
    have hq2 := k2.at0 hq
    refine w_l1 (SqL.of hq2) ?_
    refine cp_lst (SqL.of hq2) (fun j => (l.take j).map V.int) (fun j hj => sz_lt (by rw [List.length_map, List.length_take]; omega)) rfl (fun j x H' S N hx k y _ => ?_) (fun D3 H3 nD3 k3 hD3 => ?_)
    · obtain ⟨w, hw, rfl⟩ := at_map hx
      rw [List.getElem?_map] at hw
      obtain ⟨i, hi, rfl⟩ : ∃ i, l[j]? = some i ∧ numI i = w := by
        cases e : l[j]? with
        | none => rw [e] at hw; cases hw
        | some i => rw [e] at hw; exact ⟨i, rfl, by injection hw⟩
      have hb := h9 i (List.mem_of_getElem? hi)
      walk_at "g"
      refine ⟨rfl, ?_⟩
      walk_at "g"
      refine w_intS (intText_num hb.1 hb.2) (by have := numI_len hb.1 hb.2; omega) ?_
      exact y _ _ (Kp.refl _ _) (map_snoc hi)
    · rw [lq, List.take_length] at hD3
      exact g D3 H3 ((k1.trans k2).free0 nD3) ((k1.trans k2).trans k3) hD3
theorem len_Links_outs (K : PySem.W.Frag) : ∀ vs H Q E, sp_Links_outs K vs H Q E → vs.length = (["self"] : List Str).length := by
  rintro vs H Q E ⟨_, _, _, _, _, rfl, _⟩
  rfl
theorem rd_Links_outs (T : Txt K mg) (vs : List V) (H : Hp) (Q : VK) (E : XK) (h : sp_Links_outs K vs H Q E) : t_Links_outs K E { nx := fun _ H' => Q .non H', rt := Q } (start ["self", "node"] vs) H := by
  obtain ⟨p, r, l, o, s, rfl, a, g⟩ := h
  unfold t_Links_outs
  have n60 := a.wf.n60
  walk_at "g"
  refine w_fS T.cl_Links T.na_Links_size a ?_
  walk_at "g"
  refine w_r2 (by omega) ?_
  rw [show ((s.n : Int) + 1 - 1).toNat = s.n by omega]
  refine cp_rng (fun i => (outN i s.O).map V.int) (fun i hi => sz_lt (by
    rw [List.length_map]
    have := outN_len i s.O
    omega)) rfl (fun i H' S N hi k y no => ?_) (fun D H' nD k hD => g D H' nD k hD)
  walk_at "g"
  refine ⟨rfl, ?_⟩
  walk_at "g"
  refine w_fO T.cl_Links T.na_Links__out (a.k0 k) ?_
  walk_at "g"
  refine w_ixL (SqL.of (k.at0 a.ho)) (at_B (by omega) (by rw [a.wf.lO]; omega)) ?_
  walk_at "g"
  rw [show ((1 : Int) + (i : Int)).toNat = i + 1 by omega]
  refine w_iteB (fun c1 => ?_) (fun c1 => ?_)
  · walk_at "g"
    refine y _ _ (Kp.refl _ _) ?_
    unfold outN
    rw [List.range_succ, List.map_append, List.filter_append, List.map_append, List.map_append]
    congr 1
    show (([i + 1].filter fun v => gB s.O v).map _).map _ = _
    rw [List.filter_cons_of_pos c1]
    show [V.int ((i + 1 : Nat) : Int)] = [V.int (1 + (i : Int))]
    rw [Int.add_comm] <;> rfl
  · refine no _ (Kp.refl _ _) ?_
    unfold outN
    rw [List.range_succ, List.map_append, List.filter_append, List.map_append, List.map_append]
    show _ ++ (([i + 1].filter fun v => gB s.O v).map _).map _ = _
    rw [List.filter_cons_of_neg (by rw [c1]; exact Bool.false_ne_true)]
    exact List.append_nil _
theorem num9_of {l : List Int} (h : ∀ v, v < l.length → 0 ≤ gI l v ∧ gI l v ≤ 100) : Num9 l := by
  intro i hi
  obtain ⟨j, hj⟩ := List.getElem?_of_mem hi
  have := h j (List.getElem?_eq_some_iff.mp hj).1
  rw [gI_of hj] at this
  omega
theorem gI_at' {l : List Int} {j : Nat} {v : Int} (h : l[j]? = some v) : gI l j = v ∧ j < l.length := ⟨gI_of h, (List.getElem?_eq_some_iff.mp h).1⟩
theorem len__read_rights (K : PySem.W.Frag) : ∀ vs H Q E, sp__read_rights K vs H Q E → vs.length = (["text"] : List Str).length := by
  rintro vs H Q E ⟨_, _, rfl, _⟩
  rfl
theorem rd__read_rights (T : Txt K mg) (vs : List V) (H : Hp) (Q : VK) (E : XK) (h : sp__read_rights K vs H Q E) : t__read_rights K E { nx := fun _ H' => Q .non H', rt := Q } (start ["text", "rights", "size", "node", "link"] vs) H := by
  obtain ⟨n, l, rfl, hn, hl, hb, g⟩ := h
  unfold t__read_rights
  have h9 : Num9 l := num9_of fun v hv => by have := hb v (by omega); omega
  walk_at "g"
  refine ⟨l, 0, rfl, (fun z => by rw [z] at hl; simp at hl), h9, by omega, fun a H1 na k1 ha => ?_⟩
  walk_at "g"
  refine w_lenL (SqL.of ha) ?_
  walk_at "g"
  have lm : (l.map V.int).length = n + 1 := by rw [List.length_map, hl]
  rw [lm, show (((n + 1 : Nat) : Int) - 1) = (n : Int) by omega]
  walk_at "g"
  refine w_iteD (fun c => absurd c (by omega)) (fun _ => ?_)
  walk_at "g"
  refine ⟨a, _, rfl, SqL.of ha, cp_enum (SqL.of ha) (fun j => List.replicate j (V.bl true)) (fun j hj => sz_lt (by rw [List.length_replicate]; omega)) rfl (fun i x Tq H' S N hx k nT yes _ => ?_) (fun D H2 nD k2 hD => ?_)⟩
  · obtain ⟨v, hv, rfl⟩ := at_map hx
    obtain ⟨ev, lt⟩ := gI_at' hv
    have b := hb i (by omega)
    rw [ev] at b
    have kT : Kp [] H' (upd H' Tq (.tup [.int (i : Int), .int v])) := Kp.new nT
    walk_at "g"
    refine ⟨rfl, ?_⟩
    walk_at "g"
    refine w_iteD (fun _ => ?_) (fun c => absurd b.1 c)
    walk_at "g"
    refine yes _ _ kT ?_
    rw [rep_snoc, decide_eq_true b.2]
  · rw [lm] at hD
    walk_at "g"
    refine w_allT (SqL.of hD) ?_
    walk_at "g"
    exact g a H2 na (k1.trans k2) (k2.at0 ha)
theorem len__read_lefts (K : PySem.W.Frag) : ∀ vs H Q E, sp__read_lefts K vs H Q E → vs.length = (["text", "size"] : List Str).length := by
  rintro vs H Q E ⟨_, _, rfl, _⟩
  rfl
theorem rd__read_lefts (T : Txt K mg) (vs : List V) (H : Hp) (Q : VK) (E : XK) (h : sp__read_lefts K vs H Q E) : t__read_lefts K E { nx := fun _ H' => Q .non H', rt := Q } (start ["text", "size", "lefts", "place", "link"] vs) H := by
  obtain ⟨n, l, rfl, hn, hl, hb, g⟩ := h
  unfold t__read_lefts
  have h9 : Num9 l := num9_of fun v hv => by have := hb v (by omega); omega
  walk_at "g"
  refine ⟨l, 1, rfl, (fun z => by rw [z] at hl; simp at hl), h9, by omega, fun a H1 na k1 ha => ?_⟩
  walk_at "g"
  refine w_lenL (SqL.of ha) ?_
  walk_at "g"
  have lm : (l.map V.int).length = n + 1 := by rw [List.length_map, hl]
  rw [lm]
  refine w_iteN (fun c => absurd (by omega) c) (fun _ => ?_)
  walk_at "g"
  refine ⟨a, _, rfl, SqL.of ha, cp_enum (SqL.of ha) (fun j => List.replicate j (V.bl true)) (fun j hj => sz_lt (by rw [List.length_replicate]; omega)) rfl (fun i x Tq H' S N hx k nT yes _ => ?_) (fun D H2 nD k2 hD => ?_)⟩
  · obtain ⟨v, hv, rfl⟩ := at_map hx
    obtain ⟨ev, lt⟩ := gI_at' hv
    have b := hb i (by omega)
    rw [ev] at b
    have kT : Kp [] H' (upd H' Tq (.tup [.int (i : Int), .int v])) := Kp.new nT
    walk_at "g"
    refine ⟨rfl, ?_⟩
    walk_at "g"
    refine yes _ _ kT ?_
    rw [rep_snoc, decide_eq_true b.2]
  · rw [lm] at hD
    walk_at "g"
    refine w_allT (SqL.of hD) ?_
    walk_at "g"
    exact g a H2 na (k1.trans k2) (k2.at0 ha)
theorem outN_sorted (n : Nat) (O : List Bool) : (outN n O).Pairwise (· < ·) := by
  unfold outN
  refine List.Pairwise.map (R := fun a b : Nat => a < b) _ (fun a b h => ?_) (List.Pairwise.filter (R := fun a b : Nat => a < b) _ (List.Pairwise.map (R := fun a b : Nat => a < b) (S := fun a b : Nat => a < b) _ (fun a b h => ?_) (List.pairwise_lt_range (n := n))))
  · exact Int.ofNat_lt.mpr h
  · exact Nat.succ_lt_succ h
theorem bounds_sorted (n : Nat) (O : List Bool) : ([0] ++ outN n O ++ [(n : Int) + 1]).Pairwise (· < ·) := by
  refine List.pairwise_append.mpr ⟨List.pairwise_append.mpr ⟨List.pairwise_singleton _ _, outN_sorted n O, fun a ha b hb => ?_⟩, List.pairwise_singleton _ _, fun a ha b hb => ?_⟩
  · have := outN_bd hb
    rw [List.mem_singleton] at ha
    omega
  · rw [List.mem_singleton] at hb
    rcases List.mem_append.mp ha with ha | ha
    · rw [List.mem_singleton] at ha
      omega
    · have := outN_bd ha
      omega
theorem outN_9 {n : Nat} (h : n ≤ 60) (O : List Bool) : Num9 (outN n O) := fun i hi => by
  have := outN_bd hi
  omega
theorem len__read_outs (K : PySem.W.Frag) : ∀ vs H Q E, sp__read_outs K vs H Q E → vs.length = (["text", "size"] : List Str).length := by
  rintro vs H Q E ⟨_, _, rfl, _⟩
  rfl
theorem rd__read_outs (T : Txt K mg) (vs : List V) (H : Hp) (Q : VK) (E : XK) (h : sp__read_outs K vs H Q E) : t__read_outs K E { nx := fun _ H' => Q .non H', rt := Q } (start ["text", "size", "outs", "bounds", "low", "high"] vs) H := by
  obtain ⟨n, O, rfl, hn, g⟩ := h
  unfold t__read_outs
  by_cases e : outN n O = []
  · rw [e] at g ⊢
    have eo : outsT [] = ("none" : Str) := if_pos rfl
    rw [eo]
    walk_at "g"
    refine w_iteD (fun _ => ?_) (fun c => absurd rfl c)
    walk_at "g"
    refine ⟨sz_ok (Nat.zero_le _), nw fun q H1 nq k1 hq => ?_⟩
    exact g q H1 nq k1 hq
  · have eo : outsT (outN n O) = joinI (outN n O) := if_neg e
    have h9 := outN_9 hn O
    have ol := outN_len n O
    rw [eo]
    walk_at "g"
    refine w_iteD (fun c => absurd c (joinI_ne_none e fun i hi => (h9 i hi).1)) (fun _ => ?_)
    walk_at "g"
    refine ⟨outN n O, 2, rfl, e, h9, by omega, fun a H1 na k1 ha => ?_⟩
    walk_at "g"
    refine ⟨sz_ok (by show 1 ≤ 1000000; omega), nw fun z H2 nz k2 hz => ?_⟩
    walk_at "g"
    refine w_addLN hz (k2.at0 ha) (sz_ok (by rw [List.length_map]; show 1 + _ ≤ _; omega)) fun b H3 nb k3 hb => ?_
    walk_at "g"
    refine ⟨sz_ok (by show 1 ≤ 1000000; omega), nw fun z2 H4 nz2 k4 hz2 => ?_⟩
    walk_at "g"
    refine w_addLN (k4.at0 hb) hz2 (sz_ok (by rw [List.length_append, List.length_map]; show 1 + _ + 1 ≤ _; omega)) fun c H5 nc k5 hc => ?_
    have hc' : H5 c = some (.lst (([0] ++ outN n O ++ [(n : Int) + 1]).map V.int)) := by
      rw [hc, List.map_append, List.map_append] <;> rfl
    have so := bounds_sorted n O
    generalize eB : ([0] ++ outN n O ++ [(n : Int) + 1]) = B at hc' so
    have lB : B.length = (outN n O).length + 2 := by
      rw [← eB, List.length_append, List.length_append]
      show 1 + _ + 1 = _
      omega
    have a5 := ((k2.trans k3).trans (k4.trans k5)).at0 ha
    have k15 := (k1.trans ((k2.trans k3).trans (k4.trans k5)))
    walk_at "g"
    refine w_slL (SqL.of hc') fun d H6 nd k6 hd => ?_
    have e1 : cutV (B.map V.int) (some 1) none = (B.map V.int).drop 1 := cut_drop _ 1 (by rw [List.length_map]; omega)
    rw [e1, ← List.map_drop] at hd
    walk_at "g"
    refine ⟨c, d, _, _, rfl, SqL.of (k6.at0 hc'), SqL.of hd, cp_zip (SqL.of (k6.at0 hc')) (SqL.of hd) (by rw [List.length_map, List.length_map, List.length_drop]; omega) (fun j => List.replicate j (V.bl true)) (fun j hj => sz_lt (by rw [List.length_map, List.length_drop] at hj; rw [List.length_replicate]; omega)) rfl (fun i x y Tq H' S N hx hy k nT yes _ => ?_) (fun D H7 nD k7 hD => ?_)⟩
    · obtain ⟨v, hv, rfl⟩ := at_map hx
      obtain ⟨u, hu, rfl⟩ := at_map hy
      rw [List.getElem?_drop] at hu
      have lt : v < u := by
        obtain ⟨h1, e1⟩ := List.getElem?_eq_some_iff.mp hv
        obtain ⟨h2, e2⟩ := List.getElem?_eq_some_iff.mp hu
        have := List.pairwise_iff_getElem.mp so i (1 + i) h1 h2 (by omega)
        rw [e1, e2] at this
        exact this
      have kT : Kp [] H' (upd H' Tq (.tup [.int v, .int u])) := Kp.new nT
      walk_at "g"
      refine ⟨rfl, ?_⟩
      walk_at "g"
      refine yes _ _ kT ?_
      rw [rep_snoc, decide_eq_true lt]
    · walk_at "g"
      refine w_allT (SqL.of hD) ?_
      walk_at "g"
      exact g a H7 na ((k15.trans k6).trans k7) (k7.at0 (k6.at0 a5))
theorem log_ok {i : Int} (h : 0 ≤ i) (h2 : i < 1000000000) : i.natAbs.log2 < 1920 := by
  by_cases z : i.natAbs = 0
  · rw [z]
    decide
  · rw [Nat.log2_lt z]
    exact Nat.lt_of_lt_of_le (show i.natAbs < 2 ^ 30 by omega) (Nat.pow_le_pow_right (by decide) (by decide))
theorem outsT_len {l : List Int} (h : Num9 l) : (outsT l).length ≤ 10 * l.length + 4 := by
  unfold outsT
  split
  · have : noneS.length = 4 := by decide +kernel
    omega
  · have := joinI_len h
    omega
theorem Wf.R9 {s : Sd} (w : Wf s) : Num9 s.R ∧ s.R.length ≤ 100 := by
  have n60 := w.n60
  have lR := w.lR
  refine ⟨num9_of fun v hv => ?_, by omega⟩
  have := w.rb v (by omega)
  omega
theorem Wf.L9 {s : Sd} (w : Wf s) : Num9 (s.L.drop 1) ∧ (s.L.drop 1).length ≤ 100 := by
  have n60 := w.n60
  have lL := w.lL
  have ll : (s.L.drop 1).length = s.n + 1 := by rw [List.length_drop]; omega
  refine ⟨num9_of fun v hv => ?_, by omega⟩
  have e : gI (s.L.drop 1) v = gI s.L (v + 1) := by
    unfold gI
    rw [List.getD_eq_getElem?_getD, List.getD_eq_getElem?_getD, List.getElem?_drop, Nat.add_comm]
  have := w.lb (v + 1) (by omega) (by omega)
  rw [e]
  omega
theorem split_dump {s : Sd} (w : Wf s) : Txt.split (dumpS s) barS = [joinI s.R, joinI (s.L.drop 1), outsT (outN s.n s.O)] := by
  refine split_bar (good_joinI ?_ fun i hi => (w.R9.1 i hi).1) (good_joinI ?_ fun i hi => (w.L9.1 i hi).1) ?_
  · intro z
    have := w.lR
    rw [z] at this
    simp at this
  · intro z
    have := w.lL
    have := congrArg List.length z
    rw [List.length_drop] at this
    simp at this
    omega
  · unfold outsT
    split
    · exact good_none
    · rename_i h
      exact good_joinI h fun i hi => (outN_9 w.n60 s.O i hi).1
theorem dump_len {s : Sd} (w : Wf s) : (dumpS s).length + 2 ≤ sizeLine := by
  have h1 := joinI_len w.R9.1
  have h2 := joinI_len w.L9.1
  have h3 := outsT_len (outN_9 w.n60 s.O)
  have h4 := w.R9.2
  have h5 := w.L9.2
  have h6 := outN_len s.n s.O
  have h7 := w.n60
  unfold dumpS
  rw [TL.len_tl, TL.join_eq, TL.tl_join, tl_barS]
  refine sz_ok ?_
  have := joinL_len [32, 124, 32] [TL.tl (joinI s.R), TL.tl (joinI (s.L.drop 1)), TL.tl (outsT (outN s.n s.O))]
  rw [TL.len_tl] at h1 h2 h3
  simp only [List.map_cons, List.map_nil, List.sum_cons, List.sum_nil, List.length_cons, List.length_nil] at this ⊢
  omega
theorem gB_ext {a b : List Bool} (hl : a.length = b.length) (h : ∀ v, v < a.length → gB a v = gB b v) : a = b := by
  refine List.ext_getElem hl fun i h1 h2 => ?_
  have := h i h1
  unfold gB at this
  rw [List.getD_eq_getElem?_getD, List.getD_eq_getElem?_getD, List.getElem?_eq_getElem h1, List.getElem?_eq_getElem h2] at this
  exact this
theorem mem_outN {n : Nat} {O : List Bool} {v : Nat} (h1 : 1 ≤ v) (h2 : v ≤ n) : ((v : Int) ∈ outN n O) ↔ gB O v = true := by
  constructor
  · intro h
    have := (outN_bd h).2.2
    rwa [Int.toNat_natCast] at this
  · intro h
    unfold outN
    refine List.mem_map.mpr ⟨v, List.mem_filter.mpr ⟨List.mem_map.mpr ⟨v - 1, List.mem_range.mpr (by omega), by omega⟩, h⟩, rfl⟩
theorem len_Links_read (K : PySem.W.Frag) : ∀ vs H Q E, sp_Links_read K vs H Q E → vs.length = (["text"] : List Str).length := by
  rintro vs H Q E ⟨_, rfl, _⟩
  rfl
theorem rd_Links_read (T : Txt K mg) (vs : List V) (H : Hp) (Q : VK) (E : XK) (h : sp_Links_read K vs H Q E) : t_Links_read K E { nx := fun _ H' => Q .non H', rt := Q } (start ["text", "parts", "rights", "lefts", "outs", "right_links", "links", "node"] vs) H := by
  obtain ⟨s, rfl, w, d, g⟩ := h
  unfold t_Links_read
  have n60 := w.n60
  have lR := w.lR
  have lL := w.lL
  have lO := w.lO
  have e1 : (" | " : Str) = barS := rfl
  rw [e1]
  walk_at "g"
  refine w_split (by decide +kernel) (dump_len w) fun q H1 nq k1 hq => ?_
  rw [split_dump w] at hq
  walk_at "g"
  refine ⟨sz_ok (by show 2 ≤ 1000000; omega), nw fun z H2 nz k2 hz => ?_⟩
  walk_at "g"
  refine w_addLN (k2.at0 hq) hz (sz_ok (by show 3 + 2 ≤ 1000000; omega)) fun z3 H3 nz3 k3 hz3 => ?_
  walk_at "g"
  refine w_slL (SqL.of hz3) fun z4 H4 nz4 k4 hz4 => ?_
  have hz4' : H4 z4 = some (.lst [.str (joinI s.R), .str (joinI (s.L.drop 1)), .str (outsT (outN s.n s.O))]) := hz4
  walk_at "g"
  refine w_gu (SqL.of hz4') rfl ?_
  walk_at "g"
  have k14 := (k1.trans k2).trans (k3.trans k4)
  refine ⟨s.n, s.R, rfl, n60, lR, w.rb, fun rr H5 nrr k5 hrr => ?_⟩
  walk_at "g"
  refine w_lenL (SqL.of hrr) ?_
  walk_at "g"
  rw [show (s.R.map V.int).length = s.n + 1 by rw [List.length_map, lR], show (((s.n + 1 : Nat) : Int) - 1) = (s.n : Int) by omega]
  refine mk fun x dx H6 nx hx k6 => ?_
  refine ⟨x, dx, s.n, rfl, hx, fun ok r0 l0 o H7 nr0 nl0 no k7 b => ⟨rfl, ?_⟩, fun zz => absurd ⟨by omega, by omega⟩ zz⟩
  rw [Int.toNat_natCast] at b
  have k57 : Kp [] H5 H7 := (k6.all.trans k7).cut1 nx
  have hrr7 := k57.at0 hrr
  obtain ⟨dx7, ob7⟩ := b.ob
  have xrr : x ≠ rr := (ne_of_none hrr nx).symm
  walk_at "g"
  refine w_sT T.cl_Links T.na_Links__rights ob7 (fl_len _ _ _ _) fun H8 k8 p8 => ?_
  rw [fl_putR] at p8
  walk_at "g"
  refine ⟨sz_ok (by show 1 ≤ 1000000; omega), nw fun z9 H9 nz9 k9 hz9 => ?_⟩
  walk_at "g"
  refine ⟨x, _, dx7, _, _, rfl, k9.at0 p8, T.cl_Links, T.na_Links_size, fl_size _ _ _ _, ?_⟩
  walk_at "g"
  have p9 := k9.at0 p8
  refine ⟨s.n, s.L.drop 1, rfl, n60, by rw [List.length_drop]; omega, fun v hv => ?_, fun la Ha nla ka hla => ?_⟩
  · have e : gI (s.L.drop 1) v = gI s.L (v + 1) := by
      unfold gI
      rw [List.getD_eq_getElem?_getD, List.getD_eq_getElem?_getD, List.getElem?_drop, Nat.add_comm]
    have := w.lb (v + 1) (by omega) (by omega)
    rw [e]
    omega
  walk_at "g"
  refine w_addLN (ka.at0 hz9) hla (sz_ok (by rw [List.length_map, List.length_drop]; show 1 + _ ≤ _; omega)) fun lb Hb nlb kb hlb => ?_
  obtain ⟨t, eL⟩ := d.l0
  have hlb' : Hb lb = some (.lst (s.L.map V.int)) := by
    rw [hlb, eL] <;> rfl
  walk_at "g"
  have pb := kb.at0 (ka.at0 p9)
  have xlb : x ≠ lb := ne_of_none (ka.at0 p9) nlb
  refine w_sT T.cl_Links T.na_Links__lefts pb (fl_len _ _ _ _) fun Hc kc pc => ?_
  rw [fl_putL] at pc
  have k7b : Kp [x] H7 Hb := k8.trans ((k9.trans (ka.trans kb)).all)
  have k7c : Kp [x] H7 Hc := k7b.trans kc
  obtain ⟨bpr, bpl, bpo⟩ := b.pr
  have hrc : Hc rr = some (.lst (s.R.map V.int)) := k7c.at1 (Ne.symm xrr) hrr7
  have hlc : Hc lb = some (.lst (s.L.map V.int)) := kc.at1 (Ne.symm xlb) hlb'
  have hoc : Hc o = some (.lst ((List.replicate (s.n + 2) false).map V.bl)) := k7c.at1 (Ne.symm bpo) b.ho
  have hqc : Hc q = some (.lst ([joinI s.R, joinI (s.L.drop 1), outsT (outN s.n s.O)].map V.str)) := by
    have h5 : H5 q = _ := k5.at0 ((k2.trans (k3.trans k4)).at0 hq)
    exact k7c.at1 (ne_of_none h5 nx) (k57.at0 h5)
  walk_at "g"
  refine ⟨x, _, dx7, _, _, rfl, pc, T.cl_Links, T.na_Links_size, fl_size _ _ _ _, ?_⟩
  walk_at "g"
  refine ⟨s.n, s.O, rfl, n60, fun u Hd nu kd hu => ?_⟩
  walk_at "g"
  have k1c : Kp [] H Hc := ((k14.trans k5).trans k57).all.trans k7c |>.cut1 ((k14.trans k5).free0 nx)
  have fo : Hc o ≠ none := by rw [hoc]; simp
  have ou : o ≠ u := ne_of_none hoc nu
  have xu : x ≠ u := ne_of_none pc nu
  have nol : lb ≠ o := by
    intro z
    rw [z] at nlb
    have h8 : H8 o = _ := k8.at1 (Ne.symm bpo) b.ho
    rw [ka.at0 (k9.at0 h8)] at nlb
    cases nlb
  have nor : rr ≠ o := by
    intro z
    rw [z] at hrr
    rw [k6.at0 hrr] at no
    cases no
  have noq : q ≠ o := by
    intro z
    have h5 : H5 q = _ := k5.at0 ((k2.trans (k3.trans k4)).at0 hq)
    rw [z] at h5
    rw [k6.at0 h5] at no
    cases no
  refine w_l1 (SqL.of hu) ?_
  refine lp_lst (xs := (outN s.n s.O).map V.int) (fun i σ H' => (∃ y, σ = [some (.str (dumpS s)), some (.ref q), some (.str (joinI s.R)), some (.str (joinI (s.L.drop 1))), some (.str (outsT (outN s.n s.O))), some (.ref rr), some (.ref x), y]) ∧ Kp [o] Hd H' ∧
    ∃ fl : List Bool, H' o = some (.lst (fl.map V.bl)) ∧ fl.length = s.n + 2 ∧ ∀ v : Nat, gB fl v = decide ((v : Int) ∈ (outN s.n s.O).take i)) ⟨⟨_, rfl⟩, Kp.refl _ _, _, kd.at0 hoc, List.length_replicate, fun v => ?_⟩ ?_ ?_ ?_
  · rw [List.take_zero, decide_eq_false (by simp)]
    unfold gB
    rw [List.getD_eq_getElem?_getD]
    by_cases h : v < s.n + 2
    · rw [List.getElem?_replicate_of_lt h] <;> rfl
    · rw [List.getElem?_eq_none (by rw [List.length_replicate]; omega)] <;> rfl
  · rintro i σ' H' hi ⟨_, k, _⟩
    exact SqL.of (k.at1 (Ne.symm ou) hu)
  · rintro i v σ' H' hv ⟨⟨y, rfl⟩, k, fl, hf, hl, hfl⟩
    obtain ⟨nd, hnd, rfl⟩ := at_map hv
    have bd := outN_bd (List.mem_of_getElem? hnd)
    walk_at "g"
    refine ⟨x, _, dx7, _, _, rfl, k.at1 (by rintro rfl; exact bpo rfl) (kd.at0 pc), T.cl_Links, T.na_Links__out, fl_O _ _ _ _, ?_⟩
    walk_at "g"
    refine w_seT hf (ixN_pos (by omega) (by rw [List.length_map, hl]; omega)) fun He ke he => ?_
    rw [set_B] at he
    refine ⟨⟨_, rfl⟩, k.trans ke, _, he, by rw [List.length_set, hl], fun u => ?_⟩
    rw [gB_set (by rw [hl]; omega), take_snoc hnd]
    by_cases c : u = nd.toNat
    · rw [if_pos c]
      symm
      refine decide_eq_true (List.mem_append.mpr (.inr (List.mem_singleton.mpr (by omega))))
    · rw [if_neg c, hfl u]
      refine decide_eq_decide.mpr ⟨fun h => List.mem_append.mpr (.inl h), fun h => ?_⟩
      rcases List.mem_append.mp h with h | h
      · exact h
      · rw [List.mem_singleton] at h
        omega
  · rintro σ' H' ⟨⟨y, rfl⟩, k, fl, hf, hl, hfl⟩
    rw [List.length_map, List.take_length] at hfl
    have eO : fl = s.O := by
      refine gB_ext (by rw [hl, lO]) fun v hv => ?_
      rw [hfl v]
      by_cases v0 : v = 0
      · subst v0
        rw [d.o0]
        exact decide_eq_false fun z => by have := outN_bd z; omega
      by_cases v1 : v = s.n + 1
      · subst v1
        rw [d.o1]
        exact decide_eq_false fun z => by have := outN_bd z; omega
      have := mem_outN (n := s.n) (O := s.O) (v := v) (by omega) (by omega)
      by_cases c : gB s.O v = true
      · rw [c]
        exact decide_eq_true (this.mpr c)
      · rw [Bool.not_eq_true] at c
        rw [c]
        exact decide_eq_false fun z => by rw [this.mp z] at c; cases c
    subst eO
    walk_at "g"
    refine w_lenL (SqL.of (k.at1 noq (kd.at0 hqc))) ?_
    walk_at "g"
    refine w_iteD (fun c => absurd c (by rw [List.length_map]; show ¬ (3 : Int) < ((3 : Nat) : Int); omega)) (fun _ => ?_)
    walk_at "g"
    have fo' : H o = none := ((k14.trans k5).trans k6).free0 no
    have kH : Kp [] H H' := ((k1c.trans kd).all.trans k).cut1 fo'
    have hra : Ha rr = some (.lst (s.R.map V.int)) := ka.at0 (k9.at0 (k8.at1 (Ne.symm xrr) hrr7))
    have k7a : Kp [x] H Ha := (((k14.trans k5).trans k57).all.trans k8).trans (k9.trans ka).all
    refine g x rr lb o H' ((k14.trans k5).free0 nx) (k14.free0 nrr) (k7a.free (by simpa using Ne.symm xlb) nlb) fo' kH ⟨⟨dx7, k.at1 (by rintro rfl; exact bpo rfl) (kd.at0 pc)⟩, k.at1 nor (kd.at0 hrc), k.at1 nol (kd.at0 hlc), hf, ne_of_none hra nlb, nor, nol, w⟩
theorem cmulR {i j : Int} (h1 : -(2 ^ 64) < j) (h2 : j < 2 ^ 64) : CMul i j := .inr ⟨h1, h2⟩
theorem len__law_bag (K : PySem.W.Frag) : ∀ vs H Q E, sp21__law_bag K vs H Q E → vs.length = (["script"] : List Str).length := by
  rintro vs H Q E ⟨_, _, rfl, _⟩
  rfl
theorem rd__law_bag (T : Txt K mg) (vs : List V) (H : Hp) (Q : VK) (E : XK) (h : sp21__law_bag K vs H Q E) : t__law_bag K E { nx := fun _ H' => Q .non H', rt := Q } (start ["script"] vs) H := by
  obtain ⟨a, ns, rfl, hs, hl, g⟩ := h
  unfold t__law_bag
  have e63 : cutV (ns.map V.int) none (some 63) = ns.map V.int := by
    unfold cutV
    have : HT.sIx (ns.map V.int).length (ns.map V.int).length (some 63) = (ns.map V.int).length := by
      rw [show (63 : Int) = ((63 : Nat) : Int) from rfl, HT.sIx_nat]
      rw [List.length_map]
      omega
    rw [this, HT.sIx_none, List.drop_zero, Nat.sub_zero, List.take_length]
  walk_at "g"
  refine w_slL hs fun q H1 nq k1 hq => ?_
  rw [e63] at hq
  walk_at "g"
  refine ⟨sz_ok (by show 5 ≤ 1000000; omega), nw fun b H2 nb k2 hb => ?_⟩
  exact g b q H2 (k1.free0 nb) nq (k1.trans k2) ⟨⟨_, _, _, _, hb, by omega⟩, ns, k2.at0 hq, hl⟩
theorem len__law_operation (K : PySem.W.Frag) : ∀ vs H Q E, sp__law_operation K vs H Q E → vs.length = (["book", "node"] : List Str).length := by
  rintro vs H Q E ⟨_, _, _, _, _, _, rfl, _⟩
  rfl
theorem rd__law_operation (T : Txt K mg) (vs : List V) (H : Hp) (Q : VK) (E : XK) (h : sp__law_operation K vs H Q E) : t__law_operation K E { nx := fun _ H' => Q .non H', rt := Q } (start ["book", "node"] vs) H := by
  obtain ⟨w, l, r, o, s, v, rfl, a, v1, g⟩ := h
  unfold t__law_operation
  have lO := a.wf.lO
  walk_at "g"
  refine w_ixL (SqL.of a.ob) (i := 3) (v := .ref o) rfl ?_
  walk_at "g"
  refine w_ixL (SqL.of a.ho) (at_B (by omega) (by omega)) ?_
  rw [Int.toNat_natCast]
  unfold legO at g
  walk_at "g"
  refine w_iteB (fun c => ?_) (fun c => ?_)
  · rw [if_pos c] at g
    walk_at "g"
    exact g
  · rw [if_neg (by rw [c]; exact Bool.false_ne_true)] at g
    walk_at "g"
    exact g
theorem atB {l : List Bool} {i : Nat} (h : i < l.length) : atI (l.map V.bl) (i : Int) = some (.bl (gB l i)) := at_B (by omega) (by omega)
theorem len__law_step (K : PySem.W.Frag) : ∀ vs H Q E, sp18__law_step K vs H Q E → vs.length = (["book", "node"] : List Str).length := by
  rintro vs H Q E ⟨_, _, _, _, _, _, rfl, _⟩
  rfl
theorem rd__law_step (T : Txt K mg) (vs : List V) (H : Hp) (Q : VK) (E : XK) (h : sp18__law_step K vs H Q E) : t__law_step K E { nx := fun _ H' => Q .non H', rt := Q } (start ["book", "node", "lefts", "rights", "outs", "low", "high"] vs) H := by
  obtain ⟨w, l, r, o, s, v, rfl, a, v1, v2, g⟩ := h
  unfold t__law_step
  obtain ⟨ok, na⟩ := legO_ok' (s := s) v1 v2
  obtain ⟨L', hL, lL, eL⟩ := a.hl
  obtain ⟨R', hR, lR, eR⟩ := a.hr
  obtain ⟨n1, n2, n3, n4, n5, n6⟩ := a.ne
  have wf := a.wf
  have lO := wf.lO
  obtain ⟨t1, t2, t3, t4, t5⟩ := touch_bd wf ok.1
  have sR := step_gR wf ok.1
  have sL := step_gL wf ok.1
  rw [na] at t1 t2 t4 t5
  have eO : (stepS s (legO s v)).O = s.O.set v (decide (legO s v < 0)) := by
    show s.O.set (legO s v).natAbs _ = _
    rw [na]
  have wf2 : Wf (stepS s (legO s v)) := wf.step ok.1
  have n2' : (stepS s (legO s v)).n = s.n := rfl
  have ir : ixN (R'.map V.int).length (lowN s (legO s v) : Int) = some (lowN s (legO s v)) := by rw [ixN_pos (by omega) (by rw [List.length_map]; omega), Int.toNat_natCast]
  have il : ixN (L'.map V.int).length ((hiN s (legO s v) : Int) + 1) = some (hiN s (legO s v) + 1) := by rw [ixN_pos (by omega) (by rw [List.length_map]; omega), show ((hiN s (legO s v) : Int) + 1).toNat = hiN s (legO s v) + 1 by omega]
  have io : ixN (s.O.map V.bl).length (v : Int) = some v := by rw [ixN_pos (by omega) (by rw [List.length_map]; omega), Int.toNat_natCast]
  walk_at "j"
  refine w_ixL (SqL.of a.ob) (i := 1) (v := .ref l) rfl ?_
  walk_at "j"
  refine w_ixL (SqL.of a.ob) (i := 2) (v := .ref r) rfl ?_
  walk_at "j"
  refine w_ixL (SqL.of a.ob) (i := 3) (v := .ref o) rfl ?_
  walk_at "j"
  refine w_ixL (SqL.of hL) (at_I (by omega) (by omega)) ?_
  rw [Int.toNat_natCast, eL _ v1 (by omega), t4]
  walk_at "j"
  refine w_ixL (SqL.of hR) (at_I (by omega) (by omega)) ?_
  rw [Int.toNat_natCast, eR _ v2, t5]
  walk_at "j"
  refine w_ifK (fun H' => ∃ H1, Kp [r] H H1 ∧ H1 r = some (.lst ((R'.map V.int).set (lowN s (legO s v)) (.int (if legO s v < 0 then (hiN s (legO s v) : Int) + 1 else (v : Int))))) ∧ Kp [l] H1 H' ∧ H' l = some (.lst ((L'.map V.int).set (hiN s (legO s v) + 1) (.int (if legO s v < 0 then (lowN s (legO s v) : Int) else (v : Int)))))) (fun N hN => ?_) (fun H2 ⟨H1, k1, h1, k2, h2⟩ => ?_)
  · walk_at "g"
    refine w_ixL (SqL.of a.ho) (atB (by omega)) ?_
    walk_at "g"
    refine w_iteB (fun c => ?_) (fun c => ?_)
    · have e : ¬ legO s v < 0 := by
        unfold legO
        rw [if_pos c]
        omega
      rw [if_neg e, if_neg e] at hN
      walk_at "g"
      refine w_seT hR ir fun H1 k1 h1 => ?_
      walk_at "g"
      refine w_seT (k1.at1 n1 hL) il fun H2 k2 h2 => ?_
      exact hN _ ⟨H1, k1, h1, k2, h2⟩
    · have e : legO s v < 0 := by
        unfold legO
        rw [if_neg (by rw [c]; exact Bool.false_ne_true)]
        omega
      rw [if_pos e, if_pos e] at hN
      walk_at "g"
      refine w_seT hR ir fun H1 k1 h1 => ?_
      walk_at "g"
      refine w_seT (k1.at1 n1 hL) il fun H2 k2 h2 => ?_
      exact hN _ ⟨H1, k1, h1, k2, h2⟩
  have ho2 := k2.at1 (Ne.symm n2) (k1.at1 (Ne.symm n3) a.ho)
  walk_at "g"
  refine w_ixL (SqL.of ho2) (atB (by omega)) ?_
  walk_at "g"
  refine w_seT ho2 io fun H3 k3 h3 => ?_
  have ev : (!gB s.O v) = decide (legO s v < 0) := by
    unfold legO
    by_cases c : gB s.O v = true
    · rw [if_pos c, c, decide_eq_false (by omega)] <;> rfl
    · rw [if_neg c, decide_eq_true (by omega), (Bool.not_eq_true _).mp c] <;> rfl
  have kk : Kp [l, r, o] H H3 := ((k1.mono (by simp)).trans (k2.mono (by simp))).trans (k3.mono (by simp))
  refine g H3 kk ⟨kk _ _ (by simp [n4, n5, n6]) a.ob, ⟨L'.set (hiN s (legO s v) + 1) (if legO s v < 0 then (lowN s (legO s v) : Int) else (v : Int)), ?_, by rw [List.length_set, lL] <;> rfl, fun u u1 u2 => ?_⟩, ⟨R'.set (lowN s (legO s v)) (if legO s v < 0 then (hiN s (legO s v) : Int) + 1 else (v : Int)), ?_, by rw [List.length_set, lR] <;> rfl, fun u u2 => ?_⟩, ?_, a.ne, wf2⟩ fun x y ex => ?_
  · rw [k3.at1 n2 h2, set_I]
  · obtain ⟨y, rfl⟩ : ∃ y, u = y + 1 := ⟨u - 1, by omega⟩
    rw [gI_set (by rw [lL]; omega), sL y, na]
    by_cases c : y = hiN s (legO s v)
    · rw [if_pos (by omega), if_pos c]
    · rw [if_neg (by omega), if_neg c]
      exact eL _ (by omega) (by rw [n2'] at u2; omega)
  · rw [k3.at1 n3 (k2.at1 (Ne.symm n1) h1), set_I]
  · rw [gI_set (by rw [lR]; omega), sR u, na]
    by_cases c : u = lowN s (legO s v)
    · rw [if_pos c, if_pos c]
    · rw [if_neg c, if_neg c]
      exact eR _ u2
  · rw [h3, eO, ← ev, List.map_set]
  · have eL' : L' = exL x s := by
      have z := hL.symm.trans ex.hl
      injection z with z
      injection z with z
      exact map_inj_I z
    have eR' : R' = exR y s := by
      have z := hR.symm.trans ex.hr
      injection z with z
      injection z with z
      exact map_inj_I z
    obtain ⟨x1, x2⟩ := ex_step na t4 t5 (by have := wf.lR; omega) x y
    exact ⟨by rw [k3.at1 n2 h2, set_I, eL', x1], by rw [k3.at1 n3 (k2.at1 (Ne.symm n1) h1), set_I, eR', x2]⟩
theorem w_isiB {H : Hp} {Q : VK} {x : Bool} {t : String} {r : Bool} (h : kitB "bool" t = some r) (g : Q (.bl r) H) : rIsi K [.bl x, .ty t] H Q := ⟨_, _, _, _, r, rfl, .ty t, .base (.bl x), kit_ty h, g⟩
theorem dpI {H : Hp} : ∀ xs : List Int, DpAll K H (xs.map V.int) (xs.map PyData.int)
  | [] => .nil
  | x :: xs => .cons (.int x) (dpI xs)
theorem layI : ∀ xs : List Int, PyData.canLayAll0 (xs.map PyData.int) = true
  | [] => by simp [PyData.canLayAll0]
  | x :: xs => by
    show PyData.canLayAll0 (PyData.int x :: xs.map PyData.int) = true
    rw [PyData.canLayAll0, layI xs]
    simp [PyData.canLay0]
theorem depI : ∀ xs : List Int, PyData.depthAll (xs.map PyData.int) ≤ 1
  | [] => by simp [PyData.depthAll]
  | x :: xs => by
    have := depI xs
    show PyData.depthAll (PyData.int x :: xs.map PyData.int) ≤ 1
    rw [PyData.depthAll]
    simp [PyData.depth]
    omega
theorem shI (xs : List Int) : SeqAt.shaped (.list (xs.map PyData.int)) = true := by
  unfold SeqAt.shaped
  rw [PyData.canLay0, layI, PyData.depth]
  have := depI xs
  simp
  omega
theorem sh0 : SeqAt.shaped (.list []) = true := by simp [SeqAt.shaped, PyData.canLay0, PyData.canLayAll0, PyData.depth, PyData.depthAll]
theorem eqv_nil : ∀ ds : List PyData, PyData.eqv (.list ds) (.list []) = ds.isEmpty
  | [] => by simp [PyData.eqv, PyData.eqvAll]
  | d :: ds => by simp [PyData.eqv, PyData.eqvAll]
/-- is a list empty -/
theorem w_eqN {H : Hp} {Q : VK} {p q : Addr} {xs : List V} {ds : List PyData} (h1 : H p = some (.lst xs)) (d : DpAll K H xs ds) (s : SeqAt.shaped (.list ds) = true) (h2 : H q = some (.lst [])) (g : Q (.bl ds.isEmpty) H) : rEqA K (.ref p) (.ref q) H Q :=
  w_eqD (.lst (SqL.of h1) d) (.lst (SqL.of h2) .nil) s sh0 (by rw [eqv_nil]; exact g)
theorem w_neN {H : Hp} {Q : VK} {p q : Addr} {xs : List V} {ds : List PyData} (h1 : H p = some (.lst xs)) (d : DpAll K H xs ds) (s : SeqAt.shaped (.list ds) = true) (h2 : H q = some (.lst [])) (g : Q (.bl (!ds.isEmpty)) H) : rNeA K (.ref p) (.ref q) H Q :=
  w_neD (.lst (SqL.of h1) d) (.lst (SqL.of h2) .nil) s sh0 (by rw [eqv_nil]; exact g)
theorem len__law_draw (K : PySem.W.Frag) : ∀ vs H Q E, sp21__law_draw K vs H Q E → vs.length = (["bag", "many"] : List Str).length := by
  rintro vs H Q E ⟨_, _, _, rfl, _⟩
  rfl
theorem rd__law_draw (T : Txt K mg) (vs : List V) (H : Hp) (Q : VK) (E : XK) (h : sp21__law_draw K vs H Q E) : t__law_draw K E { nx := fun _ H' => Q .non H', rt := Q } (start ["bag", "many", "cell", "digit", "twice"] vs) H := by
  obtain ⟨b, c, many, rfl, hm, hm2, bx, g⟩ := h
  unfold t__law_draw
  have bc := bx.ne
  obtain ⟨p, q, m, t, hb, p0⟩ := bx.ob
  obtain ⟨ns, hc, lns⟩ := bx.hc
  walk_at "j"
  refine w_ifK (fun H' => H' = H) (fun N hN => ?_) (fun H' eH => ?_)
  · walk_at "g"
    refine w_ixL (SqL.of hb) at_0 ?_
    walk_at "g"
    refine w_truL (SqL.of hc) ?_
    cases ns with
    | nil =>
      rw [if_pos (show (!!(([] : List Int).map V.int).isEmpty) = true from rfl)]
      walk_at "g"
      exact g 0 H (by omega) hm (Kp.refl _ _) bx
    | cons x ns =>
      rw [if_neg (show ¬ (!!((x :: ns).map V.int).isEmpty) = true from Bool.false_ne_true)]
      exact hN _ rfl
  subst H'
  walk_at "j"
  refine w_ixL (SqL.of hb) (i := 4) (v := .int t) rfl ?_
  walk_at "j"
  refine w_seT hb (n := 4) rfl fun H1 k1 h1 => ?_
  have h1 : H1 b = some (.lst [.ref c, .int p, .int q, .int m, .int (t + 1)]) := h1
  have hc1 := k1.at1 (Ne.symm bc) hc
  walk_at "j"
  refine w_ifJ (fun σ' H' => ∃ (p q m : Int) (x2 : Option V), σ' = [some (.ref b), some (.int many), x2, none, none] ∧ Kp [b] H H' ∧ H' b = some (.lst [.ref c, .int p, .int q, .int m, .int (t + 1)]) ∧ 0 ≤ p) (fun N hN => ?_) (fun σ' H2 ⟨p, q, m, x2, es, k2, h2, p0⟩ => ?_)
  · walk_at "g"
    refine w_ixL (SqL.of h1) (i := 2) (v := .int q) rfl ?_
    walk_at "g"
    refine w_iteD (fun c1 => ?_) (fun c1 => ?_)
    · walk_at "g"
      refine w_ixL (SqL.of h1) (i := 1) (v := .int p) rfl ?_
      walk_at "g"
      refine w_ixL (SqL.of h1) at_0 ?_
      walk_at "g"
      refine w_lenL (SqL.of hc1) ?_
      walk_at "g"
      rw [List.length_map]
      refine w_iteD (fun c2 => ?_) (fun c2 => ?_)
      · walk_at "g"
        refine w_ixL (SqL.of h1) at_0 ?_
        walk_at "g"
        refine w_ixL (SqL.of h1) (i := 1) (v := .int p) rfl ?_
        refine w_ixL (SqL.of hc1) (at_I p0 c2) ?_
        walk_at "g"
        refine w_ixL (SqL.of h1) (i := 1) (v := .int p) rfl ?_
        walk_at "g"
        refine w_seT h1 (n := 1) rfl fun H2 k2 h2 => ?_
        have h2 : H2 b = some (.lst [.ref c, .int (p + 1), .int q, .int m, .int (t + 1)]) := h2
        walk_at "g"
        refine w_ic ⟨by omega, by omega, by decide⟩ ?_
        walk_at "g"
        refine w_iteD (fun c3 => ?_) (fun c3 => ?_)
        · walk_at "g"
          refine w_seT h2 (n := 2) rfl fun H3 k3 h3 => ?_
          exact hN _ _ ⟨p + 1, _, m, _, rfl, (k1.trans k2).trans k3, h3, by omega⟩
        · walk_at "g"
          refine w_ixL (SqL.of h2) (i := 3) (v := .int m) rfl ?_
          walk_at "g"
          refine w_mulI (cmulR (by omega) (by omega)) ?_
          walk_at "g"
          refine w_mulI (cmulR (by omega) (by omega)) ?_
          walk_at "g"
          refine w_ic (by omega) ?_
          walk_at "g"
          refine w_seT h2 (n := 3) rfl fun H3 k3 h3 => ?_
          exact hN _ _ ⟨p + 1, q, _, _, rfl, (k1.trans k2).trans k3, h3, by omega⟩
      · walk_at "g"
        exact hN _ _ ⟨p, q, m, _, rfl, k1, h1, p0⟩
    · walk_at "g"
      exact hN _ _ ⟨p, q, m, _, rfl, k1, h1, p0⟩
  subst es
  have hc2 := k2.at1 (Ne.symm bc) hc
  walk_at "j"
  refine w_ifK (fun H' => H' = H2) (fun N hN => ?_) (fun H' eH => ?_)
  · walk_at "g"
    refine w_ixL (SqL.of h2) (i := 2) (v := .int q) rfl ?_
    walk_at "g"
    refine w_iteD (fun c1 => ?_) (fun c1 => ?_)
    · walk_at "g"
      refine w_ixL (SqL.of h2) (i := 2) (v := .int q) rfl ?_
      walk_at "g"
      refine w_ic hm ?_
      walk_at "g"
      refine w_ixL (SqL.of h2) (i := 2) (v := .int q) rfl ?_
      walk_at "g"
      refine w_ic ⟨hm, by omega⟩ ?_
      walk_at "g"
      refine w_seT h2 (n := 2) rfl fun H3 k3 h3 => ?_
      walk_at "g"
      exact g _ H3 (Int.emod_nonneg _ (by omega)) (Int.emod_lt_of_pos _ hm) (k2.trans k3) ⟨⟨_, _, _, _, h3, p0⟩, ns, k3.at1 (Ne.symm bc) hc2, lns⟩
    · exact hN _ rfl
  subst H'
  walk_at "g"
  refine w_ixL (SqL.of h2) (i := 3) (v := .int m) rfl ?_
  walk_at "g"
  refine w_mulI (cmulR (by omega) (by omega)) ?_
  walk_at "g"
  refine w_ixL (SqL.of h2) (i := 4) (v := .int (t + 1)) rfl ?_
  walk_at "g"
  refine w_mulI (cmulR (by omega) (by omega)) ?_
  walk_at "g"
  refine w_ic (by omega) ?_
  walk_at "g"
  refine w_seT h2 (n := 3) rfl fun H3 k3 h3 => ?_
  have h3 : H3 b = some (.lst [.ref c, .int p, .int q, .int ((m * 16807 + (t + 1) * 10007 + 12345) % 2147483647), .int (t + 1)]) := h3
  walk_at "g"
  refine w_ixL (SqL.of h3) (i := 3) (v := .int _) rfl ?_
  walk_at "g"
  refine w_ic ⟨by omega, by omega⟩ ?_
  walk_at "g"
  refine w_mulI (cmulR (by omega) (by omega)) ?_
  walk_at "g"
  refine w_ixL (SqL.of h3) (i := 4) (v := .int (t + 1)) rfl ?_
  walk_at "g"
  refine w_ic (by omega) ?_
  walk_at "g"
  refine w_ic ⟨by omega, by omega⟩ ?_
  walk_at "g"
  refine w_ic hm ?_
  exact g _ H3 (Int.emod_nonneg _ (by omega)) (Int.emod_lt_of_pos _ hm) (k2.trans k3) ⟨⟨_, _, _, _, h3, p0⟩, ns, k3.at1 (Ne.symm bc) hc2, lns⟩
theorem w_isiI {H : Hp} {Q : VK} {i : Int} {t : String} {r : Bool} (h : kitB "int" t = some r) (g : Q (.bl r) H) : rIsi K [.int i, .ty t] H Q := ⟨_, _, _, _, r, rfl, .ty t, .base (.int i), kit_ty h, g⟩
theorem w_isiL {H : Hp} {Q : VK} {a : Addr} {xs : List V} {t : String} {r : Bool} (e : H a = some (.lst xs)) (h : kitB "list" t = some r) (g : Q (.bl r) H) : rIsi K [.ref a, .ty t] H Q := ⟨_, _, _, _, r, rfl, .ty t, .base (.lst e), kit_ty h, g⟩
theorem len_Links_is_out (K : PySem.W.Frag) : ∀ vs H Q E, sp03_Links_is_out K vs H Q E → vs.length = (["self", "node"] : List Str).length := by
  rintro vs H Q E ⟨_, _, _, _, _, _, rfl, _⟩
  rfl
theorem rd_Links_is_out (T : Txt K mg) (vs : List V) (H : Hp) (Q : VK) (E : XK) (h : sp03_Links_is_out K vs H Q E) : t_Links_is_out K E { nx := fun _ H' => Q .non H', rt := Q } (start ["self", "node"] vs) H := by
  obtain ⟨p, r, l, o, s, v, rfl, a, h2, h3⟩ := h
  unfold t_Links_is_out
  walk_at "g"
  refine w_iteD (fun c1 => ?_) (fun c1 => absurd (by omega) c1)
  walk_at "g"
  refine w_fS T.cl_Links T.na_Links_size a ?_
  walk_at "g"
  refine w_iteN (fun c1 => absurd (by omega) c1) (fun c1 => ?_)
  walk_at "g"
  refine w_fO T.cl_Links T.na_Links__out a ?_
  walk_at "g"
  refine w_ixL (SqL.of a.ho) (at_B (by omega) (by rw [a.wf.lO]; omega)) ?_
  exact h3
theorem len_foreign_writes (K : PySem.W.Frag) : ∀ vs H Q E, sp_foreign_writes K vs H Q E → vs.length = (["links", "operation"] : List Str).length := by
  rintro vs H Q E ⟨_, _, _, _, _, _, rfl, _⟩
  rfl
theorem rd_foreign_writes (T : Txt K mg) (vs : List V) (H : Hp) (Q : VK) (E : XK) (h : sp_foreign_writes K vs H Q E) : t_foreign_writes K E { nx := fun _ H' => Q .non H', rt := Q } (start ["links", "operation", "node", "low", "high", "written"] vs) H := by
  obtain ⟨p, r, l, o, s, op, rfl, a, g, bad⟩ := h
  unfold t_foreign_writes
  walk_at "g"
  refine w_me a no_m ?_
  walk_at "g"
  refine ⟨p, r, l, o, s, op, 0, rfl, a, fun ok => ?_, bad⟩
  have g := g ok
  have wf := a.wf
  have n60 := wf.n60
  obtain ⟨v1, v2⟩ := ok.1
  generalize ev : op.natAbs = v at v1 v2 g
  obtain ⟨r1, r2⟩ := wf.rb v (by omega)
  obtain ⟨l1, l2⟩ := wf.lb v (by omega) (by omega)
  obtain ⟨lo, elo⟩ : ∃ lo : Nat, gI s.L v = (lo : Int) := ⟨(gI s.L v).toNat, by omega⟩
  obtain ⟨hi, ehi⟩ : ∃ hi : Nat, gI s.R v = (hi : Int) := ⟨(gI s.R v).toNat, by omega⟩
  walk_at "g"
  rw [natAbs_if, ev]
  refine w_me a no_m ?_
  walk_at "g"
  refine ⟨p, r, l, o, s, v, rfl, a, v1, by omega, ?_⟩
  walk_at "g"
  rw [elo]
  refine w_me a no_m ?_
  walk_at "g"
  refine ⟨p, r, l, o, s, v, rfl, a, v2, ?_⟩
  rw [ehi]
  walk_at "j"
  refine ⟨sz_ok (Nat.zero_le _), nw fun q H1 nq k1 hq => ?_⟩
  walk_at "j"
  unfold forW at g
  rw [elo, ehi, Int.toNat_natCast, Int.toNat_natCast] at g
  generalize e1 : (if (lo : Int) ≠ (v : Int) - 1 ∧ gI s.R lo = (lo : Int) + 1 then [(lo : Int)] else []) = g1 at g
  generalize e2 : (if (hi : Int) ≠ (v : Int) + 1 ∧ gI s.L hi = (hi : Int) - 1 then [(hi : Int) - 1] else []) = g2 at g
  have l1' : g1.length ≤ 1 := by rw [← e1]; split <;> simp
  have fin : ∀ H', Kp [q] H1 H' → H' q = some (.lst ((g1 ++ g2).map V.int)) → Q (.ref q) H' := fun H' k h => g q H' nq (k1.all.trans k |>.cut1 nq) h
  have pq : p ≠ q := by
    obtain ⟨dx, ob⟩ := a.ob
    exact ne_of_none ob nq
  have a1 := a.k0 k1
  refine w_ifK (fun H' => Kp [q] H1 H' ∧ H' q = some (.lst (g1.map V.int))) (fun N hN => ?_) (fun H2 ⟨k2, hq2⟩ => ?_)
  · walk_at "g"
    refine w_iteN (fun c1 => ?_) (fun c1 => ?_)
    · walk_at "g"
      refine w_me a1 no_m ?_
      walk_at "g"
      refine ⟨p, r, l, o, s, lo, rfl, a1, by omega, ?_⟩
      walk_at "g"
      refine w_iteD (fun c2 => ?_) (fun c2 => ?_)
      · walk_at "g"
        refine ⟨w_ty (SqL.of hq), ?_⟩
        walk_at "g"
        refine w_apT hq (sz_lt (by show 0 < 1000000; omega)) fun H2 k2 hq2 => ?_
        refine hN _ ⟨k2, ?_⟩
        rw [if_pos ⟨c1, c2⟩] at e1
        rw [hq2, ← e1] <;> rfl
      · walk_at "g"
        refine hN _ ⟨Kp.refl _ _, ?_⟩
        rw [if_neg (fun z => c2 z.2)] at e1
        rw [hq, ← e1] <;> rfl
    · walk_at "g"
      refine hN _ ⟨Kp.refl _ _, ?_⟩
      rw [if_neg (fun z => z.1 c1)] at e1
      rw [hq, ← e1] <;> rfl
  walk_at "j"
  have a2 : LinksAt K H2 p r l o s := a1.kp k2 (by simpa using pq) (by simpa using ne_of_none a.hr nq) (by simpa using ne_of_none a.hl nq) (by simpa using ne_of_none a.ho nq)
  refine w_ifK (fun H' => Kp [q] H1 H' ∧ H' q = some (.lst ((g1 ++ g2).map V.int))) (fun N hN => ?_) (fun H3 ⟨k3, hq3⟩ => ?_)
  · walk_at "g"
    refine w_iteN (fun c1 => ?_) (fun c1 => ?_)
    · walk_at "g"
      refine w_me a2 no_m ?_
      walk_at "g"
      refine ⟨p, r, l, o, s, hi, rfl, a2, by omega, by omega, ?_⟩
      walk_at "g"
      refine w_iteD (fun c2 => ?_) (fun c2 => ?_)
      · walk_at "g"
        refine ⟨w_ty (SqL.of hq2), ?_⟩
        walk_at "g"
        refine w_apT hq2 (sz_lt (by rw [List.length_map]; omega)) fun H3 k3 hq3 => ?_
        refine hN _ ⟨k2.trans k3, ?_⟩
        rw [if_pos ⟨c1, c2⟩] at e2
        rw [hq3, ← e2, List.map_append] <;> rfl
      · walk_at "g"
        refine hN _ ⟨k2, ?_⟩
        rw [if_neg (fun z => c2 z.2)] at e2
        rw [hq2, ← e2, List.append_nil]
    · walk_at "g"
      refine hN _ ⟨k2, ?_⟩
      rw [if_neg (fun z => z.1 c1)] at e2
      rw [hq2, ← e2, List.append_nil]
  walk_at "g"
  exact fin H3 k3 hq3
theorem PrsAt.kp {S : List Addr} {H H' : Hp} {xs : List V} {es : List (Nat × Str)} (h : PrsAt H xs es) (k : Kp S H H') (hS : ∀ b ∈ S, ∀ ys, H b ≠ some (.tup ys)) : PrsAt H' xs es := by
  refine ⟨h.1, fun i t e => ?_⟩
  obtain ⟨a, h1, h2⟩ := h.2 i t e
  exact ⟨a, h1, k _ _ (fun z => hS a z _ h2) h2⟩
theorem PrsAt.k0 {H H' : Hp} {xs : List V} {es : List (Nat × Str)} (h : PrsAt H xs es) (k : Kp [] H H') : PrsAt H' xs es := h.kp k (by simp)
theorem PrsAt.snoc {H : Hp} {xs : List V} {ts : List (Nat × Str)} {a : Addr} {t : Nat × Str} (h : PrsAt H xs ts) (ha : H a = some (.tup [.int (t.1 : Int), .str t.2])) : PrsAt H (xs ++ [.ref a]) (ts ++ [t]) := by
  refine ⟨by rw [List.length_append, List.length_append, h.1] <;> rfl, fun i u e => ?_⟩
  by_cases c : i < ts.length
  · rw [List.getElem?_append_left c] at e
    obtain ⟨b, h1, h2⟩ := h.2 i u e
    exact ⟨b, by rw [List.getElem?_append_left (by rw [h.1]; exact c)]; exact h1, h2⟩
  · have hl := (List.getElem?_eq_some_iff.mp e).1
    rw [List.length_append] at hl
    have ei : i = ts.length := by simp at hl; omega
    subst ei
    rw [List.getElem?_append_right (Nat.le_refl _), Nat.sub_self] at e
    have eu : t = u := by simpa using e
    subst eu
    exact ⟨a, by rw [List.getElem?_append_right (by rw [h.1]; exact Nat.le_refl _), h.1, Nat.sub_self] <;> rfl, ha⟩
theorem PrsAt.nil {H : Hp} : PrsAt H [] [] := ⟨rfl, fun i t e => by simp at e⟩
theorem len_Links_copy (K : PySem.W.Frag) : ∀ vs H Q E, sp_Links_copy K vs H Q E → vs.length = (["self"] : List Str).length := by
  rintro vs H Q E ⟨_, _, _, _, _, rfl, _⟩
  rfl
theorem rd_Links_copy (T : Txt K mg) (vs : List V) (H : Hp) (Q : VK) (E : XK) (h : sp_Links_copy K vs H Q E) : t_Links_copy K E { nx := fun _ H' => Q .non H', rt := Q } (start ["self", "twin"] vs) H := by
  obtain ⟨p, r, l, o, s, rfl, a, g⟩ := h
  unfold t_Links_copy
  walk_at "g"
  refine w_fS T.cl_Links T.na_Links_size a ?_
  walk_at "g"
  refine mk fun q dx H1 nq hq k1 => ?_
  refine ⟨q, dx, s.n, rfl, hq, fun ok r1 l1 o1 H2 nr1 nl1 no1 k2 b => ⟨rfl, ?_⟩, fun z => absurd ⟨by omega, by have := a.wf.n60; omega⟩ z⟩
  have a1 := a.k0 k1
  obtain ⟨dx1, ob1⟩ := a1.ob
  have qp : p ≠ q := by
    obtain ⟨dx0, ob⟩ := a.ob
    exact ne_of_none ob nq
  have qr : r ≠ q := ne_of_none a.hr nq
  have ql : l ≠ q := ne_of_none a.hl nq
  have qo : o ≠ q := ne_of_none a.ho nq
  have a2 := a1.kp k2 (by simpa using qp) (by simpa using qr) (by simpa using ql) (by simpa using qo)
  walk_at "g"
  refine w_fR T.cl_Links T.na_Links__rights a2 ?_
  walk_at "g"
  refine w_listLN (SqL.of a2.hr) fun r3 H3 nr3 k3 hr3 => ?_
  walk_at "g"
  have b3 := b.k0 k3
  obtain ⟨dx3, ob3⟩ := b3.ob
  refine w_sT T.cl_Links T.na_Links__rights ob3 (fl_len _ _ _ _) fun H4 k4 p4 => ?_
  rw [fl_putR] at p4
  have a4 := (a2.k0 k3).kp k4 (by simpa using qp) (by simpa using qr) (by simpa using ql) (by simpa using qo)
  walk_at "g"
  refine w_fL T.cl_Links T.na_Links__lefts a4 ?_
  walk_at "g"
  refine w_listLN (SqL.of a4.hl) fun l5 H5 nl5 k5 hl5 => ?_
  walk_at "g"
  refine w_sT T.cl_Links T.na_Links__lefts (k5.at0 p4) (fl_len _ _ _ _) fun H6 k6 p6 => ?_
  rw [fl_putL] at p6
  have a6 := (a4.k0 k5).kp k6 (by simpa using qp) (by simpa using qr) (by simpa using ql) (by simpa using qo)
  walk_at "g"
  refine w_fO T.cl_Links T.na_Links__out a6 ?_
  walk_at "g"
  refine w_listLN (SqL.of a6.ho) fun o7 H7 no7 k7 ho7 => ?_
  walk_at "g"
  refine w_sT T.cl_Links T.na_Links__out (k7.at0 p6) (fl_len _ _ _ _) fun H8 k8 p8 => ?_
  rw [fl_putO] at p8
  walk_at "g"
  have rq : r3 ≠ q := (ne_of_none b.ob.choose_spec nr3).symm
  have lq : l5 ≠ q := (ne_of_none p4 nl5).symm
  have oq : o7 ≠ q := (ne_of_none p6 no7).symm
  have hr4 := k4.at1 rq hr3
  have hr6 := k6.at1 rq (k5.at0 hr4)
  have hl6 := k6.at1 lq hl5
  have k02 : Kp [q] H H2 := k1.all.trans k2
  have k04 : Kp [q] H H4 := k02.trans (k3.all.trans k4)
  have k06 : Kp [q] H H6 := k04.trans (k5.all.trans k6)
  have k08 : Kp [q] H H8 := k06.trans (k7.all.trans k8)
  refine g q r3 l5 o7 H8 nq (k02.free (by simpa using rq) nr3) (k04.free (by simpa using lq) nl5) (k06.free (by simpa using oq) no7) (k08.cut1 nq) ⟨⟨dx3, p8⟩, k8.at1 rq (k7.at0 hr6), k8.at1 lq (k7.at0 hl6), k8.at1 oq ho7, ?_, ?_, ?_, a.wf⟩
  · exact ne_of_none hr4 nl5
  · exact ne_of_none hr6 no7
  · exact ne_of_none hl6 no7
theorem len_play (K : PySem.W.Frag) : ∀ vs H Q E, sp_play K vs H Q E → vs.length = (["links", "log"] : List Str).length := by
  rintro vs H Q E ⟨_, _, _, _, _, _, _, rfl, _⟩
  rfl
theorem rd_play (T : Txt K mg) (vs : List V) (H : Hp) (Q : VK) (E : XK) (h : sp_play K vs H Q E) : t_play K E { nx := fun _ H' => Q .non H', rt := Q } (start ["links", "log", "after", "index", "operation"] vs) H := by
  obtain ⟨p, r, l, o, c, s, log, rfl, a, hs, g1, g2⟩ := h
  unfold t_play
  walk_at "g"
  refine w_me a no_m ?_
  walk_at "g"
  refine ⟨p, r, l, o, s, rfl, a, fun q r1 l1 o1 H1 nq nr nl no k1 b => ?_⟩
  walk_at "g"
  have hs1 := k1.sql (by simp) hs
  refine ⟨c, _, rfl, hs1, lp_enum (xs := log.map V.int) (fun i σ H' => (∃ u v, σ = [some (.ref p), some (.ref c), some (.ref q), u, v]) ∧ Leg s (log.take i) ∧ Kp [] H H' ∧ LinksAt K H' q r1 l1 o1 (runS s (log.take i))) ⟨⟨_, _, rfl⟩, ?_, k1, b⟩ ?_ ?_ ?_⟩
  · intro i op h
    simp at h
  · rintro i σ' H' hi ⟨_, _, k, _⟩
    exact k.sql (by simp) hs
  · rintro i x T σ' H' hx ⟨⟨u, v, rfl⟩, le, k, ls⟩ nT
    obtain ⟨op, hop, rfl⟩ := at_map hx
    have kT : Kp [] H' (upd H' T (.tup [.int (i : Int), .int op])) := Kp.new nT
    walk_at "g"
    have ls1 := ls.k0 kT
    refine w_me ls1 no_m ?_
    walk_at "g"
    refine ⟨q, r1, l1, o1, _, op, i, rfl, ls1, fun ok H2 k2 ls2 => ?_, fun bad => ?_⟩
    · walk_at "g"
      have e : log.take (i + 1) = log.take i ++ [op] := take_snoc hop
      refine ⟨⟨_, _, rfl⟩, ?_, ?_, ?_⟩
      · rw [e]
        exact le.snoc ok
      · exact ((k.trans kT).all.trans k2).cut (by simp [nr, nl, no])
      · rw [e, runS_snoc]
        exact ls2
    · rw [runS_n]
      exact g2 i op hop le bad _ (k.trans kT)
  · rintro σ' H' ⟨⟨u, v, rfl⟩, le, k, ls⟩
    rw [List.length_map, List.take_length] at le ls
    walk_at "g"
    exact g1 le q r1 l1 o1 H' nq nr nl no k ls
end
end G
set_option Elab.async false
set_option linter.all false
set_option maxRecDepth 100000
set_option maxHeartbeats 1000000
namespace G
--#FAM KD
open PySem PySem.Spec PyProof.Rows L2
local macro_rules
  | `(tactic| walk_at "1") => `(tactic| first
    | with_reducible refine w_seq ?_
    | with_reducible refine w_asg ?_
    | with_reducible refine w_asgS ?_
    | with_reducible refine w_asf ?_
    | with_reducible refine w_drop ?_
    | with_reducible refine w_ret ?_
    | with_reducible refine w_if ?_
    | with_reducible refine w_not ?_
    | with_reducible refine w_and ?_
    | with_reducible refine w_or ?_
    | with_reducible refine w_test ?_
    | with_reducible refine w_tb ?_
    | with_reducible refine w_chain ?_
    | with_reducible refine w_op ?_
    | with_reducible refine w_un ?_
    | with_reducible refine w_andV ?_
    | with_reducible refine w_orV ?_
    | with_reducible refine w_notV ?_
    | with_reducible refine w_ifE ?_
    | with_reducible refine w_cons ?_
    | with_reducible refine w_nil ?_
    | with_reducible refine w_cb ?_
    | with_reducible refine w_cl ?_
    | with_reducible refine w_mt ?_
    | with_reducible refine w_fld ?_
    | with_reducible refine w_tupN ?_
    | with_reducible refine w_lstN ?_
    | with_reducible refine w_bm ?_
    | with_reducible refine w_bm0 ?_
    | with_reducible refine w_for ?_
    | with_reducible refine w_lc ?_
    | with_reducible refine w_iR1 ?_
    | with_reducible refine w_iR2 ?_
    | with_reducible refine w_iL ?_
    | with_reducible refine w_iT ?_
    | with_reducible refine w_iE ?_
    | with_reducible refine w_iZ ?_
    | with_reducible refine w_var (by with_unfolding_all rfl) ?_
    | with_reducible refine w_c ?_
    | with_reducible refine w_next ?_
    | with_reducible refine w_i0 ?_
    | with_reducible refine w_u1 ?_
    | with_reducible refine w_addI ?_
    | with_reducible refine w_eqI ?_
    | with_reducible refine w_eqS ?_
    | with_reducible refine w_eqB ?_
    | with_reducible refine w_neI ?_
    | with_reducible refine w_neS ?_
    | with_reducible refine w_neB ?_
    | with_reducible refine w_abs ?_
    | with_reducible refine w_intI ?_
    | with_reducible refine w_min2 ?_
    | with_reducible refine w_max2 ?_
    | with_reducible refine w_isN0 ?_
    | with_reducible refine w_isN1 ref_ne ?_
    | with_reducible refine w_isN1 int_ne ?_
    | with_reducible refine w_notN0 ?_
    | with_reducible refine w_notN1 ref_ne ?_
    | with_reducible refine w_notN1 int_ne ?_
    | with_reducible refine w_ex1 ?_
    | with_reducible refine w_n1 ?_
    | with_reducible refine w_n2 ?_
    | with_reducible refine w_tT ?_
    | with_reducible refine w_tF ?_
    | with_reducible refine w_nT ?_
    | with_reducible refine w_nF ?_
    | with_reducible refine w_rz ?_
    | with_reducible refine w_mkN ?_
    | with_reducible refine w_lrgN ?_
    | with_reducible refine w_rg1 ?_
    | with_reducible refine w_rg2 ?_
    | with_reducible refine w_sl ?_
    | with_reducible refine w_np ?_
    | with_reducible refine w_pt ?_
    | with_reducible refine w_tr ?_
    | with_reducible refine w_gn ?_
    | with_reducible refine w_yes ?_
    | with_reducible refine w_m1 ?_
    | with_reducible refine w_asu ?_
    | with_reducible refine w_exS ?_
    | with_reducible refine w_iS ?_
    | with_reducible refine w_g1 ?_
    | with_reducible refine w_gc ?_
    | with_reducible refine w_gt (SqT.of upd_same) rfl ?_)
local macro_rules
  | `(tactic| walk_at "g") => `(tactic| repeat walk_at "1")
local macro_rules
  | `(tactic| walk_at "j1") => `(tactic| first
    | with_reducible refine w_seqI ?_
    | walk_at "1")
local macro_rules
  | `(tactic| walk_at "j") => `(tactic| repeat walk_at "j1")
section
variable {K : PySem.W.Frag} {mg : Str → Option Value}
theorem w_anyN {H : Hp} {Q : VK} {p : Addr} {bs : List Bool} (h : H p = some (.lst (bs.map V.bl))) (g : Q (.bl (bs.any id)) H) : rAny K [.ref p] H Q := ⟨p, bs, rfl, SqL.of h, g⟩
theorem w_sumN {H : Hp} {Q : VK} {p : Addr} {ns : List Int} (h : H p = some (.lst (ns.map V.int))) (g : Q (.int ns.sum) H) : rSum K [.ref p] H Q := ⟨p, ns, rfl, SqL.of h, g⟩
theorem len_due_nodes (K : PySem.W.Frag) : ∀ vs H Q E, sp16_due_nodes K vs H Q E → vs.length = (["links"] : List Str).length := by
  rintro vs H Q E ⟨_, _, _, _, _, rfl, _⟩
  rfl
theorem rd_due_nodes (w : World) (T : Txt K mg) (vs : List V) (H : Hp) (Q : VK) (E : XK) (h : sp16_due_nodes K vs H Q E) : t_due_nodes K w E { nx := fun _ H' => Q .non H', rt := Q } (start ["links"] vs) H := by
  obtain ⟨p, r, l, o, s, rfl, a, g⟩ := h
  unfold t_due_nodes
  have n60 := a.wf.n60
  have ol := outN_len s.n s.O
  have al := alone_len s
  have dl := due_len s
  walk_at "g"
  refine w_me a no_m ?_
  walk_at "g"
  refine ⟨p, r, l, o, s, rfl, a, fun q H1 nq k1 hq => ?_⟩
  walk_at "g"
  refine ⟨q, _, rfl, SqL.of hq, by omega, fun S c nS hc => ?_⟩
  have k2 : Kp [] H1 (upd H1 S (SetO w S (fun j => decide (j ∈ outN s.n s.O)) c)) := Kp.new nS
  have hS : upd H1 S (SetO w S (fun j => decide (j ∈ outN s.n s.O)) c) S = some (SetO w S (fun j => decide (j ∈ outN s.n s.O)) c) := upd_same
  generalize upd H1 S (SetO w S (fun j => decide (j ∈ outN s.n s.O)) c) = H2 at k2 hS ⊢
  have k02 := k1.trans k2
  walk_at "g"
  refine ⟨p, r, l, o, s, rfl, a.k0 k02, fun q2 H3 nq2 k3 hq2 => ?_⟩
  walk_at "g"
  refine ⟨q2, _, rfl, SqL.of hq2, by omega, fun T c2 nT hc2 => ?_⟩
  have hS3 := k3.at0 hS
  have ST : S ≠ T := ne_of_none hS3 nT
  have k4 : Kp [] H3 (upd H3 T (SetO w T (fun j => decide (j ∈ aloneL s)) c2)) := Kp.new nT
  have hT : upd H3 T (SetO w T (fun j => decide (j ∈ aloneL s)) c2) T = some (SetO w T (fun j => decide (j ∈ aloneL s)) c2) := upd_same
  generalize upd H3 T (SetO w T (fun j => decide (j ∈ aloneL s)) c2) = H4 at k4 hT ⊢
  walk_at "g"
  refine ⟨S, T, _, _, c, c2, rfl, rfl, ST, k4.at0 hS3, hT, by omega, fun P cp nP hP => ?_⟩
  have k5 : Kp [] H4 (upd H4 P (SetO w P (fun j => decide (j ∈ outN s.n s.O) || decide (j ∈ aloneL s)) cp)) := Kp.new nP
  have hPP : upd H4 P (SetO w P (fun j => decide (j ∈ outN s.n s.O) || decide (j ∈ aloneL s)) cp) P = some (SetO w P (fun j => decide (j ∈ outN s.n s.O) || decide (j ∈ aloneL s)) cp) := upd_same
  have cb := hP (dueL s) fun k hk => by
    rw [Bool.or_eq_true, decide_eq_true_iff, decide_eq_true_iff] at hk
    exact due_union.mpr hk
  generalize upd H4 P (SetO w P (fun j => decide (j ∈ outN s.n s.O) || decide (j ∈ aloneL s)) cp) = H5 at k5 hPP ⊢
  have k05 : Kp [] H H5 := (k02.trans k3).trans (k4.trans k5)
  walk_at "g"
  refine ⟨P, _, cp, rfl, hPP, by omega, fun ns D hp hm _ nD => ?_⟩
  have e : ns = dueL s := sorted_ext hp (due_pair s) fun x => by
    rw [hm x, Bool.or_eq_true, decide_eq_true_iff, decide_eq_true_iff, due_union]
  rw [e]
  exact g D _ (k05.free0 nD) (k05.trans (Kp.new nD)) upd_same
theorem len_check_repairable (K : PySem.W.Frag) : ∀ vs H Q E, sp16_check_repairable K vs H Q E → vs.length = (["links"] : List Str).length := by
  rintro vs H Q E ⟨_, _, _, _, _, rfl, _⟩
  rfl
theorem rd_check_repairable (T : Txt K mg) (vs : List V) (H : Hp) (Q : VK) (E : XK) (h : sp16_check_repairable K vs H Q E) : t_check_repairable K E { nx := fun _ H' => Q .non H', rt := Q } (start ["links", "lost"] vs) H := by
  obtain ⟨p, r, l, o, s, rfl, a, g, ge⟩ := h
  unfold t_check_repairable
  walk_at "g"
  refine ⟨p, r, l, o, s, rfl, a, fun q H1 nq k1 hq => ?_⟩
  walk_at "g"
  refine w_truL (SqL.of hq) ?_
  cases e : lostL s with
  | nil =>
    show if false = true then _ else _
    walk_at "g"
    exact g e H1 k1
  | cons v vs =>
    rw [e] at hq
    show if true = true then _ else _
    walk_at "g"
    refine w_ixL (SqL.of hq) at_0 ?_
    walk_at "g"
    refine ⟨rfl, Nat.le_of_ble_eq_true rfl, ?_⟩
    exact ge v vs e H1 k1
theorem outN_snoc (O : List Bool) (i : Nat) : outN (i + 1) O = outN i O ++ (if gB O (i + 1) then [((i + 1 : Nat) : Int)] else []) := by
  unfold outN
  rw [List.range_succ, List.map_append, List.filter_append, List.map_append]
  congr 1
  show (([i + 1].filter fun v => gB O v).map _) = _
  by_cases c : gB O (i + 1) = true
  · rw [List.filter_cons_of_pos c, if_pos c] <;> rfl
  · rw [List.filter_cons_of_neg c, if_neg c] <;> rfl
theorem str_glue (a b c : Str) : a ++ (" | " : Str) ++ b ++ (" | " : Str) ++ c = Txt.join barS [a, b, c] := by
  rw [TL.join_eq]
  refine TL.ext_tl ?_
  rw [TL.tl_join]
  show TL.tl (a ++ barS ++ b ++ barS ++ c) = TL.tl a ++ (TL.tl barS ++ (TL.tl b ++ (TL.tl barS ++ TL.tl c)))
  simp only [TL.tl_append, List.append_assoc]
theorem bk_R {R' : List Int} {s : Sd} (w : Wf s) (h1 : R'.length = s.n + 2) (h2 : ∀ v, v ≤ s.n → gI R' v = gI s.R v) : R'.take (s.n + 1) = s.R := by
  have lR := w.lR
  refine List.ext_getElem? fun i => ?_
  by_cases c : i < s.n + 1
  · rw [List.getElem?_take, if_pos c, gI_at (by omega), gI_at (by omega), h2 i (by omega)]
  · rw [List.getElem?_take, if_neg c, List.getElem?_eq_none (by omega)]
theorem bk_L {L' : List Int} {s : Sd} (w : Wf s) (h1 : L'.length = s.n + 2) (h2 : ∀ v, 1 ≤ v → v ≤ s.n + 1 → gI L' v = gI s.L v) : L'.drop 1 = s.L.drop 1 := by
  have lL := w.lL
  refine List.ext_getElem? fun i => ?_
  rw [List.getElem?_drop, List.getElem?_drop]
  by_cases c : 1 + i < s.n + 2
  · rw [gI_at (by omega), gI_at (by omega), h2 _ (by omega) (by omega)]
  · rw [List.getElem?_eq_none (by omega), List.getElem?_eq_none (by omega)]
theorem len__law_size (K : PySem.W.Frag) : ∀ vs H Q E, sp16__law_size K vs H Q E → vs.length = (["bag"] : List Str).length := by
  rintro vs H Q E ⟨_, _, rfl, _⟩
  rfl
theorem rd__law_size (T : Txt K mg) (vs : List V) (H : Hp) (Q : VK) (E : XK) (h : sp16__law_size K vs H Q E) : t__law_size K E { nx := fun _ H' => Q .non H', rt := Q } (start ["bag", "size"] vs) H := by
  obtain ⟨b, c, rfl, bx, g⟩ := h
  unfold t__law_size
  walk_at "j"
  refine ⟨sz_ok (by show 12 ≤ 1000000; omega), G.nw fun q H1 nq k1 hq => ?_⟩
  have hq' : H1 q = some (.lst ([2, 3, 4, 5, 6, 7, 8, 0, 1, 3, 4, 9].map V.int)) := hq
  have fq := bx.fr nq
  walk_at "j"
  refine ⟨b, c, 12, rfl, by omega, by omega, bx.k0 k1, fun d H2 d1 d2 k2 b2 => ?_⟩
  refine w_ixL (SqL.of (k2.at1 fq.1 hq')) (at_I d1 (by show d < 12; omega)) ?_
  have bd : ∀ k : Nat, k < 12 → 0 ≤ gI [2, 3, 4, 5, 6, 7, 8, 0, 1, 3, 4, 9] k ∧ gI [2, 3, 4, 5, 6, 7, 8, 0, 1, 3, 4, 9] k ≤ 9 := by decide +kernel
  have b0 := bd d.toNat (by omega)
  generalize gI [2, 3, 4, 5, 6, 7, 8, 0, 1, 3, 4, 9] d.toNat = v at b0 ⊢
  have k02 := k1.all.trans k2
  walk_at "j"
  refine w_ifJ (fun σ' H' => ∃ v : Int, σ' = [some (.ref b), some (.int v)] ∧ (0 ≤ v ∧ v ≤ 60) ∧ Kp [b] H H' ∧ Bag5 H' b c) (fun N hN => ?_) (fun σ' H3 ⟨v, es, b0, k3, b3⟩ => ?_)
  · walk_at "g"
    refine w_iteD (fun c1 => ?_) (fun c1 => ?_)
    · walk_at "g"
      refine ⟨b, c, 52, rfl, by omega, by omega, b2, fun d H3 d1 d2 k3 b3 => ?_⟩
      walk_at "g"
      exact hN _ _ ⟨_, rfl, by omega, k02.trans k3, b3⟩
    · walk_at "g"
      exact hN _ _ ⟨v, rfl, by omega, k02, b2⟩
  subst es
  obtain ⟨u, rfl⟩ : ∃ u : Nat, v = (u : Int) := ⟨v.toNat, by omega⟩
  walk_at "g"
  exact g u H3 (by omega) k3 b3
theorem len__law_number (K : PySem.W.Frag) : ∀ vs H Q E, sp16__law_number K vs H Q E → vs.length = (["told"] : List Str).length := by
  rintro vs H Q E ⟨_, rfl, _⟩
  rfl
theorem rd__law_number (T : Txt K mg) (vs : List V) (H : Hp) (Q : VK) (E : XK) (h : sp16__law_number K vs H Q E) : t__law_number K E { nx := fun _ H' => Q .non H', rt := Q } (start ["told"] vs) H := by
  obtain ⟨i, rfl, g⟩ := h
  unfold t__law_number
  walk_at "g"
  refine w_isiI (r := true) (by decide +kernel) ?_
  walk_at "g"
  refine w_isiI (r := false) (by decide +kernel) ?_
  walk_at "g"
  exact g
theorem len__law_numbers (K : PySem.W.Frag) : ∀ vs H Q E, sp16__law_numbers K vs H Q E → vs.length = (["told"] : List Str).length := by
  rintro vs H Q E ⟨_, _, rfl, _⟩
  rfl
theorem rd__law_numbers (T : Txt K mg) (vs : List V) (H : Hp) (Q : VK) (E : XK) (h : sp16__law_numbers K vs H Q E) : t__law_numbers K E { nx := fun _ H' => Q .non H', rt := Q } (start ["told", "one"] vs) H := by
  obtain ⟨a, xs, rfl, ha, hl, g⟩ := h
  unfold t__law_numbers
  walk_at "g"
  refine w_isiL (r := true) ha (by decide +kernel) ?_
  walk_at "g"
  refine w_l1 (SqL.of ha) ?_
  refine cp_lst (SqL.of ha) (fun i => ([] : List V)) (fun i hi => sz_lt (by show 0 < 1000000; omega)) rfl (fun i x H' S N hx k _ no => ?_) (fun q H1 nq k1 hq => ?_)
  · obtain ⟨v, hv, rfl⟩ := at_map hx
    walk_at "g"
    refine ⟨rfl, ?_⟩
    walk_at "g"
    refine ⟨v, rfl, ?_⟩
    walk_at "g"
    exact no _ (Kp.refl _ _) rfl
  walk_at "g"
  refine ⟨sz_ok (by show 0 ≤ 1000000; omega), nw fun e H2 ne k2 he => ?_⟩
  have hq2 : H2 q = some (.lst (([] : List Int).map V.int)) := k2.at0 hq
  have he : H2 e = some (.lst (([] : List Int).map V.int)) := he
  walk_at "g"
  refine w_eqLZ hq2 he ?_
  exact g H2 (k1.trans k2)
theorem len__law_copy (K : PySem.W.Frag) : ∀ vs H Q E, sp18__law_copy K vs H Q E → vs.length = (["book"] : List Str).length := by
  rintro vs H Q E ⟨_, _, _, _, _, rfl, _⟩
  rfl
theorem rd__law_copy (T : Txt K mg) (vs : List V) (H : Hp) (Q : VK) (E : XK) (h : sp18__law_copy K vs H Q E) : t__law_copy K E { nx := fun _ H' => Q .non H', rt := Q } (start ["book"] vs) H := by
  obtain ⟨w, l, r, o, s, rfl, a, g⟩ := h
  unfold t__law_copy
  obtain ⟨L', hL, lL, eL⟩ := a.hl
  obtain ⟨R', hR, lR, eR⟩ := a.hr
  walk_at "g"
  refine w_ixL (SqL.of a.ob) at_0 ?_
  walk_at "g"
  refine w_ixL (SqL.of a.ob) (i := 1) (v := .ref l) rfl ?_
  walk_at "g"
  refine w_listLN (SqL.of hL) fun l' H1 n1 k1 h1 => ?_
  walk_at "g"
  refine w_ixL (SqL.of (k1.at0 a.ob)) (i := 2) (v := .ref r) rfl ?_
  walk_at "g"
  refine w_listLN (SqL.of (k1.at0 hR)) fun r' H2 n2 k2 h2 => ?_
  walk_at "g"
  have k12 := k1.trans k2
  refine w_ixL (SqL.of (k12.at0 a.ob)) (i := 3) (v := .ref o) rfl ?_
  walk_at "g"
  refine w_listLN (SqL.of (k12.at0 a.ho)) fun o' H3 n3 k3 h3 => ?_
  walk_at "g"
  refine ⟨sz_ok (by show 4 ≤ 1000000; omega), nw fun w' H4 n4 k4 h4 => ?_⟩
  have k13 := k12.trans k3
  have h13 := (k2.trans k3).at0 h1
  have h23 := k3.at0 h2
  refine g w' l' r' o' H4 (k13.free0 n4) n1 (k1.free0 n2) (k12.free0 n3) (k13.trans k4) ⟨h4, ⟨L', k4.at0 h13, lL, eL⟩, ⟨R', k4.at0 h23, lR, eR⟩, k4.at0 h3, ⟨ne_of_none h1 n2, ne_of_none (k2.at0 h1) n3, ne_of_none h2 n3, (ne_of_none h13 n4).symm, (ne_of_none h23 n4).symm, (ne_of_none h3 n4).symm⟩, a.wf⟩ ((k4.at0 h13).trans hL.symm) ((k4.at0 h23).trans hR.symm)
theorem len__law_is_whole (K : PySem.W.Frag) : ∀ vs H Q E, sp16__law_is_whole K vs H Q E → vs.length = (["book"] : List Str).length := by
  rintro vs H Q E ⟨_, _, _, _, _, rfl, _⟩
  rfl
theorem rd__law_is_whole (T : Txt K mg) (vs : List V) (H : Hp) (Q : VK) (E : XK) (h : sp16__law_is_whole K vs H Q E) : t__law_is_whole K E { nx := fun _ H' => Q .non H', rt := Q } (start ["book", "gap"] vs) H := by
  obtain ⟨w, l, r, o, s, rfl, a, g⟩ := h
  unfold t__law_is_whole
  obtain ⟨L', hL, lL, eL⟩ := a.hl
  obtain ⟨R', hR, lR, eR⟩ := a.hr
  have wf := a.wf
  have n60 := wf.n60
  have lO := wf.lO
  walk_at "g"
  refine w_ixL (SqL.of a.ob) at_0 ?_
  walk_at "g"
  refine w_r1 (by omega) ?_
  rw [show ((s.n : Int) + 1).toNat = s.n + 1 by omega]
  have bad : ∀ i, i < s.n + 1 → whlG s i = false → Q (.bl false) H := fun i hi hf => by
    have e : whlB s = false := by
      cases z : whlB s with
      | false => rfl
      | true =>
        unfold whlB at z
        have := List.all_eq_true.mp z i (List.mem_range.mpr hi)
        rw [hf] at this
        cases this
    rw [e] at g
    exact g
  refine lp_rng0 (fun i σ H' => (∃ x, σ = [some (.ref w), x]) ∧ H' = H ∧ ∀ j, j < i → whlG s j = true) ⟨⟨_, rfl⟩, rfl, fun j hj => by omega⟩ ?_ ?_
  · rintro i σ' H' hi ⟨⟨x, rfl⟩, rfl, ok⟩
    have e1 : gI R' ((i : Int)).toNat = gI s.R i := by rw [Int.toNat_natCast]; exact eR i (by omega)
    have e2 : gI L' ((i : Int) + 1).toNat = gI s.L (i + 1) := by rw [show ((i : Int) + 1).toNat = i + 1 by omega]; exact eL (i + 1) (by omega) (by omega)
    walk_at "g"
    refine w_ixL (SqL.of a.ob) (i := 2) (v := .ref r) rfl ?_
    walk_at "g"
    refine w_ixL (SqL.of hR) (at_I (by omega) (by omega)) ?_
    rw [e1]
    walk_at "g"
    refine w_iteN (fun c1 => ?_) (fun c1 => ?_)
    · walk_at "g"
      exact bad i hi (by unfold whlG; rw [decide_eq_false c1]; rfl)
    walk_at "g"
    refine w_ixL (SqL.of a.ob) (i := 1) (v := .ref l) rfl ?_
    walk_at "g"
    refine w_ixL (SqL.of hL) (at_I (by omega) (by omega)) ?_
    rw [e2]
    walk_at "g"
    refine w_iteN (fun c2 => ?_) (fun c2 => ?_)
    · walk_at "g"
      exact bad i hi (by unfold whlG; rw [decide_eq_false c2, Bool.false_and, Bool.and_false])
    walk_at "g"
    refine w_ixL (SqL.of a.ob) (i := 3) (v := .ref o) rfl ?_
    walk_at "g"
    refine w_ixL (SqL.of a.ho) (at_B (by omega) (by omega)) ?_
    rw [Int.toNat_natCast]
    walk_at "g"
    refine w_iteB (fun c3 => ?_) (fun c3 => ?_)
    · walk_at "g"
      exact bad i hi (by unfold whlG; rw [c3]; simp)
    · walk_at "g"
      refine ⟨⟨_, rfl⟩, rfl, fun j hj => ?_⟩
      by_cases e : j = i
      · rw [e]
        unfold whlG
        rw [decide_eq_true c1, decide_eq_true c2, c3]
        rfl
      · exact ok j (by omega)
  · rintro σ' H' ⟨⟨x, rfl⟩, rfl, ok⟩
    have e : whlB s = true := by
      unfold whlB
      rw [List.all_eq_true]
      exact fun j hj => ok j (List.mem_range.mp hj)
    rw [e] at g
    walk_at "g"
    exact g
theorem len__law_lost (K : PySem.W.Frag) : ∀ vs H Q E, sp16__law_lost K vs H Q E → vs.length = (["book"] : List Str).length := by
  rintro vs H Q E ⟨_, _, _, _, _, rfl, _⟩
  rfl
theorem rd__law_lost (T : Txt K mg) (vs : List V) (H : Hp) (Q : VK) (E : XK) (h : sp16__law_lost K vs H Q E) : t__law_lost K E { nx := fun _ H' => Q .non H', rt := Q } (start ["book", "gap"] vs) H := by
  obtain ⟨w, l, r, o, s, rfl, a, g⟩ := h
  unfold t__law_lost
  obtain ⟨L', hL, lL, eL⟩ := a.hl
  obtain ⟨R', hR, lR, eR⟩ := a.hr
  have n60 := a.wf.n60
  walk_at "g"
  refine w_ixL (SqL.of a.ob) at_0 ?_
  walk_at "g"
  refine w_r1 (by omega) ?_
  rw [show ((s.n : Int) + 1).toNat = s.n + 1 by omega]
  have snoc : ∀ i, ((((List.range (i + 1)).filter fun v => decide (stT s v = "lost")).map fun (v : Nat) => (v : Int)).map V.int) = ((((List.range i).filter fun v => decide (stT s v = "lost")).map fun (v : Nat) => (v : Int)).map V.int) ++ if stT s i = "lost" then [V.int (i : Int)] else [] := fun i => by
    rw [List.range_succ, List.filter_append, List.map_append, List.map_append]
    congr 1
    by_cases c : stT s i = "lost"
    · rw [if_pos c, List.filter_cons_of_pos (p := fun v => decide (stT s v = "lost")) (decide_eq_true c)] <;> rfl
    · rw [if_neg c, List.filter_cons_of_neg (p := fun v => decide (stT s v = "lost")) (by rw [decide_eq_false c]; decide)] <;> rfl
  refine cp_rng (fun i => ((((List.range i).filter fun v => decide (stT s v = "lost")).map fun (v : Nat) => (v : Int)).map V.int)) (fun i hi => sz_lt (by
    rw [List.length_map, List.length_map]
    have := List.length_filter_le (fun v => decide (stT s v = "lost")) (List.range i)
    rw [List.length_range] at this
    omega)) rfl (fun i H' S N hi k y no => ?_) (fun q H1 nq k1 hq => g q H1 nq k1 hq)
  have e1 : gI R' (0 + (i : Int)).toNat = gI s.R i := by rw [show (0 + (i : Int)).toNat = i by omega]; exact eR i (by omega)
  have e2 : gI L' (0 + (i : Int) + 1).toNat = gI s.L (i + 1) := by rw [show (0 + (i : Int) + 1).toNat = i + 1 by omega]; exact eL (i + 1) (by omega) (by omega)
  walk_at "g"
  refine ⟨rfl, ?_⟩
  walk_at "g"
  refine w_ixL (SqL.of (k.at0 a.ob)) (i := 2) (v := .ref r) rfl ?_
  walk_at "g"
  refine w_ixL (SqL.of (k.at0 hR)) (at_I (by omega) (by omega)) ?_
  rw [e1]
  walk_at "g"
  refine w_iteN (fun c1 => ?_) (fun c1 => ?_)
  · walk_at "g"
    refine w_ixL (SqL.of (k.at0 a.ob)) (i := 1) (v := .ref l) rfl ?_
    walk_at "g"
    refine w_ixL (SqL.of (k.at0 hL)) (at_I (by omega) (by omega)) ?_
    rw [e2]
    walk_at "g"
    refine w_iteN (fun c2 => ?_) (fun c2 => ?_)
    · walk_at "g"
      refine y _ _ (Kp.refl _ _) ?_
      rw [snoc, if_pos (stT_lost2.mpr ⟨by omega, by omega⟩), Int.zero_add]
    · refine no _ (Kp.refl _ _) ?_
      rw [snoc, if_neg (fun z => by have := (stT_lost2.mp z).2; omega), List.append_nil]
  · walk_at "g"
    refine no _ (Kp.refl _ _) ?_
    rw [snoc, if_neg (fun z => by have := (stT_lost2.mp z).1; omega), List.append_nil]
theorem len__law_is_due (K : PySem.W.Frag) : ∀ vs H Q E, sp16__law_is_due K vs H Q E → vs.length = (["book", "node"] : List Str).length := by
  rintro vs H Q E ⟨_, _, _, _, _, _, rfl, _⟩
  rfl
theorem rd__law_is_due (T : Txt K mg) (vs : List V) (H : Hp) (Q : VK) (E : XK) (h : sp16__law_is_due K vs H Q E) : t__law_is_due K E { nx := fun _ H' => Q .non H', rt := Q } (start ["book", "node"] vs) H := by
  obtain ⟨w, l, r, o, s, v, rfl, a, v1, v2, g⟩ := h
  unfold t__law_is_due
  obtain ⟨L', hL, lL, eL⟩ := a.hl
  obtain ⟨R', hR, lR, eR⟩ := a.hr
  have wf := a.wf
  have n60 := wf.n60
  have lO := wf.lO
  have e1 : gI L' ((v : Int)).toNat = gI s.L v := by rw [Int.toNat_natCast]; exact eL v v1 (by omega)
  have e2 : gI R' ((v : Int) - 1).toNat = gI s.R (v - 1) := by rw [show ((v : Int) - 1).toNat = v - 1 by omega]; exact eR (v - 1) (by omega)
  have e3 : gI R' ((v : Int)).toNat = gI s.R v := by rw [Int.toNat_natCast]; exact eR v v2
  have e4 : gI L' ((v : Int) + 1).toNat = gI s.L (v + 1) := by rw [show ((v : Int) + 1).toNat = v + 1 by omega]; exact eL (v + 1) (by omega) (by omega)
  have lft : stT s v = "left" ↔ gI s.R v = (v : Int) + 1 ∧ gI s.L (v + 1) ≠ (v : Int) := stT_left
  have rgt : stT s (v - 1) = "right" ↔ gI s.R (v - 1) ≠ (v : Int) ∧ gI s.L v = (v : Int) - 1 := by
    rw [stT_right, show v - 1 + 1 = v by omega]
    constructor
    · rintro ⟨x, y⟩
      exact ⟨by omega, by omega⟩
    · rintro ⟨x, y⟩
      exact ⟨by omega, by omega⟩
  unfold dueB soleB at g
  walk_at "g"
  refine w_ixL (SqL.of a.ob) (i := 3) (v := .ref o) rfl ?_
  walk_at "g"
  refine w_ixL (SqL.of a.ho) (at_B (by omega) (by omega)) ?_
  rw [Int.toNat_natCast]
  walk_at "g"
  refine w_iteB (fun c => ?_) (fun c => ?_)
  · rw [c, Bool.true_or] at g
    walk_at "g"
    exact g
  rw [c, Bool.false_or] at g
  have last : ¬ stT s (v - 1) = "right" → Q (.bl (decide (gI s.R v = (v : Int) + 1) && !decide (gI s.L (v + 1) = (v : Int)))) H := fun nr => by
    rw [decide_eq_false nr, Bool.or_false] at g
    have e : decide (stT s v = "left") = (decide (gI s.R v = (v : Int) + 1) && !decide (gI s.L (v + 1) = (v : Int))) := by
      rw [Bool.eq_iff_iff, decide_eq_true_iff, lft, Bool.and_eq_true, decide_eq_true_iff, Bool.not_eq_true', decide_eq_false_iff_not]
    rw [e] at g
    exact g
  have tail : ¬ stT s (v - 1) = "right" → (tRet (tAndV (tOp (rEqA K) (tOp (rIx K) (tOp (rIx K) (tVar 0) (tC (.int 2))) (tVar 1)) (tOp rAddA (tVar 1) (tC (.int 1)))) (tOp (rNeA K) (tOp (rIx K) (tOp (rIx K) (tVar 0) (tC (.int 1))) (tOp rAddA (tVar 1) (tC (.int 1)))) (tVar 1)))) { nx := fun _ H' => Q .non H', rt := Q } [some (.ref w), some (.int (v : Int))] H := fun nr => by
    have z := last nr
    walk_at "g"
    refine w_ixL (SqL.of a.ob) (i := 2) (v := .ref r) rfl ?_
    walk_at "g"
    refine w_ixL (SqL.of hR) (at_I (by omega) (by omega)) ?_
    rw [e3]
    walk_at "g"
    cases d1 : decide (gI s.R v = (v : Int) + 1) with
    | false =>
      rw [d1, Bool.false_and] at z
      walk_at "g"
      exact z
    | true =>
      rw [d1, Bool.true_and] at z
      walk_at "g"
      refine w_ixL (SqL.of a.ob) (i := 1) (v := .ref l) rfl ?_
      walk_at "g"
      refine w_ixL (SqL.of hL) (at_I (by omega) (by omega)) ?_
      rw [e4]
      walk_at "g"
      exact z
  walk_at "g"
  refine w_ixL (SqL.of a.ob) (i := 1) (v := .ref l) rfl ?_
  walk_at "g"
  refine w_ixL (SqL.of hL) (at_I (by omega) (by omega)) ?_
  rw [e1]
  walk_at "g"
  refine w_iteD (fun c1 => ?_) (fun c1 => ?_)
  · walk_at "g"
    refine w_ixL (SqL.of a.ob) (i := 2) (v := .ref r) rfl ?_
    walk_at "g"
    refine w_ixL (SqL.of hR) (at_I (by omega) (by omega)) ?_
    rw [e2]
    walk_at "g"
    refine w_iteN (fun c2 => ?_) (fun c2 => ?_)
    · rw [decide_eq_true (rgt.mpr ⟨c2, c1⟩), Bool.or_true] at g
      walk_at "g"
      exact g
    · exact tail fun z => (rgt.mp z).1 c2
  · exact tail fun z => c1 (rgt.mp z).2
theorem len__law_due (K : PySem.W.Frag) : ∀ vs H Q E, sp16__law_due K vs H Q E → vs.length = (["book"] : List Str).length := by
  rintro vs H Q E ⟨_, _, _, _, _, rfl, _⟩
  rfl
theorem rd__law_due (T : Txt K mg) (vs : List V) (H : Hp) (Q : VK) (E : XK) (h : sp16__law_due K vs H Q E) : t__law_due K E { nx := fun _ H' => Q .non H', rt := Q } (start ["book", "node"] vs) H := by
  obtain ⟨w, l, r, o, s, rfl, a, g⟩ := h
  unfold t__law_due
  have n60 := a.wf.n60
  walk_at "g"
  refine w_ixL (SqL.of a.ob) at_0 ?_
  walk_at "g"
  refine w_r2 (by omega) ?_
  rw [show ((s.n : Int) + 1 - 1).toNat = s.n by omega]
  have snoc : ∀ i, (((((List.range (i + 1)).map fun (v : Nat) => v + 1).filter fun v => dueB s v).map fun (v : Nat) => (v : Int)).map V.int) = (((((List.range i).map fun (v : Nat) => v + 1).filter fun v => dueB s v).map fun (v : Nat) => (v : Int)).map V.int) ++ if dueB s (i + 1) = true then [V.int ((i + 1 : Nat) : Int)] else [] := fun i => by
    rw [List.range_succ, List.map_append, List.filter_append, List.map_append, List.map_append]
    congr 1
    show (([i + 1].filter fun v => dueB s v).map _).map _ = _
    cases c : dueB s (i + 1) with
    | true => rw [List.filter_cons_of_pos c, if_pos rfl] <;> rfl
    | false => rw [List.filter_cons_of_neg (by rw [c]; decide), if_neg Bool.false_ne_true] <;> rfl
  refine cp_rng (fun i => (((((List.range i).map fun (v : Nat) => v + 1).filter fun v => dueB s v).map fun (v : Nat) => (v : Int)).map V.int)) (fun i hi => sz_lt (by
    rw [List.length_map, List.length_map]
    have := List.length_filter_le (fun v => dueB s v) ((List.range i).map fun (v : Nat) => v + 1)
    rw [List.length_map, List.length_range] at this
    omega)) rfl (fun i H' S N hi k y no => ?_) (fun q H1 nq k1 hq => g q H1 nq k1 hq)
  rw [show (1 : Int) + (i : Int) = ((i + 1 : Nat) : Int) by omega]
  walk_at "g"
  refine ⟨rfl, ?_⟩
  walk_at "g"
  refine ⟨w, l, r, o, s, i + 1, rfl, a.k0 k, by omega, by omega, ?_⟩
  walk_at "g"
  refine w_iteB (fun c => ?_) (fun c => ?_)
  · walk_at "g"
    refine y _ _ (Kp.refl _ _) ?_
    rw [snoc, if_pos c]
  · refine no _ (Kp.refl _ _) ?_
    rw [snoc, if_neg (by rw [c]; exact Bool.false_ne_true), List.append_nil]
theorem len__law_owed (K : PySem.W.Frag) : ∀ vs H Q E, sp16__law_owed K vs H Q E → vs.length = (["book"] : List Str).length := by
  rintro vs H Q E ⟨_, _, _, _, _, rfl, _⟩
  rfl
theorem rd__law_owed (T : Txt K mg) (vs : List V) (H : Hp) (Q : VK) (E : XK) (h : sp16__law_owed K vs H Q E) : t__law_owed K E { nx := fun _ H' => Q .non H', rt := Q } (start ["book", "node"] vs) H := by
  obtain ⟨w, l, r, o, s, rfl, a, g⟩ := h
  unfold t__law_owed
  have n60 := a.wf.n60
  have lO := a.wf.lO
  have dl := due_len s
  walk_at "g"
  refine ⟨w, l, r, o, s, rfl, a, fun q H1 nq k1 hq => ?_⟩
  have a1 := a.k0 k1
  walk_at "g"
  refine w_l1 (SqL.of hq) ?_
  refine cp_lst (SqL.of hq) (fun i => (((dueL s).take i).map fun v => costB (gB s.O v.toNat)).map V.int) (fun i hi => sz_lt (by rw [List.length_map, List.length_map, List.length_take]; rw [List.length_map] at hi; omega)) rfl (fun i x H' S N hx k y _ => ?_) (fun t H2 nt k2 ht => ?_)
  · obtain ⟨v, hv, rfl⟩ := at_map hx
    obtain ⟨v1, v2, _⟩ := mem_due.mp (List.mem_of_getElem? hv)
    obtain ⟨m, rfl⟩ : ∃ m : Nat, v = (m : Int) := ⟨v.toNat, by omega⟩
    walk_at "g"
    refine ⟨rfl, ?_⟩
    walk_at "g"
    refine w_ixL (SqL.of (k.at0 a1.ob)) (i := 3) (v := .ref o) rfl ?_
    walk_at "g"
    refine w_ixL (SqL.of (k.at0 a1.ho)) (at_B (by omega) (by omega)) ?_
    rw [Int.toNat_natCast]
    walk_at "g"
    have last : (((dueL s).take (i + 1)).map fun v => costB (gB s.O v.toNat)).map V.int = (((dueL s).take i).map fun v => costB (gB s.O v.toNat)).map V.int ++ [V.int (costB (gB s.O m))] := by
      rw [take_snoc hv, List.map_append, List.map_append] <;> rfl
    refine w_iteB (fun c => ?_) (fun c => ?_)
    · walk_at "g"
      refine y _ _ (Kp.refl _ _) ?_
      rw [last, c] <;> rfl
    · walk_at "g"
      refine y _ _ (Kp.refl _ _) ?_
      rw [last, c] <;> rfl
  rw [List.length_map, List.take_length] at ht
  walk_at "g"
  refine w_sumN ht ?_
  exact g H2 (k1.trans k2)
structure TbZ (H : Hp) (l r o : Addr) (n : Nat) (L R : List Int) (O : List Bool) : Prop where
  hl : H l = some (.lst (L.map V.int))
  hr : H r = some (.lst (R.map V.int))
  ho : H o = some (.lst (O.map V.bl))
  ne : l ≠ r ∧ l ≠ o ∧ r ≠ o
  lL : L.length = n + 2
  lR : R.length = n + 2
  lO : O.length = n + 2
  rb : ∀ v : Nat, v ≤ n → (v : Int) < gI R v ∧ gI R v ≤ (n : Int) + 1
  lb : ∀ v : Nat, 1 ≤ v → v ≤ n + 1 → 0 ≤ gI L v ∧ gI L v < (v : Int)
  o0 : gB O 0 = false
  o1 : gB O (n + 1) = false
theorem TbZ.kp {H H' : Hp} {l r o : Addr} {n : Nat} {L R : List Int} {O : List Bool} {S : List Addr} (a : TbZ H l r o n L R O) (k : Kp S H H') (h1 : l ∉ S) (h2 : r ∉ S) (h3 : o ∉ S) : TbZ H' l r o n L R O :=
  ⟨k _ _ h1 a.hl, k _ _ h2 a.hr, k _ _ h3 a.ho, a.ne, a.lL, a.lR, a.lO, a.rb, a.lb, a.o0, a.o1⟩
theorem TbZ.setL {H H' : Hp} {l r o : Addr} {n : Nat} {L R : List Int} {O : List Bool} (a : TbZ H l r o n L R O) {v : Nat} {x : Int} (h1 : 0 ≤ x) (h2 : x < (v : Int)) (hv : v ≤ n + 1) (k : Kp [l] H H') (h : H' l = some (.lst ((L.map V.int).set v (.int x)))) : TbZ H' l r o n (L.set v x) R O := by
  obtain ⟨n1, n2, n3⟩ := a.ne
  refine ⟨by rw [h, set_I], k.at1 n1.symm a.hr, k.at1 n2.symm a.ho, a.ne, by rw [List.length_set]; exact a.lL, a.lR, a.lO, a.rb, fun u u1 u2 => ?_, a.o0, a.o1⟩
  rw [gI_set (by rw [a.lL]; omega)]
  split
  · rename_i e
    omega
  · exact a.lb u u1 u2
theorem TbZ.setR {H H' : Hp} {l r o : Addr} {n : Nat} {L R : List Int} {O : List Bool} (a : TbZ H l r o n L R O) {v : Nat} {x : Int} (h1 : (v : Int) < x) (h2 : x ≤ (n : Int) + 1) (hv : v ≤ n) (k : Kp [r] H H') (h : H' r = some (.lst ((R.map V.int).set v (.int x)))) : TbZ H' l r o n L (R.set v x) O := by
  obtain ⟨n1, n2, n3⟩ := a.ne
  refine ⟨k.at1 n1 a.hl, by rw [h, set_I], k.at1 n3.symm a.ho, a.ne, a.lL, by rw [List.length_set]; exact a.lR, a.lO, fun u u2 => ?_, a.lb, a.o0, a.o1⟩
  rw [gI_set (by rw [a.lR]; omega)]
  split
  · rename_i e
    omega
  · exact a.rb u u2
theorem TbZ.setO {H H' : Hp} {l r o : Addr} {n : Nat} {L R : List Int} {O : List Bool} (a : TbZ H l r o n L R O) {v : Nat} {x : Bool} (h1 : 1 ≤ v) (hv : v ≤ n) (k : Kp [o] H H') (h : H' o = some (.lst ((O.map V.bl).set v (.bl x)))) : TbZ H' l r o n L R (O.set v x) := by
  obtain ⟨n1, n2, n3⟩ := a.ne
  refine ⟨k.at1 n2 a.hl, k.at1 n3 a.hr, by rw [h, List.map_set], a.ne, a.lL, a.lR, by rw [List.length_set]; exact a.lO, a.rb, a.lb, ?_, ?_⟩
  · rw [gB_set (by rw [a.lO]; omega), if_neg (by omega)]
    exact a.o0
  · rw [gB_set (by rw [a.lO]; omega), if_neg (by omega)]
    exact a.o1
theorem TbZ.bk {H H' : Hp} {w l r o : Addr} {n : Nat} {L R : List Int} {O : List Bool} (a : TbZ H l r o n L R O) (n60 : n ≤ 60) (nw : H w = none) (k : Kp [] H H') (hw : H' w = some (.lst [.int (n : Int), .ref l, .ref r, .ref o])) :
    Bk5 H' w l r o ⟨n, R.take (n + 1), 0 :: L.drop 1, O⟩ ∧ Snd ⟨n, R.take (n + 1), 0 :: L.drop 1, O⟩ := by
  have lR := a.lR
  have lL := a.lL
  have gR : ∀ v, v ≤ n → gI (R.take (n + 1)) v = gI R v := fun v hv => by
    unfold gI
    rw [List.getD_eq_getElem?_getD, List.getD_eq_getElem?_getD, List.getElem?_take, if_pos (by omega)]
  have gL : ∀ v, 1 ≤ v → gI (0 :: L.drop 1) v = gI L v := fun v hv => gI_wL hv
  refine ⟨⟨hw, ⟨L, k.at0 a.hl, lL, fun v v1 v2 => (gL v v1).symm⟩, ⟨R, k.at0 a.hr, lR, fun v hv => (gR v hv).symm⟩, k.at0 a.ho, ⟨a.ne.1, a.ne.2.1, a.ne.2.2, (ne_of_none a.hl nw).symm, (ne_of_none a.hr nw).symm, (ne_of_none a.ho nw).symm⟩, ⟨n60, ?_, ?_, a.lO, fun v hv => ?_, fun v v1 v2 => ?_⟩⟩, ⟨⟨_, rfl⟩, a.o0, a.o1⟩⟩
  · show (R.take (n + 1)).length = n + 1
    rw [List.length_take]
    omega
  · show (0 :: L.drop 1).length = n + 2
    rw [List.length_cons, List.length_drop]
    omega
  · show (v : Int) < gI (R.take (n + 1)) v ∧ gI (R.take (n + 1)) v ≤ (n : Int) + 1
    rw [gR v hv]
    exact a.rb v hv
  · show 0 ≤ gI (0 :: L.drop 1) v ∧ gI (0 :: L.drop 1) v < (v : Int)
    rw [gL v v1]
    exact a.lb v v1 v2
theorem len__law_standing (K : PySem.W.Frag) : ∀ vs H Q E, sp16__law_standing K vs H Q E → vs.length = (["bag", "size", "lossy"] : List Str).length := by
  rintro vs H Q E ⟨_, _, _, _, rfl, _⟩
  rfl
theorem rd__law_standing (T : Txt K mg) (vs : List V) (H : Hp) (Q : VK) (E : XK) (h : sp16__law_standing K vs H Q E) : t__law_standing K E { nx := fun _ H' => Q .non H', rt := Q } (start ["bag", "size", "lossy", "lefts", "rights", "outs", "lean", "spot", "gap", "kind", "cut", "node"] vs) H := by
  obtain ⟨b, c, n, lossy, rfl, hn, bx, g⟩ := h
  unfold t__law_standing
  walk_at "j"
  refine w_r1 (by omega) ?_
  refine cp_rng (fun i => (rgI (-1) i).map V.int) (fun i hi => sz_lt (by rw [List.length_map, rgI_len]; omega)) rfl (fun i H' S N hi k y _ => ?_) (fun l H1 nl k1 hl => ?_)
  · walk_at "g"
    refine ⟨rfl, ?_⟩
    walk_at "g"
    refine y _ _ (Kp.refl _ _) ?_
    unfold rgI
    rw [List.range_succ, List.map_append, List.map_append, show (0 : Int) + (i : Int) - 1 = -1 + (i : Int) by omega] <;> rfl
  rw [show ((n : Int) + 2).toNat = n + 2 by omega] at hl
  walk_at "j"
  refine w_r1 (by omega) ?_
  refine cp_rng (fun i => (rgI 1 i).map V.int) (fun i hi => sz_lt (by rw [List.length_map, rgI_len]; omega)) rfl (fun i H' S N hi k y _ => ?_) (fun r H2 nr k2 hr => ?_)
  · walk_at "g"
    refine ⟨rfl, ?_⟩
    walk_at "g"
    refine y _ _ (Kp.refl _ _) ?_
    unfold rgI
    rw [List.range_succ, List.map_append, List.map_append, show (0 : Int) + (i : Int) + 1 = 1 + (i : Int) by omega] <;> rfl
  rw [show ((n : Int) + 2).toNat = n + 2 by omega] at hr
  walk_at "j"
  refine w_r1 (by omega) ?_
  refine cp_rng (fun i => (List.replicate i false).map V.bl) (fun i hi => sz_lt (by rw [List.length_map, List.length_replicate]; omega)) rfl (fun i H' S N hi k y _ => ?_) (fun o H3 no k3 ho => ?_)
  · walk_at "g"
    refine ⟨rfl, ?_⟩
    walk_at "g"
    refine y _ _ (Kp.refl _ _) ?_
    rw [List.replicate_succ', List.map_append] <;> rfl
  rw [show ((n : Int) + 2).toNat = n + 2 by omega] at ho
  have k02 := k1.trans k2
  have k03 := k02.trans k3
  have b3 := bx.k0 k03
  obtain ⟨lb, lc⟩ := bx.fr nl
  obtain ⟨rb, rc⟩ := (bx.k0 k1).fr nr
  obtain ⟨ob, oc⟩ := (bx.k0 k02).fr no
  have nrH : H r = none := k1.free0 nr
  have noH : H o = none := k02.free0 no
  have t3 : TbZ H3 l r o n (rgI (-1) (n + 2)) (rgI 1 (n + 2)) (List.replicate (n + 2) false) := by
    have gf : ∀ v, v < n + 2 → gB (List.replicate (n + 2) false) v = false := fun v hv => gB_of (List.getElem?_replicate_of_lt hv)
    refine ⟨k3.at0 (k2.at0 hl), k3.at0 hr, ho, ⟨ne_of_none hl nr, ne_of_none (k2.at0 hl) no, ne_of_none hr no⟩, rgI_len .., rgI_len .., List.length_replicate, fun v hv => ?_, fun v h1 h2 => ?_, gf 0 (by omega), gf (n + 1) (by omega)⟩
    · rw [gI_range (by omega)]
      omega
    · rw [gI_range (by omega)]
      omega
  have Inv : ∃ P : Hp → Prop, P = fun H' => Kp [b, l, r, o] H H' ∧ Bag5 H' b c ∧ ∃ L R O, TbZ H' l r o n L R O := ⟨_, rfl⟩
  obtain ⟨P, eP⟩ := Inv
  have p3 : P H3 := by rw [eP]; exact ⟨k03.all, b3, _, _, _, t3⟩
  have pK : ∀ {H' H''}, P H' → Kp [] H' H'' → P H'' := fun {H' H''} p k => by
    rw [eP] at p ⊢
    obtain ⟨k0, bb, L, R, O, w⟩ := p
    exact ⟨k0.trans k.all, bb.k0 k, L, R, O, w.kp k (by simp) (by simp) (by simp)⟩
  have pD : ∀ {H' H''}, P H' → Kp [b] H' H'' → Bag5 H'' b c → P H'' := fun {H' H''} p k bb => by
    rw [eP] at p ⊢
    obtain ⟨k0, _, L, R, O, w⟩ := p
    exact ⟨k0.trans (k.mono (by simp)), bb, L, R, O, w.kp k (by simpa using lb) (by simpa using rb) (by simpa using ob)⟩
  have pB : ∀ {H'}, P H' → Bag5 H' b c := fun {H'} p => by rw [eP] at p; exact p.2.1
  have pW : ∀ {H'}, P H' → ∃ L R O, TbZ H' l r o n L R O := fun {H'} p => by rw [eP] at p; exact p.2.2
  have pL : ∀ {H' H''} {L R : List Int} {O : List Bool}, P H' → Kp [l] H' H'' → TbZ H'' l r o n L R O → P H'' := fun {H' H'' L R O} p k w => by
    rw [eP] at p ⊢
    exact ⟨p.1.trans (k.mono (by simp)), p.2.1.kp k (by simpa using Ne.symm lb) (by simpa using Ne.symm lc), _, _, _, w⟩
  have pR : ∀ {H' H''} {L R : List Int} {O : List Bool}, P H' → Kp [r] H' H'' → TbZ H'' l r o n L R O → P H'' := fun {H' H'' L R O} p k w => by
    rw [eP] at p ⊢
    exact ⟨p.1.trans (k.mono (by simp)), p.2.1.kp k (by simpa using Ne.symm rb) (by simpa using Ne.symm rc), _, _, _, w⟩
  have pO : ∀ {H' H''} {L R : List Int} {O : List Bool}, P H' → Kp [o] H' H'' → TbZ H'' l r o n L R O → P H'' := fun {H' H'' L R O} p k w => by
    rw [eP] at p ⊢
    exact ⟨p.1.trans (k.mono (by simp)), p.2.1.kp k (by simpa using Ne.symm ob) (by simpa using Ne.symm oc), _, _, _, w⟩
  walk_at "j"
  refine ⟨b, c, 4, rfl, by omega, by omega, b3, fun lean H4 e0 e1 k4 b4 => ?_⟩
  have p4 := pD p3 k4 b4
  walk_at "j"
  refine w_ifJ (fun σ' H' => ∃ spot : Int, σ' = [some (.ref b), some (.int (n : Int)), some (.int lossy), some (.ref l), some (.ref r), some (.ref o), some (.int lean), some (.int spot), none, none, none, none] ∧ P H') (fun N hN => ?_) (fun σ' H5 ⟨spot, es, p5⟩ => ?_)
  · walk_at "g"
    refine w_iteD (fun c1 => ?_) (fun c1 => ?_)
    · walk_at "g"
      refine w_iteD (fun c2 => ?_) (fun c2 => ?_)
      · walk_at "g"
        refine ⟨b, c, (n : Int) - 1, rfl, by omega, by omega, pB p4, fun d H5 d0 d1 k5 b5 => ?_⟩
        walk_at "g"
        exact hN _ _ ⟨_, rfl, pD p4 k5 b5⟩
      · walk_at "g"
        exact hN _ _ ⟨0, rfl, p4⟩
    · walk_at "g"
      exact hN _ _ ⟨0, rfl, p4⟩
  subst es
  walk_at "j"
  refine w_r1 (by omega) ?_
  rw [show ((n : Int) + 1).toNat = n + 1 by omega]
  refine lp_rng0 (fun i σ H' => (∃ x y z, σ = [some (.ref b), some (.int (n : Int)), some (.int lossy), some (.ref l), some (.ref r), some (.ref o), some (.int lean), some (.int spot), x, y, z, none]) ∧ P H') ⟨⟨_, _, _, rfl⟩, p5⟩ ?_ ?_
  · rintro i σ' H' hi ⟨⟨x, y, z, rfl⟩, p⟩
    have ifL : ∀ (D : Ends) (cb : Bool) (kd : Int) (H7 : Hp), P H7 → (∀ H8, P H8 → D.nx [some (.ref b), some (.int (n : Int)), some (.int lossy), some (.ref l), some (.ref r), some (.ref o), some (.int lean), some (.int spot), some (.int (i : Int)), some (.int kd), some (.bl cb), none] H8) → tIfS (tAnd (tTest (tOp rGtA (tVar 8) (tC (.int 0)))) (tOr (tTest (tOp (rIn K false) (tVar 9) (tTup (tCons (tC (.int 0)) (tCons (tC (.int 1)) (tCons (tC (.int 7)) (tCons (tC (.int 8)) (tNil)))))))) (tB (tVar 10)))) (tAsg (tCl (sp21__law_draw K) (fun _ => E) (tCons (tVar 0) (tCons (tVar 8) (tNil)))) (gSub (tVar 3) (tOp rAddA (tVar 8) (tC (.int 1))) rSetL)) (tNext) D [some (.ref b), some (.int (n : Int)), some (.int lossy), some (.ref l), some (.ref r), some (.ref o), some (.int lean), some (.int spot), some (.int (i : Int)), some (.int kd), some (.bl cb), none] H7 := by
      intro D cb kd H7 p7 nx
      have put : ∀ H7, 0 < i → P H7 → (tAsg (tCl (sp21__law_draw K) (fun _ => E) (tCons (tVar 0) (tCons (tVar 8) (tNil)))) (gSub (tVar 3) (tOp rAddA (tVar 8) (tC (.int 1))) rSetL)) D [some (.ref b), some (.int (n : Int)), some (.int lossy), some (.ref l), some (.ref r), some (.ref o), some (.int lean), some (.int spot), some (.int (i : Int)), some (.int kd), some (.bl cb), none] H7 := by
        intro H7 i0 p7
        walk_at "g"
        refine ⟨b, c, (i : Int), rfl, by omega, by omega, pB p7, fun d H8 d0 d1 k8 b8 => ?_⟩
        have p8 := pD p7 k8 b8
        obtain ⟨L, R, O, wd⟩ := pW p8
        walk_at "g"
        refine w_seT wd.hl (n := i + 1) (by rw [List.length_map, ixN_pos (by omega) (by rw [wd.lL]; omega), show ((i : Int) + 1).toNat = i + 1 by omega]) fun H9 k9 h9 => ?_
        exact nx H9 (pL p8 k9 (wd.setL (by omega) (by omega) (by omega) k9 h9))
      walk_at "g"
      refine w_iteD (fun c1 => ?_) (fun c1 => ?_)
      · walk_at "g"
        refine ⟨sz_ok (by show 4 ≤ 1000000; omega), nw fun t H8 nt k8 ht => ?_⟩
        have p8 := pK p7 k8
        refine w_inT (SqT.of ht) rfl rfl ?_
        rw [if_neg Bool.false_ne_true]
        generalize inV _ _ = ib
        cases ib with
        | true =>
          refine ⟨true, rfl, ?_⟩
          exact put H8 (by omega) p8
        | false =>
          walk_at "g"
          cases cb with
          | true => exact put H8 (by omega) p8
          | false =>
            walk_at "g"
            exact nx H8 p8
      · walk_at "g"
        exact nx H7 p7
    have ifR : ∀ (D : Ends) (cb : Bool) (kd : Int) (H7 : Hp), P H7 → (∀ H8, P H8 → D.nx [some (.ref b), some (.int (n : Int)), some (.int lossy), some (.ref l), some (.ref r), some (.ref o), some (.int lean), some (.int spot), some (.int (i : Int)), some (.int kd), some (.bl cb), none] H8) → tIfS (tAnd (tTest (tOp rLtA (tVar 8) (tVar 1))) (tOr (tTest (tOp (rIn K false) (tVar 9) (tTup (tCons (tC (.int 2)) (tCons (tC (.int 3)) (tCons (tC (.int 7)) (tCons (tC (.int 8)) (tNil)))))))) (tB (tVar 10)))) (tAsg (tOp rAddA (tOp rAddA (tVar 8) (tC (.int 2))) (tCl (sp21__law_draw K) (fun _ => E) (tCons (tVar 0) (tCons (tOp rSubA (tVar 1) (tVar 8)) (tNil))))) (gSub (tVar 4) (tVar 8) rSetL)) (tNext) D [some (.ref b), some (.int (n : Int)), some (.int lossy), some (.ref l), some (.ref r), some (.ref o), some (.int lean), some (.int spot), some (.int (i : Int)), some (.int kd), some (.bl cb), none] H7 := by
      intro D cb kd H7 p7 nx
      have put : ∀ H7, i < n → P H7 → (tAsg (tOp rAddA (tOp rAddA (tVar 8) (tC (.int 2))) (tCl (sp21__law_draw K) (fun _ => E) (tCons (tVar 0) (tCons (tOp rSubA (tVar 1) (tVar 8)) (tNil))))) (gSub (tVar 4) (tVar 8) rSetL)) D [some (.ref b), some (.int (n : Int)), some (.int lossy), some (.ref l), some (.ref r), some (.ref o), some (.int lean), some (.int spot), some (.int (i : Int)), some (.int kd), some (.bl cb), none] H7 := by
        intro H7 i0 p7
        walk_at "g"
        refine ⟨b, c, (n : Int) - (i : Int), rfl, by omega, by omega, pB p7, fun d H8 d0 d1 k8 b8 => ?_⟩
        have p8 := pD p7 k8 b8
        obtain ⟨L, R, O, wd⟩ := pW p8
        walk_at "g"
        refine w_seT wd.hr (n := i) (by rw [List.length_map, ixN_pos (by omega) (by rw [wd.lR]; omega), Int.toNat_natCast]) fun H9 k9 h9 => ?_
        exact nx H9 (pR p8 k9 (wd.setR (by omega) (by omega) (by omega) k9 h9))
      walk_at "g"
      refine w_iteD (fun c1 => ?_) (fun c1 => ?_)
      · walk_at "g"
        refine ⟨sz_ok (by show 4 ≤ 1000000; omega), nw fun t H8 nt k8 ht => ?_⟩
        have p8 := pK p7 k8
        refine w_inT (SqT.of ht) rfl rfl ?_
        rw [if_neg Bool.false_ne_true]
        generalize inV _ _ = ib
        cases ib with
        | true =>
          refine ⟨true, rfl, ?_⟩
          exact put H8 (by omega) p8
        | false =>
          walk_at "g"
          cases cb with
          | true => exact put H8 (by omega) p8
          | false =>
            walk_at "g"
            exact nx H8 p8
      · walk_at "g"
        exact nx H7 p7
    walk_at "j"
    refine w_iteD (fun _ => ?_) (fun _ => ?_)
    all_goals
      walk_at "j"
      refine ⟨b, c, _, rfl, by omega, by omega, pB p, fun kd H7 e0 e1 k7 b7 => ?_⟩
      have p7 := pD p k7 b7
      walk_at "j"
      refine w_iteD (fun _ => ?_) (fun _ => ?_)
    all_goals
      walk_at "j"
      refine w_ifJ (fun σ' H' => (∃ cb : Bool, σ' = [some (.ref b), some (.int (n : Int)), some (.int lossy), some (.ref l), some (.ref r), some (.ref o), some (.int lean), some (.int spot), some (.int (i : Int)), some (.int kd), some (.bl cb), none]) ∧ P H') (fun N hN => ?_) (fun σ' H8 ⟨⟨cb, es⟩, p8⟩ => ?_)
    · exact ifL _ _ _ _ p7 fun H8 p8 => hN _ _ ⟨⟨_, rfl⟩, p8⟩
    · subst es
      exact ifR _ _ _ _ p8 fun H9 p9 => ⟨⟨_, _, _, rfl⟩, p9⟩
    · exact ifL _ _ _ _ p7 fun H8 p8 => hN _ _ ⟨⟨_, rfl⟩, p8⟩
    · subst es
      exact ifR _ _ _ _ p8 fun H9 p9 => ⟨⟨_, _, _, rfl⟩, p9⟩
    · exact ifL _ _ _ _ p7 fun H8 p8 => hN _ _ ⟨⟨_, rfl⟩, p8⟩
    · subst es
      exact ifR _ _ _ _ p8 fun H9 p9 => ⟨⟨_, _, _, rfl⟩, p9⟩
    · exact ifL _ _ _ _ p7 fun H8 p8 => hN _ _ ⟨⟨_, rfl⟩, p8⟩
    · subst es
      exact ifR _ _ _ _ p8 fun H9 p9 => ⟨⟨_, _, _, rfl⟩, p9⟩
  rintro σ' H6 ⟨⟨x, y, z, rfl⟩, p6⟩
  walk_at "j"
  refine w_r2 (by omega) ?_
  rw [show ((n : Int) + 1 - 1).toNat = n by omega]
  refine lp_rng (fun i σ H' => (∃ u, σ = [some (.ref b), some (.int (n : Int)), some (.int lossy), some (.ref l), some (.ref r), some (.ref o), some (.int lean), some (.int spot), x, y, z, u]) ∧ P H') ⟨⟨_, rfl⟩, p6⟩ ?_ ?_
  · rintro i σ' H' hi ⟨⟨u, rfl⟩, p⟩
    have put : ∀ (f : Bool) H7, P H7 → ∀ R : Hp → Prop, (∀ H8, P H8 → R H8) → rSetL (.ref o) (.int (1 + (i : Int))) (.bl f) H7 R := fun f H7 p7 R hR => by
      obtain ⟨L, R', O, wd⟩ := pW p7
      refine w_seT wd.ho (n := 1 + i) (by rw [List.length_map, ixN_pos (by omega) (by rw [wd.lO]; omega), show ((1 : Int) + (i : Int)).toNat = 1 + i by omega]) fun H8 k8 h8 => ?_
      exact hR H8 (pO p7 k8 (wd.setO (by omega) (by omega) k8 h8))
    walk_at "j"
    refine w_iteN (fun c1 => ?_) (fun c1 => ?_)
    · walk_at "j"
      refine ⟨sz_ok (by show 4 ≤ 1000000; omega), nw fun t H7 nt k7 ht => ?_⟩
      have ht' : H7 t = some (.lst ([2, 1, 5, 3].map V.int)) := ht
      have p7 := pK p k7
      walk_at "j"
      refine w_ixL (SqL.of ht') (at_I (by omega) (by show lean < 4; omega)) ?_
      have bd : ∀ k : Nat, k < 4 → 0 < gI [2, 1, 5, 3] k ∧ gI [2, 1, 5, 3] k ≤ 5 := by decide +kernel
      have b0 := bd lean.toNat (by omega)
      generalize gI [2, 1, 5, 3] lean.toNat = m at b0 ⊢
      walk_at "j"
      refine ⟨b, c, m, rfl, by omega, by omega, pB p7, fun d H8 d0 d1 k8 b8 => ?_⟩
      walk_at "j"
      refine put _ H8 (pD p7 k8 b8) _ fun H9 p9 => ?_
      exact ⟨⟨_, rfl⟩, p9⟩
    · walk_at "j"
      refine put _ H' p _ fun H9 p9 => ?_
      exact ⟨⟨_, rfl⟩, p9⟩
  rintro σ' H7 ⟨⟨u, rfl⟩, p7⟩
  walk_at "j"
  refine ⟨sz_ok (by show 4 ≤ 1000000; omega), nw fun w H8 nw k8 hw => ?_⟩
  obtain ⟨L, R, O, tb⟩ := pW p7
  obtain ⟨bk, sn⟩ := tb.bk hn nw k8 hw
  have b7 := pB p7
  rw [eP] at p7
  have wb : w ∉ [b, l, r, o] := by
    obtain ⟨wb, wc⟩ := b7.fr nw
    simp only [List.mem_cons, List.not_mem_nil, or_false, not_or]
    exact ⟨wb, (ne_of_none tb.hl nw).symm, (ne_of_none tb.hr nw).symm, (ne_of_none tb.ho nw).symm⟩
  exact g _ w l r o H8 rfl sn (p7.1.free wb nw) nl nrH noH (Kp.cut (p7.1.trans k8.all) (by simp [nl, nrH, noH])) (b7.k0 k8) bk
open TL in
theorem joinI_ne {l : List Int} (hne : l ≠ []) (h : ∀ i ∈ l, 0 ≤ i) : joinI l ≠ ("" : Str) := fun e => by
  have e2 := split_joinI hne h
  rw [e] at e2
  have d : Txt.split ("" : Str) spS = [("" : Str)] := by
    refine map_tl_inj ?_
    rw [split_spl _ spS (by rw [tl_spS]; simp) (kind_ok (by decide +kernel))]
    decide +kernel
  rw [d] at e2
  cases l with
  | nil => exact hne rfl
  | cons x xs =>
    rw [List.map_cons] at e2
    have hx : ("" : Str) = numI x := by injection e2
    have := numI_pos (h x List.mem_cons_self)
    rw [← hx] at this
    exact absurd this (by decide +kernel)
theorem outN_from (O : List Bool) (h0 : gB O 0 = false) : ∀ i, outN i O = (if gB O i then (if i = 0 then [] else outN (i - 1) O ++ [(i : Int)]) else outN (i - 1) O) := fun i => by
  cases i with
  | zero => rw [if_neg (by rw [h0]; exact Bool.false_ne_true)]
  | succ i =>
    rw [outN_snoc, show i + 1 - 1 = i by omega]
    by_cases c : gB O (i + 1) = true
    · rw [if_pos c, if_pos c, if_neg (by omega)]
    · rw [if_neg c, if_neg c, List.append_nil]
theorem len__law_dump (K : PySem.W.Frag) : ∀ vs H Q E, sp16__law_dump K vs H Q E → vs.length = (["book"] : List Str).length := by
  rintro vs H Q E ⟨_, _, _, _, _, rfl, _⟩
  rfl
theorem rd__law_dump (T : Txt K mg) (vs : List V) (H : Hp) (Q : VK) (E : XK) (h : sp16__law_dump K vs H Q E) : t__law_dump K E { nx := fun _ H' => Q .non H', rt := Q } (start ["book", "rights", "lefts", "outs", "link", "node"] vs) H := by
  obtain ⟨w, l, r, o, s, rfl, a, d, g⟩ := h
  unfold t__law_dump
  obtain ⟨L', hL, lL, eL⟩ := a.hl
  obtain ⟨R', hR, lR, eR⟩ := a.hr
  have wf := a.wf
  have n60 := wf.n60
  have lO := wf.lO
  obtain ⟨R9, Rl⟩ := wf.R9
  obtain ⟨L9, Ll⟩ := wf.L9
  have o9 := outN_9 n60 s.O
  have ol := outN_len s.n s.O
  walk_at "j"
  refine w_ixL (SqL.of a.ob) (i := 2) (v := .ref r) rfl ?_
  walk_at "j"
  refine w_ixL (SqL.of a.ob) at_0 ?_
  walk_at "j"
  refine w_slL (SqL.of hR) fun q H1 nq k1 hq => ?_
  rw [show (s.n : Int) + 1 = ((s.n + 1 : Nat) : Int) by omega, cut_take _ _ (by rw [List.length_map]; omega), ← List.map_take, bk_R wf lR eR] at hq
  walk_at "j"
  refine w_l1 (SqL.of hq) ?_
  refine cp_lst (SqL.of hq) (fun j => (s.R.take j).map fun i => V.str (numI i)) (fun j hj => sz_lt (by rw [List.length_map, List.length_take]; omega)) rfl (fun j x H' S N hx k y _ => ?_) (fun D2 H2 nD2 k2 hD2 => ?_)
  · obtain ⟨v, hv, rfl⟩ := at_map hx
    have b := R9 v (List.mem_of_getElem? hv)
    walk_at "g"
    refine ⟨rfl, ?_⟩
    walk_at "g"
    refine w_str (log_ok b.1 b.2) ?_
    exact y _ _ (Kp.refl _ _) (map_snoc (f := fun i => V.str (numI i)) hv)
  rw [List.length_map, List.take_length] at hD2
  have e2 : (s.R.map fun i => V.str (numI i)) = (s.R.map numI).map V.str := by rw [List.map_map] <;> rfl
  rw [e2] at hD2
  refine w_joinL (SqL.of hD2) (join_cost R9 (by omega)) ?_
  walk_at "j"
  have k12 := k1.trans k2
  refine w_ixL (SqL.of (k12.at0 a.ob)) (i := 1) (v := .ref l) rfl ?_
  walk_at "j"
  refine w_slL (SqL.of (k12.at0 hL)) fun q3 H3 nq3 k3 hq3 => ?_
  have ec : cutV (L'.map V.int) (some 1) none = (L'.map V.int).drop 1 := cut_drop _ 1 (by rw [List.length_map]; omega)
  rw [ec, ← List.map_drop, bk_L wf lL eL] at hq3
  walk_at "j"
  refine w_l1 (SqL.of hq3) ?_
  refine cp_lst (SqL.of hq3) (fun j => ((s.L.drop 1).take j).map fun i => V.str (numI i)) (fun j hj => sz_lt (by rw [List.length_map, List.length_take]; omega)) rfl (fun j x H' S N hx k y _ => ?_) (fun D4 H4 nD4 k4 hD4 => ?_)
  · obtain ⟨v, hv, rfl⟩ := at_map hx
    have b := L9 v (List.mem_of_getElem? hv)
    walk_at "g"
    refine ⟨rfl, ?_⟩
    walk_at "g"
    refine w_str (log_ok b.1 b.2) ?_
    exact y _ _ (Kp.refl _ _) (map_snoc (f := fun i => V.str (numI i)) hv)
  rw [List.length_map, List.take_length] at hD4
  have e4 : ((s.L.drop 1).map fun i => V.str (numI i)) = ((s.L.drop 1).map numI).map V.str := by rw [List.map_map] <;> rfl
  rw [e4] at hD4
  refine w_joinL (SqL.of hD4) (join_cost L9 (by omega)) ?_
  have k14 := k12.trans (k3.trans k4)
  have a4 := a.k0 k14
  walk_at "j"
  refine w_ixL (SqL.of a4.ob) at_0 ?_
  walk_at "j"
  refine w_r1 (by omega) ?_
  rw [show ((s.n : Int) + 1).toNat = s.n + 1 by omega]
  refine cp_rng (fun i => (outN (i - 1) s.O).map fun i => V.str (numI i)) (fun i hi => sz_lt (by
    rw [List.length_map]
    have := outN_len (i - 1) s.O
    omega)) rfl (fun i H' S N hi k y no => ?_) (fun D5 H5 nD5 k5 hD5 => ?_)
  · walk_at "g"
    refine ⟨rfl, ?_⟩
    walk_at "g"
    refine w_ixL (SqL.of (k.at0 a4.ob)) (i := 3) (v := .ref o) rfl ?_
    walk_at "g"
    refine w_ixL (SqL.of (k.at0 a4.ho)) (at_B (by omega) (by omega)) ?_
    walk_at "g"
    have ef := outN_from s.O d.o0 i
    rw [show (0 + (i : Int)).toNat = i by omega]
    refine w_iteB (fun c1 => ?_) (fun c1 => ?_)
    · have i0 : i ≠ 0 := fun z => by
        rw [z, d.o0] at c1
        cases c1
      rw [if_pos c1, if_neg i0] at ef
      walk_at "g"
      refine w_str (log_ok (by omega) (by omega)) ?_
      refine y _ _ (Kp.refl _ _) ?_
      rw [show i + 1 - 1 = i by omega, ef, List.map_append, Int.zero_add] <;> rfl
    · rw [if_neg (by rw [c1]; exact Bool.false_ne_true)] at ef
      refine no _ (Kp.refl _ _) ?_
      rw [show i + 1 - 1 = i by omega, ef]
  rw [show s.n + 1 - 1 = s.n by omega] at hD5
  have e5 : ((outN s.n s.O).map fun i => V.str (numI i)) = ((outN s.n s.O).map numI).map V.str := by rw [List.map_map] <;> rfl
  rw [e5] at hD5
  refine w_joinL (SqL.of hD5) (join_cost o9 (by omega)) ?_
  have k15 := k14.trans k5
  have lr := joinI_len R9
  have ll := joinI_len L9
  have lo := outsT_len o9
  have lb : (" | " : Str).length = 3 := by decide +kernel
  have la : ∀ a b : Str, (a ++ b).length = a.length + b.length := fun a b => by
    rw [TL.len_tl, TL.tl_append, List.length_append, ← TL.len_tl, ← TL.len_tl]
  have nn : ∀ i ∈ outN s.n s.O, 0 ≤ i := fun i hi => (o9 i hi).1
  walk_at "j"
  refine w_ifJ (fun σ' H' => σ' = [some (.ref w), some (.str (joinI s.R)), some (.str (joinI (s.L.drop 1))), some (.str (outsT (outN s.n s.O))), none, none] ∧ H' = H5) (fun N hN => ?_) ?_
  · walk_at "g"
    refine w_iteD (fun c => ?_) (fun c => ?_)
    · walk_at "g"
      refine hN _ _ ⟨?_, rfl⟩
      have e : outN s.n s.O = [] := Classical.byContradiction fun z => joinI_ne z nn c
      unfold outsT
      rw [if_pos e]
      rfl
    · walk_at "g"
      refine hN _ _ ⟨?_, rfl⟩
      have e : outN s.n s.O ≠ [] := fun z => c (by
        show Txt.join spS ((outN s.n s.O).map numI) = _
        rw [z]
        decide +kernel)
      unfold outsT
      rw [if_neg e]
      rfl
  rintro σ' H6 ⟨rfl, rfl⟩
  walk_at "g"
  refine w_addS (sz_ok (by show (joinI s.R).length + _ ≤ _; omega)) ?_
  walk_at "g"
  refine w_addS (sz_ok (by show ((joinI s.R) ++ _).length + (joinI (s.L.drop 1)).length ≤ _; rw [la]; omega)) ?_
  walk_at "g"
  refine w_addS (sz_ok (by show ((joinI s.R) ++ _ ++ (joinI (s.L.drop 1))).length + _ ≤ _; rw [la, la]; omega)) ?_
  walk_at "g"
  refine w_addS (sz_ok (by show ((joinI s.R) ++ _ ++ (joinI (s.L.drop 1)) ++ _).length + (outsT (outN s.n s.O)).length ≤ _; rw [la, la, la]; omega)) ?_
  have fin := str_glue (joinI s.R) (joinI (s.L.drop 1)) (outsT (outN s.n s.O))
  have gg := g _ k15
  unfold dumpS at gg
  rw [← fin] at gg
  exact gg
theorem len_repair_cost (K : PySem.W.Frag) : ∀ vs H Q E, sp16_repair_cost K vs H Q E → vs.length = (["links", "weights"] : List Str).length := by
  rintro vs H Q E ⟨_, _, _, _, _, _, rfl, _⟩
  rfl
theorem rd_repair_cost (T : Txt K mg) (vs : List V) (H : Hp) (Q : VK) (E : XK) (h : sp16_repair_cost K vs H Q E) : t_repair_cost K E { nx := fun _ H' => Q .non H', rt := Q } (start ["links", "weights", "weight", "node"] vs) H := by
  obtain ⟨p, r, l, o, b, s, rfl, a, hb, g, ge⟩ := h
  unfold t_repair_cost
  have n60 := a.wf.n60
  have dl := due_len s
  walk_at "g"
  refine w_lenL (SqL.of hb) ?_
  walk_at "g"
  refine w_fS T.cl_Links T.na_Links_size a ?_
  walk_at "g"
  rw [List.length_map, List.length_replicate, decide_eq_true rfl]
  walk_at "g"
  refine w_l1 (SqL.of hb) ?_
  refine cp_lst (SqL.of hb) (fun i => (List.replicate i false).map V.bl) (fun i hi => sz_lt (by rw [List.length_map, List.length_replicate]; rw [List.length_map, List.length_replicate] at hi; omega)) rfl (fun i x H' S N hx k y _ => ?_) (fun q H1 nq k1 hq => ?_)
  · obtain ⟨one, h1, rfl⟩ := at_map hx
    have e1 : one = 1 := (List.mem_replicate.mp (List.mem_of_getElem? h1)).2
    subst e1
    walk_at "g"
    refine ⟨rfl, ?_⟩
    walk_at "g"
    refine y _ _ (Kp.refl _ _) ?_
    rw [List.replicate_succ', List.map_append] <;> rfl
  rw [List.length_map, List.length_replicate] at hq
  walk_at "g"
  refine w_anyN hq ?_
  have e0 : (List.replicate s.n false).any id = false := by
    rw [List.any_eq_false]
    intro x hx
    rw [(List.mem_replicate.mp hx).2]
    decide
  rw [e0]
  walk_at "g"
  have a1 := a.k0 k1
  refine ⟨p, r, l, o, s, rfl, a1, fun nl H2 k2 => ?_, ge.k0 k1⟩
  have k12 := k1.trans k2
  have a2 := a.k0 k12
  walk_at "g"
  refine ⟨p, r, l, o, s, rfl, a2, fun d H3 nd k3 hd => ?_⟩
  walk_at "g"
  have a3 := a2.k0 k3
  have hb3 := (k12.trans k3).at0 hb
  refine w_l1 (SqL.of hd) ?_
  refine cp_lst (SqL.of hd) (fun i => (((dueL s).take i).map fun v => costB (gB s.O v.toNat)).map V.int) (fun i hi => sz_lt (by rw [List.length_map, List.length_map, List.length_take]; rw [List.length_map] at hi; omega)) rfl (fun i x H' S N hx k y _ => ?_) (fun t H4 nt k4 ht => ?_)
  · obtain ⟨v, hv, rfl⟩ := at_map hx
    obtain ⟨v1, v2, _⟩ := mem_due.mp (List.mem_of_getElem? hv)
    obtain ⟨m, rfl⟩ : ∃ m : Nat, v = (m : Int) := ⟨v.toNat, by omega⟩
    walk_at "g"
    refine ⟨rfl, ?_⟩
    walk_at "g"
    refine w_ixL (SqL.of (k.at0 hb3)) (v := .int 1) ?_ ?_
    · rw [atI_pos (by omega) (by rw [List.length_map, List.length_replicate]; omega), List.getElem?_map, List.getElem?_replicate_of_lt (by omega)] <;> rfl
    walk_at "g"
    refine w_me (a3.k0 k) no_m ?_
    walk_at "g"
    refine ⟨p, r, l, o, s, m, rfl, a3.k0 k, by omega, ?_⟩
    walk_at "g"
    have last : (((dueL s).take (i + 1)).map fun v => costB (gB s.O v.toNat)).map V.int = (((dueL s).take i).map fun v => costB (gB s.O v.toNat)).map V.int ++ [V.int (costB (gB s.O m))] := by
      rw [take_snoc hv, List.map_append, List.map_append] <;> rfl
    refine w_iteB (fun c => ?_) (fun c => ?_)
    · walk_at "g"
      refine .inl ⟨1, 1, rfl, rfl, .inl ⟨by omega, by omega⟩, ?_⟩
      refine y _ _ (Kp.refl _ _) ?_
      rw [last, c] <;> rfl
    · walk_at "g"
      refine .inl ⟨1, 2, rfl, rfl, .inl ⟨by omega, by omega⟩, ?_⟩
      refine y _ _ (Kp.refl _ _) ?_
      rw [last, c] <;> rfl
  rw [List.length_map, List.take_length] at ht
  walk_at "g"
  refine w_sumN ht ?_
  exact g nl H4 ((k12.trans k3).trans k4)
theorem len_debt_of (K : PySem.W.Frag) : ∀ vs H Q E, sp16_debt_of K vs H Q E → vs.length = (["links"] : List Str).length := by
  rintro vs H Q E ⟨_, _, _, _, _, rfl, _⟩
  rfl
theorem rd_debt_of (T : Txt K mg) (vs : List V) (H : Hp) (Q : VK) (E : XK) (h : sp16_debt_of K vs H Q E) : t_debt_of K E { nx := fun _ H' => Q .non H', rt := Q } (start ["links"] vs) H := by
  obtain ⟨p, r, l, o, s, rfl, a, g, ge⟩ := h
  unfold t_debt_of
  have n60 := a.wf.n60
  walk_at "g"
  refine ⟨sz_ok (by show 1 ≤ 1000000; omega), nw fun q H1 nq k1 hq => ?_⟩
  walk_at "g"
  refine w_fS T.cl_Links T.na_Links_size (a.k0 k1) ?_
  walk_at "g"
  refine w_mulLN hq (by omega) (by omega) (sz_ok (by show 1 * _ ≤ _; omega)) fun b H2 nb k2 hb => ?_
  have k12 := k1.trans k2
  have hb : H2 b = some (.lst ((List.replicate s.n (1 : Int)).map V.int)) := by
    rw [hb, Int.toNat_natCast]
    congr 2
    have : ∀ n : Nat, (List.replicate n [V.int 1]).flatten = (List.replicate n (1 : Int)).map V.int := by
      intro n
      induction n with
      | zero => rfl
      | succ n ih => rw [List.replicate_succ, List.flatten_cons, ih, List.replicate_succ] <;> rfl
    exact this s.n
  walk_at "g"
  exact ⟨p, r, l, o, b, s, rfl, a.k0 k12, hb, fun nl H3 k3 => g nl H3 (k12.trans k3), ge.k0 k12⟩
theorem w_neLZ {H : Hp} {Q : VK} {p q : Addr} {xs ys : List Int} (h1 : H p = some (.lst (xs.map V.int))) (h2 : H q = some (.lst (ys.map V.int))) (g : Q (.bl (!decide (xs = ys))) H) : rNeA K (.ref p) (.ref q) H Q :=
  w_neD (.lst (SqL.of h1) (dpZ xs)) (.lst (SqL.of h2) (dpZ ys)) (shZ xs) (shZ ys) (by
    rw [PyData.eqv, eqvZ]
    exact g)
theorem inV_Z {x : Int} : ∀ {xs : List Int}, inV (.int x) (xs.map V.int) = decide (x ∈ xs)
  | [] => rfl
  | y :: ys => by
    have e : inV (.int x) ((y :: ys).map V.int) = ((y == x) || inV (.int x) (ys.map V.int)) := rfl
    rw [e, inV_Z, Bool.eq_iff_iff, Bool.or_eq_true, decide_eq_true_iff, decide_eq_true_iff, beq_iff_eq, List.mem_cons]
    exact ⟨fun h => h.elim (fun z => .inl z.symm) .inr, fun h => h.elim (fun z => .inl z.symm) .inr⟩
theorem flatZ (xs : List Int) : (xs.map V.int).all flatV = true := by
  rw [List.all_map]
  exact List.all_eq_true.mpr fun _ _ => rfl
theorem w_inZ {H : Hp} {Q : VK} {p : Addr} {x : Int} {xs : List Int} {neg : Bool} (h : H p = some (.lst (xs.map V.int))) (g : Q (.bl (if neg then !decide (x ∈ xs) else decide (x ∈ xs))) H) : rIn K neg (.int x) (.ref p) H Q := by
  refine w_inL (SqL.of h) rfl (flatZ xs) ?_
  rw [inV_Z]
  exact g
theorem forW_in {s : Sd} (w : Wf s) {v : Nat} (h1 : 1 ≤ v) (h2 : v ≤ s.n) : ∀ x ∈ forW s v, 0 ≤ x ∧ x ≤ s.n := by
  have a1 := w.lb v h1 (by omega)
  have a2 := w.rb v h2
  intro x hx
  unfold forW at hx
  rcases List.mem_append.mp hx with z | z
  · split at z
    · rw [List.mem_singleton.mp z]
      omega
    · cases z
  · split at z
    · rw [List.mem_singleton.mp z]
      omega
    · cases z
theorem len_left_to (K : PySem.W.Frag) : ∀ vs H Q E, sp17_left_to K vs H Q E → vs.length = (["operation", "gap"] : List Str).length := by
  rintro vs H Q E ⟨_, _, rfl, _⟩
  rfl
theorem rd_left_to (T : Txt K mg) (vs : List V) (H : Hp) (Q : VK) (E : XK) (h : sp17_left_to K vs H Q E) : t_left_to K E { nx := fun _ H' => Q .non H', rt := Q } (start ["operation", "gap"] vs) H := by
  obtain ⟨op, gp, rfl, g⟩ := h
  unfold t_left_to
  walk_at "g"
  rw [natAbs_if]
  unfold ltI at g
  refine w_iteD (fun c => ?_) (fun c => ?_)
  · walk_at "g"
    rw [if_pos c] at g
    exact g
  · walk_at "g"
    rw [if_neg c] at g
    exact g
theorem len__still_due (K : PySem.W.Frag) : ∀ vs H Q E, sp17__still_due K vs H Q E → vs.length = (["due", "operation"] : List Str).length := by
  rintro vs H Q E ⟨_, _, _, rfl, _⟩
  rfl
theorem rd__still_due (T : Txt K mg) (vs : List V) (H : Hp) (Q : VK) (E : XK) (h : sp17__still_due K vs H Q E) : t__still_due K E { nx := fun _ H' => Q .non H', rt := Q } (start ["due", "operation", "node"] vs) H := by
  obtain ⟨d, due, op, rfl, hd, hl, g⟩ := h
  unfold t__still_due
  walk_at "g"
  unfold stillL at g
  refine w_iteD (fun c => ?_) (fun c => ?_)
  · walk_at "g"
    rw [if_pos c] at g
    exact g d H (.inl rfl) (Kp.refl _ _) hd
  · walk_at "g"
    rw [if_neg c] at g
    refine w_l1 (SqL.of hd) ?_
    refine cp_lst (SqL.of hd) (fun i => ((due.take i).filter fun v => decide (v ≠ op)).map V.int) (fun i hi => ?_) rfl (fun i x H' S N hx k y no => ?_) (fun st H3 nst k3 hst => ?_)
    · refine sz_lt ?_
      rw [List.length_map]
      have := List.length_filter_le (fun v : Int => decide (v ≠ op)) (due.take i)
      rw [List.length_take] at this
      omega
    · obtain ⟨v, hv, rfl⟩ := at_map hx
      walk_at "g"
      refine ⟨rfl, ?_⟩
      walk_at "g"
      refine w_iteBN (fun cc => ?_) (fun cc => ?_)
      · walk_at "g"
        refine y _ _ (Kp.refl _ _) ?_
        rw [take_snoc hv, List.filter_append, List.map_append, List.filter_cons_of_pos (p := fun v : Int => decide (v ≠ op)) (decide_eq_true (of_decide_eq_false cc))] <;> rfl
      · refine no _ (Kp.refl _ _) ?_
        rw [take_snoc hv, List.filter_append, List.map_append, List.filter_cons_of_neg (p := fun v : Int => decide (v ≠ op)) (by rw [decide_eq_true_iff]; exact fun z => z (of_decide_eq_true cc))]
        exact List.append_nil _
    · rw [List.length_map, List.take_length] at hst
      exact g st H3 (.inr nst) k3 hst
theorem len__spoils_nothing (K : PySem.W.Frag) : ∀ vs H Q E, sp17__spoils_nothing K vs H Q E → vs.length = (["links", "operation", "due"] : List Str).length := by
  rintro vs H Q E ⟨_, _, _, _, _, _, _, rfl, _⟩
  rfl
theorem rd__spoils_nothing (T : Txt K mg) (vs : List V) (H : Hp) (Q : VK) (E : XK) (h : sp17__spoils_nothing K vs H Q E) : t__spoils_nothing K E { nx := fun _ H' => Q .non H', rt := Q } (start ["links", "operation", "due", "gap"] vs) H := by
  obtain ⟨p, r, l, o, d, s, op, rfl, la, ok, hd, g⟩ := h
  unfold t__spoils_nothing
  have wf := la.wf
  walk_at "g"
  refine ⟨p, r, l, o, s, op, rfl, la, fun _ => (fun q H1 nq k1 hq => ?_), fun z => absurd ok z⟩
  rw [← ok_for wf ok.1.1 ok.1.2] at g
  have fl := forW_len s op.natAbs
  have fb : ∀ x ∈ forW s op.natAbs, 0 ≤ x ∧ x ≤ s.n := forW_in wf ok.1.1 ok.1.2
  generalize forW s op.natAbs = F at g hq fl fb
  refine w_l1 (SqL.of hq) ?_
  refine lp_lst (xs := F.map V.int) (fun i σ H' => (∃ u, σ = [some (.ref p), some (.int op), some (.ref d), u]) ∧ Kp [] H1 H' ∧ ∀ x ∈ F.take i, spG s op.natAbs x = true) ⟨⟨_, rfl⟩, Kp.refl _ _, by simp⟩ ?_ ?_ ?_
  · rintro i σ' H' hi ⟨_, k, _⟩
    exact SqL.of (k.at0 hq)
  · rintro i x σ' H' hx ⟨⟨u, rfl⟩, k, al⟩
    obtain ⟨gp, hgp, rfl⟩ := at_map hx
    have k02 := k1.trans k
    walk_at "g"
    refine ⟨p, r, l, o, s, gp, rfl, la.k0 k02, fun _ => ?_, fun z => absurd (fb gp (List.mem_of_getElem? hgp)) z⟩
    have bad : spG s op.natAbs gp = false → Q (.bl false) H' := fun e => by
      have : (F.all fun x => spG s op.natAbs x) = false := by
        rw [List.all_eq_false]
        exact ⟨gp, List.mem_of_getElem? hgp, by rw [e]; exact Bool.false_ne_true⟩
      rw [this] at g
      exact g H' k02
    unfold spG at bad
    walk_at "g"
    refine w_iteBN (fun c1 => ?_) (fun c1 => ?_)
    · walk_at "g"
      exact bad (by rw [c1]; rfl)
    · walk_at "g"
      refine ⟨op, gp, rfl, ?_⟩
      walk_at "g"
      refine w_inZ (k02.at0 hd) ?_
      walk_at "g"
      refine w_iteBN (fun c2 => ?_) (fun c2 => ?_)
      · walk_at "g"
        exact bad (by rw [c2, Bool.and_false])
      · walk_at "g"
        refine ⟨⟨_, rfl⟩, k, fun x hx => ?_⟩
        rw [take_snoc hgp] at hx
        rcases List.mem_append.mp hx with z | z
        · exact al x z
        · rw [List.mem_singleton.mp z]
          unfold spG
          rw [c1, c2]
          rfl
  · rintro σ' H' ⟨⟨u, rfl⟩, k, al⟩
    rw [List.length_map, List.take_length] at al
    walk_at "g"
    rw [List.all_eq_true.mpr al] at g
    exact g H' (k1.trans k)
theorem len__steps (K : PySem.W.Frag) : ∀ vs H Q E, sp17__steps K vs H Q E → vs.length = (["links", "due"] : List Str).length := by
  rintro vs H Q E ⟨_, _, _, _, _, _, rfl, _⟩
  rfl
theorem rd__steps (T : Txt K mg) (vs : List V) (H : Hp) (Q : VK) (E : XK) (h : sp17__steps K vs H Q E) : t__steps K E { nx := fun _ H' => Q .non H', rt := Q } (start ["links", "due", "operations", "node", "operation"] vs) H := by
  obtain ⟨p, r, l, o, d, s, rfl, la, hd, g⟩ := h
  unfold t__steps
  have wf := la.wf
  have n60 := wf.n60
  have dl := due_len s
  walk_at "g"
  refine w_l1 (SqL.of hd) ?_
  refine cp_lst (SqL.of hd) (fun i => ((dueL s).take i).map fun v => V.int (legO s v.toNat)) (fun i hi => sz_lt (by rw [List.length_map, List.length_take]; omega)) rfl (fun i x H' S N hx k y no => ?_) (fun st H1 nst k1 hst => ?_)
  · obtain ⟨v, hv, rfl⟩ := at_map hx
    obtain ⟨v1, v2, _⟩ := mem_due.mp (List.mem_of_getElem? hv)
    obtain ⟨u, rfl⟩ : ∃ u : Nat, v = (u : Int) := ⟨v.toNat, by omega⟩
    walk_at "g"
    refine ⟨rfl, ?_⟩
    walk_at "g"
    refine w_me (la.k0 k) no_m ?_
    walk_at "g"
    refine ⟨p, r, l, o, s, u, rfl, la.k0 k, by omega, ?_⟩
    walk_at "g"
    have e : ((dueL s).take (i + 1)).map (fun v => V.int (legO s v.toNat)) = ((dueL s).take i).map (fun v => V.int (legO s v.toNat)) ++ [V.int (legO s u)] := by
      rw [take_snoc hv, List.map_append] <;> rfl
    refine w_iteB (fun c => ?_) (fun c => ?_)
    · walk_at "g"
      refine y _ _ (Kp.refl _ _) ?_
      rw [e, show legO s u = (u : Int) by unfold legO; rw [c]; rfl]
    · walk_at "g"
      refine y _ _ (Kp.refl _ _) ?_
      rw [e, show legO s u = -(u : Int) by unfold legO; rw [c]; rfl]
  rw [List.length_map, List.take_length] at hst
  have hst : H1 st = some (.lst (((dueL s).map fun v => legO s v.toNat).map V.int)) := by
    rw [hst, List.map_map]
    rfl
  have mm : ∀ x ∈ (dueL s).map fun v => legO s v.toNat, OkOp s x := by
    intro x hx
    obtain ⟨v, hv, rfl⟩ := List.mem_map.mp hx
    obtain ⟨v1, v2, _⟩ := mem_due.mp hv
    exact (legO_ok' (by omega) (by omega)).1
  have ll : ((dueL s).map fun v => legO s v.toNat).length ≤ 60 := by rw [List.length_map]; omega
  unfold stepsL at g
  generalize ((dueL s).map fun v => legO s v.toNat) = F at g hst mm ll
  walk_at "g"
  refine w_l1 (SqL.of hst) ?_
  refine cp_lst (SqL.of hst) (fun i => ((F.take i).filter fun op => okB s op.natAbs).map V.int) (fun i hi => ?_) rfl (fun i x H' S N hx k y no => ?_) (fun st2 H2 nst2 k2 hst2 => ?_)
  · refine sz_lt ?_
    rw [List.length_map]
    have := List.length_filter_le (fun op : Int => okB s op.natAbs) (F.take i)
    rw [List.length_take] at this
    omega
  · obtain ⟨op, hop, rfl⟩ := at_map hx
    have k02 := k1.trans k
    walk_at "g"
    refine ⟨rfl, ?_⟩
    walk_at "g"
    refine ⟨p, r, l, o, d, s, op, rfl, la.k0 k02, mm op (List.mem_of_getElem? hop), k02.at0 hd, fun H4 k4 => ?_⟩
    walk_at "g"
    refine w_iteB (fun cc => ?_) (fun cc => ?_)
    · walk_at "g"
      refine y _ _ k4 ?_
      rw [take_snoc hop, List.filter_append, List.map_append, List.filter_cons_of_pos (p := fun op : Int => okB s op.natAbs) cc] <;> rfl
    · refine no _ k4 ?_
      rw [take_snoc hop, List.filter_append, List.map_append, List.filter_cons_of_neg (p := fun op : Int => okB s op.natAbs) (by rw [cc]; exact Bool.false_ne_true)]
      exact List.append_nil _
  rw [List.length_map, List.take_length] at hst2
  walk_at "g"
  exact g st2 H2 (k1.free0 nst2) (k1.trans k2) hst2
theorem cut_neg1 (xs : List V) : cutV xs (some (-1)) none = xs.drop (xs.length - 1) := by
  have e : HT.sIx xs.length 0 (some (-1)) = xs.length - 1 := by
    show (if (-1 : Int) < 0 then (-1 + (xs.length : Int)).toNat else min (-1 : Int).toNat xs.length) = _
    rw [if_pos (by omega)]
    omega
  unfold cutV
  rw [e, HT.sIx_none]
  refine List.take_of_length_le ?_
  rw [List.length_drop]
  exact Nat.le_refl _
theorem lp_rev {σ : L2.St} {H : Hp} {D : Ends} {tb : TS} {g : TG} {a : Addr} {xs : List V} (Pv : Nat → L2.St → Hp → Prop) (h0 : Pv 0 σ H) (hl : ∀ i σ' H', i ≤ xs.length → Pv i σ' H' → SqL K H' a xs)
    (hs : ∀ i x σ' H', i < xs.length → xs[xs.length - 1 - i]? = some x → Pv i σ' H' → g x σ' H' fun σ2 H2 => tb { D with nx := Pv (i + 1), ct := Pv (i + 1), bk := D.nx } σ2 H2) (hd : ∀ σ' H', Pv xs.length σ' H' → D.nx σ' H') : LoopG (Itv K a xs.length) g tb D σ H := by
  refine ⟨fun i m σ H => i + m = xs.length ∧ Pv i σ H, ⟨xs.length, by omega, h0⟩, fun i m σ' H' ⟨e, p⟩ => ?_⟩
  by_cases c : i < xs.length
  · refine .inr ⟨⟨c, xs, xs[xs.length - 1 - i]'(by omega), hl i σ' H' (by omega) p, List.getElem?_eq_getElem (by omega)⟩, Pv (i + 1), fun σ2 H2 z => ⟨m - 1, by omega, by omega, z⟩, ?_⟩
    rintro x H2 ⟨rfl, hx⟩
    exact hs i x σ' _ c (hx xs (hl i σ' _ (by omega) p)) p
  · have e2 : i = xs.length := by omega
    subst e2
    exact .inl ⟨Nat.le_refl _, hd σ' H' p⟩
theorem LinksAt.frN {H : Hp} {p r l o x : Addr} {s : Sd} (a : LinksAt K H p r l o s) (n : H x = none) : p ≠ x ∧ r ≠ x ∧ l ≠ x ∧ o ≠ x := by
  obtain ⟨dx, h⟩ := a.ob
  exact ⟨ne_of_none h n, ne_of_none a.hr n, ne_of_none a.hl n, ne_of_none a.ho n⟩
/-- the entry that waits on top -/
structure TopE (K : PySem.W.Frag) (H0 H : Hp) (fd wt tp : Addr) (log due : List Int) (s : Sd) : Prop where
  ex : ∃ (b br bl bo lg da : Addr) (sb : Sd), H tp = some (.tup [.ref b, .ref lg, .ref da]) ∧ H lg = some (.lst (log.map V.int)) ∧ H da = some (.lst (due.map V.int)) ∧ LinksAt K H b br bl bo sb ∧
    Leg sb (log.drop (log.length - 1)) ∧ runS sb (log.drop (log.length - 1)) = s ∧ H0 lg = none ∧ Dj [tp, lg, da, b, br, bl, bo] [wt, fd]
theorem TopE.kd {H0 H H' : Hp} {fd wt tp : Addr} {log due : List Int} {s : Sd} {S : List Addr} (t : TopE K H0 H fd wt tp log due s) (k : Kp S H H') (hS : ∀ x ∈ S, x = wt ∨ x = fd) : TopE K H0 H' fd wt tp log due s := by
  obtain ⟨b, br, bl, bo, lg, da, sb, h1, h2, h3, h4, h5, h6, h7, d⟩ := t.ex
  have n : ∀ x ∈ [tp, lg, da, b, br, bl, bo], x ∉ S := fun x hx z => d x hx (by
    rcases hS x z with e | e
    · rw [e]; simp
    · rw [e]; simp)
  exact ⟨b, br, bl, bo, lg, da, sb, k _ _ (n _ (by simp)) h1, k _ _ (n _ (by simp)) h2, k _ _ (n _ (by simp)) h3, h4.kp k (n _ (by simp)) (n _ (by simp)) (n _ (by simp)) (n _ (by simp)), h5, h6, h7, d⟩
theorem len_repairs (K : PySem.W.Frag) : ∀ vs H Q E, sp17_repairs K vs H Q E → vs.length = (["links", "most"] : List Str).length := by
  rintro vs H Q E ⟨_, _, _, _, _, rfl, _⟩
  rfl
theorem rd_repairs (T : Txt K mg) (vs : List V) (H : Hp) (Q : VK) (E : XK) (h : sp17_repairs K vs H Q E) : t_repairs K E { nx := fun _ H' => Q .non H', rt := Q } (start ["links", "most", "found", "waiting", "before", "log", "due", "here", "operation"] vs) H := by
  obtain ⟨p, r, l, o, s, rfl, la, g, ge⟩ := h
  unfold t_repairs
  have wf := la.wf
  have n60 := wf.n60
  walk_at "g"
  refine w_iteD (fun c => absurd c (by omega)) (fun _ => ?_)
  walk_at "g"
  refine ⟨p, r, l, o, s, rfl, la, fun nl H1 k1 => ?_, ge⟩
  have g := g nl
  have la1 := la.k0 k1
  walk_at "g"
  refine ⟨sz_ok (by show 0 ≤ 1000000; omega), nw fun fd H2 nfd k2 hfd => ?_⟩
  have hfd : H2 fd = some (.lst []) := hfd
  have la2 := la1.k0 k2
  walk_at "g"
  refine ⟨sz_ok (by show 0 ≤ 1000000; omega), nw fun lg H3 nlg k3 hlg => ?_⟩
  have hlg : H3 lg = some (.lst (([] : List Int).map V.int)) := hlg
  have la3 := la2.k0 k3
  walk_at "g"
  refine ⟨p, r, l, o, s, rfl, la3, fun da H4 nda k4 hda => ?_⟩
  have la4 := la3.k0 k4
  walk_at "g"
  refine ⟨sz_ok (by show 3 ≤ 1000000; omega), nw fun tp H5 ntp k5 htp => ?_⟩
  have la5 := la4.k0 k5
  walk_at "g"
  refine ⟨sz_ok (by show 1 ≤ 1000000; omega), nw fun wt H6 nwt k6 hwt => ?_⟩
  have hwt : H6 wt = some (.lst ([] ++ [.ref tp])) := hwt
  have la6 := la5.k0 k6
  have k06 : Kp [] H H6 := ((k1.trans k2).trans (k3.trans k4)).trans (k5.trans k6)
  have hfd3 := k3.at0 hfd
  have hfd4 := k4.at0 hfd3
  have hfd5 := k5.at0 hfd4
  have hfd6 := k6.at0 hfd5
  have fw : fd ≠ wt := ne_of_none hfd5 nwt
  have hlg4 := k4.at0 hlg
  have hlg5 := k5.at0 hlg4
  have hda5 := k5.at0 hda
  have nfd0 : H fd = none := k1.free0 nfd
  have nwt0 : H wt = none := ((k1.trans k2).trans (k3.trans (k4.trans k5))).free0 nwt
  have nlg0 : H lg = none := (k1.trans k2).free0 nlg
  have T0 : TopE K H H6 fd wt tp [] (dueL s) s := by
    obtain ⟨f1, f2, f3, f4⟩ := la5.frN nwt
    obtain ⟨e1, e2, e3, e4⟩ := la1.frN nfd
    refine ⟨p, r, l, o, lg, da, s, k6.at0 htp, k6.at0 hlg5, k6.at0 hda5, la6, (fun i op h => by cases h), rfl, nlg0, ?_⟩
    intro x hx
    simp only [List.mem_cons, List.not_mem_nil, or_false] at hx ⊢
    rcases hx with rfl | rfl | rfl | rfl | rfl | rfl | rfl
    · rintro (z | z)
      · exact ne_of_none htp nwt z
      · exact ne_of_none hfd4 ntp z.symm
    · rintro (z | z)
      · exact ne_of_none hlg5 nwt z
      · exact ne_of_none hfd nlg z.symm
    · rintro (z | z)
      · exact ne_of_none hda5 nwt z
      · exact ne_of_none hfd3 nda z.symm
    · rintro (z | z)
      · exact f1 z
      · exact e1 z
    · rintro (z | z)
      · exact f2 z
      · exact e2 z
    · rintro (z | z)
      · exact f3 z
      · exact e3 z
    · rintro (z | z)
      · exact f4 z
      · exact e4 z
  have ol := owed_len s
  have dl := due_len s
  obtain ⟨k, ek⟩ : ∃ k : Nat, owedS s = (k : Int) := ⟨(owedS s).toNat, by omega⟩
  have emv : firstR s = grd k s := by unfold firstR; rw [ek, Int.toNat_natCast]
  obtain ⟨mvl, mleg, mst⟩ := grd_all k s wf nl ek
  rw [emv] at g
  have hk : k ≤ 120 := by omega
  generalize hM : grd k s = M at g mvl mleg mst
  walk_at "g"
  unfold tWhile
  refine ⟨fun m σ H' => (∃ u1 u2 u3 u4 u5, σ = [some (.ref p), some (.int 1), some (.ref fd), some (.ref wt), u1, u2, u3, u4, u5]) ∧ Kp [] H H' ∧ ∃ gs : List V,
    ((∃ i tp, i + m = k + 1 ∧ i ≤ k ∧ gs.length ≤ 100 * i ∧ H' fd = some (.lst []) ∧ H' wt = some (.lst (gs ++ [.ref tp])) ∧ TopE K H H' fd wt tp (M.take i) (dueL (runS s (M.take i))) (runS s (M.take i))) ∨
     (∃ lg, m = 0 ∧ H' fd = some (.lst [.ref lg]) ∧ H' lg = some (.lst (M.map V.int)) ∧ H lg = none ∧ H' wt = some (.lst gs))),
    ⟨k + 1, ⟨_, _, _, _, _, rfl⟩, k06, [], .inl ⟨0, tp, by omega, by omega, by simp, hfd6, hwt, T0⟩⟩, ?_⟩
  rintro m σ' H' ⟨⟨u1, u2, u3, u4, u5, rfl⟩, kk, gs, ⟨i, tp, im, ik, lgs, hf, hw, top⟩ | ⟨lg, m0, hf, hlg, nlg, hw⟩⟩
  · walk_at "g"
    refine w_truL (SqL.of hw) ?_
    rw [show (gs ++ [V.ref tp]).isEmpty = false by simp]
    walk_at "g"
    refine w_lenL (SqL.of hf) ?_
    walk_at "g"
    refine w_iteD (fun _ => ?_) (fun c => absurd (show ((([] : List V).length : Int)) < 1 by decide) c)
    refine ⟨fun σ2 H2 => (∃ u1 u2 u3 u4 u5, σ2 = [some (.ref p), some (.int 1), some (.ref fd), some (.ref wt), u1, u2, u3, u4, u5]) ∧ Kp [] H H2 ∧ ∃ gs : List V,
      ((i + 1 ≤ k ∧ ∃ tp, gs.length ≤ 100 * (i + 1) ∧ H2 fd = some (.lst []) ∧ H2 wt = some (.lst (gs ++ [.ref tp])) ∧ TopE K H H2 fd wt tp (M.take (i + 1)) (dueL (runS s (M.take (i + 1)))) (runS s (M.take (i + 1)))) ∨
       (∃ lg, H2 fd = some (.lst [.ref lg]) ∧ H2 lg = some (.lst (M.map V.int)) ∧ H lg = none ∧ H2 wt = some (.lst gs))), ?_, ?_⟩
    · rintro σ2 H2 ⟨z1, z2, gs2, ⟨y1, tp2, y2, y3, y4, y5⟩ | ⟨lg2, y1, y2, y3, y4⟩⟩
      · exact ⟨m - 1, by omega, z1, z2, gs2, .inl ⟨i + 1, tp2, by omega, y1, y2, y3, y4, y5⟩⟩
      · exact ⟨0, by omega, z1, z2, gs2, .inr ⟨lg2, rfl, y1, y2, y3, y4⟩⟩
    walk_at "g"
    refine w_ast ?_
    walk_at "g"
    refine ⟨w_ty (SqL.of hw), ?_⟩
    refine w_pop (y := .ref tp) hw (by simp) fun Ha ka hwa => ?_
    rw [List.dropLast_concat] at hwa
    have ta := top.kd ka (fun x hx => .inl (List.mem_singleton.mp hx))
    have kaH : Kp [] H Ha := (kk.all.trans ka).cut1 nwt0
    have hfa := ka.at1 fw hf
    obtain ⟨b, br, bl, bo, lg, da, sb, h1, h2, h3, h4, h5, h6, h7, dj⟩ := ta.ex
    have lgf : lg ≠ fd := fun z => dj lg (by simp) (by rw [z]; simp)
    have lgw : lg ≠ wt := fun z => dj lg (by simp) (by rw [z]; simp)
    have daf : da ≠ fd := fun z => dj da (by simp) (by rw [z]; simp)
    have daw : da ≠ wt := fun z => dj da (by simp) (by rw [z]; simp)
    refine ⟨tp, _, rfl, SqT.of h1, rfl, ?_⟩
    walk_at "g"
    refine w_slL (SqL.of h2) fun q Hb nq kb hq => ?_
    rw [cut_neg1, List.length_map, ← List.map_drop] at hq
    walk_at "g"
    refine ⟨b, br, bl, bo, q, sb, _, rfl, h4.k0 kb, SqL.of hq, fun _ a' r' l' o' Hc na nr nl' no kc lc => ?_, fun j op hj _ bad => absurd (h5 j op hj) bad⟩
    rw [h6] at lc
    have kac := kb.trans kc
    have kHc := kaH.trans kac
    have hwb := kb.at0 hwa
    have hfb := kb.at0 hfa
    have hwc := kc.at0 hwb
    have hfc := kc.at0 hfb
    have h2c := kac.at0 h2
    have h3c := kac.at0 h3
    obtain ⟨wfi, nli, owi, gri⟩ := mst i ik
    have si_n : (runS s (M.take i)).n ≤ 60 := wfi.n60
    have dli := due_len (runS s (M.take i))
    walk_at "g"
    refine w_truL (SqL.of h3c) ?_
    by_cases ci : i = k
    · have d0 : dueL (runS s (M.take i)) = [] := owed_zero.mp (by rw [owi]; omega)
      have s0 : stepsL (runS s (M.take i)) = [] := by unfold stepsL; rw [d0]; rfl
      rw [List.isEmpty_map, d0, List.isEmpty_nil, show (!!true) = true from rfl]
      walk_at "g"
      refine ⟨w_ty (SqL.of hfc), ?_⟩
      walk_at "g"
      refine w_apT hfc (sz_lt (by show 0 < 1000000; omega)) fun Hd kd hfd2 => ?_
      have kHd : Kp [] H Hd := (kHc.all.trans kd).cut1 nfd0
      obtain ⟨f1, f2, f3, f4⟩ : a' ≠ fd ∧ r' ≠ fd ∧ l' ≠ fd ∧ o' ≠ fd := ⟨(ne_of_none hfb na).symm, (ne_of_none hfb nr).symm, (ne_of_none hfb nl').symm, (ne_of_none hfb no).symm⟩
      have lcd := lc.kp kd (by simpa using f1) (by simpa using f2) (by simpa using f3) (by simpa using f4)
      have h3d := kd.at1 daf h3c
      have h2d := kd.at1 lgf h2c
      have hwd := kd.at1 fw.symm hwc
      walk_at "g"
      unfold RT.iRevA
      walk_at "g"
      refine ⟨a', r', l', o', da, _, rfl, lcd, h3d, fun st He nst ke hst => ?_⟩
      rw [s0] at hst
      refine ⟨st, _, rfl, .inl ⟨SqL.of hst, ?_⟩⟩
      refine lp_rev (fun j σ2 H2 => H2 = He ∧ σ2 = [some (.ref p), some (.int 1), some (.ref fd), some (.ref wt), some (.ref b), some (.ref lg), some (.ref da), some (.ref a'), u5]) ⟨rfl, rfl⟩ ?_ ?_ ?_
      · rintro j σ2 H2 _ ⟨rfl, _⟩
        exact SqL.of hst
      · rintro j x σ2 H2 hj
        exact absurd hj (Nat.not_lt_zero _)
      · rintro σ2 H2 ⟨rfl, rfl⟩
        have h2e := ke.at0 h2d
        rw [List.take_of_length_le (by omega)] at h2e
        exact ⟨⟨_, _, _, _, _, rfl⟩, kHd.trans ke, gs, .inr ⟨lg, ke.at0 hfd2, h2e, h7, ke.at0 hwd⟩⟩
    · obtain ⟨j0, ej0⟩ : ∃ j0, k - i = j0 + 1 := ⟨k - i - 1, by omega⟩
      rw [ej0] at owi gri
      obtain ⟨v, ops, v1, v2, e3, e4, e5, e6, e7, e8, e9, e10, e11, e12⟩ := grd_next wfi nli owi
      rw [e6] at gri
      have hMi : M[i]? = some (legO (runS s (M.take i)) v) := by
        have : (M.drop i)[0]? = some (legO (runS s (M.take i)) v) := by rw [← gri] <;> rfl
        rwa [List.getElem?_drop, Nat.add_zero] at this
      have tk := take_snoc hMi
      have rs : runS s (M.take (i + 1)) = stepS (runS s (M.take i)) (legO (runS s (M.take i)) v) := by rw [tk, runS_snoc]
      have dn : (dueL (runS s (M.take i))).isEmpty = false := by
        cases c : dueL (runS s (M.take i)) with
        | nil => rw [owed_zero.mpr c] at owi; omega
        | cons x xs => rfl
      rw [List.isEmpty_map, dn, show (!!false) = false from rfl]
      walk_at "g"
      unfold RT.iRevA
      walk_at "g"
      refine ⟨a', r', l', o', da, _, rfl, lc, h3c, fun st He nst ke hst => ?_⟩
      have sl : (stepsL (runS s (M.take i))).length ≤ 60 := by
        unfold stepsL
        refine Nat.le_trans (List.length_filter_le _ _) ?_
        rw [List.length_map]
        omega
      refine ⟨st, _, rfl, .inl ⟨SqL.of hst, ?_⟩⟩
      rw [e3] at hst sl
      rw [List.length_cons] at sl
      have kHe := kHc.trans ke
      have lce := lc.k0 ke
      have h2e := ke.at0 h2c
      have h3e := ke.at0 h3c
      have hwe := ke.at0 hwc
      have hfe := ke.at0 hfc
      have stw : st ≠ wt := (ne_of_none hwc nst).symm
      have aw : Dj [a', r', l', o'] [wt, fd] := by
        intro x hx
        simp only [List.mem_cons, List.not_mem_nil, or_false] at hx ⊢
        rcases hx with rfl | rfl | rfl | rfl
        · rintro (z | z)
          · exact ne_of_none hwb na z.symm
          · exact ne_of_none hfb na z.symm
        · rintro (z | z)
          · exact ne_of_none hwb nr z.symm
          · exact ne_of_none hfb nr z.symm
        · rintro (z | z)
          · exact ne_of_none hwb nl' z.symm
          · exact ne_of_none hfb nl' z.symm
        · rintro (z | z)
          · exact ne_of_none hwb no z.symm
          · exact ne_of_none hfb no z.symm
      refine lp_rev (fun j σ2 H2 => (∃ u, σ2 = [some (.ref p), some (.int 1), some (.ref fd), some (.ref wt), some (.ref b), some (.ref lg), some (.ref da), some (.ref a'), u]) ∧ Kp [wt] He H2 ∧ ∃ ext : List V, ext.length = j ∧ H2 wt = some (.lst (gs ++ ext)) ∧
        (j = ops.length + 1 → ∃ ext0 tp2, ext = ext0 ++ [.ref tp2] ∧ TopE K H H2 fd wt tp2 (M.take (i + 1)) (dueL (runS s (M.take (i + 1)))) (runS s (M.take (i + 1))))) ⟨⟨_, rfl⟩, Kp.refl _ _, [], rfl, by rw [List.append_nil]; exact hwe, fun z => by omega⟩ ?_ ?_ ?_
      · rintro j σ2 H2 _ ⟨_, kx, _⟩
        exact SqL.of (by rw [e3]; exact kx.at1 stw hst)
      · rintro j x σ2 H2 hj hx ⟨⟨u, rfl⟩, kx, ext, le, hwx, _⟩
        rw [e3] at hx hj
        rw [List.length_map, List.length_cons] at hx hj
        obtain ⟨op, hop, rfl⟩ := at_map hx
        have kHx : Kp [] H H2 := (kHe.all.trans kx).cut1 nwt0
        have h2x := kx.at1 lgw h2e
        have h3x := kx.at1 daw h3e
        have hfx := kx.at1 fw hfe
        have lcx := lce.kp kx (fun z => aw a' (by simp) (by rw [List.mem_singleton.mp z]; simp)) (fun z => aw r' (by simp) (by rw [List.mem_singleton.mp z]; simp)) (fun z => aw l' (by simp) (by rw [List.mem_singleton.mp z]; simp)) (fun z => aw o' (by simp) (by rw [List.mem_singleton.mp z]; simp))
        walk_at "g"
        refine ⟨w_ty (SqL.of hwx), ?_⟩
        walk_at "g"
        refine ⟨sz_ok (by show 1 ≤ 1000000; omega), nw fun f1 J1 nf1 p1 hf1 => ?_⟩
        have hf1 : J1 f1 = some (.lst [.int op]) := hf1
        walk_at "g"
        refine w_addLN (p1.at0 h2x) hf1 (sz_ok (by rw [List.length_map, List.length_take]; show _ + 1 ≤ _; omega)) fun lg2 J2 nlg2 p2 hlg2 => ?_
        have hlg2 : J2 lg2 = some (.lst ((M.take i ++ [op]).map V.int)) := by rw [hlg2, List.map_append] <;> rfl
        have p12 := p1.trans p2
        walk_at "g"
        refine ⟨da, _, op, rfl, p12.at0 h3x, by omega, fun da2 J3 hor p3 hda2 => ?_⟩
        have p13 := p12.trans p3
        walk_at "g"
        refine ⟨sz_ok (by show 3 ≤ 1000000; omega), nw fun tp2 J4 ntp2 p4 htp2 => ?_⟩
        have p14 := p13.trans p4
        walk_at "g"
        refine w_apT (p14.at0 hwx) (sz_lt (by rw [List.length_append]; omega)) fun J5 p5 hw5 => ?_
        walk_at "g"
        refine ⟨⟨_, rfl⟩, kx.trans (p14.all.trans p5), ext ++ [.ref tp2], by rw [List.length_append, le]; rfl, by rw [hw5, List.append_assoc], fun ej => ⟨ext, tp2, rfl, ?_⟩⟩
        have eo : op = legO (runS s (M.take i)) v := by
          rw [show ops.length + 1 - 1 - j = 0 by omega] at hop
          exact (Option.some.inj hop).symm
        subst eo
        rw [rs, tk, e10]
        refine TopE.kd (S := [wt]) ?_ p5 (fun x hx => .inl (List.mem_singleton.mp hx))
        refine ⟨a', r', l', o', lg2, da2, runS s (M.take i), htp2, p4.at0 (p3.at0 hlg2), p4.at0 hda2, lcx.k0 p14, ?_, ?_, ?_, ?_⟩
        · rw [show (M.take i ++ [legO (runS s (M.take i)) v]).drop ((M.take i ++ [legO (runS s (M.take i)) v]).length - 1) = [legO (runS s (M.take i)) v] by rw [List.length_append]; exact List.drop_left' (by simp)]
          exact leg_cons.mpr ⟨e11, fun i op h => by cases h⟩
        · rw [show (M.take i ++ [legO (runS s (M.take i)) v]).drop ((M.take i ++ [legO (runS s (M.take i)) v]).length - 1) = [legO (runS s (M.take i)) v] by rw [List.length_append]; exact List.drop_left' (by simp)]
          rfl
        · exact (kHx.trans p1).free0 nlg2
        · intro x hx
          simp only [List.mem_cons, List.not_mem_nil, or_false] at hx
          rcases hx with rfl | rfl | rfl | hx
          · simp only [List.mem_cons, List.not_mem_nil, or_false]
            rintro (z | z)
            · exact ne_of_none (p13.at0 hwx) ntp2 z.symm
            · exact ne_of_none (p13.at0 hfx) ntp2 z.symm
          · simp only [List.mem_cons, List.not_mem_nil, or_false]
            rintro (z | z)
            · exact ne_of_none (p1.at0 hwx) nlg2 z.symm
            · exact ne_of_none (p1.at0 hfx) nlg2 z.symm
          · rcases hor with rfl | hor
            · exact dj _ (by simp)
            · simp only [List.mem_cons, List.not_mem_nil, or_false]
              rintro (z | z)
              · exact ne_of_none (p12.at0 hwx) hor z.symm
              · exact ne_of_none (p12.at0 hfx) hor z.symm
          · exact aw x (by simpa using hx)
      · rintro σ2 H2 ⟨⟨u, rfl⟩, kx, ext, le, hwx, lst⟩
        rw [e3, List.length_map, List.length_cons] at le lst
        obtain ⟨ext0, tp2, rfl, T2⟩ := lst rfl
        rw [List.length_append] at le
        have le : ext0.length + 1 = ops.length + 1 := le
        exact ⟨⟨_, _, _, _, _, rfl⟩, (kHe.all.trans kx).cut1 nwt0, gs ++ ext0, .inl ⟨by omega, tp2, by rw [List.length_append]; omega, kx.at1 fw hfe, by rw [hwx, List.append_assoc], T2⟩⟩
  · have done : Q (.ref fd) H' := g fd lg H' nfd0 nlg kk hf hlg
    walk_at "g"
    refine w_truL (SqL.of hw) ?_
    cases gs with
    | nil =>
      rw [List.isEmpty_nil]
      walk_at "g"
      exact done
    | cons x xs =>
      rw [List.isEmpty_cons]
      walk_at "g"
      refine w_lenL (SqL.of hf) ?_
      walk_at "g"
      refine w_iteD (fun c => absurd c (by show ¬ (1 : Int) < 1; omega)) (fun _ => ?_)
      walk_at "g"
      exact done
theorem len_first_repair (K : PySem.W.Frag) : ∀ vs H Q E, sp17_first_repair K vs H Q E → vs.length = (["links"] : List Str).length := by
  rintro vs H Q E ⟨_, _, _, _, _, rfl, _⟩
  rfl
theorem rd_first_repair (T : Txt K mg) (vs : List V) (H : Hp) (Q : VK) (E : XK) (h : sp17_first_repair K vs H Q E) : t_first_repair K E { nx := fun _ H' => Q .non H', rt := Q } (start ["links"] vs) H := by
  obtain ⟨p, r, l, o, s, rfl, la, g, ge⟩ := h
  unfold t_first_repair
  walk_at "g"
  refine w_clK ?_
  walk_at "g"
  refine ⟨rfl, rfl, p, r, l, o, s, rfl, la, fun nl f a H' nf na k hf ha => ?_, ge⟩
  walk_at "g"
  refine w_ixL (SqL.of hf) at_0 ?_
  exact g nl a H' na k ha
abbrev lowRest (K : PySem.W.Frag) (E : XK) : TS := tSeq (tIfS (tAnd (tTest (tOp (rNeA K) (tVar 3) (tOp rAddA (tVar 1) (tC (.int 1))))) (tTest (tOp (rEqA K) (tOp (rIx K) (tOp (rIx K) (tVar 0) (tC (.int 1))) (tVar 3)) (tOp rSubA (tVar 3) (tC (.int 1)))))) (tIfS (tOr (tTest (tOp (rNeA K) (tOp (rIx K) (tOp (rIx K) (tVar 0) (tC (.int 2))) (tOp rSubA (tVar 3) (tC (.int 1)))) (tVar 3))) (tNot (tB (tCl (sp16__law_is_due K) (fun _ => E) (tCons (tVar 0) (tCons (tOp rSubA (tVar 3) (tC (.int 1))) (tNil))))))) (tRet (tC (.bl false))) (tNext)) (tNext)) (tRet (tC (.bl true)))
theorem len__law_lowers (K : PySem.W.Frag) : ∀ vs H Q E, sp17__law_lowers K vs H Q E → vs.length = (["book", "node"] : List Str).length := by
  rintro vs H Q E ⟨_, _, _, _, _, _, rfl, _⟩
  rfl
theorem rd__law_lowers (T : Txt K mg) (vs : List V) (H : Hp) (Q : VK) (E : XK) (h : sp17__law_lowers K vs H Q E) : t__law_lowers K E { nx := fun _ H' => Q .non H', rt := Q } (start ["book", "node", "low", "high"] vs) H := by
  obtain ⟨w, l, r, o, s, v, rfl, a, v1, v2, g⟩ := h
  unfold t__law_lowers
  obtain ⟨L', hL, lL, eL⟩ := a.hl
  obtain ⟨R', hR, lR, eR⟩ := a.hr
  have wf := a.wf
  have n60 := wf.n60
  obtain ⟨m, rfl⟩ : ∃ m, v = m + 1 := ⟨v - 1, by omega⟩
  obtain ⟨lo, hi, e1, e2, e3, e4, e5⟩ := low_at wf v2
  have iL := okL_iff e1
  have iR := okR_iff e2
  unfold lowB okB at g
  walk_at "g"
  refine w_ixL (SqL.of a.ob) (i := 1) (v := .ref l) rfl ?_
  walk_at "g"
  refine w_ixL (SqL.of hL) (at_I (by omega) (by omega)) ?_
  rw [Int.toNat_natCast, eL (m + 1) (by omega) (by omega), e1]
  walk_at "g"
  refine w_ixL (SqL.of a.ob) (i := 2) (v := .ref r) rfl ?_
  walk_at "g"
  refine w_ixL (SqL.of hR) (at_I (by omega) (by omega)) ?_
  rw [Int.toNat_natCast, eR (m + 1) (by omega), e2]
  walk_at "g"
  refine ⟨w, l, r, o, s, m + 1, rfl, a, by omega, by omega, ?_⟩
  walk_at "g"
  refine w_iteBN (fun c => ?_) (fun c => ?_)
  · rw [c] at g
    walk_at "g"
    exact g
  rw [c, Bool.true_and] at g
  have rest : okLB s (m + 1) = true → lowRest K E { nx := fun _ H' => Q .non H', rt := Q } [some (.ref w), some (.int ((m + 1 : Nat) : Int)), some (.int (lo : Int)), some (.int ((hi : Int) + 1))] H := fun ol => by
    rw [ol, Bool.true_and] at g
    unfold lowRest
    walk_at "g"
    refine w_iteBN (fun c1 => ?_) (fun c1 => ?_)
    · have c1 := of_decide_eq_false c1
      walk_at "g"
      refine w_ixL (SqL.of a.ob) (i := 1) (v := .ref l) rfl ?_
      walk_at "g"
      refine w_ixL (SqL.of hL) (at_I (by omega) (by omega)) ?_
      rw [show ((hi : Int) + 1).toNat = hi + 1 by omega, eL (hi + 1) (by omega) (by omega)]
      walk_at "g"
      refine w_iteD (fun c2 => ?_) (fun c2 => ?_)
      · walk_at "g"
        refine w_ixL (SqL.of a.ob) (i := 2) (v := .ref r) rfl ?_
        walk_at "g"
        refine w_ixL (SqL.of hR) (at_I (by omega) (by omega)) ?_
        rw [show ((hi : Int) + 1 - 1).toNat = hi by omega, eR hi (by omega)]
        walk_at "g"
        refine w_iteBN (fun c3 => ?_) (fun c3 => ?_)
        · walk_at "g"
          have c3 := of_decide_eq_false c3
          have : okRB s (m + 1) = false := by
            cases z : okRB s (m + 1) with
            | false => rfl
            | true =>
              rcases iR.mp z with y | y | ⟨y, _⟩
              · omega
              · exact absurd (show gI s.L (hi + 1) = (hi : Int) by omega) y
              · exact absurd (show gI s.R hi = (hi : Int) + 1 from y) c3
          rw [this] at g
          exact g
        · have c3 := of_decide_eq_true c3
          walk_at "g"
          refine ⟨w, l, r, o, s, hi, by rw [show (hi : Int) + 1 - 1 = (hi : Int) by omega], a, by omega, by omega, ?_⟩
          walk_at "g"
          refine w_iteBN (fun c4 => ?_) (fun c4 => ?_)
          · walk_at "g"
            have : okRB s (m + 1) = false := by
              cases z : okRB s (m + 1) with
              | false => rfl
              | true =>
                rcases iR.mp z with y | y | ⟨_, y⟩
                · omega
                · exact absurd (show gI s.L (hi + 1) = (hi : Int) by omega) y
                · rw [c4] at y; cases y
            rw [this] at g
            exact g
          · walk_at "g"
            rw [iR.mpr (.inr (.inr ⟨c3, c4⟩))] at g
            exact g
      · walk_at "g"
        rw [iR.mpr (.inr (.inl fun y => c2 (by have : gI s.L (hi + 1) = (hi : Int) := y; omega)))] at g
        exact g
    · have c1 := of_decide_eq_true c1
      walk_at "g"
      rw [iR.mpr (.inl (by omega))] at g
      exact g
  walk_at "g"
  refine w_iteBN (fun c1 => ?_) (fun c1 => ?_)
  · have c1 := of_decide_eq_false c1
    walk_at "g"
    refine w_ixL (SqL.of a.ob) (i := 2) (v := .ref r) rfl ?_
    walk_at "g"
    refine w_ixL (SqL.of hR) (at_I (by omega) (by omega)) ?_
    rw [Int.toNat_natCast, eR lo (by omega)]
    walk_at "g"
    refine w_iteD (fun c2 => ?_) (fun c2 => ?_)
    · walk_at "g"
      refine w_ixL (SqL.of a.ob) (i := 1) (v := .ref l) rfl ?_
      walk_at "g"
      refine w_ixL (SqL.of hL) (at_I (by omega) (by omega)) ?_
      rw [show ((lo : Int) + 1).toNat = lo + 1 by omega, eL (lo + 1) (by omega) (by omega)]
      walk_at "g"
      refine w_iteBN (fun c3 => ?_) (fun c3 => ?_)
      · walk_at "g"
        have c3 := of_decide_eq_false c3
        have : okLB s (m + 1) = false := by
          cases z : okLB s (m + 1) with
          | false => rfl
          | true =>
            rcases iL.mp z with y | y | ⟨y, _⟩
            · omega
            · exact absurd (show gI s.R lo = (lo : Int) + 1 from c2) y
            · exact absurd (show gI s.L (lo + 1) = (lo : Int) from y) c3
        rw [this, Bool.false_and] at g
        exact g
      · have c3 := of_decide_eq_true c3
        walk_at "g"
        refine ⟨w, l, r, o, s, lo + 1, by rw [show (lo : Int) + 1 = ((lo + 1 : Nat) : Int) by omega], a, by omega, by omega, ?_⟩
        walk_at "g"
        refine w_iteBN (fun c4 => ?_) (fun c4 => ?_)
        · walk_at "g"
          have : okLB s (m + 1) = false := by
            cases z : okLB s (m + 1) with
            | false => rfl
            | true =>
              rcases iL.mp z with y | y | ⟨_, y⟩
              · omega
              · exact absurd (show gI s.R lo = (lo : Int) + 1 from c2) y
              · rw [c4] at y; cases y
          rw [this, Bool.false_and] at g
          exact g
        · have z := rest (iL.mpr (.inr (.inr ⟨c3, c4⟩)))
          repeat' first | exact z | walk_at "1"
    · have z := rest (iL.mpr (.inr (.inl c2)))
      repeat' first | exact z | walk_at "1"
  · have c1 := of_decide_eq_true c1
    have z := rest (iL.mpr (.inl (by omega)))
    repeat' first | exact z | walk_at "1"
section
variable {W0 : WX} {D : Ends} {y0 y1 y2 y3 : Option V} {H : Hp}
theorem hnd_leads (T : Txt K mg) {x : Str} {fs : List (Str × V)} (hx : x = "BadOperation" ∨ x = "Illegal") (gg : ∀ H', Kp [] H H' → D.rt (.bl false) H') :
    Ex K x fs (WE (wOnly K (.ref (He.ga K "LogError")) (fun a cls d => tRet (tC (.bl false))) W0 D) [y0, y1]) H := by
  intro d nd
  have kd : Kp [] H (upd H d (.xd fs)) := Kp.new nd
  rcases hx with rfl | rfl
  · exact ⟨true, T.exm_BadOperation_LogError, fun _ a' na => gg _ kd, fun z => by cases z⟩
  · exact ⟨true, T.exm_Illegal_LogError, fun _ a' na => gg _ kd, fun z => by cases z⟩
end
theorem len_is_repair (K : PySem.W.Frag) : ∀ vs H Q E, sp48_is_repair K vs H Q E → vs.length = (["links", "log"] : List Str).length := by
  rintro vs H Q E ⟨_, _, _, _, _, _, _, rfl, _⟩
  rfl
theorem rd_is_repair (T : Txt K mg) (vs : List V) (H : Hp) (Q : VK) (E : XK) (h : sp48_is_repair K vs H Q E) : t_is_repair K E { nx := fun _ H' => Q .non H', rt := Q } (start ["links", "log"] vs) H := by
  obtain ⟨p, r, l, o, a, s, row, rfl, la, hs, g⟩ := h
  unfold t_is_repair
  walk_at "g"
  refine ⟨p, r, l, o, a, s, row, rfl, la, hs, fun le => fun p2 r2 l2 o2 H1 n1 n2 n3 n4 k1 la1 => ?_, fun i op hi le bad H1 k1 => ?_⟩
  · refine w_me la1 no_m ?_
    walk_at "g"
    refine ⟨p2, r2, l2, o2, _, rfl, la1, fun H2 k2 => ?_⟩
    have := g H2 (k1.trans k2)
    rw [lead_eq le] at this
    exact this
  · have gg : ∀ H', Kp [] H1 H' → Q (.bl false) H' := fun H' k' => by
      have := g H' (k1.trans k')
      rw [lead_bad hi bad] at this
      exact this
    unfold OpE
    split
    · exact hnd_leads T (.inr rfl) gg
    · exact hnd_leads T (.inl rfl) gg
theorem len_is_least_repair (K : PySem.W.Frag) : ∀ vs H Q E, sp48_is_least_repair K vs H Q E → vs.length = (["links", "log"] : List Str).length := by
  rintro vs H Q E ⟨_, _, _, _, _, _, _, rfl, _⟩
  rfl
theorem rd_is_least_repair (T : Txt K mg) (vs : List V) (H : Hp) (Q : VK) (E : XK) (h : sp48_is_least_repair K vs H Q E) : t_is_least_repair K E { nx := fun _ H' => Q .non H', rt := Q } (start ["links", "log"] vs) H := by
  obtain ⟨p, r, l, o, a, s, row, rfl, la, hs, g⟩ := h
  unfold t_is_least_repair
  walk_at "g"
  refine ⟨p, r, l, o, a, s, row, rfl, la, hs, fun H1 k1 => ?_⟩
  walk_at "g"
  refine w_iteB (fun c => ?_) (fun c => ?_)
  · have nl := lead_nolost la.wf c
    walk_at "g"
    refine w_lenL (k1.sql (by simp) hs) ?_
    walk_at "g"
    refine ⟨p, r, l, o, s, rfl, la.k0 k1, fun _ H2 k2 => ?_, fun g gs z => by rw [nl] at z; cases z⟩
    walk_at "g"
    have := g H2 (k1.trans k2)
    rw [c, Bool.true_and] at this
    rw [List.length_map]
    exact this
  · have := g H1 k1
    rw [c, Bool.false_and] at this
    walk_at "g"
    exact this
end
end G
set_option Elab.async false
set_option linter.all false
set_option maxRecDepth 100000
set_option maxHeartbeats 1000000
namespace G
--#FAM KD
open PySem PySem.Spec PyProof.Rows L2
local macro_rules
  | `(tactic| walk_at "1") => `(tactic| first
    | with_reducible refine w_seq ?_
    | with_reducible refine w_asg ?_
    | with_reducible refine w_asgS ?_
    | with_reducible refine w_asf ?_
    | with_reducible refine w_drop ?_
    | with_reducible refine w_ret ?_
    | with_reducible refine w_if ?_
    | with_reducible refine w_not ?_
    | with_reducible refine w_and ?_
    | with_reducible refine w_or ?_
    | with_reducible refine w_test ?_
    | with_reducible refine w_tb ?_
    | with_reducible refine w_chain ?_
    | with_reducible refine w_op ?_
    | with_reducible refine w_un ?_
    | with_reducible refine w_andV ?_
    | with_reducible refine w_orV ?_
    | with_reducible refine w_notV ?_
    | with_reducible refine w_ifE ?_
    | with_reducible refine w_cons ?_
    | with_reducible refine w_nil ?_
    | with_reducible refine w_cb ?_
    | with_reducible refine w_cl ?_
    | with_reducible refine w_mt ?_
    | with_reducible refine w_fld ?_
    | with_reducible refine w_tupN ?_
    | with_reducible refine w_lstN ?_
    | with_reducible refine w_bm ?_
    | with_reducible refine w_bm0 ?_
    | with_reducible refine w_for ?_
    | with_reducible refine w_lc ?_
    | with_reducible refine w_iR1 ?_
    | with_reducible refine w_iR2 ?_
    | with_reducible refine w_iL ?_
    | with_reducible refine w_iT ?_
    | with_reducible refine w_iE ?_
    | with_reducible refine w_iZ ?_
    | with_reducible refine w_var (by with_unfolding_all rfl) ?_
    | with_reducible refine w_c ?_
    | with_reducible refine w_next ?_
    | with_reducible refine w_i0 ?_
    | with_reducible refine w_u1 ?_
    | with_reducible refine w_addI ?_
    | with_reducible refine w_eqI ?_
    | with_reducible refine w_eqS ?_
    | with_reducible refine w_eqB ?_
    | with_reducible refine w_neI ?_
    | with_reducible refine w_neS ?_
    | with_reducible refine w_neB ?_
    | with_reducible refine w_abs ?_
    | with_reducible refine w_intI ?_
    | with_reducible refine w_min2 ?_
    | with_reducible refine w_max2 ?_
    | with_reducible refine w_isN0 ?_
    | with_reducible refine w_isN1 ref_ne ?_
    | with_reducible refine w_isN1 int_ne ?_
    | with_reducible refine w_notN0 ?_
    | with_reducible refine w_notN1 ref_ne ?_
    | with_reducible refine w_notN1 int_ne ?_
    | with_reducible refine w_ex1 ?_
    | with_reducible refine w_n1 ?_
    | with_reducible refine w_n2 ?_
    | with_reducible refine w_tT ?_
    | with_reducible refine w_tF ?_
    | with_reducible refine w_nT ?_
    | with_reducible refine w_nF ?_
    | with_reducible refine w_rz ?_
    | with_reducible refine w_mkN ?_
    | with_reducible refine w_lrgN ?_
    | with_reducible refine w_rg1 ?_
    | with_reducible refine w_rg2 ?_
    | with_reducible refine w_sl ?_
    | with_reducible refine w_np ?_
    | with_reducible refine w_pt ?_
    | with_reducible refine w_tr ?_
    | with_reducible refine w_gn ?_
    | with_reducible refine w_yes ?_
    | with_reducible refine w_m1 ?_
    | with_reducible refine w_asu ?_
    | with_reducible refine w_exS ?_
    | with_reducible refine w_iS ?_
    | with_reducible refine w_g1 ?_
    | with_reducible refine w_gc ?_
    | with_reducible refine w_gt (SqT.of upd_same) rfl ?_)
local macro_rules
  | `(tactic| walk_at "g") => `(tactic| repeat walk_at "1")
local macro_rules
  | `(tactic| walk_at "j1") => `(tactic| first
    | with_reducible refine w_seqI ?_
    | walk_at "1")
local macro_rules
  | `(tactic| walk_at "j") => `(tactic| repeat walk_at "j1")
section
variable {K : PySem.W.Frag} {mg : Str → Option Value}
theorem w_isiO {H : Hp} {Q : VK} (T : Txt K mg) {a dx : Addr} {fs : List (Str × V)} (e : H a = some (.ins (He.ga K "Links") dx fs)) (g : Q (.bl true) H) : rIsi K [.ref a, .ref (He.ga K "Links")] H Q :=
  ⟨_, _, .ref (He.ga K "Links"), .ref (He.ga K "Links"), true, rfl, .own _, .base (.ins e T.cl_Links T.ty_Links.1 T.ex_LinkError.gs T.ex_LinkError.tk T.ty_Links.2), by
    unfold PySem.W.kitOne
    rw [if_pos (by simp)], g⟩
theorem dpB {H : Hp} : ∀ xs : List Bool, DpAll K H (xs.map V.bl) (xs.map PyData.bool)
  | [] => .nil
  | x :: xs => .cons (.bl x) (dpB xs)
theorem layB : ∀ xs : List Bool, PyData.canLayAll0 (xs.map PyData.bool) = true
  | [] => rfl
  | x :: xs => by
    show PyData.canLayAll0 (PyData.bool x :: xs.map PyData.bool) = true
    rw [PyData.canLayAll0, layB xs] <;> rfl
theorem depB : ∀ xs : List Bool, PyData.depthAll (xs.map PyData.bool) ≤ 1
  | [] => by simp [PyData.depthAll]
  | x :: xs => by
    have := depB xs
    show PyData.depthAll (PyData.bool x :: xs.map PyData.bool) ≤ 1
    rw [PyData.depthAll]
    simp [PyData.depth]
    omega
theorem shB (xs : List Bool) : SeqAt.shaped (.list (xs.map PyData.bool)) = true := by
  unfold SeqAt.shaped
  rw [PyData.canLay0, layB, PyData.depth]
  have := depB xs
  simp
  omega
theorem eqvI : ∀ xs ys : List Int, PyData.eqvAll (xs.map PyData.int) (ys.map PyData.int) = decide (xs = ys)
  | [], [] => by simp [PyData.eqvAll]
  | [], y :: ys => by simp [PyData.eqvAll]
  | x :: xs, [] => by simp [PyData.eqvAll]
  | x :: xs, y :: ys => by
    show PyData.eqvAll (PyData.int x :: xs.map PyData.int) (PyData.int y :: ys.map PyData.int) = _
    rw [PyData.eqvAll, eqvI xs ys, PyData.eqv]
    by_cases h : x = y <;> by_cases h2 : xs = ys <;> simp [h, h2]
theorem eqvB : ∀ xs ys : List Bool, PyData.eqvAll (xs.map PyData.bool) (ys.map PyData.bool) = decide (xs = ys)
  | [], [] => by simp [PyData.eqvAll]
  | [], y :: ys => by simp [PyData.eqvAll]
  | x :: xs, [] => by simp [PyData.eqvAll]
  | x :: xs, y :: ys => by
    show PyData.eqvAll (PyData.bool x :: xs.map PyData.bool) (PyData.bool y :: ys.map PyData.bool) = _
    rw [PyData.eqvAll, eqvB xs ys, PyData.eqv]
    by_cases h : x = y <;> by_cases h2 : xs = ys <;> simp [h, h2]
theorem w_eqLI {H : Hp} {Q : VK} {p q : Addr} {xs ys : List Int} (h1 : H p = some (.lst (xs.map V.int))) (h2 : H q = some (.lst (ys.map V.int))) (g : Q (.bl (decide (xs = ys))) H) : rEqA K (.ref p) (.ref q) H Q :=
  w_eqD (.lst (SqL.of h1) (dpI xs)) (.lst (SqL.of h2) (dpI ys)) (shI xs) (shI ys) (by
    rw [PyData.eqv, eqvI]
    exact g)
theorem w_eqLB {H : Hp} {Q : VK} {p q : Addr} {xs ys : List Bool} (h1 : H p = some (.lst (xs.map V.bl))) (h2 : H q = some (.lst (ys.map V.bl))) (g : Q (.bl (decide (xs = ys))) H) : rEqA K (.ref p) (.ref q) H Q :=
  w_eqD (.lst (SqL.of h1) (dpB xs)) (.lst (SqL.of h2) (dpB ys)) (shB xs) (shB ys) (by
    rw [PyData.eqv, eqvB]
    exact g)
theorem len_Links_is_whole (K : PySem.W.Frag) : ∀ vs H Q E, sp23_Links_is_whole K vs H Q E → vs.length = (["self"] : List Str).length := by
  rintro vs H Q E ⟨_, _, _, _, _, rfl, _⟩
  rfl
theorem rd_Links_is_whole (T : Txt K mg) (vs : List V) (H : Hp) (Q : VK) (E : XK) (h : sp23_Links_is_whole K vs H Q E) : t_Links_is_whole K E { nx := fun _ H' => Q .non H', rt := Q } (start ["self"] vs) H := by
  obtain ⟨p, r, l, o, s, rfl, a, g⟩ := h
  unfold t_Links_is_whole
  walk_at "g"
  refine w_fS T.cl_Links T.na_Links_size a ?_
  walk_at "g"
  refine mk fun q dx H1 nq hq k1 => ?_
  refine ⟨q, dx, s.n, rfl, hq, fun ok r1 l1 o1 H2 nr1 nl1 no1 k2 b => ⟨rfl, ?_⟩, fun z => absurd ⟨by omega, by have := a.wf.n60; omega⟩ z⟩
  rw [Int.toNat_natCast] at b
  have k02 : Kp [] H H2 := (k1.all.trans k2).cut1 nq
  have a2 := a.k0 k02
  obtain ⟨d1, o1'⟩ := a2.ob
  obtain ⟨d2, o2'⟩ := b.ob
  refine .inr ⟨p, q, d1, d2, _, _, rfl, rfl, o1', o2', p, r, l, o, q, r1, l1, o1, s, wholeS s.n, rfl, a2, b, ⟨_, rfl⟩, ?_⟩
  exact g H2 k02
theorem len_Links___eq__ (K : PySem.W.Frag) : ∀ vs H Q E, sp23_Links___eq__ K vs H Q E → vs.length = (["self", "other"] : List Str).length := by
  rintro vs H Q E ⟨_, _, _, _, _, _, _, _, _, _, rfl, _⟩
  rfl
theorem rd_Links___eq__ (T : Txt K mg) (vs : List V) (H : Hp) (Q : VK) (E : XK) (h : sp23_Links___eq__ K vs H Q E) : t_Links___eq__ K E { nx := fun _ H' => Q .non H', rt := Q } (start ["self", "other"] vs) H := by
  obtain ⟨p, r, l, o, p2, r2, l2, o2, s, t, rfl, a, b, g⟩ := h
  unfold t_Links___eq__
  walk_at "g"
  obtain ⟨dx, ob⟩ := b.ob
  refine w_isiO T ob ?_
  walk_at "g"
  refine w_fR T.cl_Links T.na_Links__rights a ?_
  walk_at "g"
  refine w_fR T.cl_Links T.na_Links__rights b ?_
  refine w_eqLI a.hr b.hr ?_
  walk_at "g"
  refine w_iteD (fun c1 => ?_) (fun c1 => ?_)
  · rw [decide_eq_true c1, Bool.true_and] at g
    walk_at "g"
    refine w_fL T.cl_Links T.na_Links__lefts a ?_
    walk_at "g"
    refine w_fL T.cl_Links T.na_Links__lefts b ?_
    refine w_eqLI a.hl b.hl ?_
    walk_at "g"
    refine w_iteD (fun c2 => ?_) (fun c2 => ?_)
    · rw [decide_eq_true c2, Bool.true_and] at g
      walk_at "g"
      refine w_fO T.cl_Links T.na_Links__out a ?_
      walk_at "g"
      refine w_fO T.cl_Links T.na_Links__out b ?_
      exact w_eqLB a.ho b.ho g
    · rw [decide_eq_false c2, Bool.false_and] at g
      exact g
  · rw [decide_eq_false c1, Bool.false_and] at g
    exact g
end
end G
set_option Elab.async false
set_option linter.all false
set_option maxRecDepth 100000
set_option maxHeartbeats 2000000
namespace G
--#FAM KD
open PySem PySem.Spec PyProof.Rows L2
local macro_rules
  | `(tactic| walk_at "1") => `(tactic| first
    | with_reducible refine w_seq ?_
    | with_reducible refine w_asg ?_
    | with_reducible refine w_asgS ?_
    | with_reducible refine w_asf ?_
    | with_reducible refine w_drop ?_
    | with_reducible refine w_ret ?_
    | with_reducible refine w_if ?_
    | with_reducible refine w_not ?_
    | with_reducible refine w_and ?_
    | with_reducible refine w_or ?_
    | with_reducible refine w_test ?_
    | with_reducible refine w_tb ?_
    | with_reducible refine w_chain ?_
    | with_reducible refine w_op ?_
    | with_reducible refine w_un ?_
    | with_reducible refine w_andV ?_
    | with_reducible refine w_orV ?_
    | with_reducible refine w_notV ?_
    | with_reducible refine w_ifE ?_
    | with_reducible refine w_cons ?_
    | with_reducible refine w_nil ?_
    | with_reducible refine w_cb ?_
    | with_reducible refine w_cl ?_
    | with_reducible refine w_mt ?_
    | with_reducible refine w_fld ?_
    | with_reducible refine w_tupN ?_
    | with_reducible refine w_lstN ?_
    | with_reducible refine w_bm ?_
    | with_reducible refine w_bm0 ?_
    | with_reducible refine w_for ?_
    | with_reducible refine w_lc ?_
    | with_reducible refine w_iR1 ?_
    | with_reducible refine w_iR2 ?_
    | with_reducible refine w_iL ?_
    | with_reducible refine w_iT ?_
    | with_reducible refine w_iE ?_
    | with_reducible refine w_iZ ?_
    | with_reducible refine w_var (by with_unfolding_all rfl) ?_
    | with_reducible refine w_c ?_
    | with_reducible refine w_next ?_
    | with_reducible refine w_i0 ?_
    | with_reducible refine w_u1 ?_
    | with_reducible refine w_addI ?_
    | with_reducible refine w_eqI ?_
    | with_reducible refine w_eqS ?_
    | with_reducible refine w_eqB ?_
    | with_reducible refine w_neI ?_
    | with_reducible refine w_neS ?_
    | with_reducible refine w_neB ?_
    | with_reducible refine w_abs ?_
    | with_reducible refine w_intI ?_
    | with_reducible refine w_min2 ?_
    | with_reducible refine w_max2 ?_
    | with_reducible refine w_isN0 ?_
    | with_reducible refine w_isN1 ref_ne ?_
    | with_reducible refine w_isN1 int_ne ?_
    | with_reducible refine w_notN0 ?_
    | with_reducible refine w_notN1 ref_ne ?_
    | with_reducible refine w_notN1 int_ne ?_
    | with_reducible refine w_ex1 ?_
    | with_reducible refine w_n1 ?_
    | with_reducible refine w_n2 ?_
    | with_reducible refine w_tT ?_
    | with_reducible refine w_tF ?_
    | with_reducible refine w_nT ?_
    | with_reducible refine w_nF ?_
    | with_reducible refine w_rz ?_
    | with_reducible refine w_mkN ?_
    | with_reducible refine w_lrgN ?_
    | with_reducible refine w_rg1 ?_
    | with_reducible refine w_rg2 ?_
    | with_reducible refine w_sl ?_
    | with_reducible refine w_np ?_
    | with_reducible refine w_pt ?_
    | with_reducible refine w_tr ?_
    | with_reducible refine w_gn ?_
    | with_reducible refine w_yes ?_
    | with_reducible refine w_m1 ?_
    | with_reducible refine w_asu ?_
    | with_reducible refine w_exS ?_
    | with_reducible refine w_iS ?_
    | with_reducible refine w_g1 ?_
    | with_reducible refine w_gc ?_
    | with_reducible refine w_gt (SqT.of upd_same) rfl ?_)
local macro_rules
  | `(tactic| walk_at "g") => `(tactic| repeat walk_at "1")
local macro_rules
  | `(tactic| walk_at "j1") => `(tactic| first
    | with_reducible refine w_seqI ?_
    | walk_at "1")
local macro_rules
  | `(tactic| walk_at "j") => `(tactic| repeat walk_at "j1")
section
variable {K : PySem.W.Frag} {mg : Str → Option Value}
abbrev hndTo (K : PySem.W.Frag) : Addr → Value → Option Addr → TS := fun a cls d => tRet (tTup (tCons (tC (.str "lost")) (tCons (tXat K a cls d "gap" (tVar 2)) (tNil))))
section
variable {W0 : WX} {D : Ends} {y0 y1 y2 : Option V} {H : Hp}
theorem hnd_T (T : Txt K mg) {g : Nat} (gg : ∀ t H', Kp [] H H' → H' t = some (.tup [.str "lost", .int (g : Int)]) → D.rt (.ref t) H') :
    Ex K "NotRepairable" [("gap", .int (g : Int))] (WE (wAs K (.ref (He.ga K "NotRepairable")) 2 (hndTo K) W0 D) [y0, y1, y2]) H := by
  intro d nd
  refine ⟨true, T.exm_NotRepairable_NotRepairable, fun _ a na => ?_, fun z => by cases z⟩
  have hd : upd H d (.xd [("gap", .int (g : Int))]) d = some (.xd [("gap", .int (g : Int))]) := upd_same
  have kd : Kp [] H (upd H d (.xd [("gap", .int (g : Int))])) := Kp.new nd
  unfold hndTo
  generalize upd H d (.xd [("gap", .int (g : Int))]) = H1 at hd kd na ⊢
  walk_at "g"
  refine w_xat (fun Q q => w_var (by with_unfolding_all rfl) q) hd T.ex_NotRepairable (T.oe_NotRepairable.2 _ (by simp)) (lk1 _ _ _) ?_
  walk_at "g"
  refine ⟨sz_ok (by show 2 ≤ 1000000; omega), G.nw fun t H2 nt k2 ht => ?_⟩
  exact gg t H2 (kd.trans k2) ht
end
theorem told_nil {s : Sd} (nl : lostL s = []) : toldS s = [.str "debt", .int (owedS s)] := by unfold toldS; rw [if_pos nl]
theorem told_cons {s : Sd} {g : Nat} {gs : List Nat} (e : lostL s = g :: gs) : toldS s = [.str "lost", .int (g : Int)] := by
  unfold toldS
  rw [if_neg (by rw [e]; simp), e] <;> rfl
theorem len__law_told (K : PySem.W.Frag) : ∀ vs H Q E, sp18__law_told K vs H Q E → vs.length = (["linked"] : List Str).length := by
  rintro vs H Q E ⟨_, _, _, _, _, rfl, _⟩
  rfl
theorem rd__law_told (T : Txt K mg) (vs : List V) (H : Hp) (Q : VK) (E : XK) (h : sp18__law_told K vs H Q E) : t__law_told K E { nx := fun _ H' => Q .non H', rt := Q } (start ["linked", "told", "fault"] vs) H := by
  obtain ⟨p, r, l, o, s, rfl, la, g0⟩ := h
  unfold t__law_told
  walk_at "g"
  refine ⟨p, r, l, o, s, rfl, la, fun nl H1 k1 => ?_, fun g gs e H1 k1 => ?_⟩
  · walk_at "g"
    refine ⟨sz_ok (by show 2 ≤ 1000000; omega), G.nw fun t H2 nt k2 ht => ?_⟩
    exact g0 t H2 (k1.trans k2) (by rw [told_nil nl]; exact ht)
  · exact hnd_T T fun t H2 k2 ht => g0 t H2 (k1.trans k2) (by rw [told_cons e]; exact ht)
theorem len__law_fits (K : PySem.W.Frag) : ∀ vs H Q E, sp18__law_fits K vs H Q E → vs.length = (["told", "word", "number"] : List Str).length := by
  rintro vs H Q E ⟨_, _, _, _, _, rfl, _⟩
  rfl
theorem rd__law_fits (T : Txt K mg) (vs : List V) (H : Hp) (Q : VK) (E : XK) (h : sp18__law_fits K vs H Q E) : t__law_fits K E { nx := fun _ H' => Q .non H', rt := Q } (start ["told", "word", "number"] vs) H := by
  obtain ⟨t, a, b, n, m, rfl, ht, g⟩ := h
  unfold t__law_fits
  walk_at "g"
  refine w_ixT (SqT.of ht) at_0 ?_
  walk_at "g"
  by_cases c : a = b
  · rw [decide_eq_true c] at g ⊢
    walk_at "g"
    refine w_ixT (SqT.of ht) (i := 1) (v := .int n) rfl ?_
    walk_at "g"
    refine ⟨n, rfl, ?_⟩
    walk_at "g"
    refine w_ixT (SqT.of ht) (i := 1) (v := .int n) rfl ?_
    walk_at "g"
    exact g
  · rw [decide_eq_false c] at g ⊢
    walk_at "g"
    exact g
theorem len__law_key (K : PySem.W.Frag) : ∀ vs H Q E, sp18__law_key K vs H Q E → vs.length = (["book"] : List Str).length := by
  rintro vs H Q E ⟨_, _, _, _, _, _, _, rfl, _⟩
  rfl
theorem rd__law_key (T : Txt K mg) (vs : List V) (H : Hp) (Q : VK) (E : XK) (h : sp18__law_key K vs H Q E) : t__law_key K E { nx := fun _ H' => Q .non H', rt := Q } (start ["book"] vs) H := by
  obtain ⟨w, l, r, o, s, x, y, rfl, a, ex, g⟩ := h
  unfold t__law_key
  have wf := a.wf
  have n60 := wf.n60
  have e1 : (exL x s).length = s.n + 2 := by unfold exL; rw [List.length_set]; exact wf.lL
  have e2 : (exR y s).length = s.n + 2 := by unfold exR; rw [List.length_append, wf.lR] <;> rfl
  have e3 := wf.lO
  walk_at "g"
  refine w_ixL (SqL.of a.ob) (i := 1) (v := .ref l) rfl ?_
  walk_at "g"
  refine w_ixL (SqL.of a.ob) (i := 2) (v := .ref r) rfl ?_
  walk_at "g"
  refine w_addLN ex.hl ex.hr (sz_ok (by rw [List.length_map, List.length_map]; omega)) fun q H1 nq k1 hq => ?_
  walk_at "g"
  refine w_ixL (SqL.of (k1.at0 a.ob)) (i := 3) (v := .ref o) rfl ?_
  walk_at "g"
  refine w_addLN hq (k1.at0 a.ho) (sz_ok (by rw [List.length_append, List.length_map, List.length_map, List.length_map]; omega)) fun q2 H2 nq2 k2 hq2 => ?_
  walk_at "g"
  refine w_tuA (SqL.of hq2) fun t H3 nt k3 ht => ?_
  have k12 := k1.trans k2
  exact g t H3 (k12.free0 nt) (k12.trans k3) (keyL_nk ht)
theorem len__law_ends_whole (K : PySem.W.Frag) : ∀ vs H Q E, sp18__law_ends_whole K vs H Q E → vs.length = (["start", "moves"] : List Str).length := by
  rintro vs H Q E ⟨_, _, _, _, _, _, _, rfl, _⟩
  rfl
theorem rd__law_ends_whole (T : Txt K mg) (vs : List V) (H : Hp) (Q : VK) (E : XK) (h : sp18__law_ends_whole K vs H Q E) : t__law_ends_whole K E { nx := fun _ H' => Q .non H', rt := Q } (start ["start", "moves", "book", "move", "node"] vs) H := by
  obtain ⟨w, l, r, o, a, s, ms, rfl, bk, sn, ha, g⟩ := h
  unfold t__law_ends_whole
  have wf := bk.wf
  have n60 := wf.n60
  walk_at "g"
  refine ⟨w, l, r, o, s, rfl, bk, fun w' l' r' o' H1 n1 n2 n3 n4 k1 b1 _ _ => ?_⟩
  have ha1 := k1.at0 ha
  have aw : a ≠ w' ∧ a ≠ l' ∧ a ≠ r' ∧ a ≠ o' := ⟨ne_of_none ha n1, ne_of_none ha n2, ne_of_none ha n3, ne_of_none ha n4⟩
  walk_at "g"
  refine w_l1 (SqL.of ha1) ?_
  refine lp_lst (xs := ms.map V.int) (fun i σ H' => (∃ u1 u2, σ = [some (.ref w), some (.ref a), some (.ref w'), u1, u2]) ∧ Kp [l', r', o'] H1 H' ∧ Bk5 H' w' l' r' o' (runS s (ms.take i)) ∧ Leg s (ms.take i)) ⟨⟨_, _, rfl⟩, Kp.refl _ _, b1, fun i op h => by cases h⟩ ?_ ?_ ?_
  · rintro i σ' H' hi ⟨_, k, _⟩
    exact SqL.of (k _ _ (by simp [aw]) ha1)
  · rintro i x σ' H' hx ⟨⟨u1, u2, rfl⟩, k, b2, le⟩
    obtain ⟨op, hop, rfl⟩ := at_map hx
    have en : (runS s (ms.take i)).n = s.n := runS_n _ _
    have kk : Kp [] H H' := (k1.all.trans k).cut (by simp [n2, n3, n4])
    have bad : ¬ OkOp (runS s (ms.take i)) op → Q (.bl false) H' := fun no => by
      rw [lead_bad hop no] at g
      exact g H' kk
    walk_at "g"
    rw [show (if op < 0 then -op else op) = (op.natAbs : Int) by split <;> omega]
    refine w_iteD (fun c1 => ?_) (fun c1 => ?_)
    · walk_at "g"
      refine w_ixL (SqL.of b2.ob) at_0 ?_
      walk_at "g"
      refine w_iteN (fun c2 => ?_) (fun c2 => ?_)
      · walk_at "g"
        exact bad fun ok => c2 (by have := ok.1.2; omega)
      · walk_at "g"
        refine ⟨w', l', r', o', _, op.natAbs, rfl, b2, by omega, ?_⟩
        walk_at "g"
        refine w_iteN (fun c3 => ?_) (fun c3 => ?_)
        · walk_at "g"
          exact bad fun ok => c3 (ok_leg ok).2.2
        · walk_at "g"
          have v1 : 1 ≤ op.natAbs := by omega
          have v2 : op.natAbs ≤ (runS s (ms.take i)).n := by omega
          refine ⟨w', l', r', o', _, op.natAbs, rfl, b2, v1, v2, fun H2 k2 b3 _ => ?_⟩
          have ok : OkOp (runS s (ms.take i)) op := c3 ▸ (legO_ok' v1 v2).1
          walk_at "g"
          rw [take_snoc hop, runS_snoc]
          rw [← c3] at b3
          exact ⟨⟨_, _, rfl⟩, k.trans k2, b3, le.snoc ok⟩
    · walk_at "g"
      exact bad fun ok => c1 (by have := ok.1.1; omega)
  · rintro σ' H' ⟨⟨u1, u2, rfl⟩, k, b2, le⟩
    rw [List.length_map, List.take_length] at b2 le
    walk_at "g"
    refine ⟨w', l', r', o', _, rfl, b2, ?_⟩
    walk_at "g"
    rw [← whl_whole b2.wf (runS_snd wf sn le), ← lead_eq le]
    exact g H' ((k1.all.trans k).cut (by simp [n2, n3, n4]))
end
end G
set_option Elab.async false
set_option linter.all false
set_option maxRecDepth 100000
set_option maxHeartbeats 2000000
namespace G
--#FAM KD
open PySem PySem.Spec PyProof.Rows L2
local macro_rules
  | `(tactic| walk_at "1") => `(tactic| first
    | with_reducible refine w_seq ?_
    | with_reducible refine w_asg ?_
    | with_reducible refine w_asgS ?_
    | with_reducible refine w_asf ?_
    | with_reducible refine w_drop ?_
    | with_reducible refine w_ret ?_
    | with_reducible refine w_if ?_
    | with_reducible refine w_not ?_
    | with_reducible refine w_and ?_
    | with_reducible refine w_or ?_
    | with_reducible refine w_test ?_
    | with_reducible refine w_tb ?_
    | with_reducible refine w_chain ?_
    | with_reducible refine w_op ?_
    | with_reducible refine w_un ?_
    | with_reducible refine w_andV ?_
    | with_reducible refine w_orV ?_
    | with_reducible refine w_notV ?_
    | with_reducible refine w_ifE ?_
    | with_reducible refine w_cons ?_
    | with_reducible refine w_nil ?_
    | with_reducible refine w_cb ?_
    | with_reducible refine w_cl ?_
    | with_reducible refine w_mt ?_
    | with_reducible refine w_fld ?_
    | with_reducible refine w_tupN ?_
    | with_reducible refine w_lstN ?_
    | with_reducible refine w_bm ?_
    | with_reducible refine w_bm0 ?_
    | with_reducible refine w_for ?_
    | with_reducible refine w_lc ?_
    | with_reducible refine w_iR1 ?_
    | with_reducible refine w_iR2 ?_
    | with_reducible refine w_iL ?_
    | with_reducible refine w_iT ?_
    | with_reducible refine w_iE ?_
    | with_reducible refine w_iZ ?_
    | with_reducible refine w_var (by with_unfolding_all rfl) ?_
    | with_reducible refine w_c ?_
    | with_reducible refine w_next ?_
    | with_reducible refine w_i0 ?_
    | with_reducible refine w_u1 ?_
    | with_reducible refine w_addI ?_
    | with_reducible refine w_eqI ?_
    | with_reducible refine w_eqS ?_
    | with_reducible refine w_eqB ?_
    | with_reducible refine w_neI ?_
    | with_reducible refine w_neS ?_
    | with_reducible refine w_neB ?_
    | with_reducible refine w_abs ?_
    | with_reducible refine w_intI ?_
    | with_reducible refine w_min2 ?_
    | with_reducible refine w_max2 ?_
    | with_reducible refine w_isN0 ?_
    | with_reducible refine w_isN1 ref_ne ?_
    | with_reducible refine w_isN1 int_ne ?_
    | with_reducible refine w_notN0 ?_
    | with_reducible refine w_notN1 ref_ne ?_
    | with_reducible refine w_notN1 int_ne ?_
    | with_reducible refine w_ex1 ?_
    | with_reducible refine w_n1 ?_
    | with_reducible refine w_n2 ?_
    | with_reducible refine w_tT ?_
    | with_reducible refine w_tF ?_
    | with_reducible refine w_nT ?_
    | with_reducible refine w_nF ?_
    | with_reducible refine w_rz ?_
    | with_reducible refine w_mkN ?_
    | with_reducible refine w_lrgN ?_
    | with_reducible refine w_rg1 ?_
    | with_reducible refine w_rg2 ?_
    | with_reducible refine w_sl ?_
    | with_reducible refine w_np ?_
    | with_reducible refine w_pt ?_
    | with_reducible refine w_tr ?_
    | with_reducible refine w_gn ?_
    | with_reducible refine w_yes ?_
    | with_reducible refine w_m1 ?_
    | with_reducible refine w_asu ?_
    | with_reducible refine w_exS ?_
    | with_reducible refine w_iS ?_
    | with_reducible refine w_g1 ?_
    | with_reducible refine w_gc ?_
    | with_reducible refine w_gt (SqT.of upd_same) rfl ?_)
local macro_rules
  | `(tactic| walk_at "g") => `(tactic| repeat walk_at "1")
local macro_rules
  | `(tactic| walk_at "j1") => `(tactic| first
    | with_reducible refine w_seqI ?_
    | walk_at "1")
local macro_rules
  | `(tactic| walk_at "j") => `(tactic| repeat walk_at "j1")
section
variable {K : PySem.W.Frag} {mg : Str → Option Value}
/-- rows of a level -/
def RowX (H : Hp) (S : List Addr) (x y : Int) (w : Addr) (t : Sd) : Prop := ∃ l r o, Bk5 H w l r o t ∧ Snd t ∧ Ex5 H l r x y t ∧ w ∉ S ∧ l ∉ S ∧ r ∉ S ∧ o ∉ S
theorem RowX.kz {H H' : Hp} {S : List Addr} {x y : Int} {w : Addr} {t : Sd} (h : RowX H S x y w t) (k : Kp S H H') : RowX H' S x y w t := by
  obtain ⟨l, r, o, b, d, e, h1, h2, h3, h4⟩ := h
  exact ⟨l, r, o, b.kp k h1 h2 h3 h4, d, e.kp k h2 h3, h1, h2, h3, h4⟩
theorem RowX.new {H : Hp} {S : List Addr} {x y : Int} {w z : Addr} {t : Sd} (h : RowX H S x y w t) (n : H z = none) : RowX H (z :: S) x y w t := by
  obtain ⟨l, r, o, b, d, e, h1, h2, h3, h4⟩ := h
  obtain ⟨f1, f2, f3, f4⟩ := b.fr n
  exact ⟨l, r, o, b, d, e, by simp [f1, h1], by simp [f2, h2], by simp [f3, h3], by simp [f4, h4]⟩
theorem RowX.sub {H : Hp} {S : List Addr} {x y : Int} {w z : Addr} {t : Sd} (h : RowX H (z :: S) x y w t) : RowX H S x y w t := by
  obtain ⟨l, r, o, b, d, e, h1, h2, h3, h4⟩ := h
  exact ⟨l, r, o, b, d, e, fun m => h1 (List.mem_cons_of_mem _ m), fun m => h2 (List.mem_cons_of_mem _ m), fun m => h3 (List.mem_cons_of_mem _ m), fun m => h4 (List.mem_cons_of_mem _ m)⟩
abbrev rw1 (ps : List (Addr × Sd)) : List V := ps.map fun p => V.ref p.1
abbrev lv2 (ps : List (Addr × Sd)) : List Sd := ps.map fun p => p.2
def rowD (x y : Int) (t : Sd) : PyData := .list [.int t.n, .list ((exL x t).map PyData.int), .list ((exR y t).map PyData.int), .list (t.O.map PyData.bool)]
theorem rows_dp {H : Hp} {S : List Addr} {x y : Int} : ∀ {ps : List (Addr × Sd)}, (∀ p ∈ ps, RowX H S x y p.1 p.2) → DpAll K H (rw1 ps) (ps.map fun p => rowD x y p.2)
  | [], _ => .nil
  | p :: ps, h => by
    obtain ⟨l, r, o, b, d, e, _⟩ := h p List.mem_cons_self
    exact .cons (.lst (SqL.of b.ob) (.cons (.int _) (.cons (.lst (SqL.of e.hl) (dpZ _)) (.cons (.lst (SqL.of e.hr) (dpZ _)) (.cons (.lst (SqL.of b.ho) (dpB8 _)) .nil))))) (rows_dp fun q hq => h q (List.mem_cons_of_mem _ hq))
theorem rowD_lay (x y : Int) (t : Sd) : (rowD x y t).canLay0 = true := by
  unfold rowD
  rw [PyData.canLay0]
  simp [PyData.canLayAll0, PyData.canLay0, layZ, layB8]
theorem rowD_dep (x y : Int) (t : Sd) : (rowD x y t).depth ≤ 3 := by
  have a := depZ (exL x t)
  have b := depZ (exR y t)
  have c := depB8 t.O
  unfold rowD
  simp [PyData.depth, PyData.depthAll]
  omega
theorem rows_lay (x y : Int) : ∀ ps : List (Addr × Sd), PyData.canLayAll0 (ps.map fun p => rowD x y p.2) = true
  | [] => rfl
  | p :: ps => by
    show PyData.canLayAll0 (rowD x y p.2 :: ps.map fun p => rowD x y p.2) = true
    rw [PyData.canLayAll0, rows_lay x y ps, rowD_lay] <;> rfl
theorem rows_dep (x y : Int) : ∀ ps : List (Addr × Sd), PyData.depthAll (ps.map fun p => rowD x y p.2) ≤ 3
  | [] => by simp [PyData.depthAll]
  | p :: ps => by
    have a := rows_dep x y ps
    have b := rowD_dep x y p.2
    show PyData.depthAll (rowD x y p.2 :: ps.map fun p => rowD x y p.2) ≤ 3
    rw [PyData.depthAll]
    omega
theorem rows_sh (x y : Int) (ps : List (Addr × Sd)) : SeqAt.shaped (.list (ps.map fun p => rowD x y p.2)) = true := by
  have a := rows_dep x y ps
  unfold SeqAt.shaped
  rw [PyData.canLay0, rows_lay, PyData.depth]
  simp
  omega
theorem getZ_mem (xs : List ZX) (k : NestedKey) : (getZ xs k).isSome = decide (k ∈ xs.map (·.1)) := by
  unfold getZ
  rw [Option.isSome_map, Bool.eq_iff_iff, List.find?_isSome, decide_eq_true_iff, List.mem_map]
  constructor
  · rintro ⟨z, hz, e⟩
    exact ⟨z, hz, decide_eq_true_iff.mp e⟩
  · rintro ⟨z, hz, e⟩
    exact ⟨z, hz, decide_eq_true e⟩
theorem putZ_new {xs : List ZX} {k : NestedKey} {b : Addr} {v : V} (h : (getZ xs k).isSome = false) : putZ xs k b v = xs ++ [(k, b, v)] := by
  unfold putZ
  rw [h]
  rfl
theorem key_mem {s0 : Sd} {x y : Int} (w : Wf s0) (d : Snd s0) {l : List Sd} (hl : ∀ t ∈ l, t.n = s0.n ∧ Wf t ∧ Snd t) {t : Sd} (ht : t.n = s0.n ∧ Wf t ∧ Snd t) : keyS x y t ∈ l.map (keyS x y) ↔ t ∈ l := by
  constructor
  · intro h
    obtain ⟨u, hu, e⟩ := List.mem_map.mp h
    obtain ⟨a, b, c⟩ := hl u hu
    rw [← keyS_inj b ht.2.1 c ht.2.2 (by rw [a, ht.1]) e]
    exact hu
  · exact fun h => List.mem_map.mpr ⟨t, h, rfl⟩
theorem len__law_distance (K : PySem.W.Frag) : ∀ vs H Q E, sp18__law_distance K vs H Q E → vs.length = (["start"] : List Str).length := by
  rintro vs H Q E ⟨_, _, _, _, _, rfl, _⟩
  rfl
theorem rd__law_distance (T : Txt K mg) (vs : List V) (H : Hp) (Q : VK) (E : XK) (h : sp18__law_distance K vs H Q E) : t__law_distance K E { nx := fun _ H' => Q .non H', rt := Q } (start ["start", "seen", "level", "depth", "later", "row", "node", "made", "key"] vs) H := by
  obtain ⟨w, l, r, o, s, rfl, a, d, n4, g⟩ := h
  unfold t__law_distance
  have wf := a.wf
  obtain ⟨x, y, ex⟩ := a.ex
  walk_at "j"
  intro sd H1 nsd k1 d0
  walk_at "j"
  refine ⟨w, l, r, o, s, x, y, rfl, a.k0 k1, ex.kp k1 (by simp) (by simp), fun kt H2 nkt k2 hk => ?_⟩
  walk_at "j"
  refine ⟨kt, _, d0.k0 k2, rfl, hk, keyL_depth _ _ _, fun H3 k3 dz3 => ?_⟩
  walk_at "j"
  have k03 : Kp [] H H3 := ((k1.trans k2).all.trans k3).cut1 nsd
  refine ⟨w, l, r, o, s, rfl, a.k0 k03, fun w' l' r' o' H4 n1 n2 n3 n5 k4 b4 eL eR => ?_⟩
  walk_at "j"
  refine ⟨sz_ok (by show 1 ≤ 1000000; omega), nw fun lv H5 nlv k5 hlv => ?_⟩
  have dz5 := dz3.k0 (k4.trans k5)
  have sdn : ∀ {z : Addr}, H3 z = none → z ≠ sd := fun h e => by rw [e, dz3.ob] at h; cases h
  have rx5 : ∀ p ∈ [(w', s)], RowX H5 [sd] x y p.1 p.2 := fun p hp => by
    rw [List.mem_singleton.mp hp]
    exact ⟨l', r', o', b4.k0 k5, d, (⟨eL.trans (k03.at0 ex.hl), eR.trans (k03.at0 ex.hr)⟩ : Ex5 H4 l' r' x y s).kp k5 (by simp) (by simp), by simp [sdn n1], by simp [sdn n2], by simp [sdn n3], by simp [sdn n5]⟩
  have k05 := k03.trans (k4.trans k5)
  walk_at "j"
  refine w_r1 (by omega) ?_
  rw [show ((230401 : Int)).toNat = 230401 by rfl]
  refine lp_rng0 (fun dp σ H' => ∃ (lv : Addr) (ps : List (Addr × Sd)) (sn : List Sd) (xs : List ZX) (u3 u4 u5 u6 u7 u8 : Option V), σ = [some (.ref w), some (.ref sd), some (.ref lv), u3, u4, u5, u6, u7, u8] ∧ Kp [] H H' ∧ Dz H' sd xs ∧ xs.map (·.1) = sn.map (keyS x y) ∧ H' lv = some (.lst (rw1 ps)) ∧ (∀ p ∈ ps, RowX H' [sd] x y p.1 p.2) ∧ Bfs s dp sn (lv2 ps) ∧ ps.length ≤ 230400) ⟨lv, [(w', s)], [s], _, none, none, none, none, none, none, rfl, k05, dz5, rfl, hlv, rx5, Bfs.start s, by show 1 ≤ 230400; omega⟩ ?_ ?_
  · rintro dp σ' H' hdp ⟨lv, ps, sn, xs, u3, u4, u5, u6, u7, u8, rfl, k, dz, ek, hlv, rx, bf, pl⟩
    walk_at "j"
    refine w_ifK (fun H7 => Kp [] H' H7 ∧ ∀ t ∈ lv2 ps, whlB t = false) (fun N hN => ?_) (fun H7 ⟨k7, nw0⟩ => ?_)
    · walk_at "g"
      refine w_l1 (SqL.of hlv) ?_
      refine cp_lst (SqL.of hlv) (fun j => rw1 ((ps.take j).filter fun p => whlB p.2)) (fun j hj => ?_) rfl (fun j v H1 S N hx k1 yy no => ?_) (fun q H6 nq k6 hq => ?_)
      · refine sz_lt ?_
        show ((List.filter (fun p : Addr × Sd => whlB p.2) (ps.take j)).map _).length < _
        rw [List.length_map]
        have := List.length_filter_le (fun p : Addr × Sd => whlB p.2) (ps.take j)
        rw [List.length_take] at this
        omega
      · obtain ⟨p, hp, rfl⟩ := at_map hx
        obtain ⟨lj, rj, oj, bj, sj, ej, _⟩ := rx p (List.mem_of_getElem? hp)
        walk_at "g"
        refine ⟨rfl, ?_⟩
        walk_at "g"
        refine ⟨p.1, lj, rj, oj, p.2, rfl, bj.k0 k1, ?_⟩
        walk_at "g"
        refine w_iteB (fun c => ?_) (fun c => ?_)
        · walk_at "g"
          refine yy _ _ (Kp.refl _ _) ?_
          show rw1 _ = rw1 _ ++ _
          rw [take_snoc hp, List.filter_append, List.filter_cons_of_pos (p := fun p : Addr × Sd => whlB p.2) c]
          show ((_ ++ [p]).map _) = _
          rw [List.map_append] <;> rfl
        · refine no _ (Kp.refl _ _) ?_
          show rw1 _ = rw1 _
          rw [take_snoc hp, List.filter_append, List.filter_cons_of_neg (p := fun p : Addr × Sd => whlB p.2) (by rw [c]; exact Bool.false_ne_true)]
          show ((_ ++ []).map _) = _
          rw [List.append_nil]
      rw [List.length_map, List.take_length] at hq
      walk_at "g"
      refine ⟨sz_ok (by show 0 ≤ 1000000; omega), nw fun e H7 ne k7 he => ?_⟩
      have k67 := k6.trans k7
      have rx7 : ∀ p ∈ ps.filter (fun p => whlB p.2), RowX H7 [sd] x y p.1 p.2 := fun p hp => (rx p (List.mem_filter.mp hp).1).kz k67.all
      walk_at "g"
      refine w_neN (k7.at0 hq) (rows_dp rx7) (rows_sh _ _ _) he ?_
      walk_at "g"
      refine w_iteBN (fun c => ?_) (fun c => ?_)
      · cases z : ps.filter (fun p => whlB p.2) with
        | nil => rw [z] at c; cases c
        | cons p rest =>
          have hp := List.mem_filter.mp (show p ∈ ps.filter (fun p => whlB p.2) by rw [z]; exact List.mem_cons_self)
          walk_at "g"
          rw [bf.hit wf d (List.mem_map.mpr ⟨p, hp.1, rfl⟩) hp.2] at g
          exact g H7 (k.trans k67)
      · walk_at "g"
        refine hN H7 ⟨k67, fun t ht => ?_⟩
        obtain ⟨p, hp, rfl⟩ := List.mem_map.mp ht
        cases z : whlB p.2 with
        | false => rfl
        | true =>
          have := (List.mem_filter (p := fun p : Addr × Sd => whlB p.2)).mpr ⟨hp, z⟩
          cases z2 : ps.filter (fun p => whlB p.2) with
          | nil => rw [z2] at this; cases this
          | cons p rest => rw [z2] at c; cases c
    have rxa : ∀ p ∈ ps, RowX H7 [sd] x y p.1 p.2 := fun p hp => (rx p hp).kz k7.all
    have dza := dz.k0 k7
    have hlva := k7.at0 hlv
    have ka := k.trans k7
    clear rx dz hlv k
    walk_at "j"
    refine ⟨sz_ok (by show 0 ≤ 1000000; omega), nw fun lt H8 nlt k8 hlt => ?_⟩
    have rx8 : ∀ p ∈ ps, RowX H8 [lt, sd] x y p.1 p.2 := fun p hp => ((rxa p hp).new nlt).kz k8.all
    have dz8 := dza.k0 k8
    have hlv8 := k8.at0 hlva
    have k08 := ka.trans k8
    have lvlt : lv ≠ lt := ne_of_none hlva nlt
    have lvsd : lv ≠ sd := fun e => by rw [e, dza.ob] at hlva; cases hlva
    have sdlt : sd ≠ lt := ne_of_none dza.ob nlt
    clear rxa dza hlva
    walk_at "j"
    refine w_l1 (SqL.of hlv8) ?_
    refine lp_lst (xs := rw1 ps) (fun i σ H9 => ∃ (zs : List (Addr × Sd)) (xs : List ZX) (u5 u6 u7 u8 : Option V), σ = [some (.ref w), some (.ref sd), some (.ref lv), some (.int (dp : Int)), some (.ref lt), u5, u6, u7, u8] ∧ Kp [lt, sd] H8 H9 ∧ Dz H9 sd xs ∧ xs.map (·.1) = (sn ++ lv2 zs).map (keyS x y) ∧ H9 lt = some (.lst (rw1 zs)) ∧ (∀ p ∈ zs, RowX H9 [lt, sd] x y p.1 p.2) ∧ Mid s dp sn (lv2 ps) (lv2 zs) i 0) ⟨[], xs, u5, u6, u7, u8, rfl, Kp.refl _ _, dz8, by show _ = (sn ++ []).map _; rw [List.append_nil]; exact ek, hlt, fun p hp => (by cases hp), bf.mid⟩ ?_ ?_ ?_
    · rintro i σ' H9 hi ⟨zs, xs, u5, u6, u7, u8, _, k9, _⟩
      exact SqL.of (k9 _ _ (by simp [lvlt, lvsd]) hlv8)
    · rintro i v σ' H9 hx ⟨zs, xs, u5, u6, u7, u8, rfl, k9, dz9, ek9, hlt9, rx9, md⟩
      obtain ⟨p, hp, rfl⟩ := at_map hx
      have hpt : (lv2 ps)[i]? = some p.2 := by rw [List.getElem?_map, hp] <;> rfl
      obtain ⟨lj, rj, oj, bj, sj, ej, e1, e2, e3, e4⟩ := rx8 p (List.mem_of_getElem? hp)
      have ptn : p.2.n = s.n := (bf.lv _ (List.mem_of_getElem? hpt)).ok wf d |>.1
      have bj9 := bj.kp k9 e1 e2 e3 e4
      walk_at "j"
      refine w_ixL (SqL.of bj9.ob) at_0 ?_
      walk_at "j"
      refine w_r2 (by omega) ?_
      rw [show ((p.2.n : Int) + 1 - 1).toNat = p.2.n by omega]
      refine lp_rng (fun j σ HA => ∃ (zs : List (Addr × Sd)) (xs : List ZX) (u6 u7 u8 : Option V), σ = [some (.ref w), some (.ref sd), some (.ref lv), some (.int (dp : Int)), some (.ref lt), some (.ref p.1), u6, u7, u8] ∧ Kp [lt, sd] H8 HA ∧ Dz HA sd xs ∧ xs.map (·.1) = (sn ++ lv2 zs).map (keyS x y) ∧ HA lt = some (.lst (rw1 zs)) ∧ (∀ p ∈ zs, RowX HA [lt, sd] x y p.1 p.2) ∧ Mid s dp sn (lv2 ps) (lv2 zs) i j) ⟨zs, xs, u6, u7, u8, rfl, k9, dz9, ek9, hlt9, rx9, md⟩ ?_ ?_
      · rintro j σ' HA hj ⟨zs, xs, u6, u7, u8, rfl, kA, dzA, ekA, hltA, rxA, mdA⟩
        rw [show (1 : Int) + (j : Int) = ((j + 1 : Nat) : Int) by omega]
        have bjA := bj.kp kA e1 e2 e3 e4
        have ejA := ej.kp kA e2 e3
        have few0 := mdA.few wf d n4 bf
        have exs : xs.length = (sn ++ lv2 zs).length := by
          have := congrArg List.length ekA
          rwa [List.length_map, List.length_map] at this
        have ezs : zs.length ≤ 230400 := by
          have : (lv2 zs).length = zs.length := List.length_map _
          rw [List.length_append] at few0
          omega
        walk_at "j"
        refine ⟨p.1, lj, rj, oj, p.2, rfl, bjA, fun w' l' r' o' HB n1 n2 n3 n5 kB bB eL eR => ?_⟩
        have eB : Ex5 HB l' r' x y p.2 := ⟨eL.trans ejA.hl, eR.trans ejA.hr⟩
        walk_at "j"
        refine ⟨w', l', r', o', p.2, j + 1, rfl, bB, by omega, by omega, fun HC kC bC exC => ?_⟩
        have eC := exC x y eB
        clear exC eB eL eR
        have kAC : Kp [] HA HC := (kB.all.trans kC).cut (by simp [n2, n3, n5])
        walk_at "j"
        refine ⟨w', l', r', o', _, x, y, rfl, bC, eC, fun kt HD nk kD hk => ?_⟩
        have kAD := kAC.trans kD
        have dzD := dzA.k0 kAD
        have hltD := kAD.at0 hltA
        have okn : (stepS p.2 (legO p.2 (j + 1))).n = s.n ∧ Wf (stepS p.2 (legO p.2 (j + 1))) ∧ Snd (stepS p.2 (legO p.2 (j + 1))) := ⟨ptn, bC.wf, stepS_snd bj.wf sj (legO_ok' (by omega) (by omega)).1.1⟩
        have kmem := key_mem wf d (x := x) (y := y) (l := sn ++ lv2 zs) (fun t ht => by
          obtain ⟨k, rr⟩ := mdA.sg bf t ht
          exact rr.ok wf d) okn
        have w9 : ∀ {z : Addr}, HA z = none → z ≠ lt ∧ z ≠ sd := fun h => ⟨(ne_of_none hltA h).symm, (ne_of_none dzA.ob h).symm⟩
        walk_at "j"
        refine w_inZk dzD hk (keyL_depth _ _ _) ?_
        rw [getZ_mem, ekA]
        walk_at "g"
        refine w_iteN (fun c => ?_) (fun c => ?_)
        · walk_at "g"
          refine w_zput ?_
          walk_at "g"
          refine ⟨sd, xs, kt, _, rfl, dzD, rfl, hk, keyL_depth _ _ _, sz_lt (by omega), fun HE kE dzE => ?_⟩
          rw [putZ_new (by rw [getZ_mem, ekA, decide_eq_false c])] at dzE
          have hltE := kE _ _ (by simp [sdlt.symm]) hltD
          walk_at "g"
          refine ⟨w_ty (SqL.of hltE), ?_⟩
          walk_at "g"
          refine w_apT hltE (sz_lt (by rw [List.length_map]; omega)) fun HF kF hltF => ?_
          have kEF : Kp [lt, sd] HD HF := (kE.mono (by simp)).trans (kF.mono (by simp))
          have kAF : Kp [lt, sd] HA HF := kAD.all.trans kEF
          walk_at "g"
          refine ⟨zs ++ [(w', stepS p.2 (legO p.2 (j + 1)))], _, _, _, _, rfl, kA.trans kAF, dzE.kp kF (by simp [sdlt]) (fun z hz ys e => ?_), ?_, ?_, fun q hq => ?_, ?_⟩
          · rw [List.mem_singleton.mp hz, hltE] at e
            cases e
          · simp only [List.map_append, ekA, List.append_assoc, List.map_cons, List.map_nil]
          · rw [hltF]
            show _ = some (HO.lst (List.map _ (zs ++ [_])))
            rw [List.map_append] <;> rfl
          · rcases List.mem_append.mp hq with hq | hq
            · exact (rxA q hq).kz kAF
            · rw [List.mem_singleton.mp hq]
              have kCF : Kp [lt, sd] HC HF := kD.all.trans kEF
              have f1 := w9 n1
              have f2 := w9 n2
              have f3 := w9 n3
              have f5 := w9 n5
              exact RowX.kz ⟨l', r', o', bC, okn.2.2, eC, by simp [f1], by simp [f2], by simp [f3], by simp [f5]⟩ kCF
          · show Mid s dp sn (lv2 ps) (List.map _ (zs ++ [_])) i (j + 1)
            rw [List.map_append]
            exact mdA.new bf hpt (by omega) fun h => c (kmem.mpr h)
        · walk_at "g"
          exact ⟨zs, xs, _, _, _, rfl, kA.trans kAD.all, dzD, ekA, hltD, fun q hq => (rxA q hq).kz kAD.all, mdA.seen hpt (kmem.mp c)⟩
      · rintro σ' HA ⟨zs, xs, u6, u7, u8, rfl, kA, dzA, ekA, hltA, rxA, mdA⟩
        walk_at "g"
        exact ⟨zs, xs, _, _, _, _, rfl, kA, dzA, ekA, hltA, rxA, mdA.next hpt⟩
    · rintro σ' H9 ⟨zs, xs, u5, u6, u7, u8, rfl, k9, dz9, ek9, hlt9, rx9, md⟩
      rw [List.length_map, show ps.length = (lv2 ps).length from (List.length_map _).symm] at md
      have few0 := md.few wf d n4 bf
      have ezs : zs.length ≤ 230400 := by
        have : (lv2 zs).length = zs.length := List.length_map _
        rw [List.length_append] at few0
        omega
      have nltH : H lt = none := ka.free0 nlt
      have k9H : Kp [] H H9 := (k08.all.trans k9).cut (by simp [nsd, nltH])
      walk_at "j"
      refine w_ifK (fun HA => Kp [] H9 HA ∧ lv2 zs ≠ []) (fun N hN => ?_) (fun HA ⟨kA, ne⟩ => ?_)
      · walk_at "g"
        refine ⟨sz_ok (by show 0 ≤ 1000000; omega), nw fun e HA ne kA he => ?_⟩
        walk_at "g"
        refine w_eqN (kA.at0 hlt9) (rows_dp fun q hq => (rx9 q hq).kz kA.all) (rows_sh _ _ _) he ?_
        walk_at "g"
        refine w_iteB (fun c => ?_) (fun c => ?_)
        · cases zs with
          | cons z rest => cases c
          | nil =>
            walk_at "g"
            rw [bf.none wf d md nw0] at g
            exact g HA (k9H.trans kA)
        · cases zs with
          | nil => cases c
          | cons z rest =>
            walk_at "g"
            exact hN HA ⟨kA, fun z => by cases z⟩
      · walk_at "g"
        exact ⟨lt, zs, sn ++ lv2 zs, xs, _, _, _, _, _, _, rfl, k9H.trans kA, dz9.k0 kA, ek9, kA.at0 hlt9, fun q hq => ((rx9 q hq).kz kA.all).sub, bf.more md nw0 ne, ezs⟩
  · rintro σ' H' ⟨lv, ps, sn, xs, u3, u4, u5, u6, u7, u8, rfl, k, dz, ek, hlv, rx, bf, pl⟩
    have := bf.few wf d n4
    have := bf.ln
    omega
end
end G
set_option Elab.async false
set_option linter.all false
set_option maxRecDepth 100000
set_option maxHeartbeats 2000000
namespace G
--#FAM KD
open PySem PySem.Spec PyProof.Rows L2
local macro_rules
  | `(tactic| walk_at "1") => `(tactic| first
    | with_reducible refine w_seq ?_
    | with_reducible refine w_asg ?_
    | with_reducible refine w_asgS ?_
    | with_reducible refine w_asf ?_
    | with_reducible refine w_drop ?_
    | with_reducible refine w_ret ?_
    | with_reducible refine w_if ?_
    | with_reducible refine w_not ?_
    | with_reducible refine w_and ?_
    | with_reducible refine w_or ?_
    | with_reducible refine w_test ?_
    | with_reducible refine w_tb ?_
    | with_reducible refine w_chain ?_
    | with_reducible refine w_op ?_
    | with_reducible refine w_un ?_
    | with_reducible refine w_andV ?_
    | with_reducible refine w_orV ?_
    | with_reducible refine w_notV ?_
    | with_reducible refine w_ifE ?_
    | with_reducible refine w_cons ?_
    | with_reducible refine w_nil ?_
    | with_reducible refine w_cb ?_
    | with_reducible refine w_cl ?_
    | with_reducible refine w_mt ?_
    | with_reducible refine w_fld ?_
    | with_reducible refine w_tupN ?_
    | with_reducible refine w_lstN ?_
    | with_reducible refine w_bm ?_
    | with_reducible refine w_bm0 ?_
    | with_reducible refine w_for ?_
    | with_reducible refine w_lc ?_
    | with_reducible refine w_iR1 ?_
    | with_reducible refine w_iR2 ?_
    | with_reducible refine w_iL ?_
    | with_reducible refine w_iT ?_
    | with_reducible refine w_iE ?_
    | with_reducible refine w_iZ ?_
    | with_reducible refine w_var (by with_unfolding_all rfl) ?_
    | with_reducible refine w_c ?_
    | with_reducible refine w_next ?_
    | with_reducible refine w_i0 ?_
    | with_reducible refine w_u1 ?_
    | with_reducible refine w_addI ?_
    | with_reducible refine w_eqI ?_
    | with_reducible refine w_eqS ?_
    | with_reducible refine w_eqB ?_
    | with_reducible refine w_neI ?_
    | with_reducible refine w_neS ?_
    | with_reducible refine w_neB ?_
    | with_reducible refine w_abs ?_
    | with_reducible refine w_intI ?_
    | with_reducible refine w_min2 ?_
    | with_reducible refine w_max2 ?_
    | with_reducible refine w_isN0 ?_
    | with_reducible refine w_isN1 ref_ne ?_
    | with_reducible refine w_isN1 int_ne ?_
    | with_reducible refine w_notN0 ?_
    | with_reducible refine w_notN1 ref_ne ?_
    | with_reducible refine w_notN1 int_ne ?_
    | with_reducible refine w_ex1 ?_
    | with_reducible refine w_n1 ?_
    | with_reducible refine w_n2 ?_
    | with_reducible refine w_tT ?_
    | with_reducible refine w_tF ?_
    | with_reducible refine w_nT ?_
    | with_reducible refine w_nF ?_
    | with_reducible refine w_rz ?_
    | with_reducible refine w_mkN ?_
    | with_reducible refine w_lrgN ?_
    | with_reducible refine w_rg1 ?_
    | with_reducible refine w_rg2 ?_
    | with_reducible refine w_sl ?_
    | with_reducible refine w_np ?_
    | with_reducible refine w_pt ?_
    | with_reducible refine w_tr ?_
    | with_reducible refine w_gn ?_
    | with_reducible refine w_yes ?_
    | with_reducible refine w_m1 ?_
    | with_reducible refine w_asu ?_
    | with_reducible refine w_exS ?_
    | with_reducible refine w_iS ?_
    | with_reducible refine w_g1 ?_
    | with_reducible refine w_gc ?_
    | with_reducible refine w_gt (SqT.of upd_same) rfl ?_)
local macro_rules
  | `(tactic| walk_at "g") => `(tactic| repeat walk_at "1")
local macro_rules
  | `(tactic| walk_at "j1") => `(tactic| first
    | with_reducible refine w_seqI ?_
    | walk_at "1")
local macro_rules
  | `(tactic| walk_at "j") => `(tactic| repeat walk_at "j1")
section
variable {K : PySem.W.Frag} {mg : Str → Option Value}
structure LogI (H0 H : Hp) (b c w l r o m : Addr) (s : Sd) (ms : List Int) : Prop where
  k : Kp [b] H0 H
  bg : Bag5 H b c
  bk : Bk5 H w l r o (runS s ms)
  mv : H m = some (.lst (ms.map V.int))
  le : Leg s ms
structure LogF (H0 : Hp) (b c w l r o m : Addr) : Prop where
  bg : Bag5 H0 b c
  n : H0 w = none ∧ H0 l = none ∧ H0 r = none ∧ H0 o = none ∧ H0 m = none
  ne : w ≠ m ∧ l ≠ m ∧ r ≠ m ∧ o ≠ m
section
variable {H0 H H2 H3 : Hp} {b c w l r o m : Addr} {s : Sd} {ms : List Int}
theorem LogF.nb (f : LogF H0 b c w l r o m) : (w ≠ b ∧ l ≠ b ∧ r ≠ b ∧ o ≠ b ∧ m ≠ b) ∧ (w ≠ c ∧ l ≠ c ∧ r ≠ c ∧ o ≠ c ∧ m ≠ c) := by
  obtain ⟨n1, n2, n3, n4, n5⟩ := f.n
  exact ⟨⟨(f.bg.fr n1).1, (f.bg.fr n2).1, (f.bg.fr n3).1, (f.bg.fr n4).1, (f.bg.fr n5).1⟩, ⟨(f.bg.fr n1).2, (f.bg.fr n2).2, (f.bg.fr n3).2, (f.bg.fr n4).2, (f.bg.fr n5).2⟩⟩
theorem LogI.k0 (a : LogI H0 H b c w l r o m s ms) (k : Kp [] H H2) : LogI H0 H2 b c w l r o m s ms := ⟨a.k.trans k.all, a.bg.k0 k, a.bk.k0 k, k.at0 a.mv, a.le⟩
theorem LogI.draw (f : LogF H0 b c w l r o m) (a : LogI H0 H b c w l r o m s ms) (k : Kp [b] H H2) (bg : Bag5 H2 b c) : LogI H0 H2 b c w l r o m s ms := by
  obtain ⟨⟨f1, f2, f3, f4, f5⟩, _⟩ := f.nb
  exact ⟨a.k.trans k, bg, a.bk.kp k (by simp [f1]) (by simp [f2]) (by simp [f3]) (by simp [f4]), k _ _ (by simp [f5]) a.mv, a.le⟩
theorem LogI.act (f : LogF H0 b c w l r o m) (a : LogI H0 H b c w l r o m s ms) {op : Int} (ok : OkOp (runS s ms) op) (k : Kp [m] H H2) (hm : H2 m = some (.lst ((ms ++ [op]).map V.int))) (k2 : Kp [l, r, o] H2 H3) (bk : Bk5 H3 w l r o (stepS (runS s ms) op)) : LogI H0 H3 b c w l r o m s (ms ++ [op]) := by
  obtain ⟨⟨f1, f2, f3, f4, f5⟩, ⟨e1, e2, e3, e4, e5⟩⟩ := f.nb
  obtain ⟨n1, n2, n3, n4, n5⟩ := f.n
  obtain ⟨g1, g2, g3, g4⟩ := f.ne
  have kk : Kp [m, l, r, o] H H3 := (k.mono (by simp)).trans (k2.mono (by simp))
  refine ⟨?_, a.bg.kp kk (by simp [f2.symm, f3.symm, f4.symm, f5.symm]) (by simp [e2.symm, e3.symm, e4.symm, e5.symm]), by rw [runS_snoc]; exact bk, k2 _ _ (by simp [g2.symm, g3.symm, g4.symm]) hm, a.le.snoc ok⟩
  intro x u nx hx
  have ne : ∀ {z : Addr}, H0 z = none → x ≠ z := fun h e => by rw [e, h] at hx; cases hx
  exact kk _ _ (by simp [ne n2, ne n3, ne n4, ne n5]) (a.k _ _ nx hx)
end
def lowsN (s : Sd) (i : Nat) : List Int := ((List.range i).filter fun u => lowB s (u + 1)).map fun (u : Nat) => ((u + 1 : Nat) : Int)
theorem lows_snoc (s : Sd) (i : Nat) : lowsN s (i + 1) = lowsN s i ++ (if lowB s (i + 1) = true then [((i + 1 : Nat) : Int)] else []) := by
  unfold lowsN
  rw [List.range_succ, List.filter_append, List.map_append]
  congr 1
  by_cases c : lowB s (i + 1) = true
  · rw [List.filter_cons_of_pos (p := fun u => lowB s (u + 1)) c, if_pos c] <;> rfl
  · rw [List.filter_cons_of_neg (p := fun u => lowB s (u + 1)) c, if_neg c] <;> rfl
theorem lows_len (s : Sd) (i : Nat) : (lowsN s i).length ≤ i := by
  unfold lowsN
  rw [List.length_map]
  have := List.length_filter_le (fun u => lowB s (u + 1)) (List.range i)
  rw [List.length_range] at this
  exact this
theorem lows_mem {s : Sd} {i : Nat} {x : Int} (h : x ∈ lowsN s i) : ∃ v : Nat, x = (v : Int) ∧ 1 ≤ v ∧ v ≤ i ∧ lowB s v = true := by
  obtain ⟨u, hu, rfl⟩ := List.mem_map.mp h
  obtain ⟨h1, h2⟩ := List.mem_filter.mp hu
  have := List.mem_range.mp h1
  exact ⟨u + 1, rfl, by omega, by omega, h2⟩
theorem lows_ne {s : Sd} (w : Wf s) (nl : lostL s = []) (h : owedS s ≠ 0) : 0 < (lowsN s s.n).length := by
  have hd : dueL s ≠ [] := fun z => h (owed_zero.mpr z)
  obtain ⟨i, hi⟩ := List.exists_mem_of_ne_nil _ hd
  obtain ⟨h1, h2, h3⟩ := mem_due.mp hi
  obtain ⟨y, y1, y2, y3⟩ := low_exists w nl (v := i.toNat) (by omega) (by omega) h3
  refine List.length_pos_iff.mpr (List.ne_nil_of_mem (a := ((y : Nat) : Int)) ?_)
  refine List.mem_map.mpr ⟨y - 1, List.mem_filter.mpr ⟨List.mem_range.mpr (by omega), ?_⟩, ?_⟩
  · rw [show y - 1 + 1 = y by omega]
    exact y3
  · rw [show y - 1 + 1 = y by omega]
theorem len__law_log (K : PySem.W.Frag) : ∀ vs H Q E, sp18__law_log K vs H Q E → vs.length = (["bag", "start"] : List Str).length := by
  rintro vs H Q E ⟨_, _, _, _, _, _, _, rfl, _⟩
  rfl
theorem rd__law_log (T : Txt K mg) (vs : List V) (H : Hp) (Q : VK) (E : XK) (h : sp18__law_log K vs H Q E) : t__law_log K E { nx := fun _ H' => Q .non H', rt := Q } (start ["bag", "start", "book", "moves", "turns", "turn", "node", "fitting"] vs) H := by
  obtain ⟨b, c, w, l, r, o, s, rfl, bg, bk, sn, g⟩ := h
  unfold t__law_log
  have wf := bk.wf
  have n60 := wf.n60
  walk_at "j"
  refine ⟨w, l, r, o, s, rfl, bk, fun w' l' r' o' H1 n1 n2 n3 n4 k1 b1 _ _ => ?_⟩
  walk_at "j"
  refine ⟨sz_ok (by show 0 ≤ 1000000; omega), nw fun m H2 nm k2 hm => ?_⟩
  have f : LogF H b c w' l' r' o' m := by
    obtain ⟨x1, x2, x3, x4⟩ := b1.fr nm
    exact ⟨bg, ⟨n1, n2, n3, n4, k1.free0 nm⟩, ⟨x1, x2, x3, x4⟩⟩
  have i2 : LogI H H2 b c w' l' r' o' m s [] := ⟨(k1.trans k2).all, bg.k0 (k1.trans k2), b1.k0 k2, hm, fun i op h => by cases h⟩
  walk_at "j"
  refine ⟨b, c, 13, rfl, by omega, by omega, i2.bg, fun d H3 d1 d2 k3 bg3 => ?_⟩
  have i3 := i2.draw f k3 bg3
  walk_at "j"
  refine w_ifJ (fun σ' H' => H' = H3 ∧ ∃ t : Nat, σ' = [some (.ref b), some (.ref w), some (.ref w'), some (.ref m), some (.int (t : Int)), none, none, none] ∧ t ≤ 12 ∧ (s.n = 0 → t = 0)) (fun N hN => ?_) (fun σ' H' ⟨eH, t, es, t12, t0⟩ => ?_)
  · walk_at "g"
    refine w_ixL (SqL.of i3.bk.ob) at_0 ?_
    walk_at "g"
    refine w_iteD (fun c1 => ?_) (fun c1 => ?_)
    · walk_at "g"
      exact hN _ _ ⟨rfl, 0, rfl, by omega, fun _ => rfl⟩
    · walk_at "g"
      obtain ⟨t, rfl⟩ : ∃ t : Nat, d = (t : Int) := ⟨d.toNat, by omega⟩
      exact hN _ _ ⟨rfl, t, rfl, by omega, fun z => absurd (by show ((runS s []).n : Int) = 0; rw [runS_n, z]; rfl) c1⟩
  subst es eH
  walk_at "j"
  refine w_r1 (by omega) ?_
  rw [Int.toNat_natCast]
  refine lp_rng0 (fun i σ H' => ∃ (ms : List Int) (u5 u6 : Option V), σ = [some (.ref b), some (.ref w), some (.ref w'), some (.ref m), some (.int (t : Int)), u5, u6, none] ∧ LogI H H' b c w' l' r' o' m s ms ∧ ms.length ≤ i) ⟨[], none, none, rfl, i3, Nat.le_refl _⟩ ?_ ?_
  · rintro i σ' H4 hi ⟨ms, u5, u6, rfl, iv, ml⟩
    have en : (runS s ms).n = s.n := runS_n _ _
    have np : s.n ≠ 0 := fun z => by have := t0 z; omega
    walk_at "g"
    refine w_ixL (SqL.of iv.bk.ob) at_0 ?_
    walk_at "g"
    refine ⟨b, c, _, rfl, by omega, by omega, iv.bg, fun d H5 d1 d2 k5 bg5 => ?_⟩
    have iv5 := iv.draw f k5 bg5
    obtain ⟨v, hv⟩ : ∃ v : Nat, 1 + d = (v : Int) := ⟨(1 + d).toNat, by omega⟩
    walk_at "g"
    rw [hv]
    refine ⟨w_ty (SqL.of iv5.mv), ?_⟩
    walk_at "g"
    refine ⟨w', l', r', o', _, v, rfl, iv5.bk, by omega, ?_⟩
    walk_at "g"
    refine w_apT iv5.mv (sz_lt (by rw [List.length_map]; omega)) fun H6 k6 hm6 => ?_
    have hm6' : H6 m = some (.lst ((ms ++ [legO (runS s ms) v]).map V.int)) := by rw [hm6, List.map_append] <;> rfl
    have v2 : v ≤ (runS s ms).n := by omega
    obtain ⟨f1, f2, f3, f4⟩ := f.ne
    walk_at "g"
    refine ⟨w', l', r', o', _, v, rfl, iv5.bk.kp k6 (by simp [f1]) (by simp [f2]) (by simp [f3]) (by simp [f4]), by omega, v2, fun H7 k7 b7 _ => ?_⟩
    have iv7 := iv5.act f (legO_ok' (by omega) v2).1 k6 hm6' k7 b7
    walk_at "g"
    exact ⟨_, _, _, rfl, iv7, by rw [List.length_append]; show _ + 1 ≤ _; omega⟩
  · rintro σ' H4 ⟨ms, u5, u6, rfl, iv, ml⟩
    have en : (runS s ms).n = s.n := runS_n _ _
    walk_at "j"
    refine w_ifJ (fun σ' H' => ∃ (ms : List Int) (u5 u6 u7 : Option V), σ' = [some (.ref b), some (.ref w), some (.ref w'), some (.ref m), some (.int (t : Int)), u5, u6, u7] ∧ LogI H H' b c w' l' r' o' m s ms ∧ ms.length ≤ 200) (fun N hN => ?_) (fun σ' H' ⟨ms, u5, u6, u7, es, iv, ml⟩ => ?_)
    · walk_at "g"
      refine ⟨w', l', r', o', _, rfl, iv.bk, fun q H5 nq k5 hq => ?_⟩
      walk_at "g"
      refine ⟨sz_ok (by show 0 ≤ 1000000; omega), nw fun e H6 ne k6 he => ?_⟩
      have he' : H6 e = some (.lst (([] : List Int).map V.int)) := he
      walk_at "g"
      refine w_eqLZ (k6.at0 hq) he' ?_
      have iv6 := iv.k0 (k5.trans k6)
      walk_at "g"
      refine w_iteD (fun c1 => ?_) (fun c1 => ?_)
      · have nl : lostL (runS s ms) = [] := List.map_eq_nil_iff.mp c1
        have wf6 := iv6.bk.wf
        have ol := owed_len (runS s ms)
        have dl := due_len (runS s ms)
        obtain ⟨k, ek⟩ : ∃ k : Nat, owedS (runS s ms) = (k : Int) := ⟨(owedS (runS s ms)).toNat, by omega⟩
        have hk : k ≤ 120 := by
          have : (runS s ms).n = s.n := runS_n _ _
          omega
        walk_at "g"
        refine ⟨w', l', r', o', _, rfl, iv6.bk, fun H7 k7 => ?_⟩
        walk_at "g"
        rw [ek]
        refine w_r1 (by omega) ?_
        rw [Int.toNat_natCast]
        have iv7 := iv6.k0 k7
        refine lp_rng0 (fun i σ H' => ∃ (ms : List Int) (u5 u6 u7 : Option V), σ = [some (.ref b), some (.ref w), some (.ref w'), some (.ref m), some (.int (t : Int)), u5, u6, u7] ∧ LogI H H' b c w' l' r' o' m s ms ∧ ms.length ≤ 12 + i ∧ lostL (runS s ms) = [] ∧ owedS (runS s ms) = (k : Int) - (i : Int)) ⟨ms, _, _, _, rfl, iv7, by omega, nl, by omega⟩ ?_ ?_
        · clear iv7 iv6 iv ek nl wf6 ol dl en hq c1 ml
          rintro i σ' H4 hi ⟨ms, u5, u6, u7, rfl, iv, ml, nl, ow⟩
          have en : (runS s ms).n = s.n := runS_n _ _
          have wfi := iv.bk.wf
          have ll := lows_len (runS s ms) (runS s ms).n
          have lne := lows_ne wfi nl (by omega)
          walk_at "g"
          refine w_ixL (SqL.of iv.bk.ob) at_0 ?_
          walk_at "g"
          refine w_r2 (by omega) ?_
          rw [show (((runS s ms).n : Int) + 1 - 1).toNat = (runS s ms).n by omega]
          refine cp_rng (fun i => (lowsN (runS s ms) i).map V.int) (fun i hi => sz_lt (by
            rw [List.length_map]
            have := lows_len (runS s ms) i
            omega)) rfl (fun i H' S N hi k y no => ?_) (fun D H5 nD k5 hD => ?_)
          · walk_at "g"
            refine ⟨rfl, ?_⟩
            rw [show ((1 : Int) + (i : Int)) = ((i + 1 : Nat) : Int) by omega]
            walk_at "g"
            refine ⟨w', l', r', o', _, i + 1, rfl, iv.bk.k0 k, by omega, by omega, ?_⟩
            walk_at "g"
            refine w_iteB (fun c1 => ?_) (fun c1 => ?_)
            · walk_at "g"
              refine y _ _ (Kp.refl _ _) ?_
              rw [lows_snoc, if_pos c1, List.map_append] <;> rfl
            · refine no _ (Kp.refl _ _) ?_
              rw [lows_snoc, if_neg (by rw [c1]; exact Bool.false_ne_true), List.append_nil]
          walk_at "g"
          refine w_lenL (SqL.of hD) ?_
          rw [List.length_map]
          have iv5' := iv.k0 k5
          have Db : D ≠ b := (iv.bg.fr nD).1
          walk_at "g"
          refine ⟨b, c, _, rfl, by omega, by omega, iv5'.bg, fun d H5 d1 d2 k5 bg5 => ?_⟩
          have iv5 := iv5'.draw f k5 bg5
          obtain ⟨x, hx⟩ : ∃ x, (lowsN (runS s ms) (runS s ms).n)[d.toNat]? = some x := ⟨_, List.getElem?_eq_getElem (by omega)⟩
          obtain ⟨v, rfl, v1, v2, lv⟩ := lows_mem (List.mem_of_getElem? hx)
          walk_at "g"
          refine w_ixL (SqL.of (k5.at1 Db hD)) (at_I d1 (by omega)) ?_
          rw [gI_of hx]
          walk_at "g"
          refine ⟨w_ty (SqL.of iv5.mv), ?_⟩
          walk_at "g"
          refine ⟨w', l', r', o', _, v, rfl, iv5.bk, by omega, ?_⟩
          walk_at "g"
          refine w_apT iv5.mv (sz_lt (by rw [List.length_map]; omega)) fun H6 k6 hm6 => ?_
          have hm6' : H6 m = some (.lst ((ms ++ [legO (runS s ms) v]).map V.int)) := by rw [hm6, List.map_append] <;> rfl
          obtain ⟨f1, f2, f3, f4⟩ := f.ne
          walk_at "g"
          refine ⟨w', l', r', o', _, v, rfl, iv5.bk.kp k6 (by simp [f1]) (by simp [f2]) (by simp [f3]) (by simp [f4]), by omega, v2, fun H7 k7 b7 _ => ?_⟩
          have iv7 := iv5.act f (legO_ok' (by omega) v2).1 k6 hm6' k7 b7
          walk_at "g"
          exact ⟨_, _, _, _, rfl, iv7, by rw [List.length_append]; show _ + 1 ≤ _; omega, by rw [runS_snoc]; exact (low_step wfi nl v1 v2 lv).1, by rw [runS_snoc, owed_step wfi nl v1 v2 lv, ow]; omega⟩
        · rintro σ' H4 ⟨ms, u5, u6, u7, rfl, iv, ml, nl, ow⟩
          exact hN _ _ ⟨ms, _, _, _, rfl, iv, by omega⟩
      · walk_at "g"
        exact hN _ _ ⟨ms, _, _, _, rfl, iv6, by omega⟩
    subst es
    walk_at "g"
    exact g m ms H' iv.k iv.bg f.n.2.2.2.2 iv.mv iv.le ml
end
end G
set_option Elab.async false
set_option linter.all false
set_option maxRecDepth 100000
set_option maxHeartbeats 2000000
namespace G
--#FAM KD
open PySem PySem.Spec PyProof.Rows L2
local macro_rules
  | `(tactic| walk_at "1") => `(tactic| first
    | with_reducible refine w_seq ?_
    | with_reducible refine w_asg ?_
    | with_reducible refine w_asgS ?_
    | with_reducible refine w_asf ?_
    | with_reducible refine w_drop ?_
    | with_reducible refine w_ret ?_
    | with_reducible refine w_if ?_
    | with_reducible refine w_not ?_
    | with_reducible refine w_and ?_
    | with_reducible refine w_or ?_
    | with_reducible refine w_test ?_
    | with_reducible refine w_tb ?_
    | with_reducible refine w_chain ?_
    | with_reducible refine w_op ?_
    | with_reducible refine w_un ?_
    | with_reducible refine w_andV ?_
    | with_reducible refine w_orV ?_
    | with_reducible refine w_notV ?_
    | with_reducible refine w_ifE ?_
    | with_reducible refine w_cons ?_
    | with_reducible refine w_nil ?_
    | with_reducible refine w_cb ?_
    | with_reducible refine w_cl ?_
    | with_reducible refine w_mt ?_
    | with_reducible refine w_fld ?_
    | with_reducible refine w_tupN ?_
    | with_reducible refine w_lstN ?_
    | with_reducible refine w_bm ?_
    | with_reducible refine w_bm0 ?_
    | with_reducible refine w_for ?_
    | with_reducible refine w_lc ?_
    | with_reducible refine w_iR1 ?_
    | with_reducible refine w_iR2 ?_
    | with_reducible refine w_iL ?_
    | with_reducible refine w_iT ?_
    | with_reducible refine w_iE ?_
    | with_reducible refine w_iZ ?_
    | with_reducible refine w_var (by with_unfolding_all rfl) ?_
    | with_reducible refine w_c ?_
    | with_reducible refine w_next ?_
    | with_reducible refine w_i0 ?_
    | with_reducible refine w_u1 ?_
    | with_reducible refine w_addI ?_
    | with_reducible refine w_eqI ?_
    | with_reducible refine w_eqS ?_
    | with_reducible refine w_eqB ?_
    | with_reducible refine w_neI ?_
    | with_reducible refine w_neS ?_
    | with_reducible refine w_neB ?_
    | with_reducible refine w_abs ?_
    | with_reducible refine w_intI ?_
    | with_reducible refine w_min2 ?_
    | with_reducible refine w_max2 ?_
    | with_reducible refine w_isN0 ?_
    | with_reducible refine w_isN1 ref_ne ?_
    | with_reducible refine w_isN1 int_ne ?_
    | with_reducible refine w_notN0 ?_
    | with_reducible refine w_notN1 ref_ne ?_
    | with_reducible refine w_notN1 int_ne ?_
    | with_reducible refine w_ex1 ?_
    | with_reducible refine w_n1 ?_
    | with_reducible refine w_n2 ?_
    | with_reducible refine w_tT ?_
    | with_reducible refine w_tF ?_
    | with_reducible refine w_nT ?_
    | with_reducible refine w_nF ?_
    | with_reducible refine w_rz ?_
    | with_reducible refine w_mkN ?_
    | with_reducible refine w_lrgN ?_
    | with_reducible refine w_rg1 ?_
    | with_reducible refine w_rg2 ?_
    | with_reducible refine w_sl ?_
    | with_reducible refine w_np ?_
    | with_reducible refine w_pt ?_
    | with_reducible refine w_tr ?_
    | with_reducible refine w_gn ?_
    | with_reducible refine w_yes ?_
    | with_reducible refine w_m1 ?_
    | with_reducible refine w_asu ?_
    | with_reducible refine w_exS ?_
    | with_reducible refine w_iS ?_
    | with_reducible refine w_g1 ?_
    | with_reducible refine w_gc ?_
    | with_reducible refine w_gt (SqT.of upd_same) rfl ?_)
local macro_rules
  | `(tactic| walk_at "g") => `(tactic| repeat walk_at "1")
local macro_rules
  | `(tactic| walk_at "j1") => `(tactic| first
    | with_reducible refine w_seqI ?_
    | walk_at "1")
local macro_rules
  | `(tactic| walk_at "j") => `(tactic| repeat walk_at "j1")
section
variable {K : PySem.W.Frag} {mg : Str → Option Value}
theorem lead_drop {s : Sd} {ms : List Int} (le : Leg s ms) (i : Nat) : leadB (runS s (ms.take i)) (ms.drop i) = leadB s ms ∧ Leg (runS s (ms.take i)) (ms.drop i) := by
  have h : Leg s (ms.take i ++ ms.drop i) := by rw [List.take_append_drop]; exact le
  obtain ⟨_, h2⟩ := leg_app.mp h
  refine ⟨?_, h2⟩
  rw [lead_eq h2, lead_eq le, ← runS_app, List.take_append_drop]
theorem op_step {s : Sd} {op : Int} (ok : OkOp s op) : stepS s (legO s op.natAbs) = stepS s op := by rw [← (ok_leg ok).2.2]
theorem len__law_judged (K : PySem.W.Frag) : ∀ vs H Q E, sp18__law_judged K vs H Q E → vs.length = (["start", "moves", "place"] : List Str).length := by
  rintro vs H Q E ⟨_, _, _, _, _, _, _, _, rfl, _⟩
  rfl
theorem rd__law_judged (T : Txt K mg) (vs : List V) (H : Hp) (Q : VK) (E : XK) (h : sp18__law_judged K vs H Q E) : t__law_judged K E { nx := fun _ H' => Q .non H', rt := Q } (start ["start", "moves", "place", "book", "move", "rest", "ends", "linked", "told"] vs) H := by
  obtain ⟨w, l, r, o, a, s, ms, k, rfl, bk, sn, ha, le, ml, kl, g⟩ := h
  unfold t__law_judged
  have wf := bk.wf
  have n60 := wf.n60
  walk_at "g"
  refine ⟨w, l, r, o, s, rfl, bk, fun w' l' r' o' H1 n1 n2 n3 n4 k1 b1 _ _ => ?_⟩
  have ha1 := k1.at0 ha
  walk_at "g"
  refine w_slL (SqL.of ha1) fun sl H2 nsl k2 hsl => ?_
  rw [cut_take _ _ (by rw [List.length_map]; omega), ← List.map_take] at hsl
  have b2 := b1.k0 k2
  obtain ⟨f1, f2, f3, f4⟩ := b1.fr nsl
  have tl : (ms.take k).length = k := by rw [List.length_take]; omega
  walk_at "g"
  refine w_l1 (SqL.of hsl) ?_
  refine lp_lst (xs := (ms.take k).map V.int) (fun i σ H' => (∃ u4, σ = [some (.ref w), some (.ref a), some (.int (k : Int)), some (.ref w'), u4, none, none, none, none]) ∧ Kp [l', r', o'] H2 H' ∧ Bk5 H' w' l' r' o' (runS s (ms.take i))) ⟨⟨_, rfl⟩, Kp.refl _ _, b2⟩ ?_ ?_ ?_
  · rintro i σ' H' hi ⟨_, kk, _⟩
    exact SqL.of (kk _ _ (by simp [f2.symm, f3.symm, f4.symm]) hsl)
  · rintro i x σ' H' hx ⟨⟨u4, rfl⟩, kk, b3⟩
    obtain ⟨op, hop, rfl⟩ := at_map hx
    have il : i < k := by
      have := (List.getElem?_eq_some_iff.mp hop).1
      omega
    have hop : ms[i]? = some op := by rwa [List.getElem?_take, if_pos il] at hop
    have ok := le i op hop
    walk_at "g"
    rw [show (if op < 0 then -op else op) = (op.natAbs : Int) by split <;> omega]
    refine ⟨w', l', r', o', _, op.natAbs, rfl, b3, ok.1.1, ok.1.2, fun H4 k4 b4 _ => ?_⟩
    rw [op_step ok] at b4
    walk_at "g"
    rw [take_snoc hop, runS_snoc]
    exact ⟨⟨_, rfl⟩, kk.trans k4, b4⟩
  · rintro σ' H3 ⟨⟨u4, rfl⟩, k3, b3⟩
    rw [List.length_map, tl] at b3
    have k03 : Kp [] H H3 := (((k1.trans k2).all).trans k3).cut (by simp [n2, n3, n4])
    obtain ⟨ld, lg⟩ := lead_drop le k
    have st := runS_snd wf sn (le.take k)
    walk_at "g"
    refine w_slL (SqL.of (k03.at0 ha)) fun rs H4 nrs k4 hrs => ?_
    rw [cut_drop _ _ (by rw [List.length_map]; omega), ← List.map_drop] at hrs
    have rl : (ms.drop k).length = ms.length - k := List.length_drop ..
    have b4 := b3.k0 k4
    walk_at "g"
    refine ⟨w', l', r', o', rs, _, _, rfl, b4, st, hrs, fun H5 k5 => ?_⟩
    have k05 := (k03.trans k4).trans k5
    have b5 := b4.k0 k5
    have hrs5 := k5.at0 hrs
    walk_at "g"
    refine ⟨w, l, r, o, s, rfl, bk.k0 k05, sn, fun H6 k6 => ?_⟩
    walk_at "g"
    refine ⟨s, rfl, wf, sn, fun p pr pl po H7 m1 m2 m3 m4 k7 la7 => ?_⟩
    have k57 := k6.trans k7
    have k07 := k05.trans k57
    walk_at "g"
    refine w_slL (SqL.of (k07.at0 ha)) fun sl2 H8 nsl2 k8 hsl2 => ?_
    rw [cut_take _ _ (by rw [List.length_map]; omega), ← List.map_take] at hsl2
    walk_at "g"
    refine ⟨p, pr, pl, po, sl2, s, _, rfl, la7.k0 k8, SqL.of hsl2, fun _ => fun q qr ql qo H9 q1 q2 q3 q4 k9 la9 => ?_, fun i op h _ no => absurd ?_ no⟩
    · have k59 := (k57.trans k8).trans k9
      have hrs9 := k59.at0 hrs5
      walk_at "g"
      refine w_listLN (SqL.of hrs9) fun ls HA nls kA hls => ?_
      walk_at "g"
      refine ⟨q, qr, ql, qo, ls, _, _, rfl, la9.k0 kA, SqL.of hls, fun HB kB => ?_⟩
      walk_at "g"
      refine w_isiB (r := true) (by decide +kernel) ?_
      walk_at "g"
      rw [decide_eq_true rfl]
      walk_at "g"
      have kAB := kA.trans kB
      refine w_listLN (SqL.of (kAB.at0 hrs9)) fun ls2 HC nls2 kC hls2 => ?_
      walk_at "g"
      refine ⟨q, qr, ql, qo, ls2, _, _, rfl, (la9.k0 kAB).k0 kC, SqL.of hls2, fun HD kD => ?_⟩
      walk_at "g"
      refine w_isiB (r := true) (by decide +kernel) ?_
      walk_at "g"
      have kBD := kC.trans kD
      have kAD := kAB.trans kBD
      have k09 := k07.trans (k8.trans k9)
      have b9 := b5.k0 k59
      cases e : leadB (runS s (ms.take k)) (ms.drop k) with
      | true =>
        walk_at "g"
        refine w_lenL (SqL.of (kAD.at0 hrs9)) ?_
        walk_at "g"
        refine ⟨w', l', r', o', _, rfl, b9.k0 kAD, fun HE kE => ?_⟩
        walk_at "g"
        rw [List.length_map, Bool.true_and, decide_eq_true rfl]
        exact g HE ((k09.trans kAD).trans kE)
      | false =>
        walk_at "g"
        rw [Bool.false_and, decide_eq_true rfl]
        exact g HD (k09.trans kAD)
    · exact le.take k i op h
end
end G
set_option Elab.async false
set_option linter.all false
set_option maxRecDepth 100000
set_option maxHeartbeats 2000000
namespace G
--#FAM KD
open PySem PySem.Spec PyProof.Rows L2
local macro_rules
  | `(tactic| walk_at "1") => `(tactic| first
    | with_reducible refine w_seq ?_
    | with_reducible refine w_asg ?_
    | with_reducible refine w_asgS ?_
    | with_reducible refine w_asf ?_
    | with_reducible refine w_drop ?_
    | with_reducible refine w_ret ?_
    | with_reducible refine w_if ?_
    | with_reducible refine w_not ?_
    | with_reducible refine w_and ?_
    | with_reducible refine w_or ?_
    | with_reducible refine w_test ?_
    | with_reducible refine w_tb ?_
    | with_reducible refine w_chain ?_
    | with_reducible refine w_op ?_
    | with_reducible refine w_un ?_
    | with_reducible refine w_andV ?_
    | with_reducible refine w_orV ?_
    | with_reducible refine w_notV ?_
    | with_reducible refine w_ifE ?_
    | with_reducible refine w_cons ?_
    | with_reducible refine w_nil ?_
    | with_reducible refine w_cb ?_
    | with_reducible refine w_cl ?_
    | with_reducible refine w_mt ?_
    | with_reducible refine w_fld ?_
    | with_reducible refine w_tupN ?_
    | with_reducible refine w_lstN ?_
    | with_reducible refine w_bm ?_
    | with_reducible refine w_bm0 ?_
    | with_reducible refine w_for ?_
    | with_reducible refine w_lc ?_
    | with_reducible refine w_iR1 ?_
    | with_reducible refine w_iR2 ?_
    | with_reducible refine w_iL ?_
    | with_reducible refine w_iT ?_
    | with_reducible refine w_iE ?_
    | with_reducible refine w_iZ ?_
    | with_reducible refine w_var (by with_unfolding_all rfl) ?_
    | with_reducible refine w_c ?_
    | with_reducible refine w_next ?_
    | with_reducible refine w_i0 ?_
    | with_reducible refine w_u1 ?_
    | with_reducible refine w_addI ?_
    | with_reducible refine w_eqI ?_
    | with_reducible refine w_eqS ?_
    | with_reducible refine w_eqB ?_
    | with_reducible refine w_neI ?_
    | with_reducible refine w_neS ?_
    | with_reducible refine w_neB ?_
    | with_reducible refine w_abs ?_
    | with_reducible refine w_intI ?_
    | with_reducible refine w_min2 ?_
    | with_reducible refine w_max2 ?_
    | with_reducible refine w_isN0 ?_
    | with_reducible refine w_isN1 ref_ne ?_
    | with_reducible refine w_isN1 int_ne ?_
    | with_reducible refine w_notN0 ?_
    | with_reducible refine w_notN1 ref_ne ?_
    | with_reducible refine w_notN1 int_ne ?_
    | with_reducible refine w_ex1 ?_
    | with_reducible refine w_n1 ?_
    | with_reducible refine w_n2 ?_
    | with_reducible refine w_tT ?_
    | with_reducible refine w_tF ?_
    | with_reducible refine w_nT ?_
    | with_reducible refine w_nF ?_
    | with_reducible refine w_rz ?_
    | with_reducible refine w_mkN ?_
    | with_reducible refine w_lrgN ?_
    | with_reducible refine w_rg1 ?_
    | with_reducible refine w_rg2 ?_
    | with_reducible refine w_sl ?_
    | with_reducible refine w_np ?_
    | with_reducible refine w_pt ?_
    | with_reducible refine w_tr ?_
    | with_reducible refine w_gn ?_
    | with_reducible refine w_yes ?_
    | with_reducible refine w_m1 ?_
    | with_reducible refine w_asu ?_
    | with_reducible refine w_exS ?_
    | with_reducible refine w_iS ?_
    | with_reducible refine w_g1 ?_
    | with_reducible refine w_gc ?_
    | with_reducible refine w_gt (SqT.of upd_same) rfl ?_)
local macro_rules
  | `(tactic| walk_at "g") => `(tactic| repeat walk_at "1")
local macro_rules
  | `(tactic| walk_at "j1") => `(tactic| first
    | with_reducible refine w_seqI ?_
    | walk_at "1")
local macro_rules
  | `(tactic| walk_at "j") => `(tactic| repeat walk_at "j1")
section
variable {K : PySem.W.Frag} {mg : Str → Option Value}
theorem lost_head18 (s : Sd) (gs : List Nat) (g : Nat) (e : lostL s = g :: gs) : (((lostL s).map fun (v : Nat) => (v : Int)).map V.int) = V.int (g : Int) :: ((gs.map fun (v : Nat) => (v : Int)).map V.int) := by rw [e] <;> rfl
theorem len__law_led (K : PySem.W.Frag) : ∀ vs H Q E, sp18__law_led K vs H Q E → vs.length = (["start", "moves"] : List Str).length := by
  rintro vs H Q E ⟨_, _, _, _, _, _, _, rfl, _⟩
  rfl
theorem rd__law_led (T : Txt K mg) (vs : List V) (H : Hp) (Q : VK) (E : XK) (h : sp18__law_led K vs H Q E) : t__law_led K E { nx := fun _ H' => Q .non H', rt := Q } (start ["start", "moves", "ends", "book", "linked", "before", "place", "left_over", "told", "lost"] vs) H := by
  obtain ⟨w, l, r, o, a, s, ms, rfl, bk, sn, ha, le, ml, g⟩ := h
  unfold t__law_led
  have wf := bk.wf
  have n60 := wf.n60
  walk_at "j"
  refine ⟨w, l, r, o, a, s, ms, rfl, bk, sn, ha, fun H1 k1 => ?_⟩
  walk_at "j"
  refine ⟨w, l, r, o, s, rfl, bk.k0 k1, fun w' l' r' o' H2 n1 n2 n3 n4 k2 b2 _ _ => ?_⟩
  walk_at "j"
  refine ⟨w', l', r', o', s, rfl, b2, sn, fun H3 k3 => ?_⟩
  have b3 := b2.k0 k3
  walk_at "j"
  refine ⟨s, rfl, wf, sn, fun p pr pl po H4 m1 m2 m3 m4 k4 la4 => ?_⟩
  obtain ⟨f1, f2, f3, f4⟩ := b3.fr m1
  obtain ⟨f5, f6, f7, f8⟩ := b3.fr m2
  obtain ⟨f9, f10, f11, f12⟩ := b3.fr m3
  obtain ⟨f13, f14, f15, f16⟩ := b3.fr m4
  have b4 := b3.k0 k4
  have k14 := k1.trans (k2.trans (k3.trans k4))
  have p0 : H pr = none ∧ H pl = none ∧ H po = none := ⟨(k1.trans (k2.trans k3)).free0 m2, (k1.trans (k2.trans k3)).free0 m3, (k1.trans (k2.trans k3)).free0 m4⟩
  have q0 : H l' = none ∧ H r' = none ∧ H o' = none := ⟨k1.free0 n2, k1.free0 n3, k1.free0 n4⟩
  walk_at "j"
  refine w_lenL (SqL.of (k14.at0 ha)) ?_
  walk_at "j"
  rw [List.length_map]
  refine w_r1 (by omega) ?_
  rw [show ((ms.length : Int) + 1).toNat = ms.length + 1 by omega]
  refine lp_rng0 (fun i σ H' => ∃ (bf : Int) (u6 u7 u8 u9 : Option V), σ = [some (.ref w), some (.ref a), some (.bl (leadB s ms)), some (.ref w'), some (.ref p), some (.int bf), u6, u7, u8, u9] ∧ Kp [] H H' ∧ Bk5 H' w' l' r' o' (runS s (ms.take i)) ∧ LinksAt K H' p pr pl po (runS s (ms.take i)) ∧ (i ≤ ms.length → lostL (runS s (ms.take i)) = [] → bf - 1 ≤ owedS (runS s (ms.take i)))) ⟨-1, none, none, none, none, rfl, k14, b4, la4, fun _ _ => by have := owed_nn (runS s (ms.take 0)); omega⟩ ?_ ?_
  · rintro i σ' H' hi ⟨bf, u6, u7, u8, u9, rfl, k, b5, la, hb⟩
    have tw := b5.wf
    obtain ⟨ld, lg⟩ := lead_drop le i
    have rl : (ms.drop i).length = ms.length - i := List.length_drop ..
    have hb' := hb (by omega)
    clear hb
    walk_at "j"
    refine w_lenL (SqL.of (k.at0 ha)) ?_
    walk_at "j"
    rw [List.length_map]
    refine ⟨p, pr, pl, po, _, rfl, la, fun q H5 k5 hq => ?_⟩
    walk_at "j"
    refine ⟨w', l', r', o', _, rfl, b5.k0 k5, fun ls H6 nls k6 hls => ?_⟩
    have k56 := k5.trans k6
    have hq6 := k6.at0 hq
    walk_at "j"
    refine w_ifK (fun H' => Kp [] H6 H') (fun N hN => ?_) (fun H7 k7 => ?_)
    · walk_at "g"
      refine ⟨sz_ok (by show 0 ≤ 1000000; omega), nw fun e H7 ne k7 he => ?_⟩
      have he' : H7 e = some (.lst (([] : List Int).map V.int)) := he
      walk_at "g"
      refine w_neLZ (k7.at0 hls) he' ?_
      walk_at "g"
      refine w_iteN (fun c => ?_) (fun c => ?_)
      · cases e : lostL (runS s (ms.take i)) with
        | nil => rw [e] at c; exact absurd rfl c
        | cons gg gs =>
          have hls7 := k7.at0 hls
          rw [lost_head18 _ gs gg e] at hls7
          have hq7 := k7.at0 hq6
          rw [told_cons e] at hq7
          walk_at "g"
          refine w_ixL (SqL.of hls7) at_0 ?_
          walk_at "g"
          refine ⟨q, "lost", "lost", (gg : Int), (gg : Int), rfl, hq7, ?_⟩
          rw [decide_eq_true rfl, decide_eq_true rfl]
          walk_at "g"
          exact hN _ k7
      · walk_at "g"
        exact hN _ k7
    · have k57 := k56.trans k7
      walk_at "j"
      refine w_ifJ (fun σ' H' => ∃ bf : Int, σ' = [some (.ref w), some (.ref a), some (.bl (leadB s ms)), some (.ref w'), some (.ref p), some (.int bf), some (.int (i : Int)), some (.int ((ms.length : Int) - (i : Int))), some (.ref q), some (.ref ls)] ∧ Kp [] H7 H' ∧ (lostL (runS s (ms.take i)) = [] → bf = owedS (runS s (ms.take i)))) (fun N hN => ?_) (fun σ' H8 ⟨bf, es, k8, hb⟩ => ?_)
      · walk_at "g"
        refine ⟨sz_ok (by show 0 ≤ 1000000; omega), nw fun e H8 ne k8 he => ?_⟩
        have he' : H8 e = some (.lst (([] : List Int).map V.int)) := he
        walk_at "g"
        refine w_eqLZ ((k7.trans k8).at0 hls) he' ?_
        walk_at "g"
        refine w_iteD (fun c => ?_) (fun c => ?_)
        · have nl : lostL (runS s (ms.take i)) = [] := List.map_eq_nil_iff.mp c
          have hb1 := hb' nl
          have hq8 := (k7.trans k8).at0 hq6
          rw [told_nil nl] at hq8
          walk_at "g"
          refine ⟨w', l', r', o', _, rfl, b5.k0 (k57.trans k8), fun H9 k9 => ?_⟩
          have hq9 := k9.at0 hq8
          walk_at "g"
          refine ⟨q, "debt", "debt", owedS (runS s (ms.take i)), owedS (runS s (ms.take i)), rfl, hq9, ?_⟩
          rw [decide_eq_true rfl, decide_eq_true rfl]
          walk_at "g"
          rw [if_neg (by decide)]
          walk_at "g"
          refine w_ixT (SqT.of hq9) (i := 1) (v := .int (owedS (runS s (ms.take i)))) rfl ?_
          walk_at "g"
          rw [decide_eq_false (by omega)]
          walk_at "g"
          have k89 := k8.trans k9
          refine w_iteB (fun e1 => ?_) (fun e1 => ?_)
          · obtain ⟨o1, kk, o2, _⟩ := lead_owed tw (ld.trans e1)
            walk_at "g"
            refine w_ixT (SqT.of hq9) (i := 1) (v := .int (owedS (runS s (ms.take i)))) rfl ?_
            walk_at "g"
            rw [decide_eq_false (by omega)]
            walk_at "g"
            refine w_ixT (SqT.of hq9) (i := 1) (v := .int (owedS (runS s (ms.take i)))) rfl ?_
            walk_at "g"
            refine ⟨_, _, rfl, rfl, by omega, ?_⟩
            walk_at "g"
            rw [decide_eq_false (by omega)]
            walk_at "g"
            refine w_ixT (SqT.of hq9) (i := 1) (v := .int (owedS (runS s (ms.take i)))) rfl ?_
            walk_at "g"
            exact hN _ _ ⟨_, rfl, k89, fun _ => rfl⟩
          · walk_at "g"
            refine w_ixT (SqT.of hq9) (i := 1) (v := .int (owedS (runS s (ms.take i)))) rfl ?_
            walk_at "g"
            exact hN _ _ ⟨_, rfl, k89, fun _ => rfl⟩
        · walk_at "g"
          exact hN _ _ ⟨bf, rfl, k8, fun z => absurd (by rw [z]; rfl) c⟩
      · subst es
        have k58 := k57.trans k8
        walk_at "g"
        refine w_lenL (SqL.of ((k.trans k58).at0 ha)) ?_
        walk_at "g"
        rw [List.length_map]
        have b8 := b5.k0 k58
        have la8 := la.k0 k58
        have k8H := k.trans k58
        refine w_iteD (fun c => ?_) (fun c => ?_)
        · have il : i < ms.length := by omega
          obtain ⟨op, hop⟩ : ∃ op, ms[i]? = some op := ⟨_, List.getElem?_eq_getElem il⟩
          have ok := le i op hop
          walk_at "g"
          refine w_me la8 no_m ?_
          walk_at "g"
          refine w_ixL (SqL.of (k8H.at0 ha)) (at_I (l := ms) (i := (i : Int)) (by omega) (by omega)) ?_
          rw [Int.toNat_natCast, gI_of hop]
          walk_at "g"
          refine ⟨p, pr, pl, po, _, op, rfl, la8, fun _ H9 k9 la9 => ?_, fun no => absurd ok no⟩
          have b9 := b8.kp k9 (by simp [f5, f9, f13]) (by simp [f6, f10, f14]) (by simp [f7, f11, f15]) (by simp [f8, f12, f16])
          have k9H : Kp [] H H9 := (k8H.all.trans k9).cut (by simp [p0])
          walk_at "g"
          refine w_ixL (SqL.of (k9H.at0 ha)) (at_I (l := ms) (i := (i : Int)) (by omega) (by omega)) ?_
          rw [Int.toNat_natCast, gI_of hop]
          walk_at "g"
          rw [show (if op < 0 then -op else op) = (op.natAbs : Int) by split <;> omega]
          refine ⟨w', l', r', o', _, op.natAbs, rfl, b9, ok.1.1, ok.1.2, fun HA kA bA _ => ?_⟩
          rw [op_step ok] at bA
          walk_at "g"
          rw [take_snoc hop, runS_snoc]
          refine ⟨bf, _, _, _, _, rfl, (k9H.all.trans kA).cut (by simp [q0]), bA, la9.kp kA (by simp [f2.symm, f3.symm, f4.symm]) (by simp [f6.symm, f7.symm, f8.symm]) (by simp [f10.symm, f11.symm, f12.symm]) (by simp [f14.symm, f15.symm, f16.symm]), fun _ nl => ?_⟩
          have nl0 := lost_back tw ok.1 nl
          rw [hb nl0]
          exact owed_fall tw nl0 ok nl
        · walk_at "g"
          have e1 : ms.take (i + 1) = ms.take i := by rw [List.take_of_length_le (by omega), List.take_of_length_le (by omega)]
          rw [e1]
          exact ⟨bf, _, _, _, _, rfl, k8H, b8, la8, fun z => by omega⟩
  · rintro σ' H' ⟨bf, u6, u7, u8, u9, rfl, k, b5, la, hb⟩
    walk_at "g"
    exact g H' k
end
end G
set_option Elab.async false
set_option linter.all false
set_option maxRecDepth 100000
set_option maxHeartbeats 2000000
namespace G
--#FAM KD
open PySem PySem.Spec PyProof.Rows L2
local macro_rules
  | `(tactic| walk_at "1") => `(tactic| first
    | with_reducible refine w_seq ?_
    | with_reducible refine w_asg ?_
    | with_reducible refine w_asgS ?_
    | with_reducible refine w_asf ?_
    | with_reducible refine w_drop ?_
    | with_reducible refine w_ret ?_
    | with_reducible refine w_if ?_
    | with_reducible refine w_not ?_
    | with_reducible refine w_and ?_
    | with_reducible refine w_or ?_
    | with_reducible refine w_test ?_
    | with_reducible refine w_tb ?_
    | with_reducible refine w_chain ?_
    | with_reducible refine w_op ?_
    | with_reducible refine w_un ?_
    | with_reducible refine w_andV ?_
    | with_reducible refine w_orV ?_
    | with_reducible refine w_notV ?_
    | with_reducible refine w_ifE ?_
    | with_reducible refine w_cons ?_
    | with_reducible refine w_nil ?_
    | with_reducible refine w_cb ?_
    | with_reducible refine w_cl ?_
    | with_reducible refine w_mt ?_
    | with_reducible refine w_fld ?_
    | with_reducible refine w_tupN ?_
    | with_reducible refine w_lstN ?_
    | with_reducible refine w_bm ?_
    | with_reducible refine w_bm0 ?_
    | with_reducible refine w_for ?_
    | with_reducible refine w_lc ?_
    | with_reducible refine w_iR1 ?_
    | with_reducible refine w_iR2 ?_
    | with_reducible refine w_iL ?_
    | with_reducible refine w_iT ?_
    | with_reducible refine w_iE ?_
    | with_reducible refine w_iZ ?_
    | with_reducible refine w_var (by with_unfolding_all rfl) ?_
    | with_reducible refine w_c ?_
    | with_reducible refine w_next ?_
    | with_reducible refine w_i0 ?_
    | with_reducible refine w_u1 ?_
    | with_reducible refine w_addI ?_
    | with_reducible refine w_eqI ?_
    | with_reducible refine w_eqS ?_
    | with_reducible refine w_eqB ?_
    | with_reducible refine w_neI ?_
    | with_reducible refine w_neS ?_
    | with_reducible refine w_neB ?_
    | with_reducible refine w_abs ?_
    | with_reducible refine w_intI ?_
    | with_reducible refine w_min2 ?_
    | with_reducible refine w_max2 ?_
    | with_reducible refine w_isN0 ?_
    | with_reducible refine w_isN1 ref_ne ?_
    | with_reducible refine w_isN1 int_ne ?_
    | with_reducible refine w_notN0 ?_
    | with_reducible refine w_notN1 ref_ne ?_
    | with_reducible refine w_notN1 int_ne ?_
    | with_reducible refine w_ex1 ?_
    | with_reducible refine w_n1 ?_
    | with_reducible refine w_n2 ?_
    | with_reducible refine w_tT ?_
    | with_reducible refine w_tF ?_
    | with_reducible refine w_nT ?_
    | with_reducible refine w_nF ?_
    | with_reducible refine w_rz ?_
    | with_reducible refine w_mkN ?_
    | with_reducible refine w_lrgN ?_
    | with_reducible refine w_rg1 ?_
    | with_reducible refine w_rg2 ?_
    | with_reducible refine w_sl ?_
    | with_reducible refine w_np ?_
    | with_reducible refine w_pt ?_
    | with_reducible refine w_tr ?_
    | with_reducible refine w_gn ?_
    | with_reducible refine w_yes ?_
    | with_reducible refine w_m1 ?_
    | with_reducible refine w_asu ?_
    | with_reducible refine w_exS ?_
    | with_reducible refine w_iS ?_
    | with_reducible refine w_g1 ?_
    | with_reducible refine w_gc ?_
    | with_reducible refine w_gt (SqT.of upd_same) rfl ?_)
local macro_rules
  | `(tactic| walk_at "g") => `(tactic| repeat walk_at "1")
local macro_rules
  | `(tactic| walk_at "j1") => `(tactic| first
    | with_reducible refine w_seqI ?_
    | walk_at "1")
local macro_rules
  | `(tactic| walk_at "j") => `(tactic| repeat walk_at "j1")
section
variable {K : PySem.W.Frag} {mg : Str → Option Value}
theorem no_rep18 {s : Sd} (nl : lostL s = []) {E : XK} {H : Hp} : NotRep K s E H := fun v vs e => by rw [nl] at e; cases e
theorem first_leads {s : Sd} (w : Wf s) (d : Snd s) (nl : lostL s = []) : leadB s (firstR s) = true := by
  have nn := owed_nn s
  obtain ⟨a, b, c⟩ := grd_all (owedS s).toNat s w nl (by omega)
  have e : firstR s = grd (owedS s).toNat s := rfl
  rw [e, lead_eq b]
  obtain ⟨c1, c2, c3⟩ := c _ (Nat.le_refl _)
  rw [List.take_of_length_le (by omega)] at c1 c2 c3
  rw [whl_whole c1 (runS_snd w d b)]
  exact whole_end c1 (runS_snd w d b) c2 (by omega)
theorem len__law_searched (K : PySem.W.Frag) : ∀ vs H Q E, sp18__law_searched K vs H Q E → vs.length = (["book"] : List Str).length := by
  rintro vs H Q E ⟨_, _, _, _, _, rfl, _⟩
  rfl
theorem rd__law_searched (T : Txt K mg) (vs : List V) (H : Hp) (Q : VK) (E : XK) (h : sp18__law_searched K vs H Q E) : t__law_searched K E { nx := fun _ H' => Q .non H', rt := Q } (start ["book", "far", "lost", "linked", "told", "moves"] vs) H := by
  obtain ⟨w, l, r, o, s, rfl, bk, sn, n4, g⟩ := h
  unfold t__law_searched
  have wf := bk.wf
  have nn := owed_nn s
  walk_at "g"
  refine ⟨w, l, r, o, s, rfl, bk, sn, n4, fun H1 k1 => ?_⟩
  walk_at "g"
  refine ⟨w, l, r, o, s, rfl, bk.k0 k1, fun q H2 nq k2 hq => ?_⟩
  have k02 := k1.trans k2
  walk_at "g"
  refine ⟨w, l, r, o, s, rfl, bk.k0 k02, sn, fun H3 k3 => ?_⟩
  walk_at "g"
  refine ⟨s, rfl, wf, sn, fun p pr pl po H4 m1 m2 m3 m4 k4 la4 => ?_⟩
  have k34 := k3.trans k4
  walk_at "g"
  refine ⟨p, pr, pl, po, s, rfl, la4, fun t H5 k5 ht => ?_⟩
  have hq5 := (k34.trans k5).at0 hq
  have k05 := k02.trans (k34.trans k5)
  cases e : lostL s with
  | nil =>
    have ed : debtS s = owedS s := by unfold debtS; rw [if_pos e]
    rw [told_nil e] at ht
    rw [ed]
    walk_at "g"
    rw [decide_eq_false (by omega)]
    walk_at "g"
    refine ⟨t, "debt", "debt", owedS s, owedS s, rfl, ht, ?_⟩
    rw [decide_eq_true rfl, decide_eq_true rfl]
    walk_at "g"
    rw [if_neg (by decide)]
    walk_at "g"
    obtain ⟨fl, fl2⟩ := first_len wf e
    refine ⟨p, pr, pl, po, s, rfl, la4.k0 k5, fun _ mv H6 nm k6 hm => ?_, no_rep18 e⟩
    walk_at "g"
    refine ⟨mv, firstR s, rfl, hm, by omega, fun H7 k7 => ?_⟩
    have hm7 := k7.at0 hm
    walk_at "g"
    refine w_lenL (SqL.of hm7) ?_
    rw [List.length_map]
    walk_at "g"
    rw [decide_eq_true fl]
    walk_at "g"
    refine ⟨w, l, r, o, mv, s, firstR s, rfl, bk.k0 ((k05.trans k6).trans k7), sn, hm7, fun H8 k8 => ?_⟩
    rw [first_leads wf sn e]
    walk_at "g"
    exact g H8 (((k05.trans k6).trans k7).trans k8)
  | cons gg gs =>
    have ed : debtS s = -1 := by unfold debtS; rw [if_neg (by rw [e]; simp)]
    rw [told_cons e] at ht
    rw [lost_head18 _ gs gg e] at hq5
    rw [ed]
    walk_at "g"
    rw [decide_eq_true (show (-1 : Int) < 0 by decide)]
    walk_at "g"
    refine ⟨sz_ok (by show 0 ≤ 1000000; omega), nw fun e2 H6 ne k6 he => ?_⟩
    have he' : H6 e2 = some (.lst (([] : List Int).map V.int)) := he
    have hq6 := k6.at0 hq5
    walk_at "g"
    refine w_neLZ (xs := (gg : Int) :: gs.map fun (v : Nat) => (v : Int)) hq6 he' ?_
    rw [decide_eq_false (by simp)]
    walk_at "g"
    refine w_ixL (SqL.of hq6) at_0 ?_
    walk_at "g"
    refine ⟨t, "lost", "lost", (gg : Int), (gg : Int), rfl, k6.at0 ht, ?_⟩
    rw [decide_eq_true rfl, decide_eq_true rfl]
    walk_at "g"
    exact g H6 (k05.trans k6)
theorem len_law (K : PySem.W.Frag) : ∀ vs H Q E, sp_law K vs H Q E → vs.length = (["script"] : List Str).length := by
  rintro vs H Q E ⟨_, _, rfl, _⟩
  rfl
theorem rd_law (T : Txt K mg) (vs : List V) (H : Hp) (Q : VK) (E : XK) (h : sp_law K vs H Q E) : t_law K E { nx := fun _ H' => Q .non H', rt := Q } (start ["script", "bag", "small", "size", "book", "moves"] vs) H := by
  obtain ⟨a, ns, rfl, hs, hl, g⟩ := h
  unfold t_law
  walk_at "g"
  refine ⟨a, ns, rfl, hs, hl, fun b c H1 nb nc k1 b1 => ?_⟩
  walk_at "g"
  refine ⟨sz_ok (by show 8 ≤ 1000000; omega), nw fun ls H2 nls k2 hls => ?_⟩
  have hls : H2 ls = some (.lst (([2, 3, 1, 3, 2, 3, 0, 4] : List Int).map V.int)) := hls
  have b2 := b1.k0 k2
  have lb : ls ≠ b := (b1.fr nls).1
  walk_at "g"
  refine ⟨b, c, 8, rfl, by omega, by omega, b2, fun d H3 d1 d2 k3 b3 => ?_⟩
  walk_at "g"
  refine w_ixL (SqL.of (k3.at1 lb hls)) (at_I d1 (by show d < 8; omega)) ?_
  have bd : ∀ k : Nat, k < 8 → 0 ≤ gI [2, 3, 1, 3, 2, 3, 0, 4] k ∧ gI [2, 3, 1, 3, 2, 3, 0, 4] k ≤ 4 := by decide +kernel
  have b0 := bd d.toNat (by omega)
  generalize gI [2, 3, 1, 3, 2, 3, 0, 4] d.toNat = v at b0 ⊢
  obtain ⟨n, rfl⟩ : ∃ n : Nat, v = (n : Int) := ⟨v.toNat, by omega⟩
  walk_at "g"
  refine ⟨sz_ok (by show 4 ≤ 1000000; omega), nw fun ls2 H4 nls2 k4 hls2 => ?_⟩
  have hls2 : H4 ls2 = some (.lst (([0, 0, 1, 2] : List Int).map V.int)) := hls2
  have b4 := b3.k0 k4
  have lb2 : ls2 ≠ b := (b3.fr nls2).1
  walk_at "g"
  refine ⟨b, c, 4, rfl, by omega, by omega, b4, fun y H5 y0 y1 k5 b5 => ?_⟩
  walk_at "g"
  refine w_ixL (SqL.of (k5.at1 lb2 hls2)) (at_I (by omega) (by show y < 4; omega)) ?_
  walk_at "g"
  refine ⟨b, c, n, _, rfl, by omega, b5, fun s w l r o H6 en sn nww nl nr no k6 b6 bk6 => ?_⟩
  walk_at "g"
  refine ⟨w, l, r, o, s, rfl, bk6, sn, by omega, fun H7 k7 => ?_⟩
  have b7 := b6.k0 k7
  walk_at "g"
  refine ⟨b, c, rfl, b7, fun m H8 hm k8 b8 => ?_⟩
  walk_at "g"
  refine ⟨sz_ok (by show 4 ≤ 1000000; omega), nw fun ls3 H9 nls3 k9 hls3 => ?_⟩
  have hls3 : H9 ls3 = some (.lst (([0, 0, 0, 1] : List Int).map V.int)) := hls3
  have b9 := b8.k0 k9
  have lb3 : ls3 ≠ b := (b8.fr nls3).1
  walk_at "g"
  refine ⟨b, c, 4, rfl, by omega, by omega, b9, fun z HA z0 z1 kA bA => ?_⟩
  walk_at "g"
  refine w_ixL (SqL.of (kA.at1 lb3 hls3)) (at_I (by omega) (by show z < 4; omega)) ?_
  walk_at "g"
  refine ⟨b, c, m, _, rfl, hm, bA, fun s2 w2 l2 r2 o2 HB en2 sn2 nw2 nl2 nr2 no2 kB bB bkB => ?_⟩
  obtain ⟨f1, f2, f3, f4⟩ : w2 ≠ b ∧ l2 ≠ b ∧ r2 ≠ b ∧ o2 ≠ b := ⟨(bA.fr nw2).1, (bA.fr nl2).1, (bA.fr nr2).1, (bA.fr no2).1⟩
  walk_at "g"
  refine ⟨b, c, w2, l2, r2, o2, s2, rfl, bB, bkB, sn2, fun mv ms HC kC bC nm hmv le ml => ?_⟩
  have bkC := bkB.kp kC (by simp [f1]) (by simp [f2]) (by simp [f3]) (by simp [f4])
  have mb : mv ≠ b := (bB.fr nm).1
  walk_at "g"
  refine ⟨w2, l2, r2, o2, mv, s2, ms, rfl, bkC, sn2, hmv, le, ml, fun HD kD => ?_⟩
  have hmvD := kD.at0 hmv
  have bkD := bkC.k0 kD
  have bD := bC.k0 kD
  walk_at "g"
  refine w_lenL (SqL.of hmvD) ?_
  rw [List.length_map]
  walk_at "g"
  refine ⟨b, c, _, rfl, by omega, by omega, bD, fun x HE x0 x1 kE bE => ?_⟩
  obtain ⟨j, rfl⟩ : ∃ j : Nat, x = (j : Int) := ⟨x.toNat, by omega⟩
  walk_at "g"
  refine ⟨w2, l2, r2, o2, mv, s2, ms, j, rfl, bkD.kp kE (by simp [f1]) (by simp [f2]) (by simp [f3]) (by simp [f4]), sn2, kE.at1 mb hmvD, le, ml, by omega, fun HF kF => ?_⟩
  walk_at "g"
  exact g HF
end
end G
set_option Elab.async false
set_option linter.all false
set_option maxRecDepth 100000
set_option maxHeartbeats 4000000
namespace G
open PySem PySem.Spec PyProof.Rows L2
section
variable {P : Program} {w : World} {K : PySem.W.Frag} {mg : Str → Option Value} {base : Heap}
theorem ok__law_bag {f : Addr} {fd : FuncData} (T : Txt K mg) (F : FunD K "_law_bag" "_law_bag" (defArgs s__law_bag) (defBody s__law_bag) (defScope s__law_bag) [] [] f fd)  : FnOk P w K mg base (L2N.CX P w) 1 f fd ["script"] (sp21__law_bag K) :=
  F.ok sc__law_bag (len__law_bag K) fun cdv A outer s H vs Q E hr h => ⟨t__law_bag K E, pss_one (ps_ret (pe_lst (pa_cons (pe_slice sl_list (pv 0) (po_none) (po_some (pe_int))) (pa_cons (pe_int) (pa_cons (pe_int) (pa_cons (pe_int) (pa_cons (pe_int) (pa_nil)))))))), rd__law_bag T vs H Q E h⟩
theorem ok__law_draw {f : Addr} {fd : FuncData} (T : Txt K mg) (F : FunD K "_law_draw" "_law_draw" (defArgs s__law_draw) (defBody s__law_draw) (defScope s__law_draw) [] [] f fd)  : FnOk P w K mg base (L2N.CX P w) 1 f fd ["bag", "many"] (sp21__law_draw K) :=
  F.ok sc__law_draw (len__law_draw K) fun cdv A outer s H vs Q E hr h => ⟨t__law_draw K E, pss_cons (ps_if (pt_not (pt_tr (pe_ix ix_seq (pv 0) (pe_int) (fun _ _ => rfl)) (by intro _; rfl))) (pss_one (ps_ret (pe_int))) (pss_nil)) (pss_cons (ps_asg (pe_op op_addA (pe_ix ix_seq (pv 0) (pe_int) (fun _ _ => rfl)) (pe_int)) (pg_sub (pv 0) (pe_int) set_list)) (pss_cons (ps_if ((pw_and (pt_cmpR op_le (pe_ix ix_seq (pv 0) (pe_int) (fun _ _ => rfl)) (pe_int) (nomark _)) (pw_and1 (pt_cmpR op_lt (pe_ix ix_seq (pv 0) (pe_int) (fun _ _ => rfl)) (pe_callB call_lenA (by rfl) T.b_len (by decide +kernel) (pa_cons (pe_ix ix_seq (pv 0) (pe_int) (fun _ _ => rfl)) (pa_nil))) (nomark _)))).pt) (pss_cons (ps_set (i := 2) sc__law_draw.nd rfl (by first | exact Or.inl rfl | exact Or.inr rfl) (pe_ix ix_seq (pe_ix ix_seq (pv 0) (pe_int) (fun _ _ => rfl)) (pe_ix ix_seq (pv 0) (pe_int) (fun _ _ => rfl)) (fun _ _ => rfl))) (pss_cons (ps_asg (pe_op op_addA (pe_ix ix_seq (pv 0) (pe_int) (fun _ _ => rfl)) (pe_int)) (pg_sub (pv 0) (pe_int) set_list)) (pss_one (ps_if (pt_cmpR op_ge (pv 2) (pe_op op_pow (pe_int) (pe_int)) (nomark _)) (pss_one (ps_asg (pv 2) (pg_sub (pv 0) (pe_int) set_list))) (pss_one (ps_asg (pe_op op_mod (pe_callTy call_intA (by rfl) T.b_int (by decide +kernel) (pa_cons (pe_op op_addA (pe_op op_addA (pe_op op_mulA (pe_ix ix_seq (pv 0) (pe_int) (fun _ _ => rfl)) (pe_int)) (pe_op op_mulA (pv 2) (pe_int))) (pe_int)) (pa_nil))) (pe_int)) (pg_sub (pv 0) (pe_int) set_list))))))) (pss_nil)) (pss_cons (ps_if (pt_cmpR op_gt (pe_ix ix_seq (pv 0) (pe_int) (fun _ _ => rfl)) (pe_int) (nomark _)) (pss_cons (ps_set (i := 3) sc__law_draw.nd rfl (by first | exact Or.inl rfl | exact Or.inr rfl) (pe_op op_mod (pe_callTy call_intA (by rfl) T.b_int (by decide +kernel) (pa_cons (pe_ix ix_seq (pv 0) (pe_int) (fun _ _ => rfl)) (pa_nil))) (pv 1))) (pss_cons (ps_asg (pe_op op_fdiv (pe_callTy call_intA (by rfl) T.b_int (by decide +kernel) (pa_cons (pe_ix ix_seq (pv 0) (pe_int) (fun _ _ => rfl)) (pa_nil))) (pv 1)) (pg_sub (pv 0) (pe_int) set_list)) (pss_one (ps_ret (pv 3))))) (pss_nil)) (pss_cons (ps_asg (pe_op op_mod (pe_callTy call_intA (by rfl) T.b_int (by decide +kernel) (pa_cons (pe_op op_addA (pe_op op_addA (pe_op op_mulA (pe_ix ix_seq (pv 0) (pe_int) (fun _ _ => rfl)) (pe_int)) (pe_op op_mulA (pe_ix ix_seq (pv 0) (pe_int) (fun _ _ => rfl)) (pe_int))) (pe_int)) (pa_nil))) (pe_int)) (pg_sub (pv 0) (pe_int) set_list)) (pss_cons (ps_set (i := 4) sc__law_draw.nd rfl (by first | exact Or.inl rfl | exact Or.inr rfl) (pe_op op_mod (pe_callTy call_intA (by rfl) T.b_int (by decide +kernel) (pa_cons (pe_op op_addA (pe_op op_mulA (pe_op op_fdiv (pe_ix ix_seq (pv 0) (pe_int) (fun _ _ => rfl)) (pe_int)) (pe_int)) (pe_ix ix_seq (pv 0) (pe_int) (fun _ _ => rfl))) (pa_nil))) (pe_int))) (pss_one (ps_ret (pe_op op_mod (pe_callTy call_intA (by rfl) T.b_int (by decide +kernel) (pa_cons (pe_op op_fdiv (pv 4) (pe_int)) (pa_nil))) (pv 1))))))))), rd__law_draw T vs H Q E h⟩
theorem ok_check_size {f : Addr} {fd : FuncData} (T : Txt K mg) (F : FunD K "check_size" "check_size" (defArgs s_check_size) (defBody s_check_size) (defScope s_check_size) [] [] f fd) (x_BadSize : ExM P w K mg base 1 "BadSize" (He.ga K "BadSize") ["size"]) : FnOk P w K mg base (L2N.CX P w) 3 f fd ["size"] (sp_check_size K) :=
  F.ok sc_check_size (len_check_size K) fun cdv A outer s H vs Q E hr h => ⟨t_check_size K E, pss_one (ps_if (pt_not (pt_chain op_le op_le (pe_int) (pv 0) (pe_cc T.cc_Links_MOST (pe_own T.g_Links)))) (pss_one (ps_rz x_BadSize rfl (L2N.takes_of rfl rfl rfl rfl) hr (by decide) (pa_cons (pv 0) (pa_nil)))) (pss_nil)), rd_check_size T vs H Q E h⟩
theorem ok_Links___init__ {f : Addr} {fd : FuncData} (T : Txt K mg) (F : FunD K "__init__" "Links.__init__" (defArgs s_Links___init__) (defBody s_Links___init__) (defScope s_Links___init__) [] [] f fd) (c_check_size : Cal P w K mg base 3 "check_size" ["size"] (sp_check_size K)) : FnOk P w K mg base (L2N.CX P w) 4 f fd ["self", "size"] (sp_Links___init__ K) :=
  F.ok sc_Links___init__ (len_Links___init__ K) fun cdv A outer s H vs Q E hr h => ⟨t_Links___init__ K E, pss_cons (ps_expr (pe_cl c_check_size hr (by decide) (pat_of (W := fun cls d _ H => E cls d H) (L2N.takes_of rfl rfl rfl rfl)) (pa_cons (pv 1) (pa_nil)))) (pss_cons (ps_fld (pv 0) (pv 1) rfl) (pss_cons (ps_fld (pv 0) (pe_listRg rfl rfl T.b_list (prg_2 rfl T.b_range (pe_int) (pe_op op_addA (pv 1) (pe_int)))) rfl) (pss_cons (ps_fld (pv 0) (pe_op op_addA (pe_lst (pa_cons (pe_int) (pa_nil))) (pe_listRg rfl rfl T.b_list (prg_1 rfl T.b_range (pe_op op_addA (pv 1) (pe_int))))) rfl) (pss_one (ps_fld (pv 0) (pe_op op_mulA (pe_lst (pa_cons (pe_bl) (pa_nil))) (pe_op op_addA (pv 1) (pe_int))) rfl))))), rd_Links___init__ T vs H Q E h⟩
theorem ok_is_positive {f : Addr} {fd : FuncData} (T : Txt K mg) (F : FunD K "is_positive" "is_positive" (defArgs s_is_positive) (defBody s_is_positive) (defScope s_is_positive) [] [] f fd)  : FnOk P w K mg base (L2N.CX P w) 1 f fd ["word"] (sp_is_positive K) :=
  F.ok sc_is_positive (len_is_positive K) fun cdv A outer s H vs Q E hr h => ⟨t_is_positive K E, pss_one (ps_ret (pe_and (pe_chain op_le op_le (pe_int) (pe_callB call_lenA (by rfl) T.b_len (by decide +kernel) (pa_cons (pv 0) (pa_nil))) (pe_glob rfl T.k_MOST_DIGITS.choose_spec ⟨_, rfl⟩)) (pe_and (pe_cmpR (op_neA hr) (pe_ix ix_seq (pv 0) (pe_int) (fun _ _ => rfl)) (pe_str) (nomark _)) (pe_one (pe_callB (cr_all rfl) (by rfl) T.b_all (by decide +kernel) (pa_cons (pe_lc (own := [("letter", 1)]) (g := gName 1) (tt := tYes) (te := tOp rInS (tVar 1) (tC (.str "0123456789"))) rfl sc_is_positive.nd (pi_str (pv 0)) (blkOk_by (own := [("letter", 1)]) (N := ["word", "letter"]) (sc := defScope s_is_positive) (by decide +kernel)) (fun _ _ _ _ _ => pg_name (i := 1) sc_is_positive.nd rfl (by first | exact Or.inl rfl | exact Or.inr rfl)) (fun _ _ _ _ _ => pts_nil) (fun _ _ _ _ _ => pe_cmpR op_inS (pv 1) (pe_glob rfl T.k_DIGITS.choose_spec ⟨_, rfl⟩) (rfl))) (pa_nil))))))), rd_is_positive T vs H Q E h⟩
theorem ok__read_numbers {f : Addr} {fd : FuncData} (T : Txt K mg) (F : FunD K "_read_numbers" "_read_numbers" (defArgs s__read_numbers) (defBody s__read_numbers) (defScope s__read_numbers) [] [] f fd) (c_is_positive : Cal P w K mg base 1 "is_positive" ["word"] (sp_is_positive K)) (x_BadDump : ExM P w K mg base 1 "BadDump" (He.ga K "BadDump") ["part"]) : FnOk P w K mg base (L2N.CX P w) 3 f fd ["text", "part"] (sp__read_numbers K) :=
  F.ok sc__read_numbers (len__read_numbers K) fun cdv A outer s H vs Q E hr h => ⟨t__read_numbers K E, pss_cons (ps_set (i := 2) sc__read_numbers.nd rfl (by first | exact Or.inl rfl | exact Or.inr rfl) (pe_splitA (pv 0) (pe_str))) (pss_cons (ps_if (pt_not (pt_val (pe_callB (cr_all rfl) (by rfl) T.b_all (by decide +kernel) (pa_cons (pe_lc (own := [("word", 3)]) (g := gName 3) (tt := tYes) (te := tOrV (tOp (rEqA K) (tVar 3) (tC (.str "0"))) (tCl (sp_is_positive K) (fun _ => E0) (tCons (tVar 3) (tNil)))) rfl sc__read_numbers.nd (pi_list (pv 2)) (blkOk_by (own := [("word", 3)]) (N := ["text", "part", "words", "word"]) (sc := defScope s__read_numbers) (by decide +kernel)) (fun _ _ _ _ _ => pg_name (i := 3) sc__read_numbers.nd rfl (by first | exact Or.inl rfl | exact Or.inr rfl)) (fun _ _ _ _ _ => pts_nil) (fun _ _ _ _ _ => pe_or (pe_cmpR (op_eqA hr) (pv 3) (pe_str) (nomark _)) (pe_one (pe_cl c_is_positive hr (by decide) (pat_no) (pa_cons (pv 3) (pa_nil)))))) (pa_nil))))) (pss_one (ps_rz x_BadDump rfl (L2N.takes_of rfl rfl rfl rfl) hr (by decide) (pa_cons (pv 1) (pa_nil)))) (pss_nil)) (pss_one (ps_ret (pe_lc (own := [("word", 3)]) (g := gName 3) (tt := tYes) (te := tCB rIntS (tCons (tVar 3) (tNil))) rfl sc__read_numbers.nd (pi_list (pv 2)) (blkOk_by (own := [("word", 3)]) (N := ["text", "part", "words", "word"]) (sc := defScope s__read_numbers) (by decide +kernel)) (fun _ _ _ _ _ => pg_name (i := 3) sc__read_numbers.nd rfl (by first | exact Or.inl rfl | exact Or.inr rfl)) (fun _ _ _ _ _ => pts_nil) (fun _ _ _ _ _ => pe_callTy call_intS (by rfl) T.b_int (by decide +kernel) (pa_cons (pv 3) (pa_nil))))))), rd__read_numbers T vs H Q E h⟩
theorem ok__read_lefts {f : Addr} {fd : FuncData} (T : Txt K mg) (F : FunD K "_read_lefts" "_read_lefts" (defArgs s__read_lefts) (defBody s__read_lefts) (defScope s__read_lefts) [] [] f fd) (c__read_numbers : Cal P w K mg base 3 "_read_numbers" ["text", "part"] (sp__read_numbers K)) (x_BadDump : ExM P w K mg base 1 "BadDump" (He.ga K "BadDump") ["part"]) : FnOk P w K mg base (L2N.CX P w) 4 f fd ["text", "size"] (sp__read_lefts K) :=
  F.ok sc__read_lefts (len__read_lefts K) fun cdv A outer s H vs Q E hr h => ⟨t__read_lefts K E, pss_cons (ps_set (i := 2) sc__read_lefts.nd rfl (by first | exact Or.inl rfl | exact Or.inr rfl) (pe_cl c__read_numbers hr (by decide) (pat_of (W := fun cls d _ H => E cls d H) (L2N.takes_of rfl rfl rfl rfl)) (pa_cons (pv 0) (pa_cons (pe_int) (pa_nil))))) (pss_cons (ps_if ((pw_or (pt_cmpR (op_neA hr) (pe_callB call_lenA (by rfl) T.b_len (by decide +kernel) (pa_cons (pv 2) (pa_nil))) (pe_op op_addA (pv 1) (pe_int)) (nomark _)) (pw_or1 (pt_not (pt_val (pe_callB (cr_all rfl) (by rfl) T.b_all (by decide +kernel) (pa_cons (pe_lc (own := [("place", 3), ("link", 4)]) (g := gTup K 2 (gCons (gName 3) (gCons (gName 4) (gNil)))) (tt := tYes) (te := tOp rLeA (tVar 4) (tVar 3)) rfl sc__read_lefts.nd (pi_enum (by rfl) T.b_enumerate (pa_cons (pv 2) (pa_nil))) (blkOk_by (own := [("place", 3), ("link", 4)]) (N := ["text", "size", "lefts", "place", "link"]) (sc := defScope s__read_lefts) (by decide +kernel)) (fun _ _ _ _ _ => pg_tup (by rfl) (pgs_cons (pg_name (i := 3) sc__read_lefts.nd rfl (by first | exact Or.inl rfl | exact Or.inr rfl)) (pgs_cons (pg_name (i := 4) sc__read_lefts.nd rfl (by first | exact Or.inl rfl | exact Or.inr rfl)) (pgs_nil)))) (fun _ _ _ _ _ => pts_nil) (fun _ _ _ _ _ => pe_cmpR op_le (pv 4) (pv 3) (nomark _))) (pa_nil))))))).pt) (pss_one (ps_rz x_BadDump rfl (L2N.takes_of rfl rfl rfl rfl) hr (by decide) (pa_cons (pe_int) (pa_nil)))) (pss_nil)) (pss_one (ps_ret (pv 2)))), rd__read_lefts T vs H Q E h⟩
theorem ok__read_outs {f : Addr} {fd : FuncData} (T : Txt K mg) (F : FunD K "_read_outs" "_read_outs" (defArgs s__read_outs) (defBody s__read_outs) (defScope s__read_outs) [] [] f fd) (c__read_numbers : Cal P w K mg base 3 "_read_numbers" ["text", "part"] (sp__read_numbers K)) (x_BadDump : ExM P w K mg base 1 "BadDump" (He.ga K "BadDump") ["part"]) : FnOk P w K mg base (L2N.CX P w) 4 f fd ["text", "size"] (sp__read_outs K) :=
  F.ok sc__read_outs (len__read_outs K) fun cdv A outer s H vs Q E hr h => ⟨t__read_outs K E, pss_cons (ps_if (pt_cmpR (op_eqA hr) (pv 0) (pe_str) (nomark _)) (pss_one (ps_ret (pe_lst (pa_nil)))) (pss_nil)) (pss_cons (ps_set (i := 2) sc__read_outs.nd rfl (by first | exact Or.inl rfl | exact Or.inr rfl) (pe_cl c__read_numbers hr (by decide) (pat_of (W := fun cls d _ H => E cls d H) (L2N.takes_of rfl rfl rfl rfl)) (pa_cons (pv 0) (pa_cons (pe_int) (pa_nil))))) (pss_cons (ps_set (i := 3) sc__read_outs.nd rfl (by first | exact Or.inl rfl | exact Or.inr rfl) (pe_op op_addA (pe_op op_addA (pe_lst (pa_cons (pe_int) (pa_nil))) (pv 2)) (pe_lst (pa_cons (pe_op op_addA (pv 1) (pe_int)) (pa_nil))))) (pss_cons (ps_if (pt_not (pt_val (pe_callB (cr_all rfl) (by rfl) T.b_all (by decide +kernel) (pa_cons (pe_lc (own := [("low", 4), ("high", 5)]) (g := gTup K 2 (gCons (gName 4) (gCons (gName 5) (gNil)))) (tt := tYes) (te := tOp rLtA (tVar 4) (tVar 5)) rfl sc__read_outs.nd (pi_zip (by rfl) T.b_zip (pa_cons (pv 3) (pa_cons (pe_slice sl_list (pv 3) (po_some (pe_int)) (po_none)) (pa_nil)))) (blkOk_by (own := [("low", 4), ("high", 5)]) (N := ["text", "size", "outs", "bounds", "low", "high"]) (sc := defScope s__read_outs) (by decide +kernel)) (fun _ _ _ _ _ => pg_tup (by rfl) (pgs_cons (pg_name (i := 4) sc__read_outs.nd rfl (by first | exact Or.inl rfl | exact Or.inr rfl)) (pgs_cons (pg_name (i := 5) sc__read_outs.nd rfl (by first | exact Or.inl rfl | exact Or.inr rfl)) (pgs_nil)))) (fun _ _ _ _ _ => pts_nil) (fun _ _ _ _ _ => pe_cmpR op_lt (pv 4) (pv 5) (nomark _))) (pa_nil))))) (pss_one (ps_rz x_BadDump rfl (L2N.takes_of rfl rfl rfl rfl) hr (by decide) (pa_cons (pe_int) (pa_nil)))) (pss_nil)) (pss_one (ps_ret (pv 2)))))), rd__read_outs T vs H Q E h⟩
theorem ok__read_rights {f : Addr} {fd : FuncData} (T : Txt K mg) (F : FunD K "_read_rights" "_read_rights" (defArgs s__read_rights) (defBody s__read_rights) (defScope s__read_rights) [] [] f fd) (c__read_numbers : Cal P w K mg base 3 "_read_numbers" ["text", "part"] (sp__read_numbers K)) (x_BadDump : ExM P w K mg base 1 "BadDump" (He.ga K "BadDump") ["part"]) : FnOk P w K mg base (L2N.CX P w) 4 f fd ["text"] (sp__read_rights K) :=
  F.ok sc__read_rights (len__read_rights K) fun cdv A outer s H vs Q E hr h => ⟨t__read_rights K E, pss_cons (ps_set (i := 1) sc__read_rights.nd rfl (by first | exact Or.inl rfl | exact Or.inr rfl) (pe_cl c__read_numbers hr (by decide) (pat_of (W := fun cls d _ H => E cls d H) (L2N.takes_of rfl rfl rfl rfl)) (pa_cons (pv 0) (pa_cons (pe_int) (pa_nil))))) (pss_cons (ps_set (i := 2) sc__read_rights.nd rfl (by first | exact Or.inl rfl | exact Or.inr rfl) (pe_op op_sub (pe_callB call_lenA (by rfl) T.b_len (by decide +kernel) (pa_cons (pv 1) (pa_nil))) (pe_int))) (pss_cons (ps_if ((pw_or (pt_cmpR op_gt (pv 2) (pe_cc T.cc_Links_MOST (pe_own T.g_Links)) (nomark _)) (pw_or1 (pt_not (pt_val (pe_callB (cr_all rfl) (by rfl) T.b_all (by decide +kernel) (pa_cons (pe_lc (own := [("node", 3), ("link", 4)]) (g := gTup K 2 (gCons (gName 3) (gCons (gName 4) (gNil)))) (tt := tYes) (te := tChain rLtA rLeA (tVar 3) (tVar 4) (tOp rAddA (tVar 2) (tC (.int 1)))) rfl sc__read_rights.nd (pi_enum (by rfl) T.b_enumerate (pa_cons (pv 1) (pa_nil))) (blkOk_by (own := [("node", 3), ("link", 4)]) (N := ["text", "rights", "size", "node", "link"]) (sc := defScope s__read_rights) (by decide +kernel)) (fun _ _ _ _ _ => pg_tup (by rfl) (pgs_cons (pg_name (i := 3) sc__read_rights.nd rfl (by first | exact Or.inl rfl | exact Or.inr rfl)) (pgs_cons (pg_name (i := 4) sc__read_rights.nd rfl (by first | exact Or.inl rfl | exact Or.inr rfl)) (pgs_nil)))) (fun _ _ _ _ _ => pts_nil) (fun _ _ _ _ _ => pe_chain op_lt op_le (pv 3) (pv 4) (pe_op op_addA (pv 2) (pe_int)))) (pa_nil))))))).pt) (pss_one (ps_rz x_BadDump rfl (L2N.takes_of rfl rfl rfl rfl) hr (by decide) (pa_cons (pe_int) (pa_nil)))) (pss_nil)) (pss_one (ps_ret (pv 1))))), rd__read_rights T vs H Q E h⟩
theorem ok_Links_read {f : Addr} {fd : FuncData} (T : Txt K mg) (F : FunD K "read" "Links.read" (defArgs s_Links_read) (defBody s_Links_read) (defScope s_Links_read) [] [] f fd) (m_Links : Mak P w K mg base 4 "Links" (He.ga K "Links") ["self", "size"] (sp_Links___init__ K)) (c__read_lefts : Cal P w K mg base 4 "_read_lefts" ["text", "size"] (sp__read_lefts K)) (c__read_outs : Cal P w K mg base 4 "_read_outs" ["text", "size"] (sp__read_outs K)) (c__read_rights : Cal P w K mg base 4 "_read_rights" ["text"] (sp__read_rights K)) (x_BadDump : ExM P w K mg base 1 "BadDump" (He.ga K "BadDump") ["part"]) : FnOk P w K mg base (L2N.CX P w) 6 f fd ["text"] (sp_Links_read K) :=
  F.ok sc_Links_read (len_Links_read K) fun cdv A outer s H vs Q E hr h => ⟨t_Links_read K E, pss_cons (ps_set (i := 1) sc_Links_read.nd rfl (by first | exact Or.inl rfl | exact Or.inr rfl) (pe_splitA (pv 0) (pe_str))) (pss_cons (ps_asg (pe_slice sl_list (pe_op op_addA (pv 1) (pe_lst (pa_cons (pe_str) (pa_cons (pe_str) (pa_nil))))) (po_none) (po_some (pe_int))) (pg_unl (by rfl) (pgs_cons (pg_name (i := 2) sc_Links_read.nd rfl (by first | exact Or.inl rfl | exact Or.inr rfl)) (pgs_cons (pg_name (i := 3) sc_Links_read.nd rfl (by first | exact Or.inl rfl | exact Or.inr rfl)) (pgs_cons (pg_name (i := 4) sc_Links_read.nd rfl (by first | exact Or.inl rfl | exact Or.inr rfl)) (pgs_nil)))))) (pss_cons (ps_set (i := 5) sc_Links_read.nd rfl (by first | exact Or.inl rfl | exact Or.inr rfl) (pe_cl c__read_rights hr (by decide) (pat_of (W := fun cls d _ H => E cls d H) (L2N.takes_of rfl rfl rfl rfl)) (pa_cons (pv 2) (pa_nil)))) (pss_cons (ps_set (i := 6) sc_Links_read.nd rfl (by first | exact Or.inl rfl | exact Or.inr rfl) (pe_mk m_Links hr (by decide) (pat_of (W := fun cls d _ H => E cls d H) (L2N.takes_of rfl rfl rfl rfl)) (pa_cons (pe_op op_sub (pe_callB call_lenA (by rfl) T.b_len (by decide +kernel) (pa_cons (pv 5) (pa_nil))) (pe_int)) (pa_nil)))) (pss_cons (ps_fld (pv 6) (pv 5) rfl) (pss_cons (ps_fld (pv 6) (pe_op op_addA (pe_lst (pa_cons (pe_int) (pa_nil))) (pe_cl c__read_lefts hr (by decide) (pat_of (W := fun cls d _ H => E cls d H) (L2N.takes_of rfl rfl rfl rfl)) (pa_cons (pv 3) (pa_cons (pe_fld (pv 6) rfl) (pa_nil))))) rfl) (pss_cons (ps_for (passes_of rfl) rfl (pi_list (pe_cl c__read_outs hr (by decide) (pat_of (W := fun cls d _ H => E cls d H) (L2N.takes_of rfl rfl rfl rfl)) (pa_cons (pv 4) (pa_cons (pe_fld (pv 6) rfl) (pa_nil))))) (pg_name (i := 7) sc_Links_read.nd rfl (by first | exact Or.inl rfl | exact Or.inr rfl)) (pss_one (ps_asg (pe_bl) (pg_sub (pe_fld (pv 6) rfl) (pv 7) set_list)))) (pss_cons (ps_if (pt_cmpR op_gt (pe_callB call_lenA (by rfl) T.b_len (by decide +kernel) (pa_cons (pv 1) (pa_nil))) (pe_int) (nomark _)) (pss_one (ps_rz x_BadDump rfl (L2N.takes_of rfl rfl rfl rfl) hr (by decide) (pa_cons (pe_int) (pa_nil)))) (pss_nil)) (pss_one (ps_ret (pv 6)))))))))), rd_Links_read T vs H Q E h⟩
theorem ok__law_copy {f : Addr} {fd : FuncData} (T : Txt K mg) (F : FunD K "_law_copy" "_law_copy" (defArgs s__law_copy) (defBody s__law_copy) (defScope s__law_copy) [] [] f fd)  : FnOk P w K mg base (L2N.CX P w) 1 f fd ["book"] (sp18__law_copy K) :=
  F.ok sc__law_copy (len__law_copy K) fun cdv A outer s H vs Q E hr h => ⟨t__law_copy K E, pss_one (ps_ret (pe_lst (pa_cons (pe_ix ix_seq (pv 0) (pe_int) (fun _ _ => rfl)) (pa_cons (pe_callTy call_listA (by rfl) T.b_list (by decide +kernel) (pa_cons (pe_ix ix_seq (pv 0) (pe_int) (fun _ _ => rfl)) (pa_nil))) (pa_cons (pe_callTy call_listA (by rfl) T.b_list (by decide +kernel) (pa_cons (pe_ix ix_seq (pv 0) (pe_int) (fun _ _ => rfl)) (pa_nil))) (pa_cons (pe_callTy call_listA (by rfl) T.b_list (by decide +kernel) (pa_cons (pe_ix ix_seq (pv 0) (pe_int) (fun _ _ => rfl)) (pa_nil))) (pa_nil))))))), rd__law_copy T vs H Q E h⟩
theorem ok__law_dump {f : Addr} {fd : FuncData} (T : Txt K mg) (F : FunD K "_law_dump" "_law_dump" (defArgs s__law_dump) (defBody s__law_dump) (defScope s__law_dump) [] [] f fd)  : FnOk P w K mg base (L2N.CX P w) 1 f fd ["book"] (sp16__law_dump K) :=
  F.ok sc__law_dump (len__law_dump K) fun cdv A outer s H vs Q E hr h => ⟨t__law_dump K E, pss_cons (ps_set (i := 1) sc__law_dump.nd rfl (by first | exact Or.inl rfl | exact Or.inr rfl) (pe_joinA (pe_str) (pe_lc (own := [("link", 4)]) (g := gName 4) (tt := tYes) (te := tCB rStrA (tCons (tVar 4) (tNil))) rfl sc__law_dump.nd (pi_list (pe_slice sl_list (pe_ix ix_seq (pv 0) (pe_int) (fun _ _ => rfl)) (po_none) (po_some (pe_op op_addA (pe_ix ix_seq (pv 0) (pe_int) (fun _ _ => rfl)) (pe_int))))) (blkOk_by (own := [("link", 4)]) (N := ["book", "rights", "lefts", "outs", "link", "node"]) (sc := defScope s__law_dump) (by decide +kernel)) (fun _ _ _ _ _ => pg_name (i := 4) sc__law_dump.nd rfl (by first | exact Or.inl rfl | exact Or.inr rfl)) (fun _ _ _ _ _ => pts_nil) (fun _ _ _ _ _ => pe_callTy call_strA (by rfl) T.b_str (by decide +kernel) (pa_cons (pv 4) (pa_nil)))))) (pss_cons (ps_set (i := 2) sc__law_dump.nd rfl (by first | exact Or.inl rfl | exact Or.inr rfl) (pe_joinA (pe_str) (pe_lc (own := [("link", 4)]) (g := gName 4) (tt := tYes) (te := tCB rStrA (tCons (tVar 4) (tNil))) rfl sc__law_dump.nd (pi_list (pe_slice sl_list (pe_ix ix_seq (pv 0) (pe_int) (fun _ _ => rfl)) (po_some (pe_int)) (po_none))) (blkOk_by (own := [("link", 4)]) (N := ["book", "rights", "lefts", "outs", "link", "node"]) (sc := defScope s__law_dump) (by decide +kernel)) (fun _ _ _ _ _ => pg_name (i := 4) sc__law_dump.nd rfl (by first | exact Or.inl rfl | exact Or.inr rfl)) (fun _ _ _ _ _ => pts_nil) (fun _ _ _ _ _ => pe_callTy call_strA (by rfl) T.b_str (by decide +kernel) (pa_cons (pv 4) (pa_nil)))))) (pss_cons (ps_set (i := 3) sc__law_dump.nd rfl (by first | exact Or.inl rfl | exact Or.inr rfl) (pe_joinA (pe_str) (pe_lc (own := [("node", 5)]) (g := gName 5) (tt := tB (tOp (rIx K) (tOp (rIx K) (tVar 0) (tC (.int 3))) (tVar 5))) (te := tCB rStrA (tCons (tVar 5) (tNil))) rfl sc__law_dump.nd (pi_range1 rfl T.b_range (pa_cons (pe_op op_addA (pe_ix ix_seq (pv 0) (pe_int) (fun _ _ => rfl)) (pe_int)) (pa_nil))) (blkOk_by (own := [("node", 5)]) (N := ["book", "rights", "lefts", "outs", "link", "node"]) (sc := defScope s__law_dump) (by decide +kernel)) (fun _ _ _ _ _ => pg_name (i := 5) sc__law_dump.nd rfl (by first | exact Or.inl rfl | exact Or.inr rfl)) (fun _ _ _ _ _ => pts_one (pt_val (pe_ix ix_seq (pe_ix ix_seq (pv 0) (pe_int) (fun _ _ => rfl)) (pv 5) (fun _ _ => rfl)))) (fun _ _ _ _ _ => pe_callTy call_strA (by rfl) T.b_str (by decide +kernel) (pa_cons (pv 5) (pa_nil)))))) (pss_cons (ps_if (pt_cmpR (op_eqA hr) (pv 3) (pe_str) (nomark _)) (pss_one (ps_set (i := 3) sc__law_dump.nd rfl (by first | exact Or.inl rfl | exact Or.inr rfl) (pe_str))) (pss_nil)) (pss_one (ps_ret (pe_op op_addA (pe_op op_addA (pe_op op_addA (pe_op op_addA (pv 1) (pe_str)) (pv 2)) (pe_str)) (pv 3))))))), rd__law_dump T vs H Q E h⟩
theorem ok__law_is_whole {f : Addr} {fd : FuncData} (T : Txt K mg) (F : FunD K "_law_is_whole" "_law_is_whole" (defArgs s__law_is_whole) (defBody s__law_is_whole) (defScope s__law_is_whole) [] [] f fd)  : FnOk P w K mg base (L2N.CX P w) 1 f fd ["book"] (sp16__law_is_whole K) :=
  F.ok sc__law_is_whole (len__law_is_whole K) fun cdv A outer s H vs Q E hr h => ⟨t__law_is_whole K E, pss_cons (ps_for (passes_of rfl) rfl (pi_range1 rfl T.b_range (pa_cons (pe_op op_addA (pe_ix ix_seq (pv 0) (pe_int) (fun _ _ => rfl)) (pe_int)) (pa_nil))) (pg_name (i := 1) sc__law_is_whole.nd rfl (by first | exact Or.inl rfl | exact Or.inr rfl)) (pss_one (ps_if ((pw_or (pt_cmpR (op_neA hr) (pe_ix ix_seq (pe_ix ix_seq (pv 0) (pe_int) (fun _ _ => rfl)) (pv 1) (fun _ _ => rfl)) (pe_op op_addA (pv 1) (pe_int)) (nomark _)) (pw_or (pt_cmpR (op_neA hr) (pe_ix ix_seq (pe_ix ix_seq (pv 0) (pe_int) (fun _ _ => rfl)) (pe_op op_addA (pv 1) (pe_int)) (fun _ _ => rfl)) (pv 1) (nomark _)) (pw_or1 (pt_val (pe_ix ix_seq (pe_ix ix_seq (pv 0) (pe_int) (fun _ _ => rfl)) (pv 1) (fun _ _ => rfl)))))).pt) (pss_one (ps_ret (pe_bl))) (pss_nil)))) (pss_one (ps_ret (pe_bl))), rd__law_is_whole T vs H Q E h⟩
theorem ok__law_operation {f : Addr} {fd : FuncData} (T : Txt K mg) (F : FunD K "_law_operation" "_law_operation" (defArgs s__law_operation) (defBody s__law_operation) (defScope s__law_operation) [] [] f fd)  : FnOk P w K mg base (L2N.CX P w) 1 f fd ["book", "node"] (sp__law_operation K) :=
  F.ok sc__law_operation (len__law_operation K) fun cdv A outer s H vs Q E hr h => ⟨t__law_operation K E, pss_cons (ps_if (pt_val (pe_ix ix_seq (pe_ix ix_seq (pv 0) (pe_int) (fun _ _ => rfl)) (pv 1) (fun _ _ => rfl))) (pss_one (ps_ret (pv 1))) (pss_nil)) (pss_one (ps_ret (pe_un un_neg (pv 1)))), rd__law_operation T vs H Q E h⟩
theorem ok__law_step {f : Addr} {fd : FuncData} (T : Txt K mg) (F : FunD K "_law_step" "_law_step" (defArgs s__law_step) (defBody s__law_step) (defScope s__law_step) [] [] f fd)  : FnOk P w K mg base (L2N.CX P w) 1 f fd ["book", "node"] (sp18__law_step K) :=
  F.ok sc__law_step (len__law_step K) fun cdv A outer s H vs Q E hr h => ⟨t__law_step K E, pss_cons (ps_set (i := 2) sc__law_step.nd rfl (by first | exact Or.inl rfl | exact Or.inr rfl) (pe_ix ix_seq (pv 0) (pe_int) (fun _ _ => rfl))) (pss_cons (ps_set (i := 3) sc__law_step.nd rfl (by first | exact Or.inl rfl | exact Or.inr rfl) (pe_ix ix_seq (pv 0) (pe_int) (fun _ _ => rfl))) (pss_cons (ps_set (i := 4) sc__law_step.nd rfl (by first | exact Or.inl rfl | exact Or.inr rfl) (pe_ix ix_seq (pv 0) (pe_int) (fun _ _ => rfl))) (pss_cons (ps_set (i := 5) sc__law_step.nd rfl (by first | exact Or.inl rfl | exact Or.inr rfl) (pe_ix ix_seq (pv 2) (pv 1) (fun _ _ => rfl))) (pss_cons (ps_set (i := 6) sc__law_step.nd rfl (by first | exact Or.inl rfl | exact Or.inr rfl) (pe_ix ix_seq (pv 3) (pv 1) (fun _ _ => rfl))) (pss_cons (ps_if (pt_val (pe_ix ix_seq (pv 4) (pv 1) (fun _ _ => rfl))) (pss_cons (ps_asg (pv 1) (pg_sub (pv 3) (pv 5) set_list)) (pss_one (ps_asg (pv 1) (pg_sub (pv 2) (pv 6) set_list)))) (pss_cons (ps_asg (pv 6) (pg_sub (pv 3) (pv 5) set_list)) (pss_one (ps_asg (pv 5) (pg_sub (pv 2) (pv 6) set_list))))) (pss_one (ps_asg (pe_not (pe_ix ix_seq (pv 4) (pv 1) (fun _ _ => rfl))) (pg_sub (pv 4) (pv 1) set_list)))))))), rd__law_step T vs H Q E h⟩
theorem ok__law_ends_whole {f : Addr} {fd : FuncData} (T : Txt K mg) (F : FunD K "_law_ends_whole" "_law_ends_whole" (defArgs s__law_ends_whole) (defBody s__law_ends_whole) (defScope s__law_ends_whole) [] [] f fd) (c__law_copy : Cal P w K mg base 1 "_law_copy" ["book"] (sp18__law_copy K)) (c__law_is_whole : Cal P w K mg base 1 "_law_is_whole" ["book"] (sp16__law_is_whole K)) (c__law_operation : Cal P w K mg base 1 "_law_operation" ["book", "node"] (sp__law_operation K)) (c__law_step : Cal P w K mg base 1 "_law_step" ["book", "node"] (sp18__law_step K)) : FnOk P w K mg base (L2N.CX P w) 2 f fd ["start", "moves"] (sp18__law_ends_whole K) :=
  F.ok sc__law_ends_whole (len__law_ends_whole K) fun cdv A outer s H vs Q E hr h => ⟨t__law_ends_whole K E, pss_cons (ps_set (i := 2) sc__law_ends_whole.nd rfl (by first | exact Or.inl rfl | exact Or.inr rfl) (pe_cl c__law_copy hr (by decide) (pat_of (W := fun cls d _ H => E cls d H) (L2N.takes_of rfl rfl rfl rfl)) (pa_cons (pv 0) (pa_nil)))) (pss_cons (ps_for (passes_of rfl) rfl (pi_list (pv 1)) (pg_name (i := 3) sc__law_ends_whole.nd rfl (by first | exact Or.inl rfl | exact Or.inr rfl)) (pss_cons (ps_set (i := 4) sc__law_ends_whole.nd rfl (by first | exact Or.inl rfl | exact Or.inr rfl) (pe_callB call_absA (by rfl) T.b_abs (by decide +kernel) (pa_cons (pv 3) (pa_nil)))) (pss_cons (ps_if ((pw_or (pt_not (pt_chain op_le op_le (pe_int) (pv 4) (pe_ix ix_seq (pv 2) (pe_int) (fun _ _ => rfl)))) (pw_or1 (pt_cmpR (op_neA hr) (pv 3) (pe_cl c__law_operation hr (by decide) (pat_of (W := fun cls d _ H => E cls d H) (L2N.takes_of rfl rfl rfl rfl)) (pa_cons (pv 2) (pa_cons (pv 4) (pa_nil)))) (nomark _)))).pt) (pss_one (ps_ret (pe_bl))) (pss_nil)) (pss_one (ps_expr (pe_cl c__law_step hr (by decide) (pat_of (W := fun cls d _ H => E cls d H) (L2N.takes_of rfl rfl rfl rfl)) (pa_cons (pv 2) (pa_cons (pv 4) (pa_nil))))))))) (pss_one (ps_ret (pe_cl c__law_is_whole hr (by decide) (pat_of (W := fun cls d _ H => E cls d H) (L2N.takes_of rfl rfl rfl rfl)) (pa_cons (pv 2) (pa_nil)))))), rd__law_ends_whole T vs H Q E h⟩
theorem ok__law_is_due {f : Addr} {fd : FuncData} (T : Txt K mg) (F : FunD K "_law_is_due" "_law_is_due" (defArgs s__law_is_due) (defBody s__law_is_due) (defScope s__law_is_due) [] [] f fd)  : FnOk P w K mg base (L2N.CX P w) 1 f fd ["book", "node"] (sp16__law_is_due K) :=
  F.ok sc__law_is_due (len__law_is_due K) fun cdv A outer s H vs Q E hr h => ⟨t__law_is_due K E, pss_cons (ps_if (pt_val (pe_ix ix_seq (pe_ix ix_seq (pv 0) (pe_int) (fun _ _ => rfl)) (pv 1) (fun _ _ => rfl))) (pss_one (ps_ret (pe_bl))) (pss_nil)) (pss_cons (ps_if ((pw_and (pt_cmpR (op_eqA hr) (pe_ix ix_seq (pe_ix ix_seq (pv 0) (pe_int) (fun _ _ => rfl)) (pv 1) (fun _ _ => rfl)) (pe_op op_sub (pv 1) (pe_int)) (nomark _)) (pw_and1 (pt_cmpR (op_neA hr) (pe_ix ix_seq (pe_ix ix_seq (pv 0) (pe_int) (fun _ _ => rfl)) (pe_op op_sub (pv 1) (pe_int)) (fun _ _ => rfl)) (pv 1) (nomark _)))).pt) (pss_one (ps_ret (pe_bl))) (pss_nil)) (pss_one (ps_ret (pe_and (pe_cmpR (op_eqA hr) (pe_ix ix_seq (pe_ix ix_seq (pv 0) (pe_int) (fun _ _ => rfl)) (pv 1) (fun _ _ => rfl)) (pe_op op_addA (pv 1) (pe_int)) (nomark _)) (pe_one (pe_cmpR (op_neA hr) (pe_ix ix_seq (pe_ix ix_seq (pv 0) (pe_int) (fun _ _ => rfl)) (pe_op op_addA (pv 1) (pe_int)) (fun _ _ => rfl)) (pv 1) (nomark _))))))), rd__law_is_due T vs H Q E h⟩
theorem ok__law_due {f : Addr} {fd : FuncData} (T : Txt K mg) (F : FunD K "_law_due" "_law_due" (defArgs s__law_due) (defBody s__law_due) (defScope s__law_due) [] [] f fd) (c__law_is_due : Cal P w K mg base 1 "_law_is_due" ["book", "node"] (sp16__law_is_due K)) : FnOk P w K mg base (L2N.CX P w) 2 f fd ["book"] (sp16__law_due K) :=
  F.ok sc__law_due (len__law_due K) fun cdv A outer s H vs Q E hr h => ⟨t__law_due K E, pss_one (ps_ret (pe_lc (own := [("node", 1)]) (g := gName 1) (tt := tB (tCl (sp16__law_is_due K) (fun _ => E0) (tCons (tVar 0) (tCons (tVar 1) (tNil))))) (te := tVar 1) rfl sc__law_due.nd (pi_range2 rfl T.b_range (pa_cons (pe_int) (pa_cons (pe_op op_addA (pe_ix ix_seq (pv 0) (pe_int) (fun _ _ => rfl)) (pe_int)) (pa_nil)))) (blkOk_by (own := [("node", 1)]) (N := ["book", "node"]) (sc := defScope s__law_due) (by decide +kernel)) (fun _ _ _ _ _ => pg_name (i := 1) sc__law_due.nd rfl (by first | exact Or.inl rfl | exact Or.inr rfl)) (fun _ _ _ _ _ => pts_one (pt_val (pe_cl c__law_is_due hr (by decide) (pat_no) (pa_cons (pv 0) (pa_cons (pv 1) (pa_nil)))))) (fun _ _ _ _ _ => pv 1))), rd__law_due T vs H Q E h⟩
theorem ok__law_owed {f : Addr} {fd : FuncData} (T : Txt K mg) (F : FunD K "_law_owed" "_law_owed" (defArgs s__law_owed) (defBody s__law_owed) (defScope s__law_owed) [] [] f fd) (c__law_due : Cal P w K mg base 2 "_law_due" ["book"] (sp16__law_due K)) : FnOk P w K mg base (L2N.CX P w) 3 f fd ["book"] (sp16__law_owed K) :=
  F.ok sc__law_owed (len__law_owed K) fun cdv A outer s H vs Q E hr h => ⟨t__law_owed K E, pss_one (ps_ret (pe_callB (cr_sum rfl) (by rfl) T.b_sum (by decide +kernel) (pa_cons (pe_lc (own := [("node", 1)]) (g := gName 1) (tt := tYes) (te := tIf (tB (tOp (rIx K) (tOp (rIx K) (tVar 0) (tC (.int 3))) (tVar 1))) (tC (.int 1)) (tC (.int 2))) rfl sc__law_owed.nd (pi_list (pe_cl c__law_due hr (by decide) (pat_of (W := fun cls d _ H => E cls d H) (L2N.takes_of rfl rfl rfl rfl)) (pa_cons (pv 0) (pa_nil)))) (blkOk_by (own := [("node", 1)]) (N := ["book", "node"]) (sc := defScope s__law_owed) (by decide +kernel)) (fun _ _ _ _ _ => pg_name (i := 1) sc__law_owed.nd rfl (by first | exact Or.inl rfl | exact Or.inr rfl)) (fun _ _ _ _ _ => pts_nil) (fun _ _ _ _ _ => pe_ifExp (pt_val (pe_ix ix_seq (pe_ix ix_seq (pv 0) (pe_int) (fun _ _ => rfl)) (pv 1) (fun _ _ => rfl))) (pe_int) (pe_int))) (pa_nil)))), rd__law_owed T vs H Q E h⟩
theorem ok_Links_is_out {f : Addr} {fd : FuncData} (T : Txt K mg) (F : FunD K "is_out" "Links.is_out" (defArgs s_Links_is_out) (defBody s_Links_is_out) (defScope s_Links_is_out) [] [] f fd) (x_BadNode : ExM P w K mg base 1 "BadNode" (He.ga K "BadNode") ["node"]) : FnOk P w K mg base (L2N.CX P w) 3 f fd ["self", "node"] (sp03_Links_is_out K) :=
  F.ok sc_Links_is_out (len_Links_is_out K) fun cdv A outer s H vs Q E hr h => ⟨t_Links_is_out K E, pss_cons (ps_if (pt_not (pt_chain op_le op_le (pe_int) (pv 1) (pe_op op_addA (pe_fld (pv 0) rfl) (pe_int)))) (pss_one (ps_rz x_BadNode rfl (L2N.takes_of rfl rfl rfl rfl) hr (by decide) (pa_cons (pv 1) (pa_nil)))) (pss_nil)) (pss_one (ps_ret (pe_ix ix_seq (pe_fld (pv 0) rfl) (pv 1) (fun _ _ => rfl)))), rd_Links_is_out T vs H Q E h⟩
theorem ok_Links_left {f : Addr} {fd : FuncData} (T : Txt K mg) (F : FunD K "left" "Links.left" (defArgs s_Links_left) (defBody s_Links_left) (defScope s_Links_left) [] [] f fd) (x_BadNode : ExM P w K mg base 1 "BadNode" (He.ga K "BadNode") ["node"]) : FnOk P w K mg base (L2N.CX P w) 3 f fd ["self", "node"] (sp_Links_left K) :=
  F.ok sc_Links_left (len_Links_left K) fun cdv A outer s H vs Q E hr h => ⟨t_Links_left K E, pss_cons (ps_if (pt_not (pt_chain op_le op_le (pe_int) (pv 1) (pe_op op_addA (pe_fld (pv 0) rfl) (pe_int)))) (pss_one (ps_rz x_BadNode rfl (L2N.takes_of rfl rfl rfl rfl) hr (by decide) (pa_cons (pv 1) (pa_nil)))) (pss_nil)) (pss_one (ps_ret (pe_ix ix_seq (pe_fld (pv 0) rfl) (pv 1) (fun _ _ => rfl)))), rd_Links_left T vs H Q E h⟩
theorem ok_Links_right {f : Addr} {fd : FuncData} (T : Txt K mg) (F : FunD K "right" "Links.right" (defArgs s_Links_right) (defBody s_Links_right) (defScope s_Links_right) [] [] f fd) (x_BadNode : ExM P w K mg base 1 "BadNode" (He.ga K "BadNode") ["node"]) : FnOk P w K mg base (L2N.CX P w) 3 f fd ["self", "node"] (sp_Links_right K) :=
  F.ok sc_Links_right (len_Links_right K) fun cdv A outer s H vs Q E hr h => ⟨t_Links_right K E, pss_cons (ps_if (pt_not (pt_chain op_le op_le (pe_int) (pv 1) (pe_fld (pv 0) rfl))) (pss_one (ps_rz x_BadNode rfl (L2N.takes_of rfl rfl rfl rfl) hr (by decide) (pa_cons (pv 1) (pa_nil)))) (pss_nil)) (pss_one (ps_ret (pe_ix ix_seq (pe_fld (pv 0) rfl) (pv 1) (fun _ _ => rfl)))), rd_Links_right T vs H Q E h⟩
theorem ok_check_gap {f : Addr} {fd : FuncData} (T : Txt K mg) (F : FunD K "check_gap" "check_gap" (defArgs s_check_gap) (defBody s_check_gap) (defScope s_check_gap) [] [] f fd) (x_BadGap : ExM P w K mg base 1 "BadGap" (He.ga K "BadGap") ["gap"]) : FnOk P w K mg base (L2N.CX P w) 3 f fd ["size", "gap"] (sp_check_gap K) :=
  F.ok sc_check_gap (len_check_gap K) fun cdv A outer s H vs Q E hr h => ⟨t_check_gap K E, pss_one (ps_if (pt_not (pt_chain op_le op_le (pe_int) (pv 1) (pv 0))) (pss_one (ps_rz x_BadGap rfl (L2N.takes_of rfl rfl rfl rfl) hr (by decide) (pa_cons (pv 1) (pa_nil)))) (pss_nil)), rd_check_gap T vs H Q E h⟩
theorem ok_gap_state {f : Addr} {fd : FuncData} (T : Txt K mg) (F : FunD K "gap_state" "gap_state" (defArgs s_gap_state) (defBody s_gap_state) (defScope s_gap_state) [] [] f fd) (c_Links_left : Met P w K mg base 3 (He.ga K "Links") "left" ["self", "node"] (sp_Links_left K)) (c_Links_right : Met P w K mg base 3 (He.ga K "Links") "right" ["self", "node"] (sp_Links_right K)) (c_check_gap : Cal P w K mg base 3 "check_gap" ["size", "gap"] (sp_check_gap K)) : FnOk P w K mg base (L2N.CX P w) 4 f fd ["links", "gap"] (sp_gap_state K) :=
  F.ok sc_gap_state (len_gap_state K) fun cdv A outer s H vs Q E hr h => ⟨t_gap_state K E, pss_cons (ps_expr (pe_cl c_check_gap hr (by decide) (pat_of (W := fun cls d _ H => E cls d H) (L2N.takes_of rfl rfl rfl rfl)) (pa_cons (pe_fld (pv 0) rfl) (pa_cons (pv 1) (pa_nil))))) (pss_cons (ps_set (i := 2) sc_gap_state.nd rfl (by first | exact Or.inl rfl | exact Or.inr rfl) (pe_cmpR (op_eqA hr) (pe_mt c_Links_right T.cl_Links hr (by decide) (pat_of (W := fun cls d _ H => E cls d H) (L2N.takes_of rfl rfl rfl rfl)) (pv 0) (pa_cons (pv 1) (pa_nil))) (pe_op op_addA (pv 1) (pe_int)) (nomark _))) (pss_cons (ps_set (i := 3) sc_gap_state.nd rfl (by first | exact Or.inl rfl | exact Or.inr rfl) (pe_cmpR (op_eqA hr) (pe_mt c_Links_left T.cl_Links hr (by decide) (pat_of (W := fun cls d _ H => E cls d H) (L2N.takes_of rfl rfl rfl rfl)) (pv 0) (pa_cons (pe_op op_addA (pv 1) (pe_int)) (pa_nil))) (pv 1) (nomark _))) (pss_cons (ps_if (pt_val (pv 2)) (pss_one (ps_ret (pe_ifExp (pt_val (pv 3)) (pe_str) (pe_str)))) (pss_nil)) (pss_one (ps_ret (pe_ifExp (pt_val (pv 3)) (pe_str) (pe_str))))))), rd_gap_state T vs H Q E h⟩
theorem ok_gap_states {f : Addr} {fd : FuncData} (T : Txt K mg) (F : FunD K "gap_states" "gap_states" (defArgs s_gap_states) (defBody s_gap_states) (defScope s_gap_states) [] [] f fd) (c_gap_state : Cal P w K mg base 4 "gap_state" ["links", "gap"] (sp_gap_state K)) : FnOk P w K mg base (L2N.CX P w) 5 f fd ["links"] (sp_gap_states K) :=
  F.ok sc_gap_states (len_gap_states K) fun cdv A outer s H vs Q E hr h => ⟨t_gap_states K E, pss_one (ps_ret (pe_lc (own := [("gap", 1)]) (g := gName 1) (tt := tYes) (te := tCl (sp_gap_state K) (fun _ => E0) (tCons (tVar 0) (tCons (tVar 1) (tNil)))) rfl sc_gap_states.nd (pi_range1 rfl T.b_range (pa_cons (pe_op op_addA (pe_fld (pv 0) rfl) (pe_int)) (pa_nil))) (blkOk_by (own := [("gap", 1)]) (N := ["links", "gap"]) (sc := defScope s_gap_states) (by decide +kernel)) (fun _ _ _ _ _ => pg_name (i := 1) sc_gap_states.nd rfl (by first | exact Or.inl rfl | exact Or.inr rfl)) (fun _ _ _ _ _ => pts_nil) (fun _ _ _ _ _ => pe_cl c_gap_state hr (by decide) (pat_no) (pa_cons (pv 0) (pa_cons (pv 1) (pa_nil)))))), rd_gap_states T vs H Q E h⟩
theorem ok_lost_gaps {f : Addr} {fd : FuncData} (T : Txt K mg) (F : FunD K "lost_gaps" "lost_gaps" (defArgs s_lost_gaps) (defBody s_lost_gaps) (defScope s_lost_gaps) [] [] f fd) (c_gap_states : Cal P w K mg base 5 "gap_states" ["links"] (sp_gap_states K)) : FnOk P w K mg base (L2N.CX P w) 6 f fd ["links"] (sp_lost_gaps K) :=
  F.ok sc_lost_gaps (len_lost_gaps K) fun cdv A outer s H vs Q E hr h => ⟨t_lost_gaps K E, pss_one (ps_ret (pe_lc (own := [("gap", 1), ("state", 2)]) (g := gTup K 2 (gCons (gName 1) (gCons (gName 2) (gNil)))) (tt := tTest (tOp (rEqA K) (tVar 2) (tC (.str "lost")))) (te := tVar 1) rfl sc_lost_gaps.nd (pi_enum (by rfl) T.b_enumerate (pa_cons (pe_cl c_gap_states hr (by decide) (pat_of (W := fun cls d _ H => E cls d H) (L2N.takes_of rfl rfl rfl rfl)) (pa_cons (pv 0) (pa_nil))) (pa_nil))) (blkOk_by (own := [("gap", 1), ("state", 2)]) (N := ["links", "gap", "state"]) (sc := defScope s_lost_gaps) (by decide +kernel)) (fun _ _ _ _ _ => pg_tup (by rfl) (pgs_cons (pg_name (i := 1) sc_lost_gaps.nd rfl (by first | exact Or.inl rfl | exact Or.inr rfl)) (pgs_cons (pg_name (i := 2) sc_lost_gaps.nd rfl (by first | exact Or.inl rfl | exact Or.inr rfl)) (pgs_nil)))) (fun _ _ _ _ _ => pts_one (pt_cmpR (op_eqA hr) (pv 2) (pe_str) (nomark _))) (fun _ _ _ _ _ => pv 1))), rd_lost_gaps T vs H Q E h⟩
theorem ok_check_repairable {f : Addr} {fd : FuncData} (T : Txt K mg) (F : FunD K "check_repairable" "check_repairable" (defArgs s_check_repairable) (defBody s_check_repairable) (defScope s_check_repairable) [] [] f fd) (c_lost_gaps : Cal P w K mg base 6 "lost_gaps" ["links"] (sp_lost_gaps K)) (x_NotRepairable : ExM P w K mg base 1 "NotRepairable" (He.ga K "NotRepairable") ["gap"]) : FnOk P w K mg base (L2N.CX P w) 7 f fd ["links"] (sp16_check_repairable K) :=
  F.ok sc_check_repairable (len_check_repairable K) fun cdv A outer s H vs Q E hr h => ⟨t_check_repairable K E, pss_cons (ps_set (i := 1) sc_check_repairable.nd rfl (by first | exact Or.inl rfl | exact Or.inr rfl) (pe_cl c_lost_gaps hr (by decide) (pat_of (W := fun cls d _ H => E cls d H) (L2N.takes_of rfl rfl rfl rfl)) (pa_cons (pv 0) (pa_nil)))) (pss_one (ps_if (pt_tr (pv 1) (by intro _; rfl)) (pss_one (ps_rz x_NotRepairable rfl (L2N.takes_of rfl rfl rfl rfl) hr (by decide) (pa_cons (pe_ix ix_seq (pv 1) (pe_int) (fun _ _ => rfl)) (pa_nil)))) (pss_nil))), rd_check_repairable T vs H Q E h⟩
theorem ok_Links_outs {f : Addr} {fd : FuncData} (T : Txt K mg) (F : FunD K "outs" "Links.outs" (defArgs s_Links_outs) (defBody s_Links_outs) (defScope s_Links_outs) [] [] f fd)  : FnOk P w K mg base (L2N.CX P w) 1 f fd ["self"] (sp_Links_outs K) :=
  F.ok sc_Links_outs (len_Links_outs K) fun cdv A outer s H vs Q E hr h => ⟨t_Links_outs K E, pss_one (ps_ret (pe_lc (own := [("node", 1)]) (g := gName 1) (tt := tB (tOp (rIx K) (tFld K (tVar 0) "_out") (tVar 1))) (te := tVar 1) rfl sc_Links_outs.nd (pi_range2 rfl T.b_range (pa_cons (pe_int) (pa_cons (pe_op op_addA (pe_fld (pv 0) rfl) (pe_int)) (pa_nil)))) (blkOk_by (own := [("node", 1)]) (N := ["self", "node"]) (sc := defScope s_Links_outs) (by decide +kernel)) (fun _ _ _ _ _ => pg_name (i := 1) sc_Links_outs.nd rfl (by first | exact Or.inl rfl | exact Or.inr rfl)) (fun _ _ _ _ _ => pts_one (pt_val (pe_ix ix_seq (pe_fld (pv 0) rfl) (pv 1) (fun _ _ => rfl)))) (fun _ _ _ _ _ => pv 1))), rd_Links_outs T vs H Q E h⟩
theorem ok_sole_holders {f : Addr} {fd : FuncData} (T : Txt K mg) (F : FunD K "sole_holders" "sole_holders" (defArgs s_sole_holders) (defBody s_sole_holders) (defScope s_sole_holders) [] [] f fd) (c_gap_states : Cal P w K mg base 5 "gap_states" ["links"] (sp_gap_states K)) : FnOk P w K mg base (L2N.CX P w) 6 f fd ["links"] (sp_sole_holders K) :=
  F.ok sc_sole_holders (len_sole_holders K) fun cdv A outer s H vs Q E hr h => ⟨t_sole_holders K w E, pss_cons (ps_set (i := 1) sc_sole_holders.nd rfl (by first | exact Or.inl rfl | exact Or.inr rfl) (pe_callTy0 cr_set0 (by rfl) T.b_set (by decide +kernel))) (pss_cons (ps_for (passes_of rfl) rfl (pi_enum (by rfl) T.b_enumerate (pa_cons (pe_cl c_gap_states hr (by decide) (pat_of (W := fun cls d _ H => E cls d H) (L2N.takes_of rfl rfl rfl rfl)) (pa_cons (pv 0) (pa_nil))) (pa_nil))) (pg_tup (by rfl) (pgs_cons (pg_name (i := 2) sc_sole_holders.nd rfl (by first | exact Or.inl rfl | exact Or.inr rfl)) (pgs_cons (pg_name (i := 3) sc_sole_holders.nd rfl (by first | exact Or.inl rfl | exact Or.inr rfl)) (pgs_nil)))) (pss_one (ps_if (pt_cmpR op_in_seq (pv 3) (pe_tup (pa_cons (pe_str) (pa_cons (pe_str) (pa_nil)))) (rfl)) (pss_one (ps_expr (pe_sadd (pv 1) (pa_cons (pe_ifExp (pt_cmpR (op_eqA hr) (pv 3) (pe_str) (nomark _)) (pv 2) (pe_op op_addA (pv 2) (pe_int))) (pa_nil))))) (pss_nil)))) (pss_one (ps_ret (pe_callB (cr_sortedSet rfl) (by rfl) T.b_sorted (by decide +kernel) (pa_cons (pv 1) (pa_nil)))))), rd_sole_holders w T vs H Q E h⟩
theorem ok_due_nodes {f : Addr} {fd : FuncData} (T : Txt K mg) (F : FunD K "due_nodes" "due_nodes" (defArgs s_due_nodes) (defBody s_due_nodes) (defScope s_due_nodes) [] [] f fd) (c_Links_outs : Met P w K mg base 1 (He.ga K "Links") "outs" ["self"] (sp_Links_outs K)) (c_sole_holders : Cal P w K mg base 6 "sole_holders" ["links"] (sp_sole_holders K)) : FnOk P w K mg base (L2N.CX P w) 7 f fd ["links"] (sp16_due_nodes K) :=
  F.ok sc_due_nodes (len_due_nodes K) fun cdv A outer s H vs Q E hr h => ⟨t_due_nodes K w E, pss_one (ps_ret (pe_callB (cr_sortedSet rfl) (by rfl) T.b_sorted (by decide +kernel) (pa_cons (pe_op op_orS (pe_callTy (cr_setOfL rfl) (by rfl) T.b_set (by decide +kernel) (pa_cons (pe_mt0 c_Links_outs T.cl_Links hr (by decide) (pat_of (W := fun cls d _ H => E cls d H) (L2N.takes_of rfl rfl rfl rfl)) (pv 0)) (pa_nil))) (pe_callTy (cr_setOfL rfl) (by rfl) T.b_set (by decide +kernel) (pa_cons (pe_cl c_sole_holders hr (by decide) (pat_of (W := fun cls d _ H => E cls d H) (L2N.takes_of rfl rfl rfl rfl)) (pa_cons (pv 0) (pa_nil))) (pa_nil)))) (pa_nil)))), rd_due_nodes w T vs H Q E h⟩
theorem ok_repair_cost {f : Addr} {fd : FuncData} (T : Txt K mg) (F : FunD K "repair_cost" "repair_cost" (defArgs s_repair_cost) (defBody s_repair_cost) (defScope s_repair_cost) [] [] f fd) (c_Links_is_out : Met P w K mg base 3 (He.ga K "Links") "is_out" ["self", "node"] (sp03_Links_is_out K)) (c_check_repairable : Cal P w K mg base 7 "check_repairable" ["links"] (sp16_check_repairable K)) (c_due_nodes : Cal P w K mg base 7 "due_nodes" ["links"] (sp16_due_nodes K)) (x_BadWeights : ExM P w K mg base 1 "BadWeights" (He.ga K "BadWeights") ["count"]) : FnOk P w K mg base (L2N.CX P w) 8 f fd ["links", "weights"] (sp16_repair_cost K) :=
  F.ok sc_repair_cost (len_repair_cost K) fun cdv A outer s H vs Q E hr h => ⟨t_repair_cost K E, pss_cons (ps_if ((pw_or (pt_cmpR (op_neA hr) (pe_callB call_lenA (by rfl) T.b_len (by decide +kernel) (pa_cons (pv 1) (pa_nil))) (pe_fld (pv 0) rfl) (nomark _)) (pw_or1 (pt_val (pe_callB (cr_any rfl) (by rfl) T.b_any (by decide +kernel) (pa_cons (pe_lc (own := [("weight", 2)]) (g := gName 2) (tt := tYes) (te := tOp rLtA (tVar 2) (tC (.int 0))) rfl sc_repair_cost.nd (pi_list (pv 1)) (blkOk_by (own := [("weight", 2)]) (N := ["links", "weights", "weight", "node"]) (sc := defScope s_repair_cost) (by decide +kernel)) (fun _ _ _ _ _ => pg_name (i := 2) sc_repair_cost.nd rfl (by first | exact Or.inl rfl | exact Or.inr rfl)) (fun _ _ _ _ _ => pts_nil) (fun _ _ _ _ _ => pe_cmpR op_lt (pv 2) (pe_int) (nomark _))) (pa_nil)))))).pt) (pss_one (ps_rz x_BadWeights rfl (L2N.takes_of rfl rfl rfl rfl) hr (by decide) (pa_cons (pe_callB call_lenA (by rfl) T.b_len (by decide +kernel) (pa_cons (pv 1) (pa_nil))) (pa_nil)))) (pss_nil)) (pss_cons (ps_expr (pe_cl c_check_repairable hr (by decide) (pat_of (W := fun cls d _ H => E cls d H) (L2N.takes_of rfl rfl rfl rfl)) (pa_cons (pv 0) (pa_nil)))) (pss_one (ps_ret (pe_callB (cr_sum rfl) (by rfl) T.b_sum (by decide +kernel) (pa_cons (pe_lc (own := [("node", 3)]) (g := gName 3) (tt := tYes) (te := tOp rMulA (tOp (rIx K) (tVar 1) (tOp rSubA (tVar 3) (tC (.int 1)))) (tIf (tB (tMt (He.ga K "Links") "is_out" (sp03_Links_is_out K) (fun _ => E0) (tVar 0) (tCons (tVar 3) (tNil)))) (tC (.int 1)) (tC (.int 2)))) rfl sc_repair_cost.nd (pi_list (pe_cl c_due_nodes hr (by decide) (pat_of (W := fun cls d _ H => E cls d H) (L2N.takes_of rfl rfl rfl rfl)) (pa_cons (pv 0) (pa_nil)))) (blkOk_by (own := [("node", 3)]) (N := ["links", "weights", "weight", "node"]) (sc := defScope s_repair_cost) (by decide +kernel)) (fun _ _ _ _ _ => pg_name (i := 3) sc_repair_cost.nd rfl (by first | exact Or.inl rfl | exact Or.inr rfl)) (fun _ _ _ _ _ => pts_nil) (fun _ _ _ _ _ => pe_op op_mulA (pe_ix ix_seq (pv 1) (pe_op op_sub (pv 3) (pe_int)) (fun _ _ => rfl)) (pe_ifExp (pt_val (pe_mt c_Links_is_out T.cl_Links hr (by decide) (pat_no) (pv 0) (pa_cons (pv 3) (pa_nil)))) (pe_int) (pe_int)))) (pa_nil)))))), rd_repair_cost T vs H Q E h⟩
theorem ok_debt_of {f : Addr} {fd : FuncData} (T : Txt K mg) (F : FunD K "debt_of" "debt_of" (defArgs s_debt_of) (defBody s_debt_of) (defScope s_debt_of) [] [] f fd) (c_repair_cost : Cal P w K mg base 8 "repair_cost" ["links", "weights"] (sp16_repair_cost K)) : FnOk P w K mg base (L2N.CX P w) 9 f fd ["links"] (sp16_debt_of K) :=
  F.ok sc_debt_of (len_debt_of K) fun cdv A outer s H vs Q E hr h => ⟨t_debt_of K E, pss_one (ps_ret (pe_cl c_repair_cost hr (by decide) (pat_of (W := fun cls d _ H => E cls d H) (L2N.takes_of rfl rfl rfl rfl)) (pa_cons (pv 0) (pa_cons (pe_op op_mulA (pe_lst (pa_cons (pe_int) (pa_nil))) (pe_fld (pv 0) rfl)) (pa_nil))))), rd_debt_of T vs H Q E h⟩
theorem ok_Links___eq__ {f : Addr} {fd : FuncData} (T : Txt K mg) (F : FunD K "__eq__" "Links.__eq__" (defArgs s_Links___eq__) (defBody s_Links___eq__) (defScope s_Links___eq__) [] [] f fd)  : FnOk P w K mg base (L2N.CX P w) 1 f fd ["self", "other"] (sp23_Links___eq__ K) :=
  F.ok sc_Links___eq__ (len_Links___eq__ K) fun cdv A outer s H vs Q E hr h => ⟨t_Links___eq__ K E, pss_one (ps_ret (pe_and (pe_callB call_isi (by rfl) T.b_isinstance (by decide +kernel) (pa_cons (pv 1) (pa_cons (pe_own T.g_Links) (pa_nil)))) (pe_and (pe_cmpR (op_eqA hr) (pe_fld (pv 0) rfl) (pe_fld (pv 1) rfl) (nomark _)) (pe_and (pe_cmpR (op_eqA hr) (pe_fld (pv 0) rfl) (pe_fld (pv 1) rfl) (nomark _)) (pe_one (pe_cmpR (op_eqA hr) (pe_fld (pv 0) rfl) (pe_fld (pv 1) rfl) (nomark _))))))), rd_Links___eq__ T vs H Q E h⟩
theorem ok_Links_is_whole {f : Addr} {fd : FuncData} (T : Txt K mg) (F : FunD K "is_whole" "Links.is_whole" (defArgs s_Links_is_whole) (defBody s_Links_is_whole) (defScope s_Links_is_whole) [] [] f fd) (c_Links___eq__ : Met P w K mg base 1 (He.ga K "Links") "__eq__" ["self", "other"] (sp23_Links___eq__ K)) (m_Links : Mak P w K mg base 4 "Links" (He.ga K "Links") ["self", "size"] (sp_Links___init__ K)) : FnOk P w K mg base (L2N.CX P w) 6 f fd ["self"] (sp23_Links_is_whole K) :=
  F.ok sc_Links_is_whole (len_Links_is_whole K) fun cdv A outer s H vs Q E hr h => ⟨t_Links_is_whole K E, pss_one (ps_ret (pe_cmpR (op_eqO (i := 0) c_Links___eq__ hr (by decide) (pat_of (W := fun cls d _ H => E cls d H) (L2N.takes_of rfl rfl rfl rfl))) (pv 0) (pe_mk m_Links hr (by decide) (pat_of (W := fun cls d _ H => E cls d H) (L2N.takes_of rfl rfl rfl rfl)) (pa_cons (pe_fld (pv 0) rfl) (pa_nil))) (nomark _))), rd_Links_is_whole T vs H Q E h⟩
theorem ok_Links_is_legal {f : Addr} {fd : FuncData} (T : Txt K mg) (F : FunD K "is_legal" "Links.is_legal" (defArgs s_Links_is_legal) (defBody s_Links_is_legal) (defScope s_Links_is_legal) [] [] f fd)  : FnOk P w K mg base (L2N.CX P w) 1 f fd ["self", "operation"] (sp_Links_is_legal K) :=
  F.ok sc_Links_is_legal (len_Links_is_legal K) fun cdv A outer s H vs Q E hr h => ⟨t_Links_is_legal K E, pss_one (ps_ret (pe_cmpR (op_eqA hr) (pe_ix ix_seq (pe_fld (pv 0) rfl) (pe_callB call_absA (by rfl) T.b_abs (by decide +kernel) (pa_cons (pv 1) (pa_nil))) (fun _ _ => rfl)) (pe_cmpR op_gt (pv 1) (pe_int) (nomark _)) (nomark _))), rd_Links_is_legal T vs H Q E h⟩
theorem ok_check_operation {f : Addr} {fd : FuncData} (T : Txt K mg) (F : FunD K "check_operation" "check_operation" (defArgs s_check_operation) (defBody s_check_operation) (defScope s_check_operation) [] [] f fd) (x_BadOperation : ExM P w K mg base 1 "BadOperation" (He.ga K "BadOperation") ["operation", "index"]) : FnOk P w K mg base (L2N.CX P w) 3 f fd ["size", "operation", "index"] (sp_check_operation K) :=
  F.ok sc_check_operation (len_check_operation K) fun cdv A outer s H vs Q E hr h => ⟨t_check_operation K E, pss_one (ps_if (pt_not (pt_chain op_le op_le (pe_int) (pe_callB call_absA (by rfl) T.b_abs (by decide +kernel) (pa_cons (pv 1) (pa_nil))) (pv 0))) (pss_one (ps_rz x_BadOperation rfl (L2N.takes_of rfl rfl rfl rfl) hr (by decide) (pa_cons (pv 1) (pa_cons (pv 2) (pa_nil))))) (pss_nil)), rd_check_operation T vs H Q E h⟩
theorem ok_Links_check {f : Addr} {fd : FuncData} (T : Txt K mg) (F : FunD K "check" "Links.check" (defArgs s_Links_check) (defBody s_Links_check) (defScope s_Links_check) [] [] f fd) (c_Links_is_legal : Met P w K mg base 1 (He.ga K "Links") "is_legal" ["self", "operation"] (sp_Links_is_legal K)) (c_check_operation : Cal P w K mg base 3 "check_operation" ["size", "operation", "index"] (sp_check_operation K)) (x_Illegal : ExM P w K mg base 1 "Illegal" (He.ga K "Illegal") ["operation", "index"]) : FnOk P w K mg base (L2N.CX P w) 4 f fd ["self", "operation", "index"] (sp_Links_check K) :=
  F.ok sc_Links_check (len_Links_check K) fun cdv A outer s H vs Q E hr h => ⟨t_Links_check K E, pss_cons (ps_expr (pe_cl c_check_operation hr (by decide) (pat_of (W := fun cls d _ H => E cls d H) (L2N.takes_of rfl rfl rfl rfl)) (pa_cons (pe_fld (pv 0) rfl) (pa_cons (pv 1) (pa_cons (pv 2) (pa_nil)))))) (pss_one (ps_if (pt_not (pt_val (pe_mt c_Links_is_legal T.cl_Links hr (by decide) (pat_of (W := fun cls d _ H => E cls d H) (L2N.takes_of rfl rfl rfl rfl)) (pv 0) (pa_cons (pv 1) (pa_nil))))) (pss_one (ps_rz x_Illegal rfl (L2N.takes_of rfl rfl rfl rfl) hr (by decide) (pa_cons (pv 1) (pa_cons (pv 2) (pa_nil))))) (pss_nil))), rd_Links_check T vs H Q E h⟩
theorem ok_Links_apply_at {f : Addr} {fd : FuncData} (T : Txt K mg) (F : FunD K "apply_at" "Links.apply_at" (defArgs s_Links_apply_at) (defBody s_Links_apply_at) (defScope s_Links_apply_at) [] [] f fd) (c_Links_check : Met P w K mg base 4 (He.ga K "Links") "check" ["self", "operation", "index"] (sp_Links_check K)) : FnOk P w K mg base (L2N.CX P w) 5 f fd ["self", "operation", "index"] (sp_Links_apply_at K) :=
  F.ok sc_Links_apply_at (len_Links_apply_at K) fun cdv A outer s H vs Q E hr h => ⟨t_Links_apply_at K E, pss_cons (ps_expr (pe_mt c_Links_check T.cl_Links hr (by decide) (pat_of (W := fun cls d _ H => E cls d H) (L2N.takes_of rfl rfl rfl rfl)) (pv 0) (pa_cons (pv 1) (pa_cons (pv 2) (pa_nil))))) (pss_cons (ps_set (i := 3) sc_Links_apply_at.nd rfl (by first | exact Or.inl rfl | exact Or.inr rfl) (pe_callB call_absA (by rfl) T.b_abs (by decide +kernel) (pa_cons (pv 1) (pa_nil)))) (pss_cons (ps_set (i := 4) sc_Links_apply_at.nd rfl (by first | exact Or.inl rfl | exact Or.inr rfl) (pe_ix ix_seq (pe_fld (pv 0) rfl) (pv 3) (fun _ _ => rfl))) (pss_cons (ps_set (i := 5) sc_Links_apply_at.nd rfl (by first | exact Or.inl rfl | exact Or.inr rfl) (pe_ix ix_seq (pe_fld (pv 0) rfl) (pv 3) (fun _ _ => rfl))) (pss_cons (ps_set (i := 6) sc_Links_apply_at.nd rfl (by first | exact Or.inl rfl | exact Or.inr rfl) (pe_cmpR op_lt (pv 1) (pe_int) (nomark _))) (pss_cons (ps_asg (pe_ifExp (pt_val (pv 6)) (pv 5) (pv 3)) (pg_sub (pe_fld (pv 0) rfl) (pv 4) set_list)) (pss_cons (ps_asg (pe_ifExp (pt_val (pv 6)) (pv 4) (pv 3)) (pg_sub (pe_fld (pv 0) rfl) (pv 5) set_list)) (pss_one (ps_asg (pv 6) (pg_sub (pe_fld (pv 0) rfl) (pv 3) set_list))))))))), rd_Links_apply_at T vs H Q E h⟩
theorem ok_Links_copy {f : Addr} {fd : FuncData} (T : Txt K mg) (F : FunD K "copy" "Links.copy" (defArgs s_Links_copy) (defBody s_Links_copy) (defScope s_Links_copy) [] [] f fd) (m_Links : Mak P w K mg base 4 "Links" (He.ga K "Links") ["self", "size"] (sp_Links___init__ K)) : FnOk P w K mg base (L2N.CX P w) 6 f fd ["self"] (sp_Links_copy K) :=
  F.ok sc_Links_copy (len_Links_copy K) fun cdv A outer s H vs Q E hr h => ⟨t_Links_copy K E, pss_cons (ps_set (i := 1) sc_Links_copy.nd rfl (by first | exact Or.inl rfl | exact Or.inr rfl) (pe_mk m_Links hr (by decide) (pat_of (W := fun cls d _ H => E cls d H) (L2N.takes_of rfl rfl rfl rfl)) (pa_cons (pe_fld (pv 0) rfl) (pa_nil)))) (pss_cons (ps_fld (pv 1) (pe_callTy call_listA (by rfl) T.b_list (by decide +kernel) (pa_cons (pe_fld (pv 0) rfl) (pa_nil))) rfl) (pss_cons (ps_fld (pv 1) (pe_callTy call_listA (by rfl) T.b_list (by decide +kernel) (pa_cons (pe_fld (pv 0) rfl) (pa_nil))) rfl) (pss_cons (ps_fld (pv 1) (pe_callTy call_listA (by rfl) T.b_list (by decide +kernel) (pa_cons (pe_fld (pv 0) rfl) (pa_nil))) rfl) (pss_one (ps_ret (pv 1)))))), rd_Links_copy T vs H Q E h⟩
theorem ok_play {f : Addr} {fd : FuncData} (T : Txt K mg) (F : FunD K "play" "play" (defArgs s_play) (defBody s_play) (defScope s_play) [] [] f fd) (c_Links_apply_at : Met P w K mg base 5 (He.ga K "Links") "apply_at" ["self", "operation", "index"] (sp_Links_apply_at K)) (c_Links_copy : Met P w K mg base 6 (He.ga K "Links") "copy" ["self"] (sp_Links_copy K)) : FnOk P w K mg base (L2N.CX P w) 7 f fd ["links", "log"] (sp_play K) :=
  F.ok sc_play (len_play K) fun cdv A outer s H vs Q E hr h => ⟨t_play K E, pss_cons (ps_set (i := 2) sc_play.nd rfl (by first | exact Or.inl rfl | exact Or.inr rfl) (pe_mt0 c_Links_copy T.cl_Links hr (by decide) (pat_of (W := fun cls d _ H => E cls d H) (L2N.takes_of rfl rfl rfl rfl)) (pv 0))) (pss_cons (ps_for (passes_of rfl) rfl (pi_enum (by rfl) T.b_enumerate (pa_cons (pv 1) (pa_nil))) (pg_tup (by rfl) (pgs_cons (pg_name (i := 3) sc_play.nd rfl (by first | exact Or.inl rfl | exact Or.inr rfl)) (pgs_cons (pg_name (i := 4) sc_play.nd rfl (by first | exact Or.inl rfl | exact Or.inr rfl)) (pgs_nil)))) (pss_one (ps_expr (pe_mt c_Links_apply_at T.cl_Links hr (by decide) (pat_of (W := fun cls d _ H => E cls d H) (L2N.takes_of rfl rfl rfl rfl)) (pv 2) (pa_cons (pv 4) (pa_cons (pv 3) (pa_nil))))))) (pss_one (ps_ret (pv 2)))), rd_play T vs H Q E h⟩
theorem ok_is_repair {f : Addr} {fd : FuncData} (T : Txt K mg) (F : FunD K "is_repair" "is_repair" (defArgs s_is_repair) (defBody s_is_repair) (defScope s_is_repair) [] [] f fd) (c_Links_is_whole : Met P w K mg base 6 (He.ga K "Links") "is_whole" ["self"] (sp23_Links_is_whole K)) (c_play : Cal P w K mg base 7 "play" ["links", "log"] (sp_play K)) : FnOk P w K mg base (L2N.CX P w) 8 f fd ["links", "log"] (sp48_is_repair K) :=
  F.ok sc_is_repair (len_is_repair K) fun cdv A outer s H vs Q E hr h => ⟨t_is_repair K E, pss_one (ps_try0 (tb := fun (W : WX) => tRet (tMt (He.ga K "Links") "is_whole" (sp23_Links_is_whole K) (WE W) (tCl (sp_play K) (WE W) (tCons (tVar 0) (tCons (tVar 1) (tNil)))) tNil)) (s1 := fun a cls d => tRet (tC (.bl false))) (Wo := fun cls d _ H => E cls d H) rfl rfl (L2N.takes_of rfl rfl rfl rfl) (fun W pn xe tk2 po2 => pss_one (ps_ret (pe_mt0 c_Links_is_whole T.cl_Links hr (by decide) (pat_of tk2) (pe_cl c_play hr (by decide) (pat_of tk2) (pa_cons (pv 0) (pa_cons (pv 1) (pa_nil))))))) ⟨⟨_, _, _, _, _, rfl, ⟨rfl, by decide, .inl T.g_LogError⟩, fun a oe cls d pn hz hf => pss_one (ps_ret (pe_bl))⟩⟩), rd_is_repair T vs H Q E h⟩
theorem ok_is_least_repair {f : Addr} {fd : FuncData} (T : Txt K mg) (F : FunD K "is_least_repair" "is_least_repair" (defArgs s_is_least_repair) (defBody s_is_least_repair) (defScope s_is_least_repair) [] [] f fd) (c_debt_of : Cal P w K mg base 9 "debt_of" ["links"] (sp16_debt_of K)) (c_is_repair : Cal P w K mg base 8 "is_repair" ["links", "log"] (sp48_is_repair K)) : FnOk P w K mg base (L2N.CX P w) 10 f fd ["links", "log"] (sp48_is_least_repair K) :=
  F.ok sc_is_least_repair (len_is_least_repair K) fun cdv A outer s H vs Q E hr h => ⟨t_is_least_repair K E, pss_one (ps_ret (pe_and (pe_cl c_is_repair hr (by decide) (pat_of (W := fun cls d _ H => E cls d H) (L2N.takes_of rfl rfl rfl rfl)) (pa_cons (pv 0) (pa_cons (pv 1) (pa_nil)))) (pe_one (pe_cmpR (op_eqA hr) (pe_callB call_lenA (by rfl) T.b_len (by decide +kernel) (pa_cons (pv 1) (pa_nil))) (pe_cl c_debt_of hr (by decide) (pat_of (W := fun cls d _ H => E cls d H) (L2N.takes_of rfl rfl rfl rfl)) (pa_cons (pv 0) (pa_nil))) (nomark _))))), rd_is_least_repair T vs H Q E h⟩
theorem ok__law_judged {f : Addr} {fd : FuncData} (T : Txt K mg) (F : FunD K "_law_judged" "_law_judged" (defArgs s__law_judged) (defBody s__law_judged) (defScope s__law_judged) [] [] f fd) (c_Links_read : Smt P w K mg base 6 (He.ga K "Links") "read" ["text"] (sp_Links_read K)) (c__law_copy : Cal P w K mg base 1 "_law_copy" ["book"] (sp18__law_copy K)) (c__law_dump : Cal P w K mg base 1 "_law_dump" ["book"] (sp16__law_dump K)) (c__law_ends_whole : Cal P w K mg base 2 "_law_ends_whole" ["start", "moves"] (sp18__law_ends_whole K)) (c__law_owed : Cal P w K mg base 3 "_law_owed" ["book"] (sp16__law_owed K)) (c__law_step : Cal P w K mg base 1 "_law_step" ["book", "node"] (sp18__law_step K)) (c_is_least_repair : Cal P w K mg base 10 "is_least_repair" ["links", "log"] (sp48_is_least_repair K)) (c_is_repair : Cal P w K mg base 8 "is_repair" ["links", "log"] (sp48_is_repair K)) (c_play : Cal P w K mg base 7 "play" ["links", "log"] (sp_play K)) : FnOk P w K mg base (L2N.CX P w) 11 f fd ["start", "moves", "place"] (sp18__law_judged K) :=
  F.ok sc__law_judged (len__law_judged K) fun cdv A outer s H vs Q E hr h => ⟨t__law_judged K E, pss_cons (ps_set (i := 3) sc__law_judged.nd rfl (by first | exact Or.inl rfl | exact Or.inr rfl) (pe_cl c__law_copy hr (by decide) (pat_of (W := fun cls d _ H => E cls d H) (L2N.takes_of rfl rfl rfl rfl)) (pa_cons (pv 0) (pa_nil)))) (pss_cons (ps_for (passes_of rfl) rfl (pi_list (pe_slice sl_list (pv 1) (po_none) (po_some (pv 2)))) (pg_name (i := 4) sc__law_judged.nd rfl (by first | exact Or.inl rfl | exact Or.inr rfl)) (pss_one (ps_expr (pe_cl c__law_step hr (by decide) (pat_of (W := fun cls d _ H => E cls d H) (L2N.takes_of rfl rfl rfl rfl)) (pa_cons (pv 3) (pa_cons (pe_callB call_absA (by rfl) T.b_abs (by decide +kernel) (pa_cons (pv 4) (pa_nil))) (pa_nil))))))) (pss_cons (ps_set (i := 5) sc__law_judged.nd rfl (by first | exact Or.inl rfl | exact Or.inr rfl) (pe_slice sl_list (pv 1) (po_some (pv 2)) (po_none))) (pss_cons (ps_set (i := 6) sc__law_judged.nd rfl (by first | exact Or.inl rfl | exact Or.inr rfl) (pe_cl c__law_ends_whole hr (by decide) (pat_of (W := fun cls d _ H => E cls d H) (L2N.takes_of rfl rfl rfl rfl)) (pa_cons (pv 3) (pa_cons (pv 5) (pa_nil))))) (pss_cons (ps_set (i := 7) sc__law_judged.nd rfl (by first | exact Or.inl rfl | exact Or.inr rfl) (pe_cl c_play hr (by decide) (pat_of (W := fun cls d _ H => E cls d H) (L2N.takes_of rfl rfl rfl rfl)) (pa_cons (pe_sm c_Links_read hr (by decide) (pat_of (W := fun cls d _ H => E cls d H) (L2N.takes_of rfl rfl rfl rfl)) (pe_own T.g_Links) (pa_cons (pe_cl c__law_dump hr (by decide) (pat_of (W := fun cls d _ H => E cls d H) (L2N.takes_of rfl rfl rfl rfl)) (pa_cons (pv 0) (pa_nil))) (pa_nil))) (pa_cons (pe_slice sl_list (pv 1) (po_none) (po_some (pv 2))) (pa_nil))))) (pss_cons (ps_set (i := 8) sc__law_judged.nd rfl (by first | exact Or.inl rfl | exact Or.inr rfl) (pe_cl c_is_repair hr (by decide) (pat_of (W := fun cls d _ H => E cls d H) (L2N.takes_of rfl rfl rfl rfl)) (pa_cons (pv 7) (pa_cons (pe_callTy call_listA (by rfl) T.b_list (by decide +kernel) (pa_cons (pv 5) (pa_nil))) (pa_nil))))) (pss_cons (ps_if ((pw_or (pt_not (pt_val (pe_callB call_isi (by rfl) T.b_isinstance (by decide +kernel) (pa_cons (pv 8) (pa_cons (pe_ty "bool" T.b_bool (by decide +kernel)) (pa_nil)))))) (pw_or1 (pt_cmpR (op_neA hr) (pv 8) (pv 6) (nomark _)))).pt) (pss_one (ps_ret (pe_bl))) (pss_nil)) (pss_cons (ps_set (i := 8) sc__law_judged.nd rfl (by first | exact Or.inl rfl | exact Or.inr rfl) (pe_cl c_is_least_repair hr (by decide) (pat_of (W := fun cls d _ H => E cls d H) (L2N.takes_of rfl rfl rfl rfl)) (pa_cons (pv 7) (pa_cons (pe_callTy call_listA (by rfl) T.b_list (by decide +kernel) (pa_cons (pv 5) (pa_nil))) (pa_nil))))) (pss_one (ps_ret (pe_and (pe_callB call_isi (by rfl) T.b_isinstance (by decide +kernel) (pa_cons (pv 8) (pa_cons (pe_ty "bool" T.b_bool (by decide +kernel)) (pa_nil)))) (pe_one (pe_cmpR (op_eqA hr) (pv 8) (pe_and (pv 6) (pe_one (pe_cmpR (op_eqA hr) (pe_callB call_lenA (by rfl) T.b_len (by decide +kernel) (pa_cons (pv 5) (pa_nil))) (pe_cl c__law_owed hr (by decide) (pat_of (W := fun cls d _ H => E cls d H) (L2N.takes_of rfl rfl rfl rfl)) (pa_cons (pv 3) (pa_nil))) (nomark _)))) (nomark _))))))))))))), rd__law_judged T vs H Q E h⟩
theorem ok_Links_apply {f : Addr} {fd : FuncData} (T : Txt K mg) (F : FunD K "apply" "Links.apply" (defArgs s_Links_apply) (defBody s_Links_apply) (defScope s_Links_apply) [] [] f fd) (c_Links_apply_at : Met P w K mg base 5 (He.ga K "Links") "apply_at" ["self", "operation", "index"] (sp_Links_apply_at K)) : FnOk P w K mg base (L2N.CX P w) 6 f fd ["self", "operation"] (sp_Links_apply K) :=
  F.ok sc_Links_apply (len_Links_apply K) fun cdv A outer s H vs Q E hr h => ⟨t_Links_apply K E, pss_one (ps_expr (pe_mt c_Links_apply_at T.cl_Links hr (by decide) (pat_of (W := fun cls d _ H => E cls d H) (L2N.takes_of rfl rfl rfl rfl)) (pv 0) (pa_cons (pv 1) (pa_cons (pe_int) (pa_nil))))), rd_Links_apply T vs H Q E h⟩
theorem ok__law_number {f : Addr} {fd : FuncData} (T : Txt K mg) (F : FunD K "_law_number" "_law_number" (defArgs s__law_number) (defBody s__law_number) (defScope s__law_number) [] [] f fd)  : FnOk P w K mg base (L2N.CX P w) 1 f fd ["told"] (sp16__law_number K) :=
  F.ok sc__law_number (len__law_number K) fun cdv A outer s H vs Q E hr h => ⟨t__law_number K E, pss_one (ps_ret (pe_and (pe_callB call_isi (by rfl) T.b_isinstance (by decide +kernel) (pa_cons (pv 0) (pa_cons (pe_ty "int" T.b_int (by decide +kernel)) (pa_nil)))) (pe_one (pe_not (pe_callB call_isi (by rfl) T.b_isinstance (by decide +kernel) (pa_cons (pv 0) (pa_cons (pe_ty "bool" T.b_bool (by decide +kernel)) (pa_nil)))))))), rd__law_number T vs H Q E h⟩
theorem ok__law_fits {f : Addr} {fd : FuncData} (T : Txt K mg) (F : FunD K "_law_fits" "_law_fits" (defArgs s__law_fits) (defBody s__law_fits) (defScope s__law_fits) [] [] f fd) (c__law_number : Cal P w K mg base 1 "_law_number" ["told"] (sp16__law_number K)) : FnOk P w K mg base (L2N.CX P w) 2 f fd ["told", "word", "number"] (sp18__law_fits K) :=
  F.ok sc__law_fits (len__law_fits K) fun cdv A outer s H vs Q E hr h => ⟨t__law_fits K E, pss_one (ps_ret (pe_and (pe_cmpR (op_eqA hr) (pe_ix ix_seq (pv 0) (pe_int) (fun _ _ => rfl)) (pv 1) (nomark _)) (pe_and (pe_cl c__law_number hr (by decide) (pat_of (W := fun cls d _ H => E cls d H) (L2N.takes_of rfl rfl rfl rfl)) (pa_cons (pe_ix ix_seq (pv 0) (pe_int) (fun _ _ => rfl)) (pa_nil))) (pe_one (pe_cmpR (op_eqA hr) (pe_ix ix_seq (pv 0) (pe_int) (fun _ _ => rfl)) (pv 2) (nomark _)))))), rd__law_fits T vs H Q E h⟩
theorem ok__law_lost {f : Addr} {fd : FuncData} (T : Txt K mg) (F : FunD K "_law_lost" "_law_lost" (defArgs s__law_lost) (defBody s__law_lost) (defScope s__law_lost) [] [] f fd)  : FnOk P w K mg base (L2N.CX P w) 1 f fd ["book"] (sp16__law_lost K) :=
  F.ok sc__law_lost (len__law_lost K) fun cdv A outer s H vs Q E hr h => ⟨t__law_lost K E, pss_one (ps_ret (pe_lc (own := [("gap", 1)]) (g := gName 1) (tt := tAnd (tTest (tOp (rNeA K) (tOp (rIx K) (tOp (rIx K) (tVar 0) (tC (.int 2))) (tVar 1)) (tOp rAddA (tVar 1) (tC (.int 1))))) (tTest (tOp (rNeA K) (tOp (rIx K) (tOp (rIx K) (tVar 0) (tC (.int 1))) (tOp rAddA (tVar 1) (tC (.int 1)))) (tVar 1)))) (te := tVar 1) rfl sc__law_lost.nd (pi_range1 rfl T.b_range (pa_cons (pe_op op_addA (pe_ix ix_seq (pv 0) (pe_int) (fun _ _ => rfl)) (pe_int)) (pa_nil))) (blkOk_by (own := [("gap", 1)]) (N := ["book", "gap"]) (sc := defScope s__law_lost) (by decide +kernel)) (fun _ _ _ _ _ => pg_name (i := 1) sc__law_lost.nd rfl (by first | exact Or.inl rfl | exact Or.inr rfl)) (fun _ _ _ _ _ => pts_one ((pw_and (pt_cmpR (op_neA hr) (pe_ix ix_seq (pe_ix ix_seq (pv 0) (pe_int) (fun _ _ => rfl)) (pv 1) (fun _ _ => rfl)) (pe_op op_addA (pv 1) (pe_int)) (nomark _)) (pw_and1 (pt_cmpR (op_neA hr) (pe_ix ix_seq (pe_ix ix_seq (pv 0) (pe_int) (fun _ _ => rfl)) (pe_op op_addA (pv 1) (pe_int)) (fun _ _ => rfl)) (pv 1) (nomark _)))).pt)) (fun _ _ _ _ _ => pv 1))), rd__law_lost T vs H Q E h⟩
theorem ok__law_told {f : Addr} {fd : FuncData} (T : Txt K mg) (F : FunD K "_law_told" "_law_told" (defArgs s__law_told) (defBody s__law_told) (defScope s__law_told) [] [] f fd) (c_debt_of : Cal P w K mg base 9 "debt_of" ["links"] (sp16_debt_of K)) : FnOk P w K mg base (L2N.CX P w) 10 f fd ["linked"] (sp18__law_told K) :=
  F.ok sc__law_told (len__law_told K) fun cdv A outer s H vs Q E hr h => ⟨t__law_told K E, pss_cons (L2N.ps_try_as (i := 2) (tb := fun (W : WX) => tAsg (tCl (sp16_debt_of K) (WE W) (tCons (tVar 0) (tNil))) (gName 1)) (ts := fun a cls d => tRet (tTup (tCons (tC (.str "lost")) (tCons (tXat K a cls d "gap" (tVar 2)) (tNil))))) (Wout := fun cls d _ H => E cls d H) rfl rfl sc__law_told.nd rfl rfl ⟨rfl, by decide, .inl T.g_NotRepairable⟩ (L2N.takes_of rfl rfl rfl rfl) (fun W pn xe tk2 po2 => pss_one (ps_set (i := 1) sc__law_told.nd rfl (by first | exact Or.inl rfl | exact Or.inr rfl) (pe_cl c_debt_of hr (by decide) (pat_of tk2) (pa_cons (pv 0) (pa_nil))))) (fun a oe cls d pn hz hf => pss_one (ps_ret (pe_tup (pa_cons (pe_str) (pa_cons (pe_xat hz.zc hf (pv 2)) (pa_nil))))))) (pss_one (ps_ret (pe_tup (pa_cons (pe_str) (pa_cons (pv 1) (pa_nil)))))), rd__law_told T vs H Q E h⟩
theorem ok__law_led {f : Addr} {fd : FuncData} (T : Txt K mg) (F : FunD K "_law_led" "_law_led" (defArgs s__law_led) (defBody s__law_led) (defScope s__law_led) [] [] f fd) (c_Links_apply : Met P w K mg base 6 (He.ga K "Links") "apply" ["self", "operation"] (sp_Links_apply K)) (c_Links_read : Smt P w K mg base 6 (He.ga K "Links") "read" ["text"] (sp_Links_read K)) (c__law_copy : Cal P w K mg base 1 "_law_copy" ["book"] (sp18__law_copy K)) (c__law_dump : Cal P w K mg base 1 "_law_dump" ["book"] (sp16__law_dump K)) (c__law_ends_whole : Cal P w K mg base 2 "_law_ends_whole" ["start", "moves"] (sp18__law_ends_whole K)) (c__law_fits : Cal P w K mg base 2 "_law_fits" ["told", "word", "number"] (sp18__law_fits K)) (c__law_lost : Cal P w K mg base 1 "_law_lost" ["book"] (sp16__law_lost K)) (c__law_owed : Cal P w K mg base 3 "_law_owed" ["book"] (sp16__law_owed K)) (c__law_step : Cal P w K mg base 1 "_law_step" ["book", "node"] (sp18__law_step K)) (c__law_told : Cal P w K mg base 10 "_law_told" ["linked"] (sp18__law_told K)) : FnOk P w K mg base (L2N.CX P w) 11 f fd ["start", "moves"] (sp18__law_led K) :=
  F.ok sc__law_led (len__law_led K) fun cdv A outer s H vs Q E hr h => ⟨t__law_led K E, pss_cons (ps_set (i := 2) sc__law_led.nd rfl (by first | exact Or.inl rfl | exact Or.inr rfl) (pe_cl c__law_ends_whole hr (by decide) (pat_of (W := fun cls d _ H => E cls d H) (L2N.takes_of rfl rfl rfl rfl)) (pa_cons (pv 0) (pa_cons (pv 1) (pa_nil))))) (pss_cons (ps_set (i := 3) sc__law_led.nd rfl (by first | exact Or.inl rfl | exact Or.inr rfl) (pe_cl c__law_copy hr (by decide) (pat_of (W := fun cls d _ H => E cls d H) (L2N.takes_of rfl rfl rfl rfl)) (pa_cons (pv 0) (pa_nil)))) (pss_cons (ps_set (i := 4) sc__law_led.nd rfl (by first | exact Or.inl rfl | exact Or.inr rfl) (pe_sm c_Links_read hr (by decide) (pat_of (W := fun cls d _ H => E cls d H) (L2N.takes_of rfl rfl rfl rfl)) (pe_own T.g_Links) (pa_cons (pe_cl c__law_dump hr (by decide) (pat_of (W := fun cls d _ H => E cls d H) (L2N.takes_of rfl rfl rfl rfl)) (pa_cons (pv 3) (pa_nil))) (pa_nil)))) (pss_cons (ps_set (i := 5) sc__law_led.nd rfl (by first | exact Or.inl rfl | exact Or.inr rfl) (pe_un un_neg (pe_int))) (pss_cons (ps_for (passes_of rfl) rfl (pi_range1 rfl T.b_range (pa_cons (pe_op op_addA (pe_callB call_lenA (by rfl) T.b_len (by decide +kernel) (pa_cons (pv 1) (pa_nil))) (pe_int)) (pa_nil))) (pg_name (i := 6) sc__law_led.nd rfl (by first | exact Or.inl rfl | exact Or.inr rfl)) (pss_cons (ps_set (i := 7) sc__law_led.nd rfl (by first | exact Or.inl rfl | exact Or.inr rfl) (pe_op op_sub (pe_callB call_lenA (by rfl) T.b_len (by decide +kernel) (pa_cons (pv 1) (pa_nil))) (pv 6))) (pss_cons (ps_set (i := 8) sc__law_led.nd rfl (by first | exact Or.inl rfl | exact Or.inr rfl) (pe_cl c__law_told hr (by decide) (pat_of (W := fun cls d _ H => E cls d H) (L2N.takes_of rfl rfl rfl rfl)) (pa_cons (pv 4) (pa_nil)))) (pss_cons (ps_set (i := 9) sc__law_led.nd rfl (by first | exact Or.inl rfl | exact Or.inr rfl) (pe_cl c__law_lost hr (by decide) (pat_of (W := fun cls d _ H => E cls d H) (L2N.takes_of rfl rfl rfl rfl)) (pa_cons (pv 3) (pa_nil)))) (pss_cons (ps_if ((pw_and (pt_cmpR (op_neA hr) (pv 9) (pe_lst (pa_nil)) (nomark _)) (pw_and1 (pt_not (pt_val (pe_cl c__law_fits hr (by decide) (pat_of (W := fun cls d _ H => E cls d H) (L2N.takes_of rfl rfl rfl rfl)) (pa_cons (pv 8) (pa_cons (pe_str) (pa_cons (pe_ix ix_seq (pv 9) (pe_int) (fun _ _ => rfl)) (pa_nil))))))))).pt) (pss_one (ps_ret (pe_bl))) (pss_nil)) (pss_cons (ps_if (pt_cmpR (op_eqA hr) (pv 9) (pe_lst (pa_nil)) (nomark _)) (pss_cons (ps_if ((pw_or (pt_not (pt_val (pe_cl c__law_fits hr (by decide) (pat_of (W := fun cls d _ H => E cls d H) (L2N.takes_of rfl rfl rfl rfl)) (pa_cons (pv 8) (pa_cons (pe_str) (pa_cons (pe_cl c__law_owed hr (by decide) (pat_of (W := fun cls d _ H => E cls d H) (L2N.takes_of rfl rfl rfl rfl)) (pa_cons (pv 3) (pa_nil))) (pa_nil))))))) (pw_or1 (pt_cmpR op_lt (pe_ix ix_seq (pv 8) (pe_int) (fun _ _ => rfl)) (pe_op op_sub (pv 5) (pe_int)) (nomark _)))).pt) (pss_one (ps_ret (pe_bl))) (pss_nil)) (pss_cons (ps_if ((pw_and (pt_val (pv 2)) (pw_and1 ((pw_or (pt_cmpR op_gt (pe_ix ix_seq (pv 8) (pe_int) (fun _ _ => rfl)) (pv 7) (nomark _)) (pw_or1 (pt_cmpR (op_eqA hr) (pe_op op_mod (pe_callTy call_intA (by rfl) T.b_int (by decide +kernel) (pa_cons (pe_op op_sub (pv 7) (pe_ix ix_seq (pv 8) (pe_int) (fun _ _ => rfl))) (pa_nil))) (pe_int)) (pe_int) (nomark _)))).pt))).pt) (pss_one (ps_ret (pe_bl))) (pss_nil)) (pss_one (ps_set (i := 5) sc__law_led.nd rfl (by first | exact Or.inl rfl | exact Or.inr rfl) (pe_ix ix_seq (pv 8) (pe_int) (fun _ _ => rfl)))))) (pss_nil)) (pss_one (ps_if (pt_cmpR op_lt (pv 6) (pe_callB call_lenA (by rfl) T.b_len (by decide +kernel) (pa_cons (pv 1) (pa_nil))) (nomark _)) (pss_cons (ps_expr (pe_mt c_Links_apply T.cl_Links hr (by decide) (pat_of (W := fun cls d _ H => E cls d H) (L2N.takes_of rfl rfl rfl rfl)) (pv 4) (pa_cons (pe_ix ix_seq (pv 1) (pv 6) (fun _ _ => rfl)) (pa_nil)))) (pss_one (ps_expr (pe_cl c__law_step hr (by decide) (pat_of (W := fun cls d _ H => E cls d H) (L2N.takes_of rfl rfl rfl rfl)) (pa_cons (pv 3) (pa_cons (pe_callB call_absA (by rfl) T.b_abs (by decide +kernel) (pa_cons (pe_ix ix_seq (pv 1) (pv 6) (fun _ _ => rfl)) (pa_nil))) (pa_nil))))))) (pss_nil))))))))) (pss_one (ps_ret (pe_bl))))))), rd__law_led T vs H Q E h⟩
theorem ok__law_lowers {f : Addr} {fd : FuncData} (T : Txt K mg) (F : FunD K "_law_lowers" "_law_lowers" (defArgs s__law_lowers) (defBody s__law_lowers) (defScope s__law_lowers) [] [] f fd) (c__law_is_due : Cal P w K mg base 1 "_law_is_due" ["book", "node"] (sp16__law_is_due K)) : FnOk P w K mg base (L2N.CX P w) 2 f fd ["book", "node"] (sp17__law_lowers K) :=
  F.ok sc__law_lowers (len__law_lowers K) fun cdv A outer s H vs Q E hr h => ⟨t__law_lowers K E, pss_cons (ps_set (i := 2) sc__law_lowers.nd rfl (by first | exact Or.inl rfl | exact Or.inr rfl) (pe_ix ix_seq (pe_ix ix_seq (pv 0) (pe_int) (fun _ _ => rfl)) (pv 1) (fun _ _ => rfl))) (pss_cons (ps_set (i := 3) sc__law_lowers.nd rfl (by first | exact Or.inl rfl | exact Or.inr rfl) (pe_ix ix_seq (pe_ix ix_seq (pv 0) (pe_int) (fun _ _ => rfl)) (pv 1) (fun _ _ => rfl))) (pss_cons (ps_if (pt_not (pt_val (pe_cl c__law_is_due hr (by decide) (pat_of (W := fun cls d _ H => E cls d H) (L2N.takes_of rfl rfl rfl rfl)) (pa_cons (pv 0) (pa_cons (pv 1) (pa_nil)))))) (pss_one (ps_ret (pe_bl))) (pss_nil)) (pss_cons (ps_if ((pw_and (pt_cmpR (op_neA hr) (pv 2) (pe_op op_sub (pv 1) (pe_int)) (nomark _)) (pw_and1 (pt_cmpR (op_eqA hr) (pe_ix ix_seq (pe_ix ix_seq (pv 0) (pe_int) (fun _ _ => rfl)) (pv 2) (fun _ _ => rfl)) (pe_op op_addA (pv 2) (pe_int)) (nomark _)))).pt) (pss_one (ps_if ((pw_or (pt_cmpR (op_neA hr) (pe_ix ix_seq (pe_ix ix_seq (pv 0) (pe_int) (fun _ _ => rfl)) (pe_op op_addA (pv 2) (pe_int)) (fun _ _ => rfl)) (pv 2) (nomark _)) (pw_or1 (pt_not (pt_val (pe_cl c__law_is_due hr (by decide) (pat_of (W := fun cls d _ H => E cls d H) (L2N.takes_of rfl rfl rfl rfl)) (pa_cons (pv 0) (pa_cons (pe_op op_addA (pv 2) (pe_int)) (pa_nil)))))))).pt) (pss_one (ps_ret (pe_bl))) (pss_nil))) (pss_nil)) (pss_cons (ps_if ((pw_and (pt_cmpR (op_neA hr) (pv 3) (pe_op op_addA (pv 1) (pe_int)) (nomark _)) (pw_and1 (pt_cmpR (op_eqA hr) (pe_ix ix_seq (pe_ix ix_seq (pv 0) (pe_int) (fun _ _ => rfl)) (pv 3) (fun _ _ => rfl)) (pe_op op_sub (pv 3) (pe_int)) (nomark _)))).pt) (pss_one (ps_if ((pw_or (pt_cmpR (op_neA hr) (pe_ix ix_seq (pe_ix ix_seq (pv 0) (pe_int) (fun _ _ => rfl)) (pe_op op_sub (pv 3) (pe_int)) (fun _ _ => rfl)) (pv 3) (nomark _)) (pw_or1 (pt_not (pt_val (pe_cl c__law_is_due hr (by decide) (pat_of (W := fun cls d _ H => E cls d H) (L2N.takes_of rfl rfl rfl rfl)) (pa_cons (pv 0) (pa_cons (pe_op op_sub (pv 3) (pe_int)) (pa_nil)))))))).pt) (pss_one (ps_ret (pe_bl))) (pss_nil))) (pss_nil)) (pss_one (ps_ret (pe_bl))))))), rd__law_lowers T vs H Q E h⟩
theorem ok__law_log {f : Addr} {fd : FuncData} (T : Txt K mg) (F : FunD K "_law_log" "_law_log" (defArgs s__law_log) (defBody s__law_log) (defScope s__law_log) [] [] f fd) (c__law_copy : Cal P w K mg base 1 "_law_copy" ["book"] (sp18__law_copy K)) (c__law_draw : Cal P w K mg base 1 "_law_draw" ["bag", "many"] (sp21__law_draw K)) (c__law_lost : Cal P w K mg base 1 "_law_lost" ["book"] (sp16__law_lost K)) (c__law_lowers : Cal P w K mg base 2 "_law_lowers" ["book", "node"] (sp17__law_lowers K)) (c__law_operation : Cal P w K mg base 1 "_law_operation" ["book", "node"] (sp__law_operation K)) (c__law_owed : Cal P w K mg base 3 "_law_owed" ["book"] (sp16__law_owed K)) (c__law_step : Cal P w K mg base 1 "_law_step" ["book", "node"] (sp18__law_step K)) : FnOk P w K mg base (L2N.CX P w) 4 f fd ["bag", "start"] (sp18__law_log K) :=
  F.ok sc__law_log (len__law_log K) fun cdv A outer s H vs Q E hr h => ⟨t__law_log K E, pss_cons (ps_set (i := 2) sc__law_log.nd rfl (by first | exact Or.inl rfl | exact Or.inr rfl) (pe_cl c__law_copy hr (by decide) (pat_of (W := fun cls d _ H => E cls d H) (L2N.takes_of rfl rfl rfl rfl)) (pa_cons (pv 1) (pa_nil)))) (pss_cons (ps_set (i := 3) sc__law_log.nd rfl (by first | exact Or.inl rfl | exact Or.inr rfl) (pe_lst (pa_nil))) (pss_cons (ps_set (i := 4) sc__law_log.nd rfl (by first | exact Or.inl rfl | exact Or.inr rfl) (pe_cl c__law_draw hr (by decide) (pat_of (W := fun cls d _ H => E cls d H) (L2N.takes_of rfl rfl rfl rfl)) (pa_cons (pv 0) (pa_cons (pe_int) (pa_nil))))) (pss_cons (ps_if (pt_cmpR (op_eqA hr) (pe_ix ix_seq (pv 2) (pe_int) (fun _ _ => rfl)) (pe_int) (nomark _)) (pss_one (ps_set (i := 4) sc__law_log.nd rfl (by first | exact Or.inl rfl | exact Or.inr rfl) (pe_int))) (pss_nil)) (pss_cons (ps_for (passes_of rfl) rfl (pi_range1 rfl T.b_range (pa_cons (pv 4) (pa_nil))) (pg_name (i := 5) sc__law_log.nd rfl (by first | exact Or.inl rfl | exact Or.inr rfl)) (pss_cons (ps_set (i := 6) sc__law_log.nd rfl (by first | exact Or.inl rfl | exact Or.inr rfl) (pe_op op_addA (pe_int) (pe_cl c__law_draw hr (by decide) (pat_of (W := fun cls d _ H => E cls d H) (L2N.takes_of rfl rfl rfl rfl)) (pa_cons (pv 0) (pa_cons (pe_ix ix_seq (pv 2) (pe_int) (fun _ _ => rfl)) (pa_nil)))))) (pss_cons (ps_expr (pe_bm PySem.F.plainAttrs_list PySem.F.slot_list_append PySem.F.type_list_append mt_append (pv 3) (pa_cons (pe_cl c__law_operation hr (by decide) (pat_of (W := fun cls d _ H => E cls d H) (L2N.takes_of rfl rfl rfl rfl)) (pa_cons (pv 2) (pa_cons (pv 6) (pa_nil)))) (pa_nil)))) (pss_one (ps_expr (pe_cl c__law_step hr (by decide) (pat_of (W := fun cls d _ H => E cls d H) (L2N.takes_of rfl rfl rfl rfl)) (pa_cons (pv 2) (pa_cons (pv 6) (pa_nil))))))))) (pss_cons (ps_if (pt_cmpR (op_eqA hr) (pe_cl c__law_lost hr (by decide) (pat_of (W := fun cls d _ H => E cls d H) (L2N.takes_of rfl rfl rfl rfl)) (pa_cons (pv 2) (pa_nil))) (pe_lst (pa_nil)) (nomark _)) (pss_one (ps_for (passes_of rfl) rfl (pi_range1 rfl T.b_range (pa_cons (pe_cl c__law_owed hr (by decide) (pat_of (W := fun cls d _ H => E cls d H) (L2N.takes_of rfl rfl rfl rfl)) (pa_cons (pv 2) (pa_nil))) (pa_nil))) (pg_name (i := 5) sc__law_log.nd rfl (by first | exact Or.inl rfl | exact Or.inr rfl)) (pss_cons (ps_setLc (i := 7) (own := [("node", 6)]) (g := gName 6) (tt := tB (tCl (sp17__law_lowers K) (fun _ => E0) (tCons (tVar 2) (tCons (tVar 6) (tNil))))) (te := tVar 6) rfl sc__law_log.nd rfl rfl (sw_true rfl rfl rfl (by decide +kernel)) (pi_range2 rfl T.b_range (pa_cons (pe_int) (pa_cons (pe_op op_addA (pe_ix ix_seq (pv 2) (pe_int) (fun _ _ => rfl)) (pe_int)) (pa_nil)))) (blkOk_by (own := [("node", 6)]) (N := ["bag", "start", "book", "moves", "turns", "turn", "node", "fitting"]) (sc := defScope s__law_log) (by decide +kernel)) (fun _ _ _ _ _ => pg_name (i := 6) sc__law_log.nd rfl (by first | exact Or.inl rfl | exact Or.inr rfl)) (fun _ _ _ _ _ => pts_one (pt_val (pe_cl c__law_lowers hr (by decide) (pat_no) (pa_cons (pv 2) (pa_cons (pv 6) (pa_nil)))))) (fun _ _ _ _ _ => pv 6)) (pss_cons (ps_set (i := 6) sc__law_log.nd rfl (by first | exact Or.inl rfl | exact Or.inr rfl) (pe_ix ix_seq (pv 7) (pe_cl c__law_draw hr (by decide) (pat_of (W := fun cls d _ H => E cls d H) (L2N.takes_of rfl rfl rfl rfl)) (pa_cons (pv 0) (pa_cons (pe_callB call_lenA (by rfl) T.b_len (by decide +kernel) (pa_cons (pv 7) (pa_nil))) (pa_nil)))) (fun _ _ => rfl))) (pss_cons (ps_expr (pe_bm PySem.F.plainAttrs_list PySem.F.slot_list_append PySem.F.type_list_append mt_append (pv 3) (pa_cons (pe_cl c__law_operation hr (by decide) (pat_of (W := fun cls d _ H => E cls d H) (L2N.takes_of rfl rfl rfl rfl)) (pa_cons (pv 2) (pa_cons (pv 6) (pa_nil)))) (pa_nil)))) (pss_one (ps_expr (pe_cl c__law_step hr (by decide) (pat_of (W := fun cls d _ H => E cls d H) (L2N.takes_of rfl rfl rfl rfl)) (pa_cons (pv 2) (pa_cons (pv 6) (pa_nil))))))))))) (pss_nil)) (pss_one (ps_ret (pv 3)))))))), rd__law_log T vs H Q E h⟩
theorem ok__law_key {f : Addr} {fd : FuncData} (T : Txt K mg) (F : FunD K "_law_key" "_law_key" (defArgs s__law_key) (defBody s__law_key) (defScope s__law_key) [] [] f fd)  : FnOk P w K mg base (L2N.CX P w) 1 f fd ["book"] (sp18__law_key K) :=
  F.ok sc__law_key (len__law_key K) fun cdv A outer s H vs Q E hr h => ⟨t__law_key K E, pss_one (ps_ret (pe_callTy call_tupA (by rfl) T.b_tuple (by decide +kernel) (pa_cons (pe_op op_addA (pe_op op_addA (pe_ix ix_seq (pv 0) (pe_int) (fun _ _ => rfl)) (pe_ix ix_seq (pv 0) (pe_int) (fun _ _ => rfl))) (pe_ix ix_seq (pv 0) (pe_int) (fun _ _ => rfl))) (pa_nil)))), rd__law_key T vs H Q E h⟩
theorem ok__law_distance {f : Addr} {fd : FuncData} (T : Txt K mg) (F : FunD K "_law_distance" "_law_distance" (defArgs s__law_distance) (defBody s__law_distance) (defScope s__law_distance) [] [] f fd) (c__law_copy : Cal P w K mg base 1 "_law_copy" ["book"] (sp18__law_copy K)) (c__law_is_whole : Cal P w K mg base 1 "_law_is_whole" ["book"] (sp16__law_is_whole K)) (c__law_key : Cal P w K mg base 1 "_law_key" ["book"] (sp18__law_key K)) (c__law_step : Cal P w K mg base 1 "_law_step" ["book", "node"] (sp18__law_step K)) : FnOk P w K mg base (L2N.CX P w) 2 f fd ["start"] (sp18__law_distance K) :=
  F.ok sc__law_distance (len__law_distance K) fun cdv A outer s H vs Q E hr h => ⟨t__law_distance K E, pss_cons (ps_set (i := 1) sc__law_distance.nd rfl (by first | exact Or.inl rfl | exact Or.inr rfl) (pe_znew hr (pe_cl c__law_key hr (by decide) (pat_of (W := fun cls d _ H => E cls d H) (L2N.takes_of rfl rfl rfl rfl)) (pa_cons (pv 0) (pa_nil))) (pe_bl))) (pss_cons (ps_set (i := 2) sc__law_distance.nd rfl (by first | exact Or.inl rfl | exact Or.inr rfl) (pe_lst (pa_cons (pe_cl c__law_copy hr (by decide) (pat_of (W := fun cls d _ H => E cls d H) (L2N.takes_of rfl rfl rfl rfl)) (pa_cons (pv 0) (pa_nil))) (pa_nil)))) (pss_cons (ps_for (passes_of rfl) rfl (pi_range1 rfl T.b_range (pa_cons (pe_int) (pa_nil))) (pg_name (i := 3) sc__law_distance.nd rfl (by first | exact Or.inl rfl | exact Or.inr rfl)) (pss_cons (ps_if (pt_cmpR (op_neA hr) (pe_lc (own := [("row", 5)]) (g := gName 5) (tt := tB (tCl (sp16__law_is_whole K) (fun _ => E0) (tCons (tVar 5) (tNil)))) (te := tVar 5) rfl sc__law_distance.nd (pi_list (pv 2)) (blkOk_by (own := [("row", 5)]) (N := ["start", "seen", "level", "depth", "later", "row", "node", "made", "key"]) (sc := defScope s__law_distance) (by decide +kernel)) (fun _ _ _ _ _ => pg_name (i := 5) sc__law_distance.nd rfl (by first | exact Or.inl rfl | exact Or.inr rfl)) (fun _ _ _ _ _ => pts_one (pt_val (pe_cl c__law_is_whole hr (by decide) (pat_no) (pa_cons (pv 5) (pa_nil))))) (fun _ _ _ _ _ => pv 5)) (pe_lst (pa_nil)) (nomark _)) (pss_one (ps_ret (pv 3))) (pss_nil)) (pss_cons (ps_set (i := 4) sc__law_distance.nd rfl (by first | exact Or.inl rfl | exact Or.inr rfl) (pe_lst (pa_nil))) (pss_cons (ps_for (passes_of rfl) rfl (pi_list (pv 2)) (pg_name (i := 5) sc__law_distance.nd rfl (by first | exact Or.inl rfl | exact Or.inr rfl)) (pss_one (ps_for (passes_of rfl) rfl (pi_range2 rfl T.b_range (pa_cons (pe_int) (pa_cons (pe_op op_addA (pe_ix ix_seq (pv 5) (pe_int) (fun _ _ => rfl)) (pe_int)) (pa_nil)))) (pg_name (i := 6) sc__law_distance.nd rfl (by first | exact Or.inl rfl | exact Or.inr rfl)) (pss_cons (ps_set (i := 7) sc__law_distance.nd rfl (by first | exact Or.inl rfl | exact Or.inr rfl) (pe_cl c__law_copy hr (by decide) (pat_of (W := fun cls d _ H => E cls d H) (L2N.takes_of rfl rfl rfl rfl)) (pa_cons (pv 5) (pa_nil)))) (pss_cons (ps_expr (pe_cl c__law_step hr (by decide) (pat_of (W := fun cls d _ H => E cls d H) (L2N.takes_of rfl rfl rfl rfl)) (pa_cons (pv 7) (pa_cons (pv 6) (pa_nil))))) (pss_cons (ps_set (i := 8) sc__law_distance.nd rfl (by first | exact Or.inl rfl | exact Or.inr rfl) (pe_cl c__law_key hr (by decide) (pat_of (W := fun cls d _ H => E cls d H) (L2N.takes_of rfl rfl rfl rfl)) (pa_cons (pv 7) (pa_nil)))) (pss_one (ps_if (pt_cmpR (op_ninZ hr) (pv 8) (pv 1) (rfl)) (pss_cons (ps_zput hr (pv 1) (pv 8) (pe_bl) rfl) (pss_one (ps_expr (pe_bm PySem.F.plainAttrs_list PySem.F.slot_list_append PySem.F.type_list_append mt_append (pv 4) (pa_cons (pv 7) (pa_nil)))))) (pss_nil))))))))) (pss_cons (ps_if (pt_cmpR (op_eqA hr) (pv 4) (pe_lst (pa_nil)) (nomark _)) (pss_one (ps_ret (pe_un un_neg (pe_int)))) (pss_nil)) (pss_one (ps_set (i := 2) sc__law_distance.nd rfl (by first | exact Or.inl rfl | exact Or.inr rfl) (pv 4)))))))) (pss_one (ps_ret (pe_un un_neg (pe_int)))))), rd__law_distance T vs H Q E h⟩
theorem ok__law_numbers {f : Addr} {fd : FuncData} (T : Txt K mg) (F : FunD K "_law_numbers" "_law_numbers" (defArgs s__law_numbers) (defBody s__law_numbers) (defScope s__law_numbers) [] [] f fd) (c__law_number : Cal P w K mg base 1 "_law_number" ["told"] (sp16__law_number K)) : FnOk P w K mg base (L2N.CX P w) 2 f fd ["told"] (sp16__law_numbers K) :=
  F.ok sc__law_numbers (len__law_numbers K) fun cdv A outer s H vs Q E hr h => ⟨t__law_numbers K E, pss_one (ps_ret (pe_and (pe_callB call_isi (by rfl) T.b_isinstance (by decide +kernel) (pa_cons (pv 0) (pa_cons (pe_ty "list" T.b_list (by decide +kernel)) (pa_nil)))) (pe_one (pe_cmpR (op_eqA hr) (pe_lc (own := [("one", 1)]) (g := gName 1) (tt := tNot (tB (tCl (sp16__law_number K) (fun _ => E0) (tCons (tVar 1) (tNil))))) (te := tVar 1) rfl sc__law_numbers.nd (pi_list (pv 0)) (blkOk_by (own := [("one", 1)]) (N := ["told", "one"]) (sc := defScope s__law_numbers) (by decide +kernel)) (fun _ _ _ _ _ => pg_name (i := 1) sc__law_numbers.nd rfl (by first | exact Or.inl rfl | exact Or.inr rfl)) (fun _ _ _ _ _ => pts_one (pt_not (pt_val (pe_cl c__law_number hr (by decide) (pat_no) (pa_cons (pv 1) (pa_nil)))))) (fun _ _ _ _ _ => pv 1)) (pe_lst (pa_nil)) (nomark _))))), rd__law_numbers T vs H Q E h⟩
theorem ok_foreign_writes {f : Addr} {fd : FuncData} (T : Txt K mg) (F : FunD K "foreign_writes" "foreign_writes" (defArgs s_foreign_writes) (defBody s_foreign_writes) (defScope s_foreign_writes) [] [] f fd) (c_Links_check : Met P w K mg base 4 (He.ga K "Links") "check" ["self", "operation", "index"] (sp_Links_check K)) (c_Links_left : Met P w K mg base 3 (He.ga K "Links") "left" ["self", "node"] (sp_Links_left K)) (c_Links_right : Met P w K mg base 3 (He.ga K "Links") "right" ["self", "node"] (sp_Links_right K)) : FnOk P w K mg base (L2N.CX P w) 5 f fd ["links", "operation"] (sp_foreign_writes K) :=
  F.ok sc_foreign_writes (len_foreign_writes K) fun cdv A outer s H vs Q E hr h => ⟨t_foreign_writes K E, pss_cons (ps_expr (pe_mt c_Links_check T.cl_Links hr (by decide) (pat_of (W := fun cls d _ H => E cls d H) (L2N.takes_of rfl rfl rfl rfl)) (pv 0) (pa_cons (pv 1) (pa_cons (pe_int) (pa_nil))))) (pss_cons (ps_set (i := 2) sc_foreign_writes.nd rfl (by first | exact Or.inl rfl | exact Or.inr rfl) (pe_callB call_absA (by rfl) T.b_abs (by decide +kernel) (pa_cons (pv 1) (pa_nil)))) (pss_cons (ps_set (i := 3) sc_foreign_writes.nd rfl (by first | exact Or.inl rfl | exact Or.inr rfl) (pe_mt c_Links_left T.cl_Links hr (by decide) (pat_of (W := fun cls d _ H => E cls d H) (L2N.takes_of rfl rfl rfl rfl)) (pv 0) (pa_cons (pv 2) (pa_nil)))) (pss_cons (ps_set (i := 4) sc_foreign_writes.nd rfl (by first | exact Or.inl rfl | exact Or.inr rfl) (pe_mt c_Links_right T.cl_Links hr (by decide) (pat_of (W := fun cls d _ H => E cls d H) (L2N.takes_of rfl rfl rfl rfl)) (pv 0) (pa_cons (pv 2) (pa_nil)))) (pss_cons (ps_set (i := 5) sc_foreign_writes.nd rfl (by first | exact Or.inl rfl | exact Or.inr rfl) (pe_lst (pa_nil))) (pss_cons (ps_if ((pw_and (pt_cmpR (op_neA hr) (pv 3) (pe_op op_sub (pv 2) (pe_int)) (nomark _)) (pw_and1 (pt_cmpR (op_eqA hr) (pe_mt c_Links_right T.cl_Links hr (by decide) (pat_of (W := fun cls d _ H => E cls d H) (L2N.takes_of rfl rfl rfl rfl)) (pv 0) (pa_cons (pv 3) (pa_nil))) (pe_op op_addA (pv 3) (pe_int)) (nomark _)))).pt) (pss_one (ps_expr (pe_bm PySem.F.plainAttrs_list PySem.F.slot_list_append PySem.F.type_list_append mt_append (pv 5) (pa_cons (pv 3) (pa_nil))))) (pss_nil)) (pss_cons (ps_if ((pw_and (pt_cmpR (op_neA hr) (pv 4) (pe_op op_addA (pv 2) (pe_int)) (nomark _)) (pw_and1 (pt_cmpR (op_eqA hr) (pe_mt c_Links_left T.cl_Links hr (by decide) (pat_of (W := fun cls d _ H => E cls d H) (L2N.takes_of rfl rfl rfl rfl)) (pv 0) (pa_cons (pv 4) (pa_nil))) (pe_op op_sub (pv 4) (pe_int)) (nomark _)))).pt) (pss_one (ps_expr (pe_bm PySem.F.plainAttrs_list PySem.F.slot_list_append PySem.F.type_list_append mt_append (pv 5) (pa_cons (pe_op op_sub (pv 4) (pe_int)) (pa_nil))))) (pss_nil)) (pss_one (ps_ret (pv 5))))))))), rd_foreign_writes T vs H Q E h⟩
theorem ok_left_to {f : Addr} {fd : FuncData} (T : Txt K mg) (F : FunD K "left_to" "left_to" (defArgs s_left_to) (defBody s_left_to) (defScope s_left_to) [] [] f fd)  : FnOk P w K mg base (L2N.CX P w) 1 f fd ["operation", "gap"] (sp17_left_to K) :=
  F.ok sc_left_to (len_left_to K) fun cdv A outer s H vs Q E hr h => ⟨t_left_to K E, pss_one (ps_ret (pe_ifExp (pt_cmpR op_lt (pv 1) (pe_callB call_absA (by rfl) T.b_abs (by decide +kernel) (pa_cons (pv 0) (pa_nil))) (nomark _)) (pe_op op_addA (pv 1) (pe_int)) (pv 1))), rd_left_to T vs H Q E h⟩
theorem ok__spoils_nothing {f : Addr} {fd : FuncData} (T : Txt K mg) (F : FunD K "_spoils_nothing" "_spoils_nothing" (defArgs s__spoils_nothing) (defBody s__spoils_nothing) (defScope s__spoils_nothing) [] [] f fd) (c_foreign_writes : Cal P w K mg base 5 "foreign_writes" ["links", "operation"] (sp_foreign_writes K)) (c_gap_state : Cal P w K mg base 4 "gap_state" ["links", "gap"] (sp_gap_state K)) (c_left_to : Cal P w K mg base 1 "left_to" ["operation", "gap"] (sp17_left_to K)) : FnOk P w K mg base (L2N.CX P w) 6 f fd ["links", "operation", "due"] (sp17__spoils_nothing K) :=
  F.ok sc__spoils_nothing (len__spoils_nothing K) fun cdv A outer s H vs Q E hr h => ⟨t__spoils_nothing K E, pss_cons (ps_for (passes_of rfl) rfl (pi_list (pe_cl c_foreign_writes hr (by decide) (pat_of (W := fun cls d _ H => E cls d H) (L2N.takes_of rfl rfl rfl rfl)) (pa_cons (pv 0) (pa_cons (pv 1) (pa_nil))))) (pg_name (i := 3) sc__spoils_nothing.nd rfl (by first | exact Or.inl rfl | exact Or.inr rfl)) (pss_one (ps_if ((pw_or (pt_cmpR (op_neA hr) (pe_cl c_gap_state hr (by decide) (pat_of (W := fun cls d _ H => E cls d H) (L2N.takes_of rfl rfl rfl rfl)) (pa_cons (pv 0) (pa_cons (pv 3) (pa_nil)))) (pe_str) (nomark _)) (pw_or1 (pt_cmpR op_notIn_seq (pe_cl c_left_to hr (by decide) (pat_of (W := fun cls d _ H => E cls d H) (L2N.takes_of rfl rfl rfl rfl)) (pa_cons (pv 1) (pa_cons (pv 3) (pa_nil)))) (pv 2) (rfl)))).pt) (pss_one (ps_ret (pe_bl))) (pss_nil)))) (pss_one (ps_ret (pe_bl))), rd__spoils_nothing T vs H Q E h⟩
theorem ok__steps {f : Addr} {fd : FuncData} (T : Txt K mg) (F : FunD K "_steps" "_steps" (defArgs s__steps) (defBody s__steps) (defScope s__steps) [] [] f fd) (c_Links_is_out : Met P w K mg base 3 (He.ga K "Links") "is_out" ["self", "node"] (sp03_Links_is_out K)) (c__spoils_nothing : Cal P w K mg base 6 "_spoils_nothing" ["links", "operation", "due"] (sp17__spoils_nothing K)) : FnOk P w K mg base (L2N.CX P w) 7 f fd ["links", "due"] (sp17__steps K) :=
  F.ok sc__steps (len__steps K) fun cdv A outer s H vs Q E hr h => ⟨t__steps K E, pss_cons (ps_setLc (i := 2) (own := [("node", 3)]) (g := gName 3) (tt := tYes) (te := tIf (tB (tMt (He.ga K "Links") "is_out" (sp03_Links_is_out K) (fun _ => E0) (tVar 0) (tCons (tVar 3) (tNil)))) (tVar 3) (tUn rNegA (tVar 3))) rfl sc__steps.nd rfl rfl (sw_true rfl rfl rfl (by decide +kernel)) (pi_list (pv 1)) (blkOk_by (own := [("node", 3)]) (N := ["links", "due", "operations", "node", "operation"]) (sc := defScope s__steps) (by decide +kernel)) (fun _ _ _ _ _ => pg_name (i := 3) sc__steps.nd rfl (by first | exact Or.inl rfl | exact Or.inr rfl)) (fun _ _ _ _ _ => pts_nil) (fun _ _ _ _ _ => pe_ifExp (pt_val (pe_mt c_Links_is_out T.cl_Links hr (by decide) (pat_no) (pv 0) (pa_cons (pv 3) (pa_nil)))) (pv 3) (pe_un un_neg (pv 3)))) (pss_one (ps_ret (pe_lc (own := [("operation", 4)]) (g := gName 4) (tt := tB (tCl (sp17__spoils_nothing K) (fun _ => E0) (tCons (tVar 0) (tCons (tVar 4) (tCons (tVar 1) (tNil)))))) (te := tVar 4) rfl sc__steps.nd (pi_list (pv 2)) (blkOk_by (own := [("operation", 4)]) (N := ["links", "due", "operations", "node", "operation"]) (sc := defScope s__steps) (by decide +kernel)) (fun _ _ _ _ _ => pg_name (i := 4) sc__steps.nd rfl (by first | exact Or.inl rfl | exact Or.inr rfl)) (fun _ _ _ _ _ => pts_one (pt_val (pe_cl c__spoils_nothing hr (by decide) (pat_no) (pa_cons (pv 0) (pa_cons (pv 4) (pa_cons (pv 1) (pa_nil))))))) (fun _ _ _ _ _ => pv 4)))), rd__steps T vs H Q E h⟩
theorem ok__still_due {f : Addr} {fd : FuncData} (T : Txt K mg) (F : FunD K "_still_due" "_still_due" (defArgs s__still_due) (defBody s__still_due) (defScope s__still_due) [] [] f fd)  : FnOk P w K mg base (L2N.CX P w) 1 f fd ["due", "operation"] (sp17__still_due K) :=
  F.ok sc__still_due (len__still_due K) fun cdv A outer s H vs Q E hr h => ⟨t__still_due K E, pss_one (ps_ret (pe_ifExp (pt_cmpR op_lt (pv 1) (pe_int) (nomark _)) (pv 0) (pe_lc (own := [("node", 2)]) (g := gName 2) (tt := tTest (tOp (rNeA K) (tVar 2) (tVar 1))) (te := tVar 2) rfl sc__still_due.nd (pi_list (pv 0)) (blkOk_by (own := [("node", 2)]) (N := ["due", "operation", "node"]) (sc := defScope s__still_due) (by decide +kernel)) (fun _ _ _ _ _ => pg_name (i := 2) sc__still_due.nd rfl (by first | exact Or.inl rfl | exact Or.inr rfl)) (fun _ _ _ _ _ => pts_one (pt_cmpR (op_neA hr) (pv 2) (pv 1) (nomark _))) (fun _ _ _ _ _ => pv 2)))), rd__still_due T vs H Q E h⟩
theorem ok_repairs {f : Addr} {fd : FuncData} (T : Txt K mg) (F : FunD K "repairs" "repairs" (defArgs s_repairs) (defBody s_repairs) (defScope s_repairs) [] [("most", .int 20)] f fd) (c__steps : Cal P w K mg base 7 "_steps" ["links", "due"] (sp17__steps K)) (c__still_due : Cal P w K mg base 1 "_still_due" ["due", "operation"] (sp17__still_due K)) (c_check_repairable : Cal P w K mg base 7 "check_repairable" ["links"] (sp16_check_repairable K)) (c_due_nodes : Cal P w K mg base 7 "due_nodes" ["links"] (sp16_due_nodes K)) (c_play : Cal P w K mg base 7 "play" ["links", "log"] (sp_play K)) (x_BadCount : ExM P w K mg base 1 "BadCount" (He.ga K "BadCount") ["count"]) : FnOk P w K mg base (L2N.CX P w) 8 f fd ["links", "most"] (sp17_repairs K) :=
  F.ok sc_repairs (len_repairs K) fun cdv A outer s H vs Q E hr h => ⟨t_repairs K E, pss_cons (ps_if (pt_cmpR op_lt (pv 1) (pe_int) (nomark _)) (pss_one (ps_rz x_BadCount rfl (L2N.takes_of rfl rfl rfl rfl) hr (by decide) (pa_cons (pv 1) (pa_nil)))) (pss_nil)) (pss_cons (ps_expr (pe_cl c_check_repairable hr (by decide) (pat_of (W := fun cls d _ H => E cls d H) (L2N.takes_of rfl rfl rfl rfl)) (pa_cons (pv 0) (pa_nil)))) (pss_cons (ps_set (i := 2) sc_repairs.nd rfl (by first | exact Or.inl rfl | exact Or.inr rfl) (pe_lst (pa_nil))) (pss_cons (ps_set (i := 3) sc_repairs.nd rfl (by first | exact Or.inl rfl | exact Or.inr rfl) (pe_lst (pa_cons (pe_tup (pa_cons (pv 0) (pa_cons (pe_lst (pa_nil)) (pa_cons (pe_cl c_due_nodes hr (by decide) (pat_of (W := fun cls d _ H => E cls d H) (L2N.takes_of rfl rfl rfl rfl)) (pa_cons (pv 0) (pa_nil))) (pa_nil))))) (pa_nil)))) (pss_cons (ps_while (passes_of rfl) ((pw_and (pt_tr (pv 3) (by intro _; rfl)) (pw_and1 (pt_cmpR op_lt (pe_callB call_lenA (by rfl) T.b_len (by decide +kernel) (pa_cons (pv 2) (pa_nil))) (pv 1) (nomark _)))).pt) (pss_cons (ps_asg (pe_bm0 PySem.F.plainAttrs_list PySem.F.slot_list_pop PySem.F.type_list_pop mt_pop (pv 3)) (pg_tup (by rfl) (pgs_cons (pg_name (i := 4) sc_repairs.nd rfl (by first | exact Or.inl rfl | exact Or.inr rfl)) (pgs_cons (pg_name (i := 5) sc_repairs.nd rfl (by first | exact Or.inl rfl | exact Or.inr rfl)) (pgs_cons (pg_name (i := 6) sc_repairs.nd rfl (by first | exact Or.inl rfl | exact Or.inr rfl)) (pgs_nil)))))) (pss_cons (ps_set (i := 7) sc_repairs.nd rfl (by first | exact Or.inl rfl | exact Or.inr rfl) (pe_cl c_play hr (by decide) (pat_of (W := fun cls d _ H => E cls d H) (L2N.takes_of rfl rfl rfl rfl)) (pa_cons (pv 4) (pa_cons (pe_slice sl_list (pv 5) (po_some (pe_un un_neg (pe_int))) (po_none)) (pa_nil))))) (pss_cons (ps_if (pt_not (pt_tr (pv 6) (by intro _; rfl))) (pss_one (ps_expr (pe_bm PySem.F.plainAttrs_list PySem.F.slot_list_append PySem.F.type_list_append mt_append (pv 2) (pa_cons (pv 5) (pa_nil))))) (pss_nil)) (pss_one (ps_for (passes_of rfl) rfl (RT.pi_revA rfl T.b_reversed (pe_cl c__steps hr (by decide) (pat_of (W := fun cls d _ H => E cls d H) (L2N.takes_of rfl rfl rfl rfl)) (pa_cons (pv 7) (pa_cons (pv 6) (pa_nil))))) (pg_name (i := 8) sc_repairs.nd rfl (by first | exact Or.inl rfl | exact Or.inr rfl)) (pss_one (ps_expr (pe_bm PySem.F.plainAttrs_list PySem.F.slot_list_append PySem.F.type_list_append mt_append (pv 3) (pa_cons (pe_tup (pa_cons (pv 7) (pa_cons (pe_op op_addA (pv 5) (pe_lst (pa_cons (pv 8) (pa_nil)))) (pa_cons (pe_cl c__still_due hr (by decide) (pat_of (W := fun cls d _ H => E cls d H) (L2N.takes_of rfl rfl rfl rfl)) (pa_cons (pv 6) (pa_cons (pv 8) (pa_nil)))) (pa_nil))))) (pa_nil))))))))))) (pss_one (ps_ret (pv 2))))))), rd_repairs T vs H Q E h⟩
theorem ok_first_repair {f : Addr} {fd : FuncData} (T : Txt K mg) (F : FunD K "first_repair" "first_repair" (defArgs s_first_repair) (defBody s_first_repair) (defScope s_first_repair) [] [] f fd) (c_repairs : CalK P w K mg base 8 "repairs" ["links", "most"] 1 ["most"] (sp17_repairs K)) : FnOk P w K mg base (L2N.CX P w) 9 f fd ["links"] (sp17_first_repair K) :=
  F.ok sc_first_repair (len_first_repair K) fun cdv A outer s H vs Q E hr h => ⟨t_first_repair K E, pss_one (ps_ret (pe_ix ix_seq (pe_clK c_repairs hr (by decide) (pat_of (W := fun cls d _ H => E cls d H) (L2N.takes_of rfl rfl rfl rfl)) (pa_cons (pv 0) (pa_nil)) (pk_cons (pe_int) (pk_nil))) (pe_int) (fun _ _ => rfl))), rd_first_repair T vs H Q E h⟩
theorem ok__law_searched {f : Addr} {fd : FuncData} (T : Txt K mg) (F : FunD K "_law_searched" "_law_searched" (defArgs s__law_searched) (defBody s__law_searched) (defScope s__law_searched) [] [] f fd) (c_Links_read : Smt P w K mg base 6 (He.ga K "Links") "read" ["text"] (sp_Links_read K)) (c__law_distance : Cal P w K mg base 2 "_law_distance" ["start"] (sp18__law_distance K)) (c__law_dump : Cal P w K mg base 1 "_law_dump" ["book"] (sp16__law_dump K)) (c__law_ends_whole : Cal P w K mg base 2 "_law_ends_whole" ["start", "moves"] (sp18__law_ends_whole K)) (c__law_fits : Cal P w K mg base 2 "_law_fits" ["told", "word", "number"] (sp18__law_fits K)) (c__law_lost : Cal P w K mg base 1 "_law_lost" ["book"] (sp16__law_lost K)) (c__law_numbers : Cal P w K mg base 2 "_law_numbers" ["told"] (sp16__law_numbers K)) (c__law_told : Cal P w K mg base 10 "_law_told" ["linked"] (sp18__law_told K)) (c_first_repair : Cal P w K mg base 9 "first_repair" ["links"] (sp17_first_repair K)) : FnOk P w K mg base (L2N.CX P w) 11 f fd ["book"] (sp18__law_searched K) :=
  F.ok sc__law_searched (len__law_searched K) fun cdv A outer s H vs Q E hr h => ⟨t__law_searched K E, pss_cons (ps_set (i := 1) sc__law_searched.nd rfl (by first | exact Or.inl rfl | exact Or.inr rfl) (pe_cl c__law_distance hr (by decide) (pat_of (W := fun cls d _ H => E cls d H) (L2N.takes_of rfl rfl rfl rfl)) (pa_cons (pv 0) (pa_nil)))) (pss_cons (ps_set (i := 2) sc__law_searched.nd rfl (by first | exact Or.inl rfl | exact Or.inr rfl) (pe_cl c__law_lost hr (by decide) (pat_of (W := fun cls d _ H => E cls d H) (L2N.takes_of rfl rfl rfl rfl)) (pa_cons (pv 0) (pa_nil)))) (pss_cons (ps_set (i := 3) sc__law_searched.nd rfl (by first | exact Or.inl rfl | exact Or.inr rfl) (pe_sm c_Links_read hr (by decide) (pat_of (W := fun cls d _ H => E cls d H) (L2N.takes_of rfl rfl rfl rfl)) (pe_own T.g_Links) (pa_cons (pe_cl c__law_dump hr (by decide) (pat_of (W := fun cls d _ H => E cls d H) (L2N.takes_of rfl rfl rfl rfl)) (pa_cons (pv 0) (pa_nil))) (pa_nil)))) (pss_cons (ps_set (i := 4) sc__law_searched.nd rfl (by first | exact Or.inl rfl | exact Or.inr rfl) (pe_cl c__law_told hr (by decide) (pat_of (W := fun cls d _ H => E cls d H) (L2N.takes_of rfl rfl rfl rfl)) (pa_cons (pv 3) (pa_nil)))) (pss_cons (ps_if (pt_cmpR op_lt (pv 1) (pe_int) (nomark _)) (pss_one (ps_ret (pe_and (pe_cmpR (op_neA hr) (pv 2) (pe_lst (pa_nil)) (nomark _)) (pe_one (pe_cl c__law_fits hr (by decide) (pat_of (W := fun cls d _ H => E cls d H) (L2N.takes_of rfl rfl rfl rfl)) (pa_cons (pv 4) (pa_cons (pe_str) (pa_cons (pe_ix ix_seq (pv 2) (pe_int) (fun _ _ => rfl)) (pa_nil))))))))) (pss_nil)) (pss_cons (ps_if (pt_not (pt_val (pe_cl c__law_fits hr (by decide) (pat_of (W := fun cls d _ H => E cls d H) (L2N.takes_of rfl rfl rfl rfl)) (pa_cons (pv 4) (pa_cons (pe_str) (pa_cons (pv 1) (pa_nil))))))) (pss_one (ps_ret (pe_bl))) (pss_nil)) (pss_cons (ps_set (i := 5) sc__law_searched.nd rfl (by first | exact Or.inl rfl | exact Or.inr rfl) (pe_cl c_first_repair hr (by decide) (pat_of (W := fun cls d _ H => E cls d H) (L2N.takes_of rfl rfl rfl rfl)) (pa_cons (pv 3) (pa_nil)))) (pss_one (ps_ret (pe_and (pe_cl c__law_numbers hr (by decide) (pat_of (W := fun cls d _ H => E cls d H) (L2N.takes_of rfl rfl rfl rfl)) (pa_cons (pv 5) (pa_nil))) (pe_and (pe_cmpR (op_eqA hr) (pe_callB call_lenA (by rfl) T.b_len (by decide +kernel) (pa_cons (pv 5) (pa_nil))) (pv 1) (nomark _)) (pe_one (pe_cl c__law_ends_whole hr (by decide) (pat_of (W := fun cls d _ H => E cls d H) (L2N.takes_of rfl rfl rfl rfl)) (pa_cons (pv 0) (pa_cons (pv 5) (pa_nil))))))))))))))), rd__law_searched T vs H Q E h⟩
theorem ok__law_size {f : Addr} {fd : FuncData} (T : Txt K mg) (F : FunD K "_law_size" "_law_size" (defArgs s__law_size) (defBody s__law_size) (defScope s__law_size) [] [] f fd) (c__law_draw : Cal P w K mg base 1 "_law_draw" ["bag", "many"] (sp21__law_draw K)) : FnOk P w K mg base (L2N.CX P w) 2 f fd ["bag"] (sp16__law_size K) :=
  F.ok sc__law_size (len__law_size K) fun cdv A outer s H vs Q E hr h => ⟨t__law_size K E, pss_cons (ps_set (i := 1) sc__law_size.nd rfl (by first | exact Or.inl rfl | exact Or.inr rfl) (pe_ix ix_seq (pe_lst (pa_cons (pe_int) (pa_cons (pe_int) (pa_cons (pe_int) (pa_cons (pe_int) (pa_cons (pe_int) (pa_cons (pe_int) (pa_cons (pe_int) (pa_cons (pe_int) (pa_cons (pe_int) (pa_cons (pe_int) (pa_cons (pe_int) (pa_cons (pe_int) (pa_nil)))))))))))))) (pe_cl c__law_draw hr (by decide) (pat_of (W := fun cls d _ H => E cls d H) (L2N.takes_of rfl rfl rfl rfl)) (pa_cons (pv 0) (pa_cons (pe_int) (pa_nil)))) (fun _ _ => rfl))) (pss_cons (ps_if (pt_cmpR (op_eqA hr) (pv 1) (pe_int) (nomark _)) (pss_one (ps_set (i := 1) sc__law_size.nd rfl (by first | exact Or.inl rfl | exact Or.inr rfl) (pe_op op_addA (pe_int) (pe_cl c__law_draw hr (by decide) (pat_of (W := fun cls d _ H => E cls d H) (L2N.takes_of rfl rfl rfl rfl)) (pa_cons (pv 0) (pa_cons (pe_int) (pa_nil))))))) (pss_nil)) (pss_one (ps_ret (pv 1)))), rd__law_size T vs H Q E h⟩
theorem ok__law_standing {f : Addr} {fd : FuncData} (T : Txt K mg) (F : FunD K "_law_standing" "_law_standing" (defArgs s__law_standing) (defBody s__law_standing) (defScope s__law_standing) [] [] f fd) (c__law_draw : Cal P w K mg base 1 "_law_draw" ["bag", "many"] (sp21__law_draw K)) : FnOk P w K mg base (L2N.CX P w) 2 f fd ["bag", "size", "lossy"] (sp16__law_standing K) :=
  F.ok sc__law_standing (len__law_standing K) fun cdv A outer s H vs Q E hr h => ⟨t__law_standing K E, pss_cons (ps_setLc (i := 3) (own := [("node", 11)]) (g := gName 11) (tt := tYes) (te := tOp rSubA (tVar 11) (tC (.int 1))) rfl sc__law_standing.nd rfl rfl (sw_true rfl rfl rfl (by decide +kernel)) (pi_range1 rfl T.b_range (pa_cons (pe_op op_addA (pv 1) (pe_int)) (pa_nil))) (blkOk_by (own := [("node", 11)]) (N := ["bag", "size", "lossy", "lefts", "rights", "outs", "lean", "spot", "gap", "kind", "cut", "node"]) (sc := defScope s__law_standing) (by decide +kernel)) (fun _ _ _ _ _ => pg_name (i := 11) sc__law_standing.nd rfl (by first | exact Or.inl rfl | exact Or.inr rfl)) (fun _ _ _ _ _ => pts_nil) (fun _ _ _ _ _ => pe_op op_sub (pv 11) (pe_int))) (pss_cons (ps_setLc (i := 4) (own := [("node", 11)]) (g := gName 11) (tt := tYes) (te := tOp rAddA (tVar 11) (tC (.int 1))) rfl sc__law_standing.nd rfl rfl (sw_true rfl rfl rfl (by decide +kernel)) (pi_range1 rfl T.b_range (pa_cons (pe_op op_addA (pv 1) (pe_int)) (pa_nil))) (blkOk_by (own := [("node", 11)]) (N := ["bag", "size", "lossy", "lefts", "rights", "outs", "lean", "spot", "gap", "kind", "cut", "node"]) (sc := defScope s__law_standing) (by decide +kernel)) (fun _ _ _ _ _ => pg_name (i := 11) sc__law_standing.nd rfl (by first | exact Or.inl rfl | exact Or.inr rfl)) (fun _ _ _ _ _ => pts_nil) (fun _ _ _ _ _ => pe_op op_addA (pv 11) (pe_int))) (pss_cons (ps_setLc (i := 5) (own := [("node", 11)]) (g := gName 11) (tt := tYes) (te := tC (.bl false)) rfl sc__law_standing.nd rfl rfl (sw_true rfl rfl rfl (by decide +kernel)) (pi_range1 rfl T.b_range (pa_cons (pe_op op_addA (pv 1) (pe_int)) (pa_nil))) (blkOk_by (own := [("node", 11)]) (N := ["bag", "size", "lossy", "lefts", "rights", "outs", "lean", "spot", "gap", "kind", "cut", "node"]) (sc := defScope s__law_standing) (by decide +kernel)) (fun _ _ _ _ _ => pg_name (i := 11) sc__law_standing.nd rfl (by first | exact Or.inl rfl | exact Or.inr rfl)) (fun _ _ _ _ _ => pts_nil) (fun _ _ _ _ _ => pe_bl)) (pss_cons (ps_set (i := 6) sc__law_standing.nd rfl (by first | exact Or.inl rfl | exact Or.inr rfl) (pe_cl c__law_draw hr (by decide) (pat_of (W := fun cls d _ H => E cls d H) (L2N.takes_of rfl rfl rfl rfl)) (pa_cons (pv 0) (pa_cons (pe_int) (pa_nil))))) (pss_cons (ps_set (i := 7) sc__law_standing.nd rfl (by first | exact Or.inl rfl | exact Or.inr rfl) (pe_int)) (pss_cons (ps_if ((pw_and (pt_cmpR (op_eqA hr) (pv 2) (pe_int) (nomark _)) (pw_and1 (pt_cmpR op_gt (pv 1) (pe_int) (nomark _)))).pt) (pss_one (ps_set (i := 7) sc__law_standing.nd rfl (by first | exact Or.inl rfl | exact Or.inr rfl) (pe_op op_addA (pe_int) (pe_cl c__law_draw hr (by decide) (pat_of (W := fun cls d _ H => E cls d H) (L2N.takes_of rfl rfl rfl rfl)) (pa_cons (pv 0) (pa_cons (pe_op op_sub (pv 1) (pe_int)) (pa_nil))))))) (pss_nil)) (pss_cons (ps_for (passes_of rfl) rfl (pi_range1 rfl T.b_range (pa_cons (pe_op op_addA (pv 1) (pe_int)) (pa_nil))) (pg_name (i := 8) sc__law_standing.nd rfl (by first | exact Or.inl rfl | exact Or.inr rfl)) (pss_cons (ps_set (i := 9) sc__law_standing.nd rfl (by first | exact Or.inl rfl | exact Or.inr rfl) (pe_cl c__law_draw hr (by decide) (pat_of (W := fun cls d _ H => E cls d H) (L2N.takes_of rfl rfl rfl rfl)) (pa_cons (pv 0) (pa_cons (pe_ifExp (pt_cmpR (op_eqA hr) (pv 2) (pe_int) (nomark _)) (pe_int) (pe_int)) (pa_nil))))) (pss_cons (ps_set (i := 10) sc__law_standing.nd rfl (by first | exact Or.inl rfl | exact Or.inr rfl) (pe_and (pe_cmpR (op_eqA hr) (pv 8) (pv 7) (nomark _)) (pe_one (pe_cmpR op_gt (pv 7) (pe_int) (nomark _))))) (pss_cons (ps_if ((pw_and (pt_cmpR op_gt (pv 8) (pe_int) (nomark _)) (pw_and1 ((pw_or (pt_cmpR op_in_seq (pv 9) (pe_tup (pa_cons (pe_int) (pa_cons (pe_int) (pa_cons (pe_int) (pa_cons (pe_int) (pa_nil)))))) (rfl)) (pw_or1 (pt_val (pv 10)))).pt))).pt) (pss_one (ps_asg (pe_cl c__law_draw hr (by decide) (pat_of (W := fun cls d _ H => E cls d H) (L2N.takes_of rfl rfl rfl rfl)) (pa_cons (pv 0) (pa_cons (pv 8) (pa_nil)))) (pg_sub (pv 3) (pe_op op_addA (pv 8) (pe_int)) set_list))) (pss_nil)) (pss_one (ps_if ((pw_and (pt_cmpR op_lt (pv 8) (pv 1) (nomark _)) (pw_and1 ((pw_or (pt_cmpR op_in_seq (pv 9) (pe_tup (pa_cons (pe_int) (pa_cons (pe_int) (pa_cons (pe_int) (pa_cons (pe_int) (pa_nil)))))) (rfl)) (pw_or1 (pt_val (pv 10)))).pt))).pt) (pss_one (ps_asg (pe_op op_addA (pe_op op_addA (pv 8) (pe_int)) (pe_cl c__law_draw hr (by decide) (pat_of (W := fun cls d _ H => E cls d H) (L2N.takes_of rfl rfl rfl rfl)) (pa_cons (pv 0) (pa_cons (pe_op op_sub (pv 1) (pv 8)) (pa_nil))))) (pg_sub (pv 4) (pv 8) set_list))) (pss_nil))))))) (pss_cons (ps_for (passes_of rfl) rfl (pi_range2 rfl T.b_range (pa_cons (pe_int) (pa_cons (pe_op op_addA (pv 1) (pe_int)) (pa_nil)))) (pg_name (i := 11) sc__law_standing.nd rfl (by first | exact Or.inl rfl | exact Or.inr rfl)) (pss_one (ps_asg (pe_and (pe_cmpR (op_neA hr) (pv 6) (pe_int) (nomark _)) (pe_one (pe_cmpR (op_eqA hr) (pe_cl c__law_draw hr (by decide) (pat_of (W := fun cls d _ H => E cls d H) (L2N.takes_of rfl rfl rfl rfl)) (pa_cons (pv 0) (pa_cons (pe_ix ix_seq (pe_lst (pa_cons (pe_int) (pa_cons (pe_int) (pa_cons (pe_int) (pa_cons (pe_int) (pa_nil)))))) (pv 6) (fun _ _ => rfl)) (pa_nil)))) (pe_int) (nomark _)))) (pg_sub (pv 5) (pv 11) set_list)))) (pss_one (ps_ret (pe_lst (pa_cons (pv 1) (pa_cons (pv 3) (pa_cons (pv 4) (pa_cons (pv 5) (pa_nil))))))))))))))), rd__law_standing T vs H Q E h⟩
theorem ok_law {f : Addr} {fd : FuncData} (T : Txt K mg) (F : FunD K "law" "law" (defArgs s_law) (defBody s_law) (defScope s_law) [] [] f fd) (c__law_bag : Cal P w K mg base 1 "_law_bag" ["script"] (sp21__law_bag K)) (c__law_draw : Cal P w K mg base 1 "_law_draw" ["bag", "many"] (sp21__law_draw K)) (c__law_judged : Cal P w K mg base 11 "_law_judged" ["start", "moves", "place"] (sp18__law_judged K)) (c__law_led : Cal P w K mg base 11 "_law_led" ["start", "moves"] (sp18__law_led K)) (c__law_log : Cal P w K mg base 4 "_law_log" ["bag", "start"] (sp18__law_log K)) (c__law_searched : Cal P w K mg base 11 "_law_searched" ["book"] (sp18__law_searched K)) (c__law_size : Cal P w K mg base 2 "_law_size" ["bag"] (sp16__law_size K)) (c__law_standing : Cal P w K mg base 2 "_law_standing" ["bag", "size", "lossy"] (sp16__law_standing K)) : FnOk P w K mg base (L2N.CX P w) 12 f fd ["script"] (sp_law K) :=
  F.ok sc_law (len_law K) fun cdv A outer s H vs Q E hr h => ⟨t_law K E, pss_cons (ps_set (i := 1) sc_law.nd rfl (by first | exact Or.inl rfl | exact Or.inr rfl) (pe_cl c__law_bag hr (by decide) (pat_of (W := fun cls d _ H => E cls d H) (L2N.takes_of rfl rfl rfl rfl)) (pa_cons (pv 0) (pa_nil)))) (pss_cons (ps_set (i := 2) sc_law.nd rfl (by first | exact Or.inl rfl | exact Or.inr rfl) (pe_ix ix_seq (pe_lst (pa_cons (pe_int) (pa_cons (pe_int) (pa_cons (pe_int) (pa_cons (pe_int) (pa_cons (pe_int) (pa_cons (pe_int) (pa_cons (pe_int) (pa_cons (pe_int) (pa_nil)))))))))) (pe_cl c__law_draw hr (by decide) (pat_of (W := fun cls d _ H => E cls d H) (L2N.takes_of rfl rfl rfl rfl)) (pa_cons (pv 1) (pa_cons (pe_int) (pa_nil)))) (fun _ _ => rfl))) (pss_cons (ps_if (pt_not (pt_val (pe_cl c__law_searched hr (by decide) (pat_of (W := fun cls d _ H => E cls d H) (L2N.takes_of rfl rfl rfl rfl)) (pa_cons (pe_cl c__law_standing hr (by decide) (pat_of (W := fun cls d _ H => E cls d H) (L2N.takes_of rfl rfl rfl rfl)) (pa_cons (pv 1) (pa_cons (pv 2) (pa_cons (pe_ix ix_seq (pe_lst (pa_cons (pe_int) (pa_cons (pe_int) (pa_cons (pe_int) (pa_cons (pe_int) (pa_nil)))))) (pe_cl c__law_draw hr (by decide) (pat_of (W := fun cls d _ H => E cls d H) (L2N.takes_of rfl rfl rfl rfl)) (pa_cons (pv 1) (pa_cons (pe_int) (pa_nil)))) (fun _ _ => rfl)) (pa_nil))))) (pa_nil))))) (pss_one (ps_ret (pe_bl))) (pss_nil)) (pss_cons (ps_set (i := 3) sc_law.nd rfl (by first | exact Or.inl rfl | exact Or.inr rfl) (pe_cl c__law_size hr (by decide) (pat_of (W := fun cls d _ H => E cls d H) (L2N.takes_of rfl rfl rfl rfl)) (pa_cons (pv 1) (pa_nil)))) (pss_cons (ps_set (i := 4) sc_law.nd rfl (by first | exact Or.inl rfl | exact Or.inr rfl) (pe_cl c__law_standing hr (by decide) (pat_of (W := fun cls d _ H => E cls d H) (L2N.takes_of rfl rfl rfl rfl)) (pa_cons (pv 1) (pa_cons (pv 3) (pa_cons (pe_ix ix_seq (pe_lst (pa_cons (pe_int) (pa_cons (pe_int) (pa_cons (pe_int) (pa_cons (pe_int) (pa_nil)))))) (pe_cl c__law_draw hr (by decide) (pat_of (W := fun cls d _ H => E cls d H) (L2N.takes_of rfl rfl rfl rfl)) (pa_cons (pv 1) (pa_cons (pe_int) (pa_nil)))) (fun _ _ => rfl)) (pa_nil)))))) (pss_cons (ps_set (i := 5) sc_law.nd rfl (by first | exact Or.inl rfl | exact Or.inr rfl) (pe_cl c__law_log hr (by decide) (pat_of (W := fun cls d _ H => E cls d H) (L2N.takes_of rfl rfl rfl rfl)) (pa_cons (pv 1) (pa_cons (pv 4) (pa_nil))))) (pss_cons (ps_if (pt_not (pt_val (pe_cl c__law_led hr (by decide) (pat_of (W := fun cls d _ H => E cls d H) (L2N.takes_of rfl rfl rfl rfl)) (pa_cons (pv 4) (pa_cons (pv 5) (pa_nil)))))) (pss_one (ps_ret (pe_bl))) (pss_nil)) (pss_one (ps_ret (pe_cl c__law_judged hr (by decide) (pat_of (W := fun cls d _ H => E cls d H) (L2N.takes_of rfl rfl rfl rfl)) (pa_cons (pv 4) (pa_cons (pv 5) (pa_cons (pe_cl c__law_draw hr (by decide) (pat_of (W := fun cls d _ H => E cls d H) (L2N.takes_of rfl rfl rfl rfl)) (pa_cons (pv 1) (pa_cons (pe_op op_addA (pe_callB call_lenA (by rfl) T.b_len (by decide +kernel) (pa_cons (pv 5) (pa_nil))) (pe_int)) (pa_nil)))) (pa_nil))))))))))))), rd_law T vs H Q E h⟩
end
end G
set_option Elab.async false
set_option linter.all false
set_option maxRecDepth 100000
set_option maxHeartbeats 4000000
namespace G
open PySem PySem.Spec PyProof.Rows L2
theorem facts {P : Program} {w : World} {K : PySem.W.Frag} {h : Heap} {mg : Str → Option Value} {f : Addr} (X : K.In h) (G : h.Ns mainGlobals mg) (hfa : mg ("law" : Str) = some (.ref f)) (c : SaysS chkL fnL fsL K) (hfile : ((P.main.file : Str) == PySem.Challenge.pw_latelink_k18_whole_no_repair_is_shorter.main.file) = true) (htop : (P.main.scope.names.lookup ("super" : Str)).isSome = false) :
    ∃ fd : FuncData, (∀ (s : Shared) (v : Value), BindsTo s fd ⟨[v], []⟩ [("script", v)]) ∧ ∀ base : Heap, K.In base → base.Ns mainGlobals mg → FnOk P w K mg base (L2N.CX P w) 12 f fd ["script"] (sp_law K) := by
  have T := txt_of X G c.toY
  obtain ⟨fd__law_bag, F__law_bag⟩ := c.toY.def_ 0 (d := d__law_bag) rfl
  obtain ⟨fd__law_draw, F__law_draw⟩ := c.toY.def_ 1 (d := d__law_draw) rfl
  obtain ⟨fd_check_size, F_check_size⟩ := c.toY.def_ 2 (d := d_check_size) rfl
  obtain ⟨fd_Links___init__, F_Links___init__⟩ := c.toY.def_ 3 (d := d_Links___init__) rfl
  obtain ⟨fd_is_positive, F_is_positive⟩ := c.toY.def_ 4 (d := d_is_positive) rfl
  obtain ⟨fd__read_numbers, F__read_numbers⟩ := c.toY.def_ 5 (d := d__read_numbers) rfl
  obtain ⟨fd__read_lefts, F__read_lefts⟩ := c.toY.def_ 6 (d := d__read_lefts) rfl
  obtain ⟨fd__read_outs, F__read_outs⟩ := c.toY.def_ 7 (d := d__read_outs) rfl
  obtain ⟨fd__read_rights, F__read_rights⟩ := c.toY.def_ 8 (d := d__read_rights) rfl
  obtain ⟨fd_Links_read, F_Links_read⟩ := c.toY.def_ 9 (d := d_Links_read) rfl
  obtain ⟨fd__law_copy, F__law_copy⟩ := c.toY.def_ 10 (d := d__law_copy) rfl
  obtain ⟨fd__law_dump, F__law_dump⟩ := c.toY.def_ 11 (d := d__law_dump) rfl
  obtain ⟨fd__law_is_whole, F__law_is_whole⟩ := c.toY.def_ 12 (d := d__law_is_whole) rfl
  obtain ⟨fd__law_operation, F__law_operation⟩ := c.toY.def_ 13 (d := d__law_operation) rfl
  obtain ⟨fd__law_step, F__law_step⟩ := c.toY.def_ 14 (d := d__law_step) rfl
  obtain ⟨fd__law_ends_whole, F__law_ends_whole⟩ := c.toY.def_ 15 (d := d__law_ends_whole) rfl
  obtain ⟨fd__law_is_due, F__law_is_due⟩ := c.toY.def_ 16 (d := d__law_is_due) rfl
  obtain ⟨fd__law_due, F__law_due⟩ := c.toY.def_ 17 (d := d__law_due) rfl
  obtain ⟨fd__law_owed, F__law_owed⟩ := c.toY.def_ 18 (d := d__law_owed) rfl
  obtain ⟨fd_Links_is_out, F_Links_is_out⟩ := c.toY.def_ 19 (d := d_Links_is_out) rfl
  obtain ⟨fd_Links_left, F_Links_left⟩ := c.toY.def_ 20 (d := d_Links_left) rfl
  obtain ⟨fd_Links_right, F_Links_right⟩ := c.toY.def_ 21 (d := d_Links_right) rfl
  obtain ⟨fd_check_gap, F_check_gap⟩ := c.toY.def_ 22 (d := d_check_gap) rfl
  obtain ⟨fd_gap_state, F_gap_state⟩ := c.toY.def_ 23 (d := d_gap_state) rfl
  obtain ⟨fd_gap_states, F_gap_states⟩ := c.toY.def_ 24 (d := d_gap_states) rfl
  obtain ⟨fd_lost_gaps, F_lost_gaps⟩ := c.toY.def_ 25 (d := d_lost_gaps) rfl
  obtain ⟨fd_check_repairable, F_check_repairable⟩ := c.toY.def_ 26 (d := d_check_repairable) rfl
  obtain ⟨fd_Links_outs, F_Links_outs⟩ := c.toY.def_ 27 (d := d_Links_outs) rfl
  obtain ⟨fd_sole_holders, F_sole_holders⟩ := c.toY.def_ 28 (d := d_sole_holders) rfl
  obtain ⟨fd_due_nodes, F_due_nodes⟩ := c.toY.def_ 29 (d := d_due_nodes) rfl
  obtain ⟨fd_repair_cost, F_repair_cost⟩ := c.toY.def_ 30 (d := d_repair_cost) rfl
  obtain ⟨fd_debt_of, F_debt_of⟩ := c.toY.def_ 31 (d := d_debt_of) rfl
  obtain ⟨fd_Links___eq__, F_Links___eq__⟩ := c.toY.def_ 32 (d := d_Links___eq__) rfl
  obtain ⟨fd_Links_is_whole, F_Links_is_whole⟩ := c.toY.def_ 33 (d := d_Links_is_whole) rfl
  obtain ⟨fd_Links_is_legal, F_Links_is_legal⟩ := c.toY.def_ 34 (d := d_Links_is_legal) rfl
  obtain ⟨fd_check_operation, F_check_operation⟩ := c.toY.def_ 35 (d := d_check_operation) rfl
  obtain ⟨fd_Links_check, F_Links_check⟩ := c.toY.def_ 36 (d := d_Links_check) rfl
  obtain ⟨fd_Links_apply_at, F_Links_apply_at⟩ := c.toY.def_ 37 (d := d_Links_apply_at) rfl
  obtain ⟨fd_Links_copy, F_Links_copy⟩ := c.toY.def_ 38 (d := d_Links_copy) rfl
  obtain ⟨fd_play, F_play⟩ := c.toY.def_ 39 (d := d_play) rfl
  obtain ⟨fd_is_repair, F_is_repair⟩ := c.toY.def_ 40 (d := d_is_repair) rfl
  obtain ⟨fd_is_least_repair, F_is_least_repair⟩ := c.toY.def_ 41 (d := d_is_least_repair) rfl
  obtain ⟨fd__law_judged, F__law_judged⟩ := c.toY.def_ 42 (d := d__law_judged) rfl
  obtain ⟨fd_Links_apply, F_Links_apply⟩ := c.toY.def_ 43 (d := d_Links_apply) rfl
  obtain ⟨fd__law_number, F__law_number⟩ := c.toY.def_ 44 (d := d__law_number) rfl
  obtain ⟨fd__law_fits, F__law_fits⟩ := c.toY.def_ 45 (d := d__law_fits) rfl
  obtain ⟨fd__law_lost, F__law_lost⟩ := c.toY.def_ 46 (d := d__law_lost) rfl
  obtain ⟨fd__law_told, F__law_told⟩ := c.toY.def_ 47 (d := d__law_told) rfl
  obtain ⟨fd__law_led, F__law_led⟩ := c.toY.def_ 48 (d := d__law_led) rfl
  obtain ⟨fd__law_lowers, F__law_lowers⟩ := c.toY.def_ 49 (d := d__law_lowers) rfl
  obtain ⟨fd__law_log, F__law_log⟩ := c.toY.def_ 50 (d := d__law_log) rfl
  obtain ⟨fd__law_key, F__law_key⟩ := c.toY.def_ 51 (d := d__law_key) rfl
  obtain ⟨fd__law_distance, F__law_distance⟩ := c.toY.def_ 52 (d := d__law_distance) rfl
  obtain ⟨fd__law_numbers, F__law_numbers⟩ := c.toY.def_ 53 (d := d__law_numbers) rfl
  obtain ⟨fd_foreign_writes, F_foreign_writes⟩ := c.toY.def_ 54 (d := d_foreign_writes) rfl
  obtain ⟨fd_left_to, F_left_to⟩ := c.toY.def_ 55 (d := d_left_to) rfl
  obtain ⟨fd__spoils_nothing, F__spoils_nothing⟩ := c.toY.def_ 56 (d := d__spoils_nothing) rfl
  obtain ⟨fd__steps, F__steps⟩ := c.toY.def_ 57 (d := d__steps) rfl
  obtain ⟨fd__still_due, F__still_due⟩ := c.toY.def_ 58 (d := d__still_due) rfl
  obtain ⟨fd_repairs, F_repairs⟩ := c.toY.def_ 59 (d := d_repairs) rfl
  obtain ⟨fd_first_repair, F_first_repair⟩ := c.toY.def_ 60 (d := d_first_repair) rfl
  obtain ⟨fd__law_searched, F__law_searched⟩ := c.toY.def_ 61 (d := d__law_searched) rfl
  obtain ⟨fd__law_size, F__law_size⟩ := c.toY.def_ 62 (d := d__law_size) rfl
  obtain ⟨fd__law_standing, F__law_standing⟩ := c.toY.def_ 63 (d := d__law_standing) rfl
  obtain ⟨fd_law, F_law⟩ := c.toY.def_ 64 (d := d_law) rfl
  obtain ⟨fd_BadCount___init__, F_BadCount___init__⟩ := c.toY.def_ 65 (d := d_BadCount___init__) rfl
  obtain ⟨fd_BadDump___init__, F_BadDump___init__⟩ := c.toY.def_ 66 (d := d_BadDump___init__) rfl
  obtain ⟨fd_BadGap___init__, F_BadGap___init__⟩ := c.toY.def_ 67 (d := d_BadGap___init__) rfl
  obtain ⟨fd_BadNode___init__, F_BadNode___init__⟩ := c.toY.def_ 68 (d := d_BadNode___init__) rfl
  obtain ⟨fd_BadSize___init__, F_BadSize___init__⟩ := c.toY.def_ 69 (d := d_BadSize___init__) rfl
  obtain ⟨fd_BadWeights___init__, F_BadWeights___init__⟩ := c.toY.def_ 70 (d := d_BadWeights___init__) rfl
  obtain ⟨fd_LogError___init__, F_LogError___init__⟩ := c.toY.def_ 71 (d := d_LogError___init__) rfl
  obtain ⟨fd_NotRepairable___init__, F_NotRepairable___init__⟩ := c.toY.def_ 72 (d := d_NotRepairable___init__) rfl
  have e := hfa.symm.trans T.gf_law
  cases e
  have bA := FunD.bindsA (ps := ["script"]) F_law fun _ _ _ _ _ _ us hl => match us, hl with | [_], _ => rfl
  refine ⟨fd_law, fun s v => bA s [v] rfl, fun base _ _ => ?_⟩
  have i_BadCount : FnOk P w K mg base (L2N.CX P w) 1 (He.ma K (He.ga K "BadCount") "__init__") fd_BadCount___init__ ["self", "count"] (spIn K ["count"]) := FunD.ok F_BadCount___init__ sc_BadCount___init__ (spIn_len rfl) fun cdv A outer s H vs Q E hr h => ⟨_, pss_one (ps_ost (pv 0) (pv 1)), ini1 rfl h⟩
  have i_BadDump : FnOk P w K mg base (L2N.CX P w) 1 (He.ma K (He.ga K "BadDump") "__init__") fd_BadDump___init__ ["self", "part"] (spIn K ["part"]) := FunD.ok F_BadDump___init__ sc_BadDump___init__ (spIn_len rfl) fun cdv A outer s H vs Q E hr h => ⟨_, pss_one (ps_ost (pv 0) (pv 1)), ini1 rfl h⟩
  have i_BadGap : FnOk P w K mg base (L2N.CX P w) 1 (He.ma K (He.ga K "BadGap") "__init__") fd_BadGap___init__ ["self", "gap"] (spIn K ["gap"]) := FunD.ok F_BadGap___init__ sc_BadGap___init__ (spIn_len rfl) fun cdv A outer s H vs Q E hr h => ⟨_, pss_one (ps_ost (pv 0) (pv 1)), ini1 rfl h⟩
  have i_BadNode : FnOk P w K mg base (L2N.CX P w) 1 (He.ma K (He.ga K "BadNode") "__init__") fd_BadNode___init__ ["self", "node"] (spIn K ["node"]) := FunD.ok F_BadNode___init__ sc_BadNode___init__ (spIn_len rfl) fun cdv A outer s H vs Q E hr h => ⟨_, pss_one (ps_ost (pv 0) (pv 1)), ini1 rfl h⟩
  have i_BadSize : FnOk P w K mg base (L2N.CX P w) 1 (He.ma K (He.ga K "BadSize") "__init__") fd_BadSize___init__ ["self", "size"] (spIn K ["size"]) := FunD.ok F_BadSize___init__ sc_BadSize___init__ (spIn_len rfl) fun cdv A outer s H vs Q E hr h => ⟨_, pss_one (ps_ost (pv 0) (pv 1)), ini1 rfl h⟩
  have i_BadWeights : FnOk P w K mg base (L2N.CX P w) 1 (He.ma K (He.ga K "BadWeights") "__init__") fd_BadWeights___init__ ["self", "count"] (spIn K ["count"]) := FunD.ok F_BadWeights___init__ sc_BadWeights___init__ (spIn_len rfl) fun cdv A outer s H vs Q E hr h => ⟨_, pss_one (ps_ost (pv 0) (pv 1)), ini1 rfl h⟩
  have i_LogError : FnOk P w K mg base (L2N.CX P w) 1 (He.ma K (He.ga K "LogError") "__init__") fd_LogError___init__ ["self", "operation", "index"] (spIn K ["operation", "index"]) := FunD.ok F_LogError___init__ sc_LogError___init__ (spIn_len rfl) fun cdv A outer s H vs Q E hr h => ⟨_, pss_cons (ps_ost (pv 0) (pv 1)) (pss_one (ps_ost (pv 0) (pv 2))), ini2 rfl h⟩
  have i_NotRepairable : FnOk P w K mg base (L2N.CX P w) 1 (He.ma K (He.ga K "NotRepairable") "__init__") fd_NotRepairable___init__ ["self", "gap"] (spIn K ["gap"]) := FunD.ok F_NotRepairable___init__ sc_NotRepairable___init__ (spIn_len rfl) fun cdv A outer s H vs Q E hr h => ⟨_, pss_one (ps_ost (pv 0) (pv 1)), ini1 rfl h⟩
  have x_BadCount : ExM P w K mg base 1 "BadCount" (He.ga K "BadCount") ["count"] := ⟨T.oe_BadCount.1, T.oe_BadCount.2, T.g_BadCount, _, fd_BadCount___init__, ["self", "count"], i_BadCount, T.in_BadCount.1, T.in_BadCount.2, FunD.bindsN (ps := ["self", "count"]) F_BadCount___init__ fun _ _ _ _ _ _ us hl => match us, hl with | [_, _], _ => rfl⟩
  have x_BadDump : ExM P w K mg base 1 "BadDump" (He.ga K "BadDump") ["part"] := ⟨T.oe_BadDump.1, T.oe_BadDump.2, T.g_BadDump, _, fd_BadDump___init__, ["self", "part"], i_BadDump, T.in_BadDump.1, T.in_BadDump.2, FunD.bindsN (ps := ["self", "part"]) F_BadDump___init__ fun _ _ _ _ _ _ us hl => match us, hl with | [_, _], _ => rfl⟩
  have x_BadGap : ExM P w K mg base 1 "BadGap" (He.ga K "BadGap") ["gap"] := ⟨T.oe_BadGap.1, T.oe_BadGap.2, T.g_BadGap, _, fd_BadGap___init__, ["self", "gap"], i_BadGap, T.in_BadGap.1, T.in_BadGap.2, FunD.bindsN (ps := ["self", "gap"]) F_BadGap___init__ fun _ _ _ _ _ _ us hl => match us, hl with | [_, _], _ => rfl⟩
  have x_BadNode : ExM P w K mg base 1 "BadNode" (He.ga K "BadNode") ["node"] := ⟨T.oe_BadNode.1, T.oe_BadNode.2, T.g_BadNode, _, fd_BadNode___init__, ["self", "node"], i_BadNode, T.in_BadNode.1, T.in_BadNode.2, FunD.bindsN (ps := ["self", "node"]) F_BadNode___init__ fun _ _ _ _ _ _ us hl => match us, hl with | [_, _], _ => rfl⟩
  have x_BadOperation : ExM P w K mg base 1 "BadOperation" (He.ga K "BadOperation") ["operation", "index"] := ⟨T.oe_BadOperation.1, T.oe_BadOperation.2, T.g_BadOperation, _, fd_LogError___init__, ["self", "operation", "index"], i_LogError, (T.sm_BadOperation ▸ T.in_BadOperation).1, (T.sm_BadOperation ▸ T.in_BadOperation).2, FunD.bindsN (ps := ["self", "operation", "index"]) F_LogError___init__ fun _ _ _ _ _ _ us hl => match us, hl with | [_, _, _], _ => rfl⟩
  have x_BadSize : ExM P w K mg base 1 "BadSize" (He.ga K "BadSize") ["size"] := ⟨T.oe_BadSize.1, T.oe_BadSize.2, T.g_BadSize, _, fd_BadSize___init__, ["self", "size"], i_BadSize, T.in_BadSize.1, T.in_BadSize.2, FunD.bindsN (ps := ["self", "size"]) F_BadSize___init__ fun _ _ _ _ _ _ us hl => match us, hl with | [_, _], _ => rfl⟩
  have x_BadWeights : ExM P w K mg base 1 "BadWeights" (He.ga K "BadWeights") ["count"] := ⟨T.oe_BadWeights.1, T.oe_BadWeights.2, T.g_BadWeights, _, fd_BadWeights___init__, ["self", "count"], i_BadWeights, T.in_BadWeights.1, T.in_BadWeights.2, FunD.bindsN (ps := ["self", "count"]) F_BadWeights___init__ fun _ _ _ _ _ _ us hl => match us, hl with | [_, _], _ => rfl⟩
  have x_Illegal : ExM P w K mg base 1 "Illegal" (He.ga K "Illegal") ["operation", "index"] := ⟨T.oe_Illegal.1, T.oe_Illegal.2, T.g_Illegal, _, fd_LogError___init__, ["self", "operation", "index"], i_LogError, (T.sm_Illegal ▸ T.in_Illegal).1, (T.sm_Illegal ▸ T.in_Illegal).2, FunD.bindsN (ps := ["self", "operation", "index"]) F_LogError___init__ fun _ _ _ _ _ _ us hl => match us, hl with | [_, _, _], _ => rfl⟩
  have x_NotRepairable : ExM P w K mg base 1 "NotRepairable" (He.ga K "NotRepairable") ["gap"] := ⟨T.oe_NotRepairable.1, T.oe_NotRepairable.2, T.g_NotRepairable, _, fd_NotRepairable___init__, ["self", "gap"], i_NotRepairable, T.in_NotRepairable.1, T.in_NotRepairable.2, FunD.bindsN (ps := ["self", "gap"]) F_NotRepairable___init__ fun _ _ _ _ _ _ us hl => match us, hl with | [_, _], _ => rfl⟩
  have c__law_bag : Cal P w K mg base 1 "_law_bag" ["script"] (sp21__law_bag K) := ⟨_, fd__law_bag, ok__law_bag T F__law_bag , T.gf__law_bag, F__law_bag.kp, FunD.bindsN (ps := ["script"]) F__law_bag fun _ _ _ _ _ _ us hl => match us, hl with | [_], _ => rfl⟩
  have c__law_draw : Cal P w K mg base 1 "_law_draw" ["bag", "many"] (sp21__law_draw K) := ⟨_, fd__law_draw, ok__law_draw T F__law_draw , T.gf__law_draw, F__law_draw.kp, FunD.bindsN (ps := ["bag", "many"]) F__law_draw fun _ _ _ _ _ _ us hl => match us, hl with | [_, _], _ => rfl⟩
  have c_check_size : Cal P w K mg base 3 "check_size" ["size"] (sp_check_size K) := ⟨_, fd_check_size, ok_check_size T F_check_size x_BadSize, T.gf_check_size, F_check_size.kp, FunD.bindsN (ps := ["size"]) F_check_size fun _ _ _ _ _ _ us hl => match us, hl with | [_], _ => rfl⟩
  have m_Links : Mak P w K mg base 4 "Links" (He.ga K "Links") ["self", "size"] (sp_Links___init__ K) := ⟨_, fd_Links___init__, ok_Links___init__ T F_Links___init__ c_check_size, T.mk_Links, T.g_Links, FunD.bindsN (ps := ["self", "size"]) F_Links___init__ fun _ _ _ _ _ _ us hl => match us, hl with | [_, _], _ => rfl⟩
  have c_is_positive : Cal P w K mg base 1 "is_positive" ["word"] (sp_is_positive K) := ⟨_, fd_is_positive, ok_is_positive T F_is_positive , T.gf_is_positive, F_is_positive.kp, FunD.bindsN (ps := ["word"]) F_is_positive fun _ _ _ _ _ _ us hl => match us, hl with | [_], _ => rfl⟩
  have c__read_numbers : Cal P w K mg base 3 "_read_numbers" ["text", "part"] (sp__read_numbers K) := ⟨_, fd__read_numbers, ok__read_numbers T F__read_numbers c_is_positive x_BadDump, T.gf__read_numbers, F__read_numbers.kp, FunD.bindsN (ps := ["text", "part"]) F__read_numbers fun _ _ _ _ _ _ us hl => match us, hl with | [_, _], _ => rfl⟩
  have c__read_lefts : Cal P w K mg base 4 "_read_lefts" ["text", "size"] (sp__read_lefts K) := ⟨_, fd__read_lefts, ok__read_lefts T F__read_lefts c__read_numbers x_BadDump, T.gf__read_lefts, F__read_lefts.kp, FunD.bindsN (ps := ["text", "size"]) F__read_lefts fun _ _ _ _ _ _ us hl => match us, hl with | [_, _], _ => rfl⟩
  have c__read_outs : Cal P w K mg base 4 "_read_outs" ["text", "size"] (sp__read_outs K) := ⟨_, fd__read_outs, ok__read_outs T F__read_outs c__read_numbers x_BadDump, T.gf__read_outs, F__read_outs.kp, FunD.bindsN (ps := ["text", "size"]) F__read_outs fun _ _ _ _ _ _ us hl => match us, hl with | [_, _], _ => rfl⟩
  have c__read_rights : Cal P w K mg base 4 "_read_rights" ["text"] (sp__read_rights K) := ⟨_, fd__read_rights, ok__read_rights T F__read_rights c__read_numbers x_BadDump, T.gf__read_rights, F__read_rights.kp, FunD.bindsN (ps := ["text"]) F__read_rights fun _ _ _ _ _ _ us hl => match us, hl with | [_], _ => rfl⟩
  have c_Links_read : Smt P w K mg base 6 (He.ga K "Links") "read" ["text"] (sp_Links_read K) := smt_of T.sm_Links_read (ok_Links_read T F_Links_read m_Links c__read_lefts c__read_outs c__read_rights x_BadDump) F_Links_read.kp (FunD.bindsN (ps := ["text"]) F_Links_read fun _ _ _ _ _ _ us hl => match us, hl with | [_], _ => rfl)
  have c__law_copy : Cal P w K mg base 1 "_law_copy" ["book"] (sp18__law_copy K) := ⟨_, fd__law_copy, ok__law_copy T F__law_copy , T.gf__law_copy, F__law_copy.kp, FunD.bindsN (ps := ["book"]) F__law_copy fun _ _ _ _ _ _ us hl => match us, hl with | [_], _ => rfl⟩
  have c__law_dump : Cal P w K mg base 1 "_law_dump" ["book"] (sp16__law_dump K) := ⟨_, fd__law_dump, ok__law_dump T F__law_dump , T.gf__law_dump, F__law_dump.kp, FunD.bindsN (ps := ["book"]) F__law_dump fun _ _ _ _ _ _ us hl => match us, hl with | [_], _ => rfl⟩
  have c__law_is_whole : Cal P w K mg base 1 "_law_is_whole" ["book"] (sp16__law_is_whole K) := ⟨_, fd__law_is_whole, ok__law_is_whole T F__law_is_whole , T.gf__law_is_whole, F__law_is_whole.kp, FunD.bindsN (ps := ["book"]) F__law_is_whole fun _ _ _ _ _ _ us hl => match us, hl with | [_], _ => rfl⟩
  have c__law_operation : Cal P w K mg base 1 "_law_operation" ["book", "node"] (sp__law_operation K) := ⟨_, fd__law_operation, ok__law_operation T F__law_operation , T.gf__law_operation, F__law_operation.kp, FunD.bindsN (ps := ["book", "node"]) F__law_operation fun _ _ _ _ _ _ us hl => match us, hl with | [_, _], _ => rfl⟩
  have c__law_step : Cal P w K mg base 1 "_law_step" ["book", "node"] (sp18__law_step K) := ⟨_, fd__law_step, ok__law_step T F__law_step , T.gf__law_step, F__law_step.kp, FunD.bindsN (ps := ["book", "node"]) F__law_step fun _ _ _ _ _ _ us hl => match us, hl with | [_, _], _ => rfl⟩
  have c__law_ends_whole : Cal P w K mg base 2 "_law_ends_whole" ["start", "moves"] (sp18__law_ends_whole K) := ⟨_, fd__law_ends_whole, ok__law_ends_whole T F__law_ends_whole c__law_copy c__law_is_whole c__law_operation c__law_step, T.gf__law_ends_whole, F__law_ends_whole.kp, FunD.bindsN (ps := ["start", "moves"]) F__law_ends_whole fun _ _ _ _ _ _ us hl => match us, hl with | [_, _], _ => rfl⟩
  have c__law_is_due : Cal P w K mg base 1 "_law_is_due" ["book", "node"] (sp16__law_is_due K) := ⟨_, fd__law_is_due, ok__law_is_due T F__law_is_due , T.gf__law_is_due, F__law_is_due.kp, FunD.bindsN (ps := ["book", "node"]) F__law_is_due fun _ _ _ _ _ _ us hl => match us, hl with | [_, _], _ => rfl⟩
  have c__law_due : Cal P w K mg base 2 "_law_due" ["book"] (sp16__law_due K) := ⟨_, fd__law_due, ok__law_due T F__law_due c__law_is_due, T.gf__law_due, F__law_due.kp, FunD.bindsN (ps := ["book"]) F__law_due fun _ _ _ _ _ _ us hl => match us, hl with | [_], _ => rfl⟩
  have c__law_owed : Cal P w K mg base 3 "_law_owed" ["book"] (sp16__law_owed K) := ⟨_, fd__law_owed, ok__law_owed T F__law_owed c__law_due, T.gf__law_owed, F__law_owed.kp, FunD.bindsN (ps := ["book"]) F__law_owed fun _ _ _ _ _ _ us hl => match us, hl with | [_], _ => rfl⟩
  have c_Links_is_out : Met P w K mg base 3 (He.ga K "Links") "is_out" ["self", "node"] (sp03_Links_is_out K) := ⟨_, fd_Links_is_out, ok_Links_is_out T F_Links_is_out x_BadNode, T.me_Links_is_out, FunD.bindsN (ps := ["self", "node"]) F_Links_is_out fun _ _ _ _ _ _ us hl => match us, hl with | [_, _], _ => rfl⟩
  have c_Links_left : Met P w K mg base 3 (He.ga K "Links") "left" ["self", "node"] (sp_Links_left K) := ⟨_, fd_Links_left, ok_Links_left T F_Links_left x_BadNode, T.me_Links_left, FunD.bindsN (ps := ["self", "node"]) F_Links_left fun _ _ _ _ _ _ us hl => match us, hl with | [_, _], _ => rfl⟩
  have c_Links_right : Met P w K mg base 3 (He.ga K "Links") "right" ["self", "node"] (sp_Links_right K) := ⟨_, fd_Links_right, ok_Links_right T F_Links_right x_BadNode, T.me_Links_right, FunD.bindsN (ps := ["self", "node"]) F_Links_right fun _ _ _ _ _ _ us hl => match us, hl with | [_, _], _ => rfl⟩
  have c_check_gap : Cal P w K mg base 3 "check_gap" ["size", "gap"] (sp_check_gap K) := ⟨_, fd_check_gap, ok_check_gap T F_check_gap x_BadGap, T.gf_check_gap, F_check_gap.kp, FunD.bindsN (ps := ["size", "gap"]) F_check_gap fun _ _ _ _ _ _ us hl => match us, hl with | [_, _], _ => rfl⟩
  have c_gap_state : Cal P w K mg base 4 "gap_state" ["links", "gap"] (sp_gap_state K) := ⟨_, fd_gap_state, ok_gap_state T F_gap_state c_Links_left c_Links_right c_check_gap, T.gf_gap_state, F_gap_state.kp, FunD.bindsN (ps := ["links", "gap"]) F_gap_state fun _ _ _ _ _ _ us hl => match us, hl with | [_, _], _ => rfl⟩
  have c_gap_states : Cal P w K mg base 5 "gap_states" ["links"] (sp_gap_states K) := ⟨_, fd_gap_states, ok_gap_states T F_gap_states c_gap_state, T.gf_gap_states, F_gap_states.kp, FunD.bindsN (ps := ["links"]) F_gap_states fun _ _ _ _ _ _ us hl => match us, hl with | [_], _ => rfl⟩
  have c_lost_gaps : Cal P w K mg base 6 "lost_gaps" ["links"] (sp_lost_gaps K) := ⟨_, fd_lost_gaps, ok_lost_gaps T F_lost_gaps c_gap_states, T.gf_lost_gaps, F_lost_gaps.kp, FunD.bindsN (ps := ["links"]) F_lost_gaps fun _ _ _ _ _ _ us hl => match us, hl with | [_], _ => rfl⟩
  have c_check_repairable : Cal P w K mg base 7 "check_repairable" ["links"] (sp16_check_repairable K) := ⟨_, fd_check_repairable, ok_check_repairable T F_check_repairable c_lost_gaps x_NotRepairable, T.gf_check_repairable, F_check_repairable.kp, FunD.bindsN (ps := ["links"]) F_check_repairable fun _ _ _ _ _ _ us hl => match us, hl with | [_], _ => rfl⟩
  have c_Links_outs : Met P w K mg base 1 (He.ga K "Links") "outs" ["self"] (sp_Links_outs K) := ⟨_, fd_Links_outs, ok_Links_outs T F_Links_outs , T.me_Links_outs, FunD.bindsN (ps := ["self"]) F_Links_outs fun _ _ _ _ _ _ us hl => match us, hl with | [_], _ => rfl⟩
  have c_sole_holders : Cal P w K mg base 6 "sole_holders" ["links"] (sp_sole_holders K) := ⟨_, fd_sole_holders, ok_sole_holders T F_sole_holders c_gap_states, T.gf_sole_holders, F_sole_holders.kp, FunD.bindsN (ps := ["links"]) F_sole_holders fun _ _ _ _ _ _ us hl => match us, hl with | [_], _ => rfl⟩
  have c_due_nodes : Cal P w K mg base 7 "due_nodes" ["links"] (sp16_due_nodes K) := ⟨_, fd_due_nodes, ok_due_nodes T F_due_nodes c_Links_outs c_sole_holders, T.gf_due_nodes, F_due_nodes.kp, FunD.bindsN (ps := ["links"]) F_due_nodes fun _ _ _ _ _ _ us hl => match us, hl with | [_], _ => rfl⟩
  have c_repair_cost : Cal P w K mg base 8 "repair_cost" ["links", "weights"] (sp16_repair_cost K) := ⟨_, fd_repair_cost, ok_repair_cost T F_repair_cost c_Links_is_out c_check_repairable c_due_nodes x_BadWeights, T.gf_repair_cost, F_repair_cost.kp, FunD.bindsN (ps := ["links", "weights"]) F_repair_cost fun _ _ _ _ _ _ us hl => match us, hl with | [_, _], _ => rfl⟩
  have c_debt_of : Cal P w K mg base 9 "debt_of" ["links"] (sp16_debt_of K) := ⟨_, fd_debt_of, ok_debt_of T F_debt_of c_repair_cost, T.gf_debt_of, F_debt_of.kp, FunD.bindsN (ps := ["links"]) F_debt_of fun _ _ _ _ _ _ us hl => match us, hl with | [_], _ => rfl⟩
  have c_Links___eq__ : Met P w K mg base 1 (He.ga K "Links") "__eq__" ["self", "other"] (sp23_Links___eq__ K) := ⟨_, fd_Links___eq__, ok_Links___eq__ T F_Links___eq__ , T.me_Links___eq__, FunD.bindsN (ps := ["self", "other"]) F_Links___eq__ fun _ _ _ _ _ _ us hl => match us, hl with | [_, _], _ => rfl⟩
  have c_Links_is_whole : Met P w K mg base 6 (He.ga K "Links") "is_whole" ["self"] (sp23_Links_is_whole K) := ⟨_, fd_Links_is_whole, ok_Links_is_whole T F_Links_is_whole c_Links___eq__ m_Links, T.me_Links_is_whole, FunD.bindsN (ps := ["self"]) F_Links_is_whole fun _ _ _ _ _ _ us hl => match us, hl with | [_], _ => rfl⟩
  have c_Links_is_legal : Met P w K mg base 1 (He.ga K "Links") "is_legal" ["self", "operation"] (sp_Links_is_legal K) := ⟨_, fd_Links_is_legal, ok_Links_is_legal T F_Links_is_legal , T.me_Links_is_legal, FunD.bindsN (ps := ["self", "operation"]) F_Links_is_legal fun _ _ _ _ _ _ us hl => match us, hl with | [_, _], _ => rfl⟩
  have c_check_operation : Cal P w K mg base 3 "check_operation" ["size", "operation", "index"] (sp_check_operation K) := ⟨_, fd_check_operation, ok_check_operation T F_check_operation x_BadOperation, T.gf_check_operation, F_check_operation.kp, FunD.bindsN (ps := ["size", "operation", "index"]) F_check_operation fun _ _ _ _ _ _ us hl => match us, hl with | [_, _, _], _ => rfl⟩
  have c_Links_check : Met P w K mg base 4 (He.ga K "Links") "check" ["self", "operation", "index"] (sp_Links_check K) := ⟨_, fd_Links_check, ok_Links_check T F_Links_check c_Links_is_legal c_check_operation x_Illegal, T.me_Links_check, FunD.bindsN (ps := ["self", "operation", "index"]) F_Links_check fun _ _ _ _ _ _ us hl => match us, hl with | [_, _, _], _ => rfl⟩
  have c_Links_apply_at : Met P w K mg base 5 (He.ga K "Links") "apply_at" ["self", "operation", "index"] (sp_Links_apply_at K) := ⟨_, fd_Links_apply_at, ok_Links_apply_at T F_Links_apply_at c_Links_check, T.me_Links_apply_at, FunD.bindsN (ps := ["self", "operation", "index"]) F_Links_apply_at fun _ _ _ _ _ _ us hl => match us, hl with | [_, _, _], _ => rfl⟩
  have c_Links_copy : Met P w K mg base 6 (He.ga K "Links") "copy" ["self"] (sp_Links_copy K) := ⟨_, fd_Links_copy, ok_Links_copy T F_Links_copy m_Links, T.me_Links_copy, FunD.bindsN (ps := ["self"]) F_Links_copy fun _ _ _ _ _ _ us hl => match us, hl with | [_], _ => rfl⟩
  have c_play : Cal P w K mg base 7 "play" ["links", "log"] (sp_play K) := ⟨_, fd_play, ok_play T F_play c_Links_apply_at c_Links_copy, T.gf_play, F_play.kp, FunD.bindsN (ps := ["links", "log"]) F_play fun _ _ _ _ _ _ us hl => match us, hl with | [_, _], _ => rfl⟩
  have c_is_repair : Cal P w K mg base 8 "is_repair" ["links", "log"] (sp48_is_repair K) := ⟨_, fd_is_repair, ok_is_repair T F_is_repair c_Links_is_whole c_play, T.gf_is_repair, F_is_repair.kp, FunD.bindsN (ps := ["links", "log"]) F_is_repair fun _ _ _ _ _ _ us hl => match us, hl with | [_, _], _ => rfl⟩
  have c_is_least_repair : Cal P w K mg base 10 "is_least_repair" ["links", "log"] (sp48_is_least_repair K) := ⟨_, fd_is_least_repair, ok_is_least_repair T F_is_least_repair c_debt_of c_is_repair, T.gf_is_least_repair, F_is_least_repair.kp, FunD.bindsN (ps := ["links", "log"]) F_is_least_repair fun _ _ _ _ _ _ us hl => match us, hl with | [_, _], _ => rfl⟩
  have c__law_judged : Cal P w K mg base 11 "_law_judged" ["start", "moves", "place"] (sp18__law_judged K) := ⟨_, fd__law_judged, ok__law_judged T F__law_judged c_Links_read c__law_copy c__law_dump c__law_ends_whole c__law_owed c__law_step c_is_least_repair c_is_repair c_play, T.gf__law_judged, F__law_judged.kp, FunD.bindsN (ps := ["start", "moves", "place"]) F__law_judged fun _ _ _ _ _ _ us hl => match us, hl with | [_, _, _], _ => rfl⟩
  have c_Links_apply : Met P w K mg base 6 (He.ga K "Links") "apply" ["self", "operation"] (sp_Links_apply K) := ⟨_, fd_Links_apply, ok_Links_apply T F_Links_apply c_Links_apply_at, T.me_Links_apply, FunD.bindsN (ps := ["self", "operation"]) F_Links_apply fun _ _ _ _ _ _ us hl => match us, hl with | [_, _], _ => rfl⟩
  have c__law_number : Cal P w K mg base 1 "_law_number" ["told"] (sp16__law_number K) := ⟨_, fd__law_number, ok__law_number T F__law_number , T.gf__law_number, F__law_number.kp, FunD.bindsN (ps := ["told"]) F__law_number fun _ _ _ _ _ _ us hl => match us, hl with | [_], _ => rfl⟩
  have c__law_fits : Cal P w K mg base 2 "_law_fits" ["told", "word", "number"] (sp18__law_fits K) := ⟨_, fd__law_fits, ok__law_fits T F__law_fits c__law_number, T.gf__law_fits, F__law_fits.kp, FunD.bindsN (ps := ["told", "word", "number"]) F__law_fits fun _ _ _ _ _ _ us hl => match us, hl with | [_, _, _], _ => rfl⟩
  have c__law_lost : Cal P w K mg base 1 "_law_lost" ["book"] (sp16__law_lost K) := ⟨_, fd__law_lost, ok__law_lost T F__law_lost , T.gf__law_lost, F__law_lost.kp, FunD.bindsN (ps := ["book"]) F__law_lost fun _ _ _ _ _ _ us hl => match us, hl with | [_], _ => rfl⟩
  have c__law_told : Cal P w K mg base 10 "_law_told" ["linked"] (sp18__law_told K) := ⟨_, fd__law_told, ok__law_told T F__law_told c_debt_of, T.gf__law_told, F__law_told.kp, FunD.bindsN (ps := ["linked"]) F__law_told fun _ _ _ _ _ _ us hl => match us, hl with | [_], _ => rfl⟩
  have c__law_led : Cal P w K mg base 11 "_law_led" ["start", "moves"] (sp18__law_led K) := ⟨_, fd__law_led, ok__law_led T F__law_led c_Links_apply c_Links_read c__law_copy c__law_dump c__law_ends_whole c__law_fits c__law_lost c__law_owed c__law_step c__law_told, T.gf__law_led, F__law_led.kp, FunD.bindsN (ps := ["start", "moves"]) F__law_led fun _ _ _ _ _ _ us hl => match us, hl with | [_, _], _ => rfl⟩
  have c__law_lowers : Cal P w K mg base 2 "_law_lowers" ["book", "node"] (sp17__law_lowers K) := ⟨_, fd__law_lowers, ok__law_lowers T F__law_lowers c__law_is_due, T.gf__law_lowers, F__law_lowers.kp, FunD.bindsN (ps := ["book", "node"]) F__law_lowers fun _ _ _ _ _ _ us hl => match us, hl with | [_, _], _ => rfl⟩
  have c__law_log : Cal P w K mg base 4 "_law_log" ["bag", "start"] (sp18__law_log K) := ⟨_, fd__law_log, ok__law_log T F__law_log c__law_copy c__law_draw c__law_lost c__law_lowers c__law_operation c__law_owed c__law_step, T.gf__law_log, F__law_log.kp, FunD.bindsN (ps := ["bag", "start"]) F__law_log fun _ _ _ _ _ _ us hl => match us, hl with | [_, _], _ => rfl⟩
  have c__law_key : Cal P w K mg base 1 "_law_key" ["book"] (sp18__law_key K) := ⟨_, fd__law_key, ok__law_key T F__law_key , T.gf__law_key, F__law_key.kp, FunD.bindsN (ps := ["book"]) F__law_key fun _ _ _ _ _ _ us hl => match us, hl with | [_], _ => rfl⟩
  have c__law_distance : Cal P w K mg base 2 "_law_distance" ["start"] (sp18__law_distance K) := ⟨_, fd__law_distance, ok__law_distance T F__law_distance c__law_copy c__law_is_whole c__law_key c__law_step, T.gf__law_distance, F__law_distance.kp, FunD.bindsN (ps := ["start"]) F__law_distance fun _ _ _ _ _ _ us hl => match us, hl with | [_], _ => rfl⟩
  have c__law_numbers : Cal P w K mg base 2 "_law_numbers" ["told"] (sp16__law_numbers K) := ⟨_, fd__law_numbers, ok__law_numbers T F__law_numbers c__law_number, T.gf__law_numbers, F__law_numbers.kp, FunD.bindsN (ps := ["told"]) F__law_numbers fun _ _ _ _ _ _ us hl => match us, hl with | [_], _ => rfl⟩
  have c_foreign_writes : Cal P w K mg base 5 "foreign_writes" ["links", "operation"] (sp_foreign_writes K) := ⟨_, fd_foreign_writes, ok_foreign_writes T F_foreign_writes c_Links_check c_Links_left c_Links_right, T.gf_foreign_writes, F_foreign_writes.kp, FunD.bindsN (ps := ["links", "operation"]) F_foreign_writes fun _ _ _ _ _ _ us hl => match us, hl with | [_, _], _ => rfl⟩
  have c_left_to : Cal P w K mg base 1 "left_to" ["operation", "gap"] (sp17_left_to K) := ⟨_, fd_left_to, ok_left_to T F_left_to , T.gf_left_to, F_left_to.kp, FunD.bindsN (ps := ["operation", "gap"]) F_left_to fun _ _ _ _ _ _ us hl => match us, hl with | [_, _], _ => rfl⟩
  have c__spoils_nothing : Cal P w K mg base 6 "_spoils_nothing" ["links", "operation", "due"] (sp17__spoils_nothing K) := ⟨_, fd__spoils_nothing, ok__spoils_nothing T F__spoils_nothing c_foreign_writes c_gap_state c_left_to, T.gf__spoils_nothing, F__spoils_nothing.kp, FunD.bindsN (ps := ["links", "operation", "due"]) F__spoils_nothing fun _ _ _ _ _ _ us hl => match us, hl with | [_, _, _], _ => rfl⟩
  have c__steps : Cal P w K mg base 7 "_steps" ["links", "due"] (sp17__steps K) := ⟨_, fd__steps, ok__steps T F__steps c_Links_is_out c__spoils_nothing, T.gf__steps, F__steps.kp, FunD.bindsN (ps := ["links", "due"]) F__steps fun _ _ _ _ _ _ us hl => match us, hl with | [_, _], _ => rfl⟩
  have c__still_due : Cal P w K mg base 1 "_still_due" ["due", "operation"] (sp17__still_due K) := ⟨_, fd__still_due, ok__still_due T F__still_due , T.gf__still_due, F__still_due.kp, FunD.bindsN (ps := ["due", "operation"]) F__still_due fun _ _ _ _ _ _ us hl => match us, hl with | [_, _], _ => rfl⟩
  obtain ⟨g_repairs, b_repairs⟩ := kbn_all (ps := ["links", "most"]) F_repairs 1 ["most"] (List.cons_ne_nil _ _) fun _ _ _ _ _ _ us ws l1 l2 => match us, ws, l1, l2 with | [_], [_], _, _ => rfl
  have c_repairs : CalK P w K mg base 8 "repairs" ["links", "most"] 1 ["most"] (sp17_repairs K) := ⟨_, fd_repairs, g_repairs, ok_repairs T F_repairs c__steps c__still_due c_check_repairable c_due_nodes c_play x_BadCount, T.gf_repairs, F_repairs.kp, b_repairs⟩
  have c_first_repair : Cal P w K mg base 9 "first_repair" ["links"] (sp17_first_repair K) := ⟨_, fd_first_repair, ok_first_repair T F_first_repair c_repairs, T.gf_first_repair, F_first_repair.kp, FunD.bindsN (ps := ["links"]) F_first_repair fun _ _ _ _ _ _ us hl => match us, hl with | [_], _ => rfl⟩
  have c__law_searched : Cal P w K mg base 11 "_law_searched" ["book"] (sp18__law_searched K) := ⟨_, fd__law_searched, ok__law_searched T F__law_searched c_Links_read c__law_distance c__law_dump c__law_ends_whole c__law_fits c__law_lost c__law_numbers c__law_told c_first_repair, T.gf__law_searched, F__law_searched.kp, FunD.bindsN (ps := ["book"]) F__law_searched fun _ _ _ _ _ _ us hl => match us, hl with | [_], _ => rfl⟩
  have c__law_size : Cal P w K mg base 2 "_law_size" ["bag"] (sp16__law_size K) := ⟨_, fd__law_size, ok__law_size T F__law_size c__law_draw, T.gf__law_size, F__law_size.kp, FunD.bindsN (ps := ["bag"]) F__law_size fun _ _ _ _ _ _ us hl => match us, hl with | [_], _ => rfl⟩
  have c__law_standing : Cal P w K mg base 2 "_law_standing" ["bag", "size", "lossy"] (sp16__law_standing K) := ⟨_, fd__law_standing, ok__law_standing T F__law_standing c__law_draw, T.gf__law_standing, F__law_standing.kp, FunD.bindsN (ps := ["bag", "size", "lossy"]) F__law_standing fun _ _ _ _ _ _ us hl => match us, hl with | [_, _, _], _ => rfl⟩
  exact ok_law T F_law c__law_bag c__law_draw c__law_judged c__law_led c__law_log c__law_searched c__law_size c__law_standing
end G
open PySem PySem.W PySem.Calls PyProof.Rows
set_option maxRecDepth 100000 in
set_option maxHeartbeats 0 in
theorem PySem.Challenge.cw_latelink_k18_whole_no_repair_is_shorter_holds : PySem.Challenge.rw_latelink_k18_whole_no_repair_is_shorter.Holds := by
  w_on; o_law
  refine HandSHeadRun.head_any (r := OpenLaw.row PySem.Challenge.rw_latelink_k18_whole_no_repair_is_shorter) (q := view (OpenLaw.row PySem.Challenge.rw_latelink_k18_whole_no_repair_is_shorter).prog [75]) (H := G.hk) (ob := G.ob) (M := 8000) (loose := G.loose) (d := HandSHeadRun.topDef (OpenLaw.row PySem.Challenge.rw_latelink_k18_whole_no_repair_is_shorter).prog 75) (kwd := []) G.ob_eq
    (by kernel_rfl) (fun s => by kernel_rfl) G.run (by kernel_rfl) (by kernel_rfl) (by kernel_rfl) (by rfl) (by first | assumption | decide +kernel) (by decide +kernel) ⟨rfl, rfl, rfl, rfl, rfl, by decide +kernel⟩ ?hw ?hc
  case hw => w_witness2
  case hc =>
    refine L2.walk_ofE (l := PySem.Challenge.rw_latelink_k18_whole_no_repair_is_shorter) (n := 63) (k := 12) (x := "script") (CX := L2.CX0) rfl (by decide) (by kernel_rfl) ⟨rfl, by decide, by decide⟩ ?F (fun _ _ _ _ z => z)
    case F =>
      intro w mg fa h Y Gm hmg0
      obtain ⟨K, KX, c⟩ := Y
      have hmg : mg ("law" : PySem.Str) = some (.ref fa) := by
        have e : (HandSHeadRun.topDef (OpenLaw.row PySem.Challenge.rw_latelink_k18_whole_no_repair_is_shorter).prog 75).name = ("law" : PySem.Str) := by kernel_rfl
        rw [← e]
        exact hmg0
      obtain ⟨fd, hb, hF⟩ := G.facts (P := (PySem.Challenge.rw_latelink_k18_whole_no_repair_is_shorter).prog) (w := w) KX Gm hmg c (by decide +kernel) (by decide +kernel)
      exact ⟨K, fd, _, KX, hb, fun H a ns hl _ hS => ⟨a, ns, rfl, hS, hl, fun _ => rfl⟩, fun base h1 h2 => G.noX (hF base h1 h2)⟩
