import PyProof.Rows.All
import Wide.All
import OpenK.AllK
import Wide.FinOn
import KE.KStateDown
import KE.KExcIs
import HandS.ForMost
import HandS.Exc
import HandS.ExcOwn
import HandS.ExcCtx
import HandS.ExcInit
import HandS.ExcField
import HandS.HotCalls
import HandS.WordsExc
import HandS.IsInst
import HandS.Conv
import HandS.Defaults
import HandS.Evl
import HandS.Head0
import HandS.Head1
import HandS.Head2
import HandS.HeadEnd
import HandS.HeadHook1
import HandS.HeadHook2
import HandS.ClsMeth
import HandS.ExcInitHot
import HandS.OwnEq
import HandS.HeadNt
import HandS.NoneIn
import HandS.Text
import HandS.Steps
import HandS.Strs
import HandS.TupAny
import HandS.Deep
import PyProof.FString3
import PyProof.Rows.StrIntSpec
import HandS.RaiseMore
import KE.KCallOwn
import PyProof.ListRange
import HandS.GenList
import HandS.GenYield
import HandS.Rev
import HandS.SetBool
import HandS.TupSets
import PyProof.FactsAll.set_2
import PyProof.FactsAll.set_1
import HandS.SetFor
import HandS.MakeKwOnly
import HandS.TryOnly
import HandS.TupLe
import HandS.Nested
import KE.KSuper
import PySem.Challenge.RW_latelink_k47_whole_saving_mode_and_losse
set_option Elab.async false
set_option linter.all false
set_option maxRecDepth 100000
set_option maxHeartbeats 4000000
/-! Calls by bundles, own exceptions with fields, raised, caught, asked. -/
namespace G
open PySem PySem.Spec PyProof.Rows L2
/-! ### a def, a method of the text, ready to be called -/
structure Cal (P : Program) (w : World) (K : PySem.W.Frag) (mg : Str → Option Value) (base : Heap) (k : Nat) (x : Str) (ps : List Str) (sp : Sp) : Prop where
  ex : ∃ (f : Addr) (fd : FuncData), FnOk P w K mg base (L2N.CX P w) k f fd ps sp ∧ mg x = some (.ref f) ∧ PySem.W.keepIn K (.ref f) = true ∧ Binds K fd ps []
structure Met (P : Program) (w : World) (K : PySem.W.Frag) (mg : Str → Option Value) (base : Heap) (k : Nat) (C : Addr) (m : Str) (ps : List Str) (sp : Sp) : Prop where
  ex : ∃ (f : Addr) (fd : FuncData), FnOk P w K mg base (L2N.CX P w) k f fd ps sp ∧ Meth K C m f ∧ Binds K fd ps []
structure Mak (P : Program) (w : World) (K : PySem.W.Frag) (mg : Str → Option Value) (base : Heap) (k : Nat) (x : Str) (C : Addr) (ps : List Str) (sp : Sp) : Prop where
  ex : ∃ (f : Addr) (fd : FuncData), FnOk P w K mg base (L2N.CX P w) k f fd ps sp ∧ Mk K C f ∧ mg x = some (.ref C) ∧ Binds K fd ps []
section
variable {X : Cx} {j k : Nat} {x m : Str} {ps : List Str} {sp : Sp} {E : XK} {C : Addr} {p pos apos : Pos} {e o : Expr} {es : List Expr} {t : TA} {ta : TE}
/-- f(..): what leaves it as an exception is wished for by E -/
def tCl (sp : Sp) (E : L2.St → XK) (t : TA) : TE := fun σ H Q => t σ H fun vs H1 => sp vs H1 Q (E σ)
def tMt (C : Addr) (m : Str) (sp : Sp) (E : L2.St → XK) (ta : TE) (t : TA) : TE := fun σ H Q => ta σ H fun x H1 => ∃ a dx fs, x = .ref a ∧ H1 a = some (.ins C dx fs) ∧ fs.lookup m = none ∧ t σ H1 fun vs H2 => sp (x :: vs) H2 Q (E σ)
def tMk (C : Addr) (sp : Sp) (E : L2.St → XK) (t : TA) : TE := fun σ H Q => t σ H fun vs H1 => ∀ x dx, H1 x = none → H1 dx = none → dx ≠ x → sp (.ref x :: vs) (upd (upd H1 dx (.own x)) x (.ins C dx [])) (fun v H2 => v = .non ∧ Q (.ref x) H2) (E σ)
abbrev PAt (X : Cx) (E : L2.St → XK) : Prop := ∀ σ, PassesAt (L2N.CX X.prog X.w) X σ (E σ)
theorem pat_of {X : Cx} {W : WX} (tk : L2N.Takes X W) : PAt X (WE W) := fun σ => L2N.passAt tk σ
/-- where nothing may be let out -/
theorem pat_no {X : Cx} : PAt X (fun _ => L2.E0) := fun σ pins H s e s' I c => by
  obtain ⟨_, _, _, _, _, _, _, _, _, _, _, _, z⟩ := c
  exact z.elim
variable {E : L2.St → XK}
theorem pe_cl (c : Cal X.prog X.w X.K X.mg X.base k x ps sp) (hr : Room j X.A) (hk : k ≤ j) (hx : PAt X E) (ha : PA X (e :: es) t) (hg : Gl X x := by rfl) (hdb : (x == ("__debug__" : Str)) = false := by decide)
    (he : starEach (e :: es) X.env = (false, eval e X.env) :: starEach es X.env := by rfl) (hpl : (backTo pos (starEach es X.env)).any (·.1) = false := by rfl) : PE X (.Call (.Name x p) (e :: es) [] pos) (tCl sp E t) := by
  obtain ⟨f, fd, F, hm, kp, hb⟩ := c.ex
  refine ⟨fun pins s σ H Q I h => ?_⟩
  exact (pe_callS (E := E) F (hr.mono hk) hg hm kp hb hx ha hdb he hpl).run pins s σ H Q I h
theorem pe_cl0 (c : Cal X.prog X.w X.K X.mg X.base k x ps sp) (hr : Room j X.A) (hk : k ≤ j) (hx : PAt X E) (hg : Gl X x := by rfl) (hdb : (x == ("__debug__" : Str)) = false := by decide) : PE X (.Call (.Name x p) [] [] pos) (tCl sp E tNil) := by
  obtain ⟨f, fd, F, hm, kp, hb⟩ := c.ex
  refine ⟨fun pins s σ H Q I h => wpAny_Call_Name_kw (ld_glob I hg hm ?_ hdb)⟩
  exact PySem.W.callWith_K0 I.kIn kp (run_fnS (E := E) (us := []) (vs := []) F (hr.mono hk) hb (hx σ) I .nil h)
theorem pe_mt {pl : Sem Bool} (c : Met X.prog X.w X.K X.mg X.base k C m ps sp) (cl : Cls X.K C) (hr : Room j X.A) (hk : k ≤ j) (hx : PAt X E) (he : PE X o ta) (ha : PA X (e :: es) t)
    (hst : starEach (e :: es) X.env = (false, eval e X.env) :: starEach es X.env := by rfl) (hpl : (backTo pos (starEach es X.env)).any (·.1) = false := by rfl)
    (ht : eval (.Call (.Attribute o m apos) (e :: es) [] pos) X.env = (do
      let ov ← eval o X.env
      standAt apos.atName
      let (f, first) ← holding [ov] (getMethod ov m pl)
      callWith pos f first (backTo pos (starEach (e :: es) X.env)) (backToKw pos (keywordEach [] X.env))) := by rfl) : PE X (.Call (.Attribute o m apos) (e :: es) [] pos) (tMt C m sp E ta t) := by
  obtain ⟨f, fd, F, hm, hb⟩ := c.ex
  refine ⟨fun pins s σ H Q I h => PySem.W.methodCall_KW (pl := pl) (thn (he.run pins s σ H _ I h) fun u s1 hh => ?_) ht⟩
  obtain ⟨x, H1, I1, rx, a, dx, fs, ex, ea, l, q⟩ := hh
  subst ex
  obtain rfl : u = Value.ref a := rx
  refine getmeth_ok I1 ea cl hm l (PySem.W.callWith_K (first := [.ref a]) (h₀ := X.base) I.ok.mod.kin hm.kp (thn (ha.run pos pins s1 σ H1 _ I1 q) fun us s2 hh => ?_) hst hpl)
  obtain ⟨vs, H2, I2, r, q2⟩ := hh
  exact ⟨I2.kIn, run_fnS (us := .ref a :: us) (vs := .ref a :: vs) F (hr.mono hk) hb (hx σ) I2 (.cons rfl r) q2⟩
theorem pe_mt0 {pl : Sem Bool} (c : Met X.prog X.w X.K X.mg X.base k C m ps sp) (cl : Cls X.K C) (hr : Room j X.A) (hk : k ≤ j) (hx : PAt X E) (he : PE X o ta)
    (ht : eval (.Call (.Attribute o m apos) [] [] pos) X.env = (do
      let ov ← eval o X.env
      standAt apos.atName
      let (f, first) ← holding [ov] (getMethod ov m pl)
      callWith pos f first (backTo pos (starEach [] X.env)) (backToKw pos (keywordEach [] X.env))) := by rfl) : PE X (.Call (.Attribute o m apos) [] [] pos) (tMt C m sp E ta tNil) := by
  obtain ⟨f, fd, F, hm, hb⟩ := c.ex
  refine ⟨fun pins s σ H Q I h => PySem.W.methodCall_KW (pl := pl) (thn (he.run pins s σ H _ I h) fun u s1 hh => ?_) ht⟩
  obtain ⟨x, H1, I1, rx, a, dx, fs, ex, ea, l, q⟩ := hh
  subst ex
  obtain rfl : u = Value.ref a := rx
  refine getmeth_ok I1 ea cl hm l ?_
  exact PySem.W.callWith_K0 (first := [.ref a]) I1.kIn hm.kp (run_fnS (us := [.ref a]) (vs := [.ref a]) F (hr.mono hk) hb (hx σ) I1 (.cons rfl .nil) q)
/-- an instance is made, what its __init__ lets out is wished for at the slots σ -/
theorem run_mk {pn : List (Addr × Obj)} {τ : L2.St} {H0 : Hp} {sh : Shared} {R : VK} {f : Addr} {fd : FuncData} {uu : List Value} {vv : List V} (M : Mk X.K C f) (F : FnOk X.prog X.w X.K X.mg X.base (L2N.CX X.prog X.w) k f fd ps sp)
    (hr : Room (k + 1) X.A) (hb : Binds X.K fd ps []) (hx : PAt X E) (I : Inv X pn τ H0 sh) (r : Vals vv uu)
    (h : ∀ x dx, H0 x = none → H0 dx = none → dx ≠ x → sp (.ref x :: vv) (upd (upd H0 dx (.own x)) x (.ins C dx [])) (fun v H2 => v = .non ∧ R (.ref x) H2) (E τ)) :
    wpAny (model X.prog X.w) X.A (call (.ref C) uu) (EP X pn τ R) X.xe sh := by
  have q0 := h (sh.heap.objs.size + 1) sh.heap.objs.size (I.hok.fresh (Nat.le_succ _)) (I.hok.fresh (Nat.le_refl _)) (Nat.ne_of_lt (Nat.lt_succ_self _))
  have J := Inv.made (C := C) I
  have rr : Vals (V.ref (sh.heap.objs.size + 1) :: vv) (Value.ref (sh.heap.objs.size + 1) :: uu) := .cons rfl r
  have ln : (Value.ref (sh.heap.objs.size + 1) :: uu ++ []).length = ps.length := by
    rw [List.append_nil, ← rr.length]
    exact F.len _ _ _ _ q0
  have bb := hb _ (Value.ref (sh.heap.objs.size + 1) :: uu) J.kIn ln
  rw [List.append_nil] at bb
  have go := F.run _ X.stack _ _ ⟨Value.ref (sh.heap.objs.size + 1) :: uu, []⟩ _ _ _ (E τ) (hr.make C uu []) (J.env0.make C uu []) bb rr q0
  refine wpAny_call (make_map (f := f) I.kIn M.makes M.init (beq_iff_eq.mp M.fn) (codeAny_mono go fun rs s2 w => ?_))
  cases rs with
  | error er => exact hx τ pn _ _ er s2 J w
  | ok fl =>
    cases fl with
    | ret u =>
      obtain ⟨v, H2, J2, rv, ev, w2⟩ := J.after w
      subst ev
      exact ⟨rv, V.ref (sh.heap.objs.size + 1), H2, J2, rfl, w2⟩
    | next => exact w.elim
    | brk => exact w.elim
    | cont => exact w.elim
theorem pe_mk (c : Mak X.prog X.w X.K X.mg X.base k x C ps sp) (hr : Room j X.A) (hk : k + 1 ≤ j) (hx : PAt X E) (ha : PA X (e :: es) t) (hg : Gl X x := by rfl) (hdb : (x == ("__debug__" : Str)) = false := by decide)
    (he : starEach (e :: es) X.env = (false, eval e X.env) :: starEach es X.env := by rfl) (hpl : (backTo pos (starEach es X.env)).any (·.1) = false := by rfl) : PE X (.Call (.Name x p) (e :: es) [] pos) (tMk C sp E t) := by
  obtain ⟨f, fd, F, M, hm, hb⟩ := c.ex
  refine ⟨fun pn s τ H Q I h => wpAny_Call_Name_kw (ld_glob I hg hm ?_ hdb)⟩
  refine PySem.W.callWith_K (h₀ := X.base) I.ok.mod.kin M.kp (thn (ha.run pos pn s τ H _ I h) fun us s1 hh => ?_) he hpl
  obtain ⟨vs, H1, I1, r, q⟩ := hh
  exact ⟨I1.kIn, run_mk M F (hr.mono hk) hb hx I1 r q⟩
end
/-! ### calls where an exception is handled -/
/-! ### own exceptions with fields -/
/-- what a class of errors must be for its instances to be asked and read -/
structure ExK (K : PySem.W.Frag) (C : Addr) : Prop where
  cl : (PySem.W.clsIn K C).isSome = true
  ga : PySem.W.findIn K (.ref C) "__getattribute__" = some (some (.builtin "BaseException.__getattribute__"))
  gg : PySem.W.findIn K (.ref C) "__getattr__" = some none
  be : PySem.W.subIn K (.ref C) (.type "BaseException") = some true
  hd : PySem.W.hasDictIn K C = true
  cc : PySem.W.findIn K (.ref C) "__class__" = some (some (.builtin "object.__class__"))
  gs : PySem.W.specialIn K (.builtin "object.__class__") "__get__" = some (some (.builtin "getset_descriptor.__get__"))
  tk : PySem.W.takesIn K (.builtin "object.__class__") = some true
  mo : PySem.W.mroIn K C (.type "object") = some true
/-- isinstance(raised, c) -/
def rIsX (K : PySem.W.Frag) (cls : Value) (d : Option Addr) (a : Addr) : List V → Hp → VK → Prop := fun xs H Q => ∃ (D dd : Addr) (fs : List (Str × V)) (c : V) (u : Value) (b : Bool),
  cls = .ref D ∧ d = some dd ∧ H dd = some (.xd fs) ∧ ExK K D ∧ xs = [.ref a, c] ∧ ClsV c u ∧ PySem.W.kitOne K (.ref D) u = some b ∧ Q (.bl b) H
section
variable {X : Cx} {a : Addr} {oe : Obj} {cls : Value} {d : Option Addr} {pn : List (Addr × Obj)}
theorem exc_at {pins : List (Addr × Obj)} {s : Shared} {σ : L2.St} {H : Hp} {D dd : Addr} {fs : List (Str × V)} (I : Inv (X.suite a ((a, oe) :: pn)) pins σ H s) (hz : Zc cls d oe) (hf : ∃ vs, oe.data = .fields vs) (ec : cls = .ref D) (ed : d = some dd)
    (hd : H dd = some (.xd fs)) : ∃ (od : Obj) (mA : Str → Option Value), PySem.W.InstAt s.heap a oe D (some od) ∧ (∀ f, RelO (fs.lookup f) (mA f)) ∧ ∀ n, PySem.W.lookIn n od = some (mA n) := by
  obtain ⟨hget, _⟩ := I.pin (a, oe) (List.mem_append_left _ List.mem_cons_self)
  obtain ⟨vs, hv⟩ := hf
  obtain ⟨mA, hns, hr⟩ := (show ObjOk X.prog X.w H s.heap dd (.xd fs) from I.hok dd _ hd)
  obtain ⟨od, ho, hl⟩ := lookIn_ns hns
  refine ⟨od, mA, ⟨hget, hz.1.trans ec, ?_, ?_⟩, hr, hl⟩
  · unfold PySem.W.notCls
    rw [hv] <;> rfl
  · rw [hz.2, ed]
    exact ho
theorem call_isX (hz : Zc cls d oe) (hf : ∃ vs, oe.data = .fields vs) : CallR (X.suite a ((a, oe) :: pn)) (.builtin "isinstance") (rIsX X.K cls d a) := by
  intro pins s σ H xs us Q I r h
  obtain ⟨D, dd, fs, c, u, b, ec, ed, hd, T, rfl, k, e, q⟩ := h
  obtain ⟨u1, u2, rfl, r1, r2⟩ := vals2 r
  cases (show u1 = Value.ref a from r1)
  have e2 := k.eq r2
  subst e2
  obtain ⟨od, mA, J, _, _⟩ := exc_at I hz hf ec ed hd
  exact PySem.W.kia_one (PySem.W.kitx_exc T.cl T.ga T.gg T.be T.cc T.gs T.tk T.mo) I.kIn J e (fun z => nomatch z) fun tk => ⟨.bl b, H, I.tok tk, rfl, q⟩
/-- raised.f -/
def tXat (K : PySem.W.Frag) (a : Addr) (cls : Value) (d : Option Addr) (f : Str) (te : TE) : TE := fun σ H Q => te σ H fun x H1 => ∃ (D dd : Addr) (fs : List (Str × V)) (v : V),
  cls = .ref D ∧ d = some dd ∧ H1 dd = some (.xd fs) ∧ ExK K D ∧ x = .ref a ∧ PySem.W.findIn K (.ref D) f = some none ∧ fs.lookup f = some v ∧ Q v H1
theorem pe_xat {e : Expr} {te : TE} {pos : Pos} {n : Str} (hz : Zc cls d oe) (hf : ∃ vs, oe.data = .fields vs) (he : PE (X.suite a ((a, oe) :: pn)) e te) (hb : attributeBase e n X.env (eval e X.env) = eval e X.env := by rfl) :
    PE (X.suite a ((a, oe) :: pn)) (.Attribute e n pos) (tXat X.K a cls d n te) := by
  refine ⟨fun pins s σ H Q I h => attr_of hb (thn (he.run pins s σ H _ I h) fun u s1 hh => ?_)⟩
  obtain ⟨x, H1, I1, rx, D, dd, fs, v, ec, ed, hd, T, ex, hno, l, q⟩ := hh
  subst ex
  obtain rfl : u = Value.ref a := rx
  obtain ⟨od, mA, J, hr, hl⟩ := exc_at I1 hz hf ec ed hd
  obtain ⟨u, hu, ru⟩ := RelO.some_of (v := v) (o := mA n) (by rw [← l]; exact hr n)
  exact HandSPX.exc_get I1.kIn J T.ga T.gg T.be (PySem.W.findObj_own T.hd hno rfl (by rw [hl, hu])) (handed_of ru) ⟨v, H1, I1.tok _, ru, q⟩
end
end G
set_option Elab.async false
set_option linter.all false
set_option maxRecDepth 100000
set_option maxHeartbeats 4000000
/-! Own errors made and raised where nothing is handled. -/
namespace G
open PySem PySem.Spec PyProof.Rows L2
/-- what an error's __init__ leaves: its fields fs hold the values us -/
def spIn (K : PySem.W.Frag) (fs : List Str) : Sp := fun vs H Q _ => ∃ (a C : Addr) (us : List V), vs = .ref a :: us ∧ us.length = fs.length ∧ OexC K C ∧ (∀ f ∈ fs, PySem.W.findIn K (.ref C) f = some none) ∧ H a = some (exo a C none) ∧
  ∀ (dx : Addr) (H' : Hp), H dx = none → dx ≠ a → H' a = some (exo a C (some dx)) → H' dx = some (exd dx (fs.zip us).reverse) → (∀ b, b ≠ a → b ≠ dx → H' b = H b) → Q .non H'
theorem spIn_len {K : PySem.W.Frag} {fs ps : List Str} (h : ps.length = fs.length + 1) : ∀ vs H Q E, spIn K fs vs H Q E → vs.length = ps.length := by
  rintro vs H Q E ⟨a, C, us, rfl, hl, _⟩
  rw [h, List.length_cons, hl]
/-- an own class of errors -/
structure ExM (P : Program) (w : World) (K : PySem.W.Frag) (mg : Str → Option Value) (base : Heap) (k : Nat) (x : Str) (C : Addr) (fs : List Str) : Prop where
  oex : OexC K C
  no : ∀ f ∈ fs, PySem.W.findIn K (.ref C) f = some none
  gl : mg x = some (.ref C)
  ex : ∃ (fI : Addr) (fd : FuncData) (ps : List Str), FnOk P w K mg base (L2N.CX P w) k fI fd ps (spIn K fs) ∧ PySem.W.findIn K (.ref C) "__init__" = some (some (.ref fI)) ∧ PySem.W.typeIn K (.ref fI) = some (.type "function") ∧ Binds K fd ps []
theorem heap_mk {H H2 : Hp} {a d : Addr} {o : HO} (ha : H a = none) (hd : d ≠ a) (k : ∀ b, b ≠ a → b ≠ d → H2 b = H b) : upd (del H2 a) d o = upd H d o := by
  funext b
  by_cases hb : b = d
  · rw [hb, upd_same, upd_same]
  · rw [upd_ne hb, upd_ne hb]
    by_cases hba : b = a
    · rw [hba, del_same, ha]
    · rw [del_ne hba, k b hba hb]
theorem mk_go {K : PySem.W.Frag} {C : Addr} {fs : List Str} {us : List V} {H : Hp} {Q : XK} (T : OexC K C) (hf : ∀ f ∈ fs, PySem.W.findIn K (.ref C) f = some none) (hl : us.length = fs.length) (h : ∀ d, H d = none → Q (.ref C) (some d) (upd H d (.xd (fs.zip us).reverse))) :
    ∀ a, H a = none → spIn K fs (.ref a :: us) (upd H a (exo a C none)) (fun v H2 => v = .non ∧ ∃ (d : Addr) (gs : List (Str × V)), H2 a = some (exo a C (some d)) ∧ H2 d = some (exd d gs) ∧ H d = none ∧ Q (.ref C) (some d) (upd (del H2 a) d (.xd gs))) (fun _ _ _ => False) := by
  intro a ha
  refine ⟨a, C, us, rfl, hl, T, hf, upd_same, fun dx H' nd ne e1 e2 k => ⟨rfl, dx, _, e1, e2, ?_, ?_⟩⟩
  · rw [upd_ne ne] at nd
    exact nd
  · have nd' : H dx = none := by
      rw [upd_ne ne] at nd
      exact nd
    rw [heap_mk ha ne fun b h1 h2 => (k b h1 h2).trans (upd_ne h1)]
    exact h dx nd'
/-- x(e, ..), x a class of errors -/
def tRz (C : Addr) (fs : List Str) (W : WX) (ta : TA) : TS := fun _ σ H => ta σ H fun us H1 => us.length = fs.length ∧ us.length ≤ 1000 ∧ ∀ d, H1 d = none → W (.ref C) (some d) σ (upd H1 d (.xd (fs.zip us).reverse))
section
variable {X : Cx} {j k : Nat} {x : Str} {C : Addr} {fs : List Str} {p pos pos2 : Pos} {e : Expr} {es : List Expr} {ta : TA}
theorem pmk_x (c : ExM X.prog X.w X.K X.mg X.base k x C fs) (hr : Room j X.A) (hk : k + 1 ≤ j) (ha : PA X (e :: es) ta) (hg : Gl X x) (hdb : (x == ("__debug__" : Str)) = false)
    (he : starEach (e :: es) X.env = (false, eval e X.env) :: starEach es X.env) (hpl : (backTo pos (starEach es X.env)).any (·.1) = false) :
    L2N.PMk X (.Call (.Name x p) (e :: es) [] pos) (fun σ H Q => ta σ H fun us H1 => us.length = fs.length ∧ us.length ≤ 1000 ∧ ∀ d, H1 d = none → Q (.ref C) (some d) (upd H1 d (.xd (fs.zip us).reverse))) := by
  obtain ⟨T, hno, hm, fI, fd, ps, F1, iC, tI, hb⟩ := c
  intro pn s τ H Q I h
  obtain ⟨nm, qn, N, bs, bm, sn, sub, ab, col, dd, k0, k1, k2, k3, k5, hC, hbm⟩ := T.cls
  refine wpAny_Call_Name_kw (ld_glob I hg hm (PySem.W.callWith_K (h₀ := X.base) I.ok.mod.kin T.kC (thn (ha.run pos pn s τ H _ I h) fun us s1 hh => ?_) he hpl) hdb)
  obtain ⟨vs, H1, I1, r1, hl, hz, q1⟩ := hh
  refine ⟨I1.kIn, ?_⟩
  obtain ⟨hp, g, dr, tk, os⟩ := s1
  show wpAny _ _ (call (.ref C) us) _ _ _
  have hle := Nat.le_succ hp.objs.size
  have hn : H1 (hp.objs.size + 1) = none := I1.hok.fresh hle
  have hq := mk_go (Q := Q) T hno hl q1 (hp.objs.size + 1) hn
  have up : ∀ b o, hp.get? b = some o → ((hp.push (PySem.W.kdv_tup us)).push (PySem.HandSPX.excO C hp.objs.size)).get? b = some o := fun b o z => Heap.get?_push_of_some _ (Heap.get?_push_of_some _ z)
  have new : ((hp.push (PySem.W.kdv_tup us)).push (PySem.HandSPX.excO C hp.objs.size)).get? (hp.objs.size + 1) = some (PySem.HandSPX.excO C hp.objs.size) := by heap_get
  have J := I1.laid (t' := tk) (a := hp.objs.size + 1) (o := exo (hp.objs.size + 1) C none) up hle (exo_ok new)
  have rr : Vals (V.ref (hp.objs.size + 1) :: vs) (Value.ref (hp.objs.size + 1) :: us) := .cons rfl r1
  have ln : (Value.ref (hp.objs.size + 1) :: us ++ []).length = ps.length := by
    rw [List.append_nil, ← rr.length]
    exact F1.len _ _ _ _ hq
  have bb := hb _ (Value.ref (hp.objs.size + 1) :: us) J.kIn ln
  rw [List.append_nil] at bb
  have sz : us.length ≤ sizeLine := by
    rw [← r1.length, sizeLine_eq]
    omega
  have hr' : Room (k + 1) X.A := hr.mono hk
  have go := F1.run _ X.stack _ _ ⟨Value.ref (hp.objs.size + 1) :: us, []⟩ _ _ _ _ (hr'.make C us []) (J.env0.make C us []) bb rr hq
  refine wpAny_call (PySem.HandSPX.call_own F.excBase_ValueError (fun Y => PySem.HandSPX.refsVE_contains Y bm hbm) (I1.kIn _ _ hC) (PySem.W.looks_findIn I1.kIn iC) (fun self => PySem.W.bind_fn I1.kIn self tI) sz (codeAny_mono go fun rs s2 w => ?_))
  cases rs with
  | error er =>
    obtain ⟨_, _, _, _, _, _, _, _, _, _, _, _, z⟩ := w
    exact z.elim
  | ok fl =>
    cases fl with
    | ret u =>
      obtain ⟨v, H2, os2, ba, un, hok, rv, ev, d, gs, ea, ed, hd1, q2⟩ := w
      subst ev
      obtain ⟨h2, g2, d2, t2, os'⟩ := s2
      obtain ⟨t0, HG, J2, kG, ge, hoe, na⟩ := mk_end0 (d2 := d2) (t2 := t2) I1 hle up un hok os2 ba ea ed hd1
      exact ⟨rv, hp.objs.size + 1, _, _, ⟨HG, g2, d2, t2, os'⟩, _, .ref C, some d, rfl, J2, kG, ge, hoe, ⟨rfl, rfl, fun zs hv => by cases hv; rfl⟩, rfl, rfl, na, rfl, ba, raises_own T.exC T.tyC, q2⟩
    | next => exact w.elim
    | brk => exact w.elim
    | cont => exact w.elim
/-- raise x(e, ..) -/
theorem ps_rz {W : WX} (c : ExM X.prog X.w X.K X.mg X.base k x C fs) (hc : X.calm = true) (tk : L2N.Takes X W) (hr : Room j X.A) (hk : k + 1 ≤ j) (ha : PA X (e :: es) ta) (hg : Gl X x := by rfl) (hdb : (x == ("__debug__" : Str)) = false := by decide)
    (he : starEach (e :: es) X.env = (false, eval e X.env) :: starEach es X.env := by rfl) (hpl : (backTo pos (starEach es X.env)).any (·.1) = false := by rfl) : PS X (.Raise (some (.Call (.Name x p) (e :: es) [] pos)) none pos2) (tRz C fs W ta) :=
  L2N.ps_raise hc tk (pmk_x c hr hk ha hg hdb he hpl)
end
/-! ### the __init__ of one field, of two -/
theorem ini1 {K : PySem.W.Frag} {f : Str} {vs : List V} {H : Hp} {Q : VK} {E : XK} {N : List Str} (hN : N.length = 2) (h : spIn K [f] vs H Q E) : (tOst K f (tVar 0) (tVar 1)) { nx := fun _ H' => Q .non H', rt := Q } (start N vs) H := by
  obtain ⟨a, C, us, rfl, hl, T, hno, ha, q⟩ := h
  match us, hl with
  | [v], _ =>
    match N, hN with
    | [_, _], _ =>
      refine ⟨_, rfl, _, rfl, a, C, rfl, T, hno f (List.mem_singleton.mpr rfl), Or.inl ⟨ha, fun dx hd ne => ?_⟩⟩
      refine q dx _ hd ne upd_same ?_ fun b h1 h2 => ?_
      · rw [upd_ne ne, upd_same] <;> rfl
      · rw [upd_ne h1, upd_ne h2]
theorem ini2 {K : PySem.W.Frag} {f g : Str} {vs : List V} {H : Hp} {Q : VK} {E : XK} {N : List Str} (hN : N.length = 3) (h : spIn K [f, g] vs H Q E) :
    (tSeq (tOst K f (tVar 0) (tVar 1)) (tOst K g (tVar 0) (tVar 2))) { nx := fun _ H' => Q .non H', rt := Q } (start N vs) H := by
  obtain ⟨a, C, us, rfl, hl, T, hno, ha, q⟩ := h
  match us, hl with
  | [v, v2], _ =>
    match N, hN with
    | [_, _, _], _ =>
      refine ⟨_, rfl, _, rfl, a, C, rfl, T, hno f List.mem_cons_self, Or.inl ⟨ha, fun dx hd ne => ?_⟩⟩
      refine ⟨_, rfl, _, rfl, a, C, rfl, T, hno g (List.mem_cons_of_mem _ List.mem_cons_self), Or.inr ⟨dx, [(f, v)], upd_same, ?_, by show 1 ≤ 900; decide, ?_⟩⟩
      · rw [upd_ne ne, upd_same]
      · refine q dx _ hd ne ?_ upd_same fun b h1 h2 => ?_
        · rw [upd_ne (Ne.symm ne), upd_same]
        · rw [upd_ne h2, upd_ne h1, upd_ne h2]
end G
set_option Elab.async false
set_option linter.all false
set_option maxRecDepth 100000
set_option maxHeartbeats 4000000
/-! Operators that take what comes, and the steps of a reading, from the front. -/
namespace G
open PySem PySem.Spec PyProof.Rows L2
/-! ### operators by values -/
def rAddA : R2 := fun x y H Q => (∃ i j, x = .int i ∧ y = .int j ∧ Q (.int (i + j)) H) ∨ (∃ i j : Str, x = .str i ∧ y = .str j ∧ i.length + j.length ≤ sizeLine ∧ Q (.str (i ++ j)) H) ∨ rCat x y H Q
def rMulA : R2 := fun x y H Q => (∃ i j, x = .int i ∧ y = .int j ∧ CMul i j ∧ Q (.int (i * j)) H) ∨ rRep x y H Q
def rEqA (K : PySem.W.Frag) : R2 := fun x y H Q => rEq x y H Q ∨ rEqD K x y H Q
def rNeA (K : PySem.W.Frag) : R2 := fun x y H Q => rNe x y H Q ∨ rNeD K x y H Q
def rLenA (K : PySem.W.Frag) : List V → Hp → VK → Prop := fun xs H Q => ∃ x n, xs = [x] ∧ LenV K x H n ∧ Q (.int n) H
def rListA (K : PySem.W.Frag) : List V → Hp → VK → Prop := fun xs H Q => ∃ p ys, xs = [.ref p] ∧ (SqL K H p ys ∨ SqT K H p ys) ∧ ∀ l, H l = none → Q (.ref l) (upd H l (.lst ys))
def rIntA : List V → Hp → VK → Prop := fun xs H Q => (∃ i, xs = [.int i] ∧ Q (.int i) H) ∨ ∃ k, xs = [.bl k] ∧ Q (.int (if k then 1 else 0)) H
def rAbsA : List V → Hp → VK → Prop := fun xs H Q => ∃ i, xs = [.int i] ∧ Q (.int (if i < 0 then -i else i)) H
def rMin2A : List V → Hp → VK → Prop := fun xs H Q => ∃ i j, xs = [.int i, .int j] ∧ Q (.int (if j < i then j else i)) H
def rMax2A : List V → Hp → VK → Prop := fun xs H Q => ∃ i j, xs = [.int i, .int j] ∧ Q (.int (if j > i then j else i)) H
def rIsNA : R2 := fun x y H Q => y = .non ∧ Q (.bl (decide (x = .non))) H
def rNotNA : R2 := fun x y H Q => y = .non ∧ Q (.bl (!decide (x = .non))) H
abbrev rSubA : R2 := rI0 fun i j => .int (i - j)
abbrev rModA : R2 := rI (fun _ j => 0 < j) fun i j => .int (i % j)
abbrev rDivA : R2 := rI CDiv fun i j => .int (i / j)
abbrev rPowA : R2 := rI CPow fun i j => .int (i ^ j.toNat)
abbrev rLtA : R2 := rI0 fun i j => .bl (decide (i < j))
abbrev rLeA : R2 := rI0 fun i j => .bl (decide (i ≤ j))
abbrev rGtA : R2 := rI0 fun i j => .bl (decide (j < i))
abbrev rGeA : R2 := rI0 fun i j => .bl (decide (j ≤ i))
abbrev rNegA : V → Hp → VK → Prop := rU fun i => .int (-i)
section
variable {X : Cx}
theorem op_addA : OpR X (binaryOp .Add) rAddA := OpR.or op_add (OpR.or op_add_str op_cat)
theorem op_mulA : OpR X (binaryOp .Mult) rMulA := OpR.or op_mul op_rep
theorem op_eqA {k : Nat} (hr : Room k X.A) : OpR X (compareOp .Eq) (rEqA X.K) := OpR.or op_eq (op_eqD hr.units)
theorem op_neA {k : Nat} (hr : Room k X.A) : OpR X (compareOp .NotEq) (rNeA X.K) := OpR.or op_ne (op_neD hr.units)
theorem call_lenA : CallR X (.builtin "len") (rLenA X.K) := call_len
theorem call_listA : CallR X (.type "list") (rListA X.K) := call_list_of
theorem call_intA : CallR X (.type "int") rIntA := call_int1
theorem call_absA : CallR X (.builtin "abs") rAbsA := call_abs
theorem call_min2A (hc : X.calm = true) : CallR X (.builtin "min") rMin2A := call_min2 hc
theorem op_isNA : OpR X (compareOp .Is) rIsNA := op_isN
end
/-! ### what frames a step: all that was tracked but the addresses of S -/
def Kp (S : List Addr) (H H' : Hp) : Prop := ∀ b o, b ∉ S → H b = some o → H' b = some o
theorem Kp.refl (S : List Addr) (H : Hp) : Kp S H H := fun _ _ _ h => h
theorem Kp.trans {S : List Addr} {H H1 H2 : Hp} (a : Kp S H H1) (b : Kp S H1 H2) : Kp S H H2 := fun c o n h => b c o n (a c o n h)
theorem Kp.mono {S S' : List Addr} {H H1 : Hp} (a : Kp S H H1) (h : ∀ b ∈ S, b ∈ S') : Kp S' H H1 := fun c o n e => a c o (fun z => n (h c z)) e
theorem Kp.all {S : List Addr} {H H1 : Hp} (a : Kp [] H H1) : Kp S H H1 := fun c o _ e => a c o (by simp) e
theorem Kp.new {S : List Addr} {H : Hp} {p : Addr} {o : HO} (n : H p = none) : Kp S H (upd H p o) := fun b u _ e => by
  rw [upd_ne (ne_of_none e n)]
  exact e
theorem Kp.put {S : List Addr} {H : Hp} {p : Addr} {o : HO} (h : p ∈ S) : Kp S H (upd H p o) := fun b u n e => by
  have ne : b ≠ p := fun z => n (by rw [z]; exact h)
  rw [upd_ne ne]
  exact e
/-- an object that H does not know may change -/
theorem Kp.mut {S : List Addr} {H H1 : Hp} {p : Addr} {o : HO} (e : Kp S H H1) (n : H p = none) : Kp S H (upd H1 p o) := fun b u h z => by
  rw [upd_ne (ne_of_none z n)]
  exact e b u h z
theorem Kp.at0 {H H' : Hp} {b : Addr} {o : HO} (k : Kp [] H H') (h : H b = some o) : H' b = some o := k b o (by simp) h
theorem Kp.at1 {H H' : Hp} {a b : Addr} {o : HO} (k : Kp [a] H H') (n : b ≠ a) (h : H b = some o) : H' b = some o := k b o (by simpa using n) h
theorem Kp.free {S : List Addr} {H H' : Hp} {b : Addr} (k : Kp S H H') (n : b ∉ S) (h : H' b = none) : H b = none := by
  cases e : H b with
  | none => rfl
  | some o =>
    rw [k b o n e] at h
    cases h
theorem Kp.free0 {H H' : Hp} {b : Addr} (k : Kp [] H H') (h : H' b = none) : H b = none := k.free (by simp) h
theorem Kp.sql {S : List Addr} {K : PySem.W.Frag} {H H' : Hp} {a : Addr} {xs : List V} (e : Kp S H H') (n : a ∉ S) (h : SqL K H a xs) : SqL K H' a xs := by
  rcases h with (h | ⟨o, h⟩) | h
  · exact .inl (.inl (e _ _ n h))
  · exact .inl (.inr ⟨o, e _ _ n h⟩)
  · exact .inr h
theorem Kp.sqt {S : List Addr} {K : PySem.W.Frag} {H H' : Hp} {a : Addr} {xs : List V} (e : Kp S H H') (n : a ∉ S) (h : SqT K H a xs) : SqT K H' a xs := by
  rcases h with (h | ⟨o, h⟩) | h
  · exact .inl (.inl (e _ _ n h))
  · exact .inl (.inr ⟨o, e _ _ n h⟩)
  · exact .inr h
/-! ### the steps -/
section
variable {K : PySem.W.Frag} {σ : L2.St} {H : Hp} {Q : VK} {ta tb tc te : TE} {t u : TT} {x y v : V} {QB : Bool → Hp → Prop} {QA : List V → Hp → Prop} {D : Ends} {s1 s2 : TS} {tl tr : TA} {i j : Int} {n m : Nat} {p q : Addr} {xs ys : List V}
theorem w_var {k : Nat} (h : σ[k]? = some (some v)) (g : Q v H) : tVar k σ H Q := ⟨v, h, g⟩
theorem w_c (g : Q v H) : tC v σ H Q := g
theorem w_op {r : R2} (g : ta σ H fun x H1 => tb σ H1 fun y H2 => r x y H2 Q) : tOp r ta tb σ H Q := g
theorem w_un {r : V → Hp → VK → Prop} (g : ta σ H fun x H1 => r x H1 Q) : tUn r ta σ H Q := g
theorem w_test (g : te σ H fun x H1 => ∃ k, x = .bl k ∧ QB k H1) : tTest te σ H QB := g
theorem w_tb (g : te σ H fun x H1 => ∃ k, x = .bl k ∧ QB k H1) : tB te σ H QB := g
theorem w_and (g : t σ H fun c H1 => if c = true then u σ H1 QB else QB false H1) : tAnd t u σ H QB := g
theorem w_or (g : t σ H fun c H1 => if c = true then QB true H1 else u σ H1 QB) : tOr t u σ H QB := g
theorem w_not (g : t σ H fun c H1 => QB (!c) H1) : tNot t σ H QB := g
theorem w_andV (g : ta σ H fun x H1 => ∃ c, x = .bl c ∧ if c = true then tb σ H1 Q else Q (.bl false) H1) : tAndV ta tb σ H Q := g
theorem w_orV (g : ta σ H fun x H1 => ∃ c, x = .bl c ∧ if c = true then Q (.bl true) H1 else tb σ H1 Q) : tOrV ta tb σ H Q := g
theorem w_notV (g : ta σ H fun x H1 => ∃ c, x = .bl c ∧ Q (.bl (!c)) H1) : tNotV ta σ H Q := g
theorem w_ifE (g : t σ H fun c H1 => if c = true then ta σ H1 Q else tb σ H1 Q) : tIf t ta tb σ H Q := g
theorem w_chain {r r' : R2} (g : ta σ H fun x H1 => tb σ H1 fun y H2 => r x y H2 fun z H3 => ∃ k, z = .bl k ∧ (if k = true then tc σ H3 fun w' H4 => r' y w' H4 Q else Q (.bl false) H3)) : tChain r r' ta tb tc σ H Q := g
theorem w_nil (g : QA [] H) : tNil σ H QA := g
theorem w_cons (g : ta σ H fun x H1 => tr σ H1 fun xs H2 => QA (x :: xs) H2) : tCons ta tr σ H QA := g
theorem w_cb {r : List V → Hp → VK → Prop} (g : tl σ H fun vs H1 => r vs H1 Q) : tCB r tl σ H Q := g
theorem w_cl {sp : Sp} {E : L2.St → XK} (g : tl σ H fun vs H1 => sp vs H1 Q (E σ)) : tCl sp E tl σ H Q := g
theorem w_bm {T : String} {r : V → List V → Hp → VK → Prop} (g : te σ H fun x H1 => tyV K T x H1 ∧ tl σ H1 fun xs H2 => r x xs H2 Q) : tBM K T r te tl σ H Q := g
theorem w_bm0 {T : String} {r : V → List V → Hp → VK → Prop} (g : te σ H fun x H1 => tyV K T x H1 ∧ r x [] H1 Q) : tBM0 K T r te σ H Q := g
theorem w_fld {f : Str} (g : ta σ H fun x H1 => ∃ a C dx fs v, x = .ref a ∧ H1 a = some (.ins C dx fs) ∧ Cls K C ∧ NoAttr K C f ∧ fs.lookup f = some v ∧ Q v H1) : tFld K ta f σ H Q := g
theorem w_mt {C : Addr} {m : Str} {sp : Sp} {E : L2.St → XK} (g : ta σ H fun x H1 => ∃ a dx fs, x = .ref a ∧ H1 a = some (.ins C dx fs) ∧ fs.lookup m = none ∧ tl σ H1 fun vs H2 => sp (x :: vs) H2 Q (E σ)) : tMt C m sp E ta tl σ H Q := g
theorem w_seq (g : s1 { D with nx := s2 D } σ H) : tSeq s1 s2 D σ H := g
theorem w_next (g : D.nx σ H) : tNext D σ H := g
theorem w_if (g : t σ H fun b H1 => if b = true then s1 D σ H1 else s2 D σ H1) : tIfS t s1 s2 D σ H := g
theorem w_ret (g : te σ H D.rt) : tRet te D σ H := g
theorem w_drop (g : te σ H fun _ H1 => D.nx σ H1) : tDrop te D σ H := g
theorem w_asg {k : Nat} (g : te σ H fun x H1 => D.nx (σ.set k (some x)) H1) : tAsg te (gName k) D σ H := g
theorem w_asgS {to ti : TE} {r : TSet} (g : te σ H fun v H0 => to σ H0 fun o H1 => ti σ H1 fun i H2 => r o i v H2 fun H3 => D.nx σ H3) : tAsg te (gSub to ti r) D σ H := g
theorem w_asf {f : Str} (g : te σ H fun y H1 => ta σ H1 fun x H2 => ∃ a C dx fs, x = .ref a ∧ H2 a = some (.ins C dx fs) ∧ Cls K C ∧ NoAttr K C f ∧ fs.length < 1000 ∧ D.nx σ (upd H2 a (.ins C dx (putF f y fs)))) : sFld K ta te f D σ H := g
theorem w_ex1 {P : Bool → Prop} {b : Bool} (g : P b) : ∃ k, V.bl b = .bl k ∧ P k := ⟨b, rfl, g⟩
theorem w_iteD {c A B : Prop} [Decidable c] (h1 : c → A) (h2 : ¬ c → B) : if decide c = true then A else B := by
  by_cases h : c
  · rw [decide_eq_true h]
    exact iteT (h1 h)
  · rw [decide_eq_false h]
    exact iteF (h2 h)
theorem w_iteN {c A B : Prop} [Decidable c] (h1 : ¬ c → A) (h2 : c → B) : if (!decide c) = true then A else B := by
  by_cases h : c
  · rw [decide_eq_true h]
    exact iteF (h2 h)
  · rw [decide_eq_false h]
    exact iteT (h1 h)
theorem w_iteB {b : Bool} {A B : Prop} (h1 : b = true → A) (h2 : b = false → B) : if b = true then A else B := by
  cases b with
  | true => exact iteT (h1 rfl)
  | false => exact iteF (h2 rfl)
theorem w_iteBN {b : Bool} {A B : Prop} (h1 : b = false → A) (h2 : b = true → B) : if (!b) = true then A else B := by
  cases b with
  | true => exact iteF (h2 rfl)
  | false => exact iteT (h1 rfl)
theorem w_addI (g : Q (.int (i + j)) H) : rAddA (.int i) (.int j) H Q := .inl ⟨i, j, rfl, rfl, g⟩
theorem w_addS {a b : Str} (h : a.length + b.length ≤ sizeLine) (g : Q (.str (a ++ b)) H) : rAddA (.str a) (.str b) H Q := .inr (.inl ⟨a, b, rfl, rfl, h, g⟩)
theorem w_addL (h1 : H p = some (.lst xs)) (h2 : H q = some (.lst ys)) (h : xs.length + ys.length ≤ sizeLine) (g : ∀ r, H r = none → Q (.ref r) (upd H r (.lst (xs ++ ys)))) : rAddA (.ref p) (.ref q) H Q :=
  .inr (.inr ⟨p, q, xs, ys, rfl, rfl, h1, h2, h, g⟩)
theorem w_mulI (h : CMul i j) (g : Q (.int (i * j)) H) : rMulA (.int i) (.int j) H Q := .inl ⟨i, j, rfl, rfl, h, g⟩
theorem w_mulL (h1 : H p = some (.lst xs)) (h2 : -(2 ^ 63) ≤ j) (h3 : j < 2 ^ 63) (h : xs.length * j.toNat ≤ sizeLine) (g : ∀ r, H r = none → Q (.ref r) (upd H r (.lst (List.replicate j.toNat xs).flatten))) : rMulA (.ref p) (.int j) H Q :=
  .inr ⟨p, j, xs, rfl, rfl, h1, h2, h3, h, g⟩
theorem w_i0 {f : Int → Int → V} (g : Q (f i j) H) : rI0 f (.int i) (.int j) H Q := ⟨i, j, rfl, rfl, g⟩
theorem w_ic {C : Int → Int → Prop} {f : Int → Int → V} (h : C i j) (g : Q (f i j) H) : rI C f (.int i) (.int j) H Q := ⟨i, j, rfl, rfl, h, g⟩
theorem w_u1 {f : Int → V} (g : Q (f i) H) : rU f (.int i) H Q := ⟨i, rfl, g⟩
theorem dec_I : decide (V.int i = V.int j) = decide (i = j) := by
  rw [Bool.eq_iff_iff]
  simp
theorem dec_S {a b : Str} : decide (V.str a = V.str b) = decide (a = b) := by
  rw [Bool.eq_iff_iff]
  simp
theorem dec_B {a b : Bool} : decide (V.bl a = V.bl b) = decide (a = b) := by
  rw [Bool.eq_iff_iff]
  simp
theorem w_eqI (g : Q (.bl (decide (i = j))) H) : rEqA K (.int i) (.int j) H Q := .inl ⟨rfl, by rw [dec_I]; exact g⟩
theorem w_eqS {a b : Str} (g : Q (.bl (decide (a = b))) H) : rEqA K (.str a) (.str b) H Q := .inl ⟨rfl, by rw [dec_S]; exact g⟩
theorem w_eqB {a b : Bool} (g : Q (.bl (decide (a = b))) H) : rEqA K (.bl a) (.bl b) H Q := .inl ⟨rfl, by rw [dec_B]; exact g⟩
theorem w_neI (g : Q (.bl (!decide (i = j))) H) : rNeA K (.int i) (.int j) H Q := .inl ⟨rfl, by rw [dec_I]; exact g⟩
theorem w_neS {a b : Str} (g : Q (.bl (!decide (a = b))) H) : rNeA K (.str a) (.str b) H Q := .inl ⟨rfl, by rw [dec_S]; exact g⟩
theorem w_neB {a b : Bool} (g : Q (.bl (!decide (a = b))) H) : rNeA K (.bl a) (.bl b) H Q := .inl ⟨rfl, by rw [dec_B]; exact g⟩
theorem w_eqD {d e : PyData} (h1 : Dp K H x d) (h2 : Dp K H y e) (h3 : SeqAt.shaped d = true) (h4 : SeqAt.shaped e = true) (g : Q (.bl (PyData.eqv d e)) H) : rEqA K x y H Q := .inr ⟨d, e, h1, h2, h3, h4, g⟩
theorem w_isN0 (g : Q (.bl true) H) : rIsNA .non .non H Q := ⟨rfl, g⟩
theorem w_isN1 (h : x ≠ .non) (g : Q (.bl false) H) : rIsNA x .non H Q := ⟨rfl, by rw [decide_eq_false h]; exact g⟩
theorem w_notN0 (g : Q (.bl false) H) : rNotNA .non .non H Q := ⟨rfl, g⟩
theorem w_notN1 (h : x ≠ .non) (g : Q (.bl true) H) : rNotNA x .non H Q := ⟨rfl, by rw [decide_eq_false h]; exact g⟩
theorem w_lenL (h : SqL K H p xs) (g : Q (.int (xs.length : Int)) H) : rLenA K [.ref p] H Q := ⟨_, _, rfl, .inl ⟨xs, h, rfl⟩, g⟩
theorem w_lenT (h : SqT K H p xs) (g : Q (.int (xs.length : Int)) H) : rLenA K [.ref p] H Q := ⟨_, _, rfl, .inr ⟨xs, h, rfl⟩, g⟩
theorem w_listL (h : SqL K H p xs) (g : ∀ l, H l = none → Q (.ref l) (upd H l (.lst xs))) : rListA K [.ref p] H Q := ⟨p, xs, rfl, .inl h, g⟩
theorem w_listT (h : SqT K H p xs) (g : ∀ l, H l = none → Q (.ref l) (upd H l (.lst xs))) : rListA K [.ref p] H Q := ⟨p, xs, rfl, .inr h, g⟩
theorem w_intI (g : Q (.int i) H) : rIntA [.int i] H Q := .inl ⟨i, rfl, g⟩
theorem w_abs (g : Q (.int (if i < 0 then -i else i)) H) : rAbsA [.int i] H Q := ⟨i, rfl, g⟩
theorem w_min2 (g : Q (.int (if j < i then j else i)) H) : rMin2A [.int i, .int j] H Q := ⟨i, j, rfl, g⟩
theorem w_max2 (g : Q (.int (if j > i then j else i)) H) : rMax2A [.int i, .int j] H Q := ⟨i, j, rfl, g⟩
theorem w_ixL (h : SqL K H p xs) (ha : atI xs i = some v) (g : Q v H) : rIx K (.ref p) (.int i) H Q := .inl ⟨p, xs, i, v, rfl, rfl, h, ha, g⟩
theorem w_ixT (h : SqT K H p xs) (ha : atI xs i = some v) (g : Q v H) : rIx K (.ref p) (.int i) H Q := .inr (.inl ⟨p, xs, i, v, rfl, rfl, h, ha, g⟩)
theorem w_setL {R : Hp → Prop} (h : H p = some (.lst xs)) (ha : ixN xs.length i = some n) (g : R (upd H p (.lst (xs.set n v)))) : rSetL (.ref p) (.int i) v H R := ⟨p, xs, i, n, rfl, rfl, h, ha, g⟩
theorem w_ty (h : SqL K H p xs) : tyV K "list" (.ref p) H := .inl ⟨rfl, xs, h⟩
theorem w_append (h : H p = some (.lst xs)) (hl : xs.length < sizeLine) (g : Q .non (upd H p (.lst (xs ++ [v])))) : rAppend (.ref p) [v] H Q := ⟨p, xs, v, rfl, rfl, h, hl, g⟩
end
end G
set_option Elab.async false
set_option linter.all false
set_option maxRecDepth 100000
set_option maxHeartbeats 4000000
/-! Loops, comprehensions by words; the head's own facts. -/
namespace G
open PySem PySem.Spec PyProof.Rows L2
/-! ### what a loop wants of its walk J -/
def LoopG (J : It) (g : TG) (tb : TS) (D : Ends) (σ : L2.St) (H1 : Hp) : Prop := ∃ W : Nat → Nat → L2.St → Hp → Prop, (∃ m, W 0 m σ H1) ∧ ∀ i m σ H, W i m σ H →
  (J.stop i H ∧ D.nx σ H) ∨ (J.go i H ∧ ∃ N : L2.St → Hp → Prop, (∀ σ' H', N σ' H' → ∃ m', m' < m ∧ W (i + 1) m' σ' H') ∧ ∀ x H', J.yld i H x H' → g x σ H' fun σ2 H2 => tb { D with nx := N, ct := N, bk := D.nx } σ2 H2)
def CompG (J : It) (g : TG) (tt : TT) (te : TE) (vs : List Nat) (σ : L2.St) (Q : VK) (H1 : Hp) : Prop := ∀ D, H1 D = none → ∃ W : Nat → Nat → Hp → Prop, (∃ m, W 0 m (upd H1 D (.lst []))) ∧ ∀ i m H, W i m H →
  (J.stop i H ∧ Q (.ref D) H) ∨ (J.go i H ∧ ∃ Nx : Hp → Prop, (∀ H', Nx H' → ∃ m', m' < m ∧ W (i + 1) m' H') ∧ ∀ x H', J.yld i H x H' → g x (wipe σ vs) H' fun σ2 H2 => wipe σ2 vs = wipe σ vs ∧ tt σ2 H2 fun b H3 =>
    if b = true then te σ2 H3 fun y H4 => ∃ acc, H4 D = some (.lst acc) ∧ acc.length < sizeLine ∧ Nx (upd H4 D (.lst (acc ++ [y]))) else Nx H3)
section
variable {K : PySem.W.Frag} {σ : L2.St} {H : Hp} {Q : VK} {ta : TA} {te tl : TE} {tt : TT} {D : Ends} {tb : TS} {g : TG} {wi : TI} {j : Nat} {R : It → Hp → Prop} {vs : List Nat}
theorem w_for (h : wi σ H fun J H1 => LoopG J g tb D σ H1) : tFor wi g tb D σ H := h
theorem w_lc (h : wi σ H fun J H1 => CompG J g tt te vs σ Q H1) : tLc wi g tt te vs σ H Q := h
theorem w_iR1 (h : ta σ H fun vs H1 => ∃ j : Int, vs = [.int j] ∧ -(2 ^ 62) ≤ j ∧ j < 2 ^ 62 ∧ R (Itr 0 j.toNat) H1) : iRng1 ta σ H R := h
theorem w_iR2 (h : ta σ H fun vs H1 => ∃ i j : Int, vs = [.int i, .int j] ∧ (-(2 ^ 62) ≤ i ∧ i < 2 ^ 62 ∧ -(2 ^ 62) ≤ j ∧ j < 2 ^ 62) ∧ R (Itr i (j - i).toNat) H1) : iRng2 ta σ H R := h
theorem w_iL (h : tl σ H fun x H1 => ∃ a, x = .ref a ∧ (∃ xs, SqL K H1 a xs) ∧ R (Itl K a) H1) : iList K tl σ H R := h
theorem w_iT (h : tl σ H fun x H1 => ∃ a, x = .ref a ∧ (∃ xs, SqT K H1 a xs) ∧ R (Itt K a) H1) : iTup K tl σ H R := h
theorem w_iE (h : ta σ H fun vs H1 => ∃ a xs, vs = [.ref a] ∧ SqL K H1 a xs ∧ R (Ite K a) H1) : iEnum K ta σ H R := h
theorem w_iZ (h : ta σ H fun vs H1 => ∃ a b xs ys, vs = [.ref a, .ref b] ∧ SqL K H1 a xs ∧ SqL K H1 b ys ∧ R (Itz K a b) H1) : iZip K ta σ H R := h
/-! ### loops -/
theorem lp_rng {lo : Int} {n : Nat} (Pv : Nat → L2.St → Hp → Prop) (h0 : Pv 0 σ H) (hs : ∀ (i : Nat) σ' H', i < n → Pv i σ' H' → g (.int (lo + (i : Int))) σ' H' fun σ2 H2 => tb { D with nx := Pv (i + 1), ct := Pv (i + 1), bk := D.nx } σ2 H2)
    (hd : ∀ σ' H', Pv n σ' H' → D.nx σ' H') : LoopG (Itr lo n) g tb D σ H := for_range Pv h0 hs hd
theorem lp_rng0 {n : Nat} (Pv : Nat → L2.St → Hp → Prop) (h0 : Pv 0 σ H) (hs : ∀ (i : Nat) σ' H', i < n → Pv i σ' H' → g (.int (i : Int)) σ' H' fun σ2 H2 => tb { D with nx := Pv (i + 1), ct := Pv (i + 1), bk := D.nx } σ2 H2)
    (hd : ∀ σ' H', Pv n σ' H' → D.nx σ' H') : LoopG (Itr 0 n) g tb D σ H := for_range Pv h0 (fun i σ' H' hi p => by rw [Int.zero_add]; exact hs i σ' H' hi p) hd
theorem lp_lst {a : Addr} {xs : List V} (Pv : Nat → L2.St → Hp → Prop) (h0 : Pv 0 σ H) (hl : ∀ i σ' H', i ≤ xs.length → Pv i σ' H' → SqL K H' a xs)
    (hs : ∀ i x σ' H', xs[i]? = some x → Pv i σ' H' → g x σ' H' fun σ2 H2 => tb { D with nx := Pv (i + 1), ct := Pv (i + 1), bk := D.nx } σ2 H2) (hd : ∀ σ' H', Pv xs.length σ' H' → D.nx σ' H') : LoopG (Itl K a) g tb D σ H := for_list Pv h0 hl hs hd
theorem lp_enum {a : Addr} {xs : List V} (Pv : Nat → L2.St → Hp → Prop) (h0 : Pv 0 σ H) (hl : ∀ i σ' H', i ≤ xs.length → Pv i σ' H' → SqL K H' a xs)
    (hs : ∀ (i : Nat) (x : V) (T : Addr) σ' H', xs[i]? = some x → Pv i σ' H' → H' T = none → g (.ref T) σ' (upd H' T (.tup [.int (i : Int), x])) fun σ2 H2 => tb { D with nx := Pv (i + 1), ct := Pv (i + 1), bk := D.nx } σ2 H2)
    (hd : ∀ σ' H', Pv xs.length σ' H' → D.nx σ' H') : LoopG (Ite K a) g tb D σ H := by
  refine ⟨fun i m σ H => m = xs.length - i ∧ i ≤ xs.length ∧ Pv i σ H, ⟨xs.length, by simp, Nat.zero_le _, h0⟩, ?_⟩
  rintro i m σ H ⟨rfl, hi, p⟩
  have q := hl i σ H hi p
  by_cases lt : i < xs.length
  · refine .inr ⟨⟨xs, xs[i], q, by simp [lt]⟩, Pv (i + 1), fun σ' H' p' => ⟨xs.length - (i + 1), by omega, rfl, lt, p'⟩, fun v H' y => ?_⟩
    obtain ⟨T, x, rfl, nT, rfl, hx⟩ := y
    exact hs i x T σ H (hx xs q) p nT
  · have e : i = xs.length := by omega
    subst e
    exact .inl ⟨⟨xs, q, Nat.le_refl _⟩, hd σ H p⟩
/-! ### comprehensions: items i is what stands behind i turns -/
theorem cp_go {J : It} {n : Nat} (items : Nat → List V) (Ok : Hp → Prop) (hz : ∀ i, i < n → (items i).length < sizeLine) (h0 : items 0 = []) (ok0 : ∀ H', Kp [] H H' → Ok H') (hgo : ∀ i H', i < n → Ok H' → J.go i H') (hst : ∀ H', Ok H' → J.stop n H')
    (hs : ∀ (i : Nat) (x : V) (H' H'' : Hp) (S : V → Hp → Prop) (N : Hp → Prop), i < n → Kp [] H H' → J.yld i H' x H'' → (∀ y H4, Kp [] H' H4 → items (i + 1) = items i ++ [y] → S y H4) → (∀ H4, Kp [] H' H4 → items (i + 1) = items i → N H4) →
      g x (wipe σ vs) H'' fun σ2 H2 => wipe σ2 vs = wipe σ vs ∧ tt σ2 H2 fun b H3 => if b = true then te σ2 H3 S else N H3)
    (hd : ∀ D H', H D = none → Kp [] H H' → H' D = some (.lst (items n)) → Q (.ref D) H') : CompG J g tt te vs σ Q H := by
  intro D nD
  refine ⟨fun i m H' => m = n - i ∧ i ≤ n ∧ Kp [] H H' ∧ H' D = some (.lst (items i)), ⟨n, by simp, Nat.zero_le _, Kp.new nD, by rw [h0]; exact upd_same⟩, ?_⟩
  rintro i m H' ⟨rfl, hi, k, e⟩
  by_cases lt : i < n
  · refine .inr ⟨hgo i H' lt (ok0 H' k), fun H'' => Kp [] H H'' ∧ H'' D = some (.lst (items (i + 1))), fun H'' p => ⟨n - (i + 1), by omega, rfl, lt, p.1, p.2⟩, fun x H'' y => ?_⟩
    refine hs i x H' H'' _ _ lt k y (fun y H4 k4 ei => ⟨items i, k4.at0 e, hz i lt, ?_, ?_⟩) (fun H4 k4 ei => ⟨k.trans k4, ?_⟩)
    · exact Kp.mut (k.trans k4) nD
    · rw [ei]
      exact upd_same
    · rw [ei]
      exact k4.at0 e
  · have ei : i = n := by omega
    subst ei
    exact .inl ⟨hst H' (ok0 H' k), hd D H' nD k e⟩
theorem cp_rng {lo : Int} {n : Nat} (items : Nat → List V) (hz : ∀ i, i < n → (items i).length < sizeLine) (h0 : items 0 = [])
    (hs : ∀ (i : Nat) (H' : Hp) (S : V → Hp → Prop) (N : Hp → Prop), i < n → Kp [] H H' → (∀ y H4, Kp [] H' H4 → items (i + 1) = items i ++ [y] → S y H4) → (∀ H4, Kp [] H' H4 → items (i + 1) = items i → N H4) →
      g (.int (lo + (i : Int))) (wipe σ vs) H' fun σ2 H2 => wipe σ2 vs = wipe σ vs ∧ tt σ2 H2 fun b H3 => if b = true then te σ2 H3 S else N H3)
    (hd : ∀ D H', H D = none → Kp [] H H' → H' D = some (.lst (items n)) → Q (.ref D) H') : CompG (Itr lo n) g tt te vs σ Q H :=
  cp_go items (fun _ => True) hz h0 (fun _ _ => trivial) (fun i H' hi _ => hi) (fun H' _ => Nat.le_refl n) (fun i x H' H'' S N hi k y a b => by
    obtain ⟨rfl, rfl⟩ := y
    exact hs i H'' S N hi k a b) hd
theorem cp_lst {a : Addr} {xs : List V} (h : SqL K H a xs) (items : Nat → List V) (hz : ∀ i, i < xs.length → (items i).length < sizeLine) (h0 : items 0 = [])
    (hs : ∀ (i : Nat) (x : V) (H' : Hp) (S : V → Hp → Prop) (N : Hp → Prop), xs[i]? = some x → Kp [] H H' → (∀ y H4, Kp [] H' H4 → items (i + 1) = items i ++ [y] → S y H4) → (∀ H4, Kp [] H' H4 → items (i + 1) = items i → N H4) →
      g x (wipe σ vs) H' fun σ2 H2 => wipe σ2 vs = wipe σ vs ∧ tt σ2 H2 fun b H3 => if b = true then te σ2 H3 S else N H3)
    (hd : ∀ D H', H D = none → Kp [] H H' → H' D = some (.lst (items xs.length)) → Q (.ref D) H') : CompG (Itl K a) g tt te vs σ Q H :=
  cp_go (n := xs.length) items (fun H' => SqL K H' a xs) hz h0 (fun _ k => k.sql (by simp) h) (fun i H' hi q => ⟨xs, xs[i], q, by simp [hi]⟩) (fun H' q => ⟨xs, q, Nat.le_refl _⟩) (fun i x H' H'' S N hi k y a b => by
    obtain ⟨rfl, hx⟩ := y
    exact hs i x H'' S N (hx xs (k.sql (by simp) h)) k a b) hd
theorem cp_tup {a : Addr} {xs : List V} (h : SqT K H a xs) (items : Nat → List V) (hz : ∀ i, i < xs.length → (items i).length < sizeLine) (h0 : items 0 = [])
    (hs : ∀ (i : Nat) (x : V) (H' : Hp) (S : V → Hp → Prop) (N : Hp → Prop), xs[i]? = some x → Kp [] H H' → (∀ y H4, Kp [] H' H4 → items (i + 1) = items i ++ [y] → S y H4) → (∀ H4, Kp [] H' H4 → items (i + 1) = items i → N H4) →
      g x (wipe σ vs) H' fun σ2 H2 => wipe σ2 vs = wipe σ vs ∧ tt σ2 H2 fun b H3 => if b = true then te σ2 H3 S else N H3)
    (hd : ∀ D H', H D = none → Kp [] H H' → H' D = some (.lst (items xs.length)) → Q (.ref D) H') : CompG (Itt K a) g tt te vs σ Q H :=
  cp_go (n := xs.length) items (fun H' => SqT K H' a xs) hz h0 (fun _ k => k.sqt (by simp) h) (fun i H' hi q => ⟨xs, xs[i], q, by simp [hi]⟩) (fun H' q => ⟨xs, q, Nat.le_refl _⟩) (fun i x H' H'' S N hi k y a b => by
    obtain ⟨rfl, hx⟩ := y
    exact hs i x H'' S N (hx xs (k.sqt (by simp) h)) k a b) hd
theorem cp_enum {a : Addr} {xs : List V} (h : SqL K H a xs) (items : Nat → List V) (hz : ∀ i, i < xs.length → (items i).length < sizeLine) (h0 : items 0 = [])
    (hs : ∀ (i : Nat) (x : V) (T : Addr) (H' : Hp) (S : V → Hp → Prop) (N : Hp → Prop), xs[i]? = some x → Kp [] H H' → H' T = none → (∀ y H4, Kp [] H' H4 → items (i + 1) = items i ++ [y] → S y H4) → (∀ H4, Kp [] H' H4 → items (i + 1) = items i → N H4) →
      g (.ref T) (wipe σ vs) (upd H' T (.tup [.int (i : Int), x])) fun σ2 H2 => wipe σ2 vs = wipe σ vs ∧ tt σ2 H2 fun b H3 => if b = true then te σ2 H3 S else N H3)
    (hd : ∀ D H', H D = none → Kp [] H H' → H' D = some (.lst (items xs.length)) → Q (.ref D) H') : CompG (Ite K a) g tt te vs σ Q H :=
  cp_go (n := xs.length) items (fun H' => SqL K H' a xs) hz h0 (fun _ k => k.sql (by simp) h) (fun i H' hi q => ⟨xs, xs[i], q, by simp [hi]⟩) (fun H' q => ⟨xs, q, Nat.le_refl _⟩) (fun i v H' H'' S N hi k y a b => by
    obtain ⟨T, x, rfl, nT, rfl, hx⟩ := y
    exact hs i x T H' S N (hx xs (k.sql (by simp) h)) k nT a b) hd
end
/-! ### the head's facts: any tests of the written part -/
abbrev Chk := PySem.W.Frag → Bool
def obsX (fa : List Chk) (fn : List He.DefD) (K : PySem.W.Frag) : He.AlD := ((fa.all fun f => f K) && fn.all fun d => d.ok K, fn.map fun d => He.fnW K d.at_)
def SaysX (fa : List Chk) (fn : List He.DefD) (K : PySem.W.Frag) : Prop := obsX fa fn K = He.valD fn
section
variable {fa : List Chk} {fn : List He.DefD} {K : PySem.W.Frag}
theorem SaysX.fact (c : SaysX fa fn K) (i : Nat) {f : Chk} (h : fa[i]? = some f := by rfl) : f K = true := by
  have c1 := (He.ba (show ((fa.all fun f => f K) && fn.all fun d => d.ok K) = true from congrArg (fun z : He.AlD => z.1) c)).1
  exact List.all_eq_true.mp c1 f (List.mem_of_getElem? h)
theorem SaysX.def_ (c : SaysX fa fn K) (i : Nat) {d : He.DefD} (h : fn[i]? = some d := by rfl) : ∃ fd, FunD K d.name d.qual d.params d.body d.scope (d.dvs K) (d.kws K) (He.fAd K d.at_) fd := by
  have c2 := (He.ba (show ((fa.all fun f => f K) && fn.all fun d => d.ok K) = true from congrArg (fun z : He.AlD => z.1) c)).2
  have e : fn.map (fun d => He.fnW K d.at_) = fn.map He.DefD.val := congrArg (fun z : He.AlD => z.2) c
  have e2 : (fn.map fun d => He.fnW K d.at_)[i]? = (fn.map He.DefD.val)[i]? := by rw [e]
  rw [List.getElem?_map, List.getElem?_map, h] at e2
  exact He.DefD.funD (Option.some.inj e2) (List.all_eq_true.mp c2 d (List.mem_of_getElem? h))
/-- a plain fact of He -/
abbrev fa_ (f : He.Fa) : Chk := fun K => f.ok K
/-- a class of errors, as it is made -/
def oexB (C : Addr) (K : PySem.W.Frag) : Bool := match K.lookup C with
  | some ⟨.type "type", _, .cls cd, sl⟩ => (match cd.mro, sl.toList with
    | .ref C1 :: bm, [_, _, _, _, some (.builtin n), _] => C1 == C && n == "ValueError.__new__" && !cd.hasDel && cd.hasDict && PySem.HandSPX.refsVE bm
    | _, _ => false)
  | _ => false
theorem oexB_ok {C : Addr} (q : oexB C K = true) : ∃ nm qn N bs bm sn sub ab col dd k0 k1 k2 k3 k5, K.lookup C = some (excClassObj nm qn C N bs bm true sn sub ab col dd k0 k1 k2 k3 k5 "ValueError.__new__") ∧ PySem.HandSPX.refsVE bm = true := by
  unfold oexB at q
  split at q
  · rename_i dd cd sl ho
    split at q
    · rename_i C1 bm k0 k1 k2 k3 n k5 hm hs
      simp only [Bool.and_eq_true, beq_iff_eq, Bool.not_eq_true'] at q
      obtain ⟨⟨⟨⟨rfl, rfl⟩, del⟩, hd⟩, hr⟩ := q
      obtain ⟨nm, bs, mro, ns, qn, hdd, sn, sub, ab, col, dl⟩ := cd
      dsimp only at hm del hd
      subst hm del hd
      have es : sl = #[k0, k1, k2, k3, some (.builtin "ValueError.__new__"), k5] := by
        obtain ⟨l⟩ := sl
        exact congrArg Array.mk hs
      subst es
      exact ⟨nm, qn, ns, bs, bm, sn, sub, ab, col, dd, k0, k1, k2, k3, k5, ho, hr⟩
    · cases q
  · cases q
def eqT (a b : Option Bool) : Bool := decide (a = b)
/-- all that an own class of errors C with the fields fs is asked -/
def excB (x : Str) (fs : List Str) (K : PySem.W.Frag) : Bool := oexB (He.ga K x) K && (He.eqO (PySem.W.findIn K (.ref (He.ga K x)) "__setattr__") (some (some (.builtin "object.__setattr__"))) &&
  (eqT (PySem.W.subIn K (.ref (He.ga K x)) (.type "BaseException")) (some true) && (decide (PySem.W.typeIn K (.ref (He.ga K x)) = some (.type "type")) && (PySem.W.keepIn K (.ref (He.ga K x)) &&
  (fs.all fun f => He.eqO (PySem.W.findIn K (.ref (He.ga K x)) f) (some none))))))
/-- .. and its instances are asked -/
def askB (x : Str) (K : PySem.W.Frag) : Bool := (PySem.W.clsIn K (He.ga K x)).isSome && (He.eqO (PySem.W.findIn K (.ref (He.ga K x)) "__getattribute__") (some (some (.builtin "BaseException.__getattribute__"))) &&
  (He.eqO (PySem.W.findIn K (.ref (He.ga K x)) "__getattr__") (some none) && (eqT (PySem.W.subIn K (.ref (He.ga K x)) (.type "BaseException")) (some true) && (PySem.W.hasDictIn K (He.ga K x) &&
  (He.eqO (PySem.W.findIn K (.ref (He.ga K x)) "__class__") (some (some (.builtin "object.__class__"))) && (He.eqO (PySem.W.specialIn K (.builtin "object.__class__") "__get__") (some (some (.builtin "getset_descriptor.__get__"))) &&
  (eqT (PySem.W.takesIn K (.builtin "object.__class__")) (some true) && eqT (PySem.W.mroIn K (He.ga K x) (.type "object")) (some true))))))))
theorem excB_ok {x : Str} {fs : List Str} (q : excB x fs K = true) : OexC K (He.ga K x) ∧ ∀ f ∈ fs, PySem.W.findIn K (.ref (He.ga K x)) f = some none := by
  obtain ⟨q1, q⟩ := He.ba q
  obtain ⟨q2, q⟩ := He.ba q
  obtain ⟨q3, q⟩ := He.ba q
  obtain ⟨q4, q⟩ := He.ba q
  obtain ⟨q5, q6⟩ := He.ba q
  exact ⟨⟨oexB_ok q1, He.eqO_ok q2, of_decide_eq_true q3, of_decide_eq_true q4, q5⟩, fun f hf => He.eqO_ok (List.all_eq_true.mp q6 f hf)⟩
theorem askB_ok {x : Str} (q : askB x K = true) : ExK K (He.ga K x) := by
  obtain ⟨q1, q⟩ := He.ba q
  obtain ⟨q2, q⟩ := He.ba q
  obtain ⟨q3, q⟩ := He.ba q
  obtain ⟨q4, q⟩ := He.ba q
  obtain ⟨q5, q⟩ := He.ba q
  obtain ⟨q6, q⟩ := He.ba q
  obtain ⟨q7, q⟩ := He.ba q
  obtain ⟨q8, q9⟩ := He.ba q
  exact ⟨q1, He.eqO_ok q2, He.eqO_ok q3, of_decide_eq_true q4, q5, He.eqO_ok q6, He.eqO_ok q7, of_decide_eq_true q8, of_decide_eq_true q9⟩
/-- isinstance of an instance of x by the class y, by a built-in one -/
def kitB2 (x y : Str) (b : Bool) (K : PySem.W.Frag) : Bool := eqT (PySem.W.kitOne K (.ref (He.ga K x)) (.ref (He.ga K y))) (some b)
def kitT2 (x : Str) (y : String) (b : Bool) (K : PySem.W.Frag) : Bool := eqT (PySem.W.kitOne K (.ref (He.ga K x)) (.type y)) (some b)
/-- except y takes an x -/
def exmB (x y : Str) (b : Bool) (K : PySem.W.Frag) : Bool := eqT (PySem.W.exmOne K (.ref (He.ga K x)) (.ref (He.ga K y))) (some b)
/-- the __init__ that is found, a function -/
def iniB (x : Str) (K : PySem.W.Frag) : Bool := He.eqO (PySem.W.findIn K (.ref (He.ga K x)) "__init__") (some (some (.ref (He.ma K (He.ga K x) "__init__")))) && decide (PySem.W.typeIn K (.ref (He.ma K (He.ga K x) "__init__")) = some (.type "function"))
theorem iniB_ok {x : Str} (q : iniB x K = true) : PySem.W.findIn K (.ref (He.ga K x)) "__init__" = some (some (.ref (He.ma K (He.ga K x) "__init__"))) ∧ PySem.W.typeIn K (.ref (He.ma K (He.ga K x) "__init__")) = some (.type "function") := by
  obtain ⟨q1, q2⟩ := He.ba q
  exact ⟨He.eqO_ok q1, of_decide_eq_true q2⟩
end
end G
set_option Elab.async false
set_option linter.all false
set_option maxRecDepth 100000
set_option maxHeartbeats 4000000
/-! Constants of a class; truth; two things more. -/
namespace G
open PySem PySem.Spec PyProof.Rows L2
section
variable {X : Cx} {C : Addr} {mc u : Value} {v : V} {e : Expr} {f : Str} {pos : Pos} {ta : TE}
theorem pe_cc (k : ∃ mc u, ClX.CRead X.K C mc ∧ ClX.CVal X.K C mc f v u) (he : PE X e (tC (.ref C))) (hb : attributeBase e f X.env (eval e X.env) = eval e X.env := by rfl) : PE X (.Attribute e f pos) (tC v) := by
  obtain ⟨mc, u, r, k⟩ := k
  exact ⟨fun pins s σ H Q I h => (ClX.pe_cval he hb).run pins s σ H Q I ⟨C, mc, v, u, rfl, r, k, h⟩⟩
def tTr (K : PySem.W.Frag) (ta : TE) : TT := fun σ H Q => ta σ H fun x H' => ∃ k, TruV K x H' k ∧ Q k H'
theorem pt_tr (ha : PE X e ta) (he : ∀ whole, isTrue e X.env whole = (do let v ← whole; standAt e.pos; holding [v] (truthy v))) : PT X e (tTr X.K ta) := pt_truth ha he
end
/-- x.f is the whole number i -/
def ccB (x f : Str) (i : Int) (K : PySem.W.Frag) : Bool := PySem.W.readsIn K (He.ga K x) (.type "type") && (He.eqO (PySem.W.specialIn K (.ref (He.ga K x)) "__getattribute__") (some (some (.builtin "type.__getattribute__"))) &&
  (match PySem.W.findCls K (.ref (He.ga K x)) (.type "type") f with
  | some (.val (.int j _)) => decide (j = i)
  | _ => false))
theorem ccB_ok {K : PySem.W.Frag} {x f : Str} {i : Int} (q : ccB x f i K = true) : ∃ mc u, ClX.CRead K (He.ga K x) mc ∧ ClX.CVal K (He.ga K x) mc f (.int i) u := by
  obtain ⟨q1, q⟩ := He.ba q
  obtain ⟨q2, q3⟩ := He.ba q
  have q4 : (match PySem.W.findCls K (.ref (He.ga K x)) (.type "type") f with
    | some (.val (.int j _)) => decide (j = i)
    | _ => false) = true := q3
  split at q4
  · rename_i j t e
    have ej : j = i := of_decide_eq_true q4
    subst ej
    exact ⟨.type "type", .int j t, ⟨q1, He.eqO_ok q2⟩, ⟨e, t, rfl⟩⟩
  · cases q4
end G
namespace G
open PySem PySem.Spec PyProof.Rows L2
/-- a built-in class as a value -/
theorem pe_ty {X : Cx} {x : Str} (n : String) {pos : Pos} (hm : X.mg x = none) (hv : bootBuiltins x = some (.type n)) (hg : Gl X x := by rfl) (hn : x ≠ "__name__" := by decide) (hd : (x == ("__debug__" : Str)) = false := by decide) : PE X (.Name x pos) (tC (.ty n)) :=
  pe_bltn hg hm hv rfl hn hd
/-- an own class as a value -/
theorem pe_own {X : Cx} {x : Str} {C : Addr} {pos : Pos} (hm : X.mg x = some (.ref C)) (hg : Gl X x := by rfl) (hd : (x == ("__debug__" : Str)) = false := by decide) : PE X (.Name x pos) (tC (.ref C)) := pe_glob hg hm rfl hd
end G
namespace G
open PySem PySem.Spec PyProof.Rows L2
/-- what lets nothing out -/
theorem noX {P : Program} {w : World} {K : PySem.W.Frag} {mg : Str → Option Value} {base : Heap} {k : Nat} {f : Addr} {fd : FuncData} {ps : List Str} {sp : Sp} (F : FnOk P w K mg base (L2N.CX P w) k f fd ps sp) :
    FnOk P w K mg base L2.CX0 k f fd ps (fun vs H Q _ => sp vs H Q L2.E0) := by
  refine ⟨fun vs H Q E h => F.len vs H Q _ h, fun A outer s H args us vs Q E hr e0 hb r h => codeAny_mono (F.run A outer s H args us vs Q _ hr e0 hb r h) fun rs s2 q => ?_⟩
  cases rs with
  | error e =>
    obtain ⟨_, _, _, _, _, _, _, _, _, _, _, _, z⟩ := q
    exact z.elim
  | ok fl => cases fl <;> exact q
end G
set_option Elab.async false
set_option linter.all false
set_option maxRecDepth 100000
set_option maxHeartbeats 4000000
/-! Standings as plain lists, and what operations do to them. -/
namespace G
open PySem PySem.Spec PyProof.Rows L2
/-! ### lists by place -/
def gI (l : List Int) (i : Nat) : Int := l.getD i 0
def gB (l : List Bool) (i : Nat) : Bool := l.getD i false
theorem gI_at {l : List Int} {i : Nat} (h : i < l.length) : l[i]? = some (gI l i) := by
  unfold gI
  rw [List.getElem?_eq_getElem h, List.getD_eq_getElem?_getD, List.getElem?_eq_getElem h] <;> rfl
theorem gB_at {l : List Bool} {i : Nat} (h : i < l.length) : l[i]? = some (gB l i) := by
  unfold gB
  rw [List.getElem?_eq_getElem h, List.getD_eq_getElem?_getD, List.getElem?_eq_getElem h] <;> rfl
theorem gI_of {l : List Int} {i : Nat} {v : Int} (h : l[i]? = some v) : gI l i = v := by
  unfold gI
  rw [List.getD_eq_getElem?_getD, h] <;> rfl
theorem gB_of {l : List Bool} {i : Nat} {v : Bool} (h : l[i]? = some v) : gB l i = v := by
  unfold gB
  rw [List.getD_eq_getElem?_getD, h] <;> rfl
theorem gI_set {l : List Int} {i j : Nat} {v : Int} (h : i < l.length) : gI (l.set i v) j = if j = i then v else gI l j := by
  unfold gI
  rw [List.getD_eq_getElem?_getD, List.getD_eq_getElem?_getD]
  by_cases e : j = i
  · rw [if_pos e, e, List.getElem?_set_self h] <;> rfl
  · rw [if_neg e, List.getElem?_set_ne (Ne.symm e)]
theorem gB_set {l : List Bool} {i j : Nat} {v : Bool} (h : i < l.length) : gB (l.set i v) j = if j = i then v else gB l j := by
  unfold gB
  rw [List.getD_eq_getElem?_getD, List.getD_eq_getElem?_getD]
  by_cases e : j = i
  · rw [if_pos e, e, List.getElem?_set_self h] <;> rfl
  · rw [if_neg e, List.getElem?_set_ne (Ne.symm e)]
theorem atI_pos {α : Type} {l : List α} {i : Int} (h0 : 0 ≤ i) (h1 : i < (l.length : Int)) : atI l i = l[i.toNat]? := by
  unfold atI ixN
  rw [if_pos h0, if_pos h1] <;> rfl
theorem ixN_pos {n : Nat} {i : Int} (h0 : 0 ≤ i) (h1 : i < (n : Int)) : ixN n i = some i.toNat := by
  unfold ixN
  rw [if_pos h0, if_pos h1]
theorem at_I {l : List Int} {i : Int} (h0 : 0 ≤ i) (h1 : i < (l.length : Int)) : atI (l.map V.int) i = some (.int (gI l i.toNat)) := by
  rw [atI_pos h0 (by rw [List.length_map]; exact h1), List.getElem?_map, gI_at (by omega)] <;> rfl
theorem at_B {l : List Bool} {i : Int} (h0 : 0 ≤ i) (h1 : i < (l.length : Int)) : atI (l.map V.bl) i = some (.bl (gB l i.toNat)) := by
  rw [atI_pos h0 (by rw [List.length_map]; exact h1), List.getElem?_map, gB_at (by omega)] <;> rfl
theorem set_I {l : List Int} {k : Nat} {v : Int} : (l.map V.int).set k (V.int v) = (l.set k v).map V.int := by rw [List.map_set]
theorem set_B {l : List Bool} {k : Nat} {v : Bool} : (l.map V.bl).set k (V.bl v) = (l.set k v).map V.bl := by rw [List.map_set]
theorem sz_ok {n : Nat} (h : n ≤ 1000000) : n ≤ sizeLine := by
  rw [sizeLine_eq]
  omega
theorem sz_lt {n : Nat} (h : n < 1000000) : n < sizeLine := by
  rw [sizeLine_eq]
  omega
/-! ### standings -/
structure Sd where
  n : Nat
  R : List Int
  L : List Int
  O : List Bool
structure Wf (s : Sd) : Prop where
  n60 : s.n ≤ 60
  lR : s.R.length = s.n + 1
  lL : s.L.length = s.n + 2
  lO : s.O.length = s.n + 2
  rb : ∀ v : Nat, v ≤ s.n → (v : Int) < gI s.R v ∧ gI s.R v ≤ (s.n : Int) + 1
  lb : ∀ v : Nat, 1 ≤ v → v ≤ s.n + 1 → 0 ≤ gI s.L v ∧ gI s.L v < (v : Int)
def stepS (s : Sd) (op : Int) : Sd :=
  let x := op.natAbs
  let l := (gI s.L x).toNat
  let r := (gI s.R x).toNat
  ⟨s.n, s.R.set l (if op < 0 then gI s.R x else (x : Int)), s.L.set r (if op < 0 then gI s.L x else (x : Int)), s.O.set x (decide (op < 0))⟩
/-- an operation for the size; a legal one -/
def IsOp (n : Nat) (op : Int) : Prop := 1 ≤ op.natAbs ∧ op.natAbs ≤ n
def OkOp (s : Sd) (op : Int) : Prop := IsOp s.n op ∧ gB s.O op.natAbs = decide (0 < op)
instance (n : Nat) (op : Int) : Decidable (IsOp n op) := by unfold IsOp; infer_instance
instance (s : Sd) (op : Int) : Decidable (OkOp s op) := by unfold OkOp; infer_instance
theorem Wf.step {s : Sd} (w : Wf s) {op : Int} (h : IsOp s.n op) : Wf (stepS s op) := by
  obtain ⟨h1, h2⟩ := h
  obtain ⟨r1, r2⟩ := w.rb op.natAbs (by omega)
  obtain ⟨l1, l2⟩ := w.lb op.natAbs h1 (by omega)
  have e1 : (gI s.L op.natAbs).toNat < s.R.length := by rw [w.lR]; omega
  have e2 : (gI s.R op.natAbs).toNat < s.L.length := by rw [w.lL]; omega
  refine ⟨w.n60, ?_, ?_, ?_, fun v hv => ?_, fun v hv hv2 => ?_⟩
  · show (s.R.set _ _).length = _
    rw [List.length_set]
    exact w.lR
  · show (s.L.set _ _).length = _
    rw [List.length_set]
    exact w.lL
  · show (s.O.set _ _).length = _
    rw [List.length_set]
    exact w.lO
  · show (v : Int) < gI (s.R.set _ _) v ∧ gI (s.R.set _ _) v ≤ (s.n : Int) + 1
    rw [gI_set e1]
    by_cases e : v = (gI s.L op.natAbs).toNat
    · rw [if_pos e]
      by_cases o : op < 0
      · rw [if_pos o]
        omega
      · rw [if_neg o]
        omega
    · rw [if_neg e]
      exact w.rb v hv
  · show 0 ≤ gI (s.L.set _ _) v ∧ gI (s.L.set _ _) v < (v : Int)
    rw [gI_set e2]
    by_cases e : v = (gI s.R op.natAbs).toNat
    · rw [if_pos e]
      by_cases o : op < 0
      · rw [if_pos o]
        omega
      · rw [if_neg o]
        omega
    · rw [if_neg e]
      exact w.lb v hv hv2
/-- a, a + 1, .. n of them -/
def rgI (a : Int) (n : Nat) : List Int := (List.range n).map fun (i : Nat) => a + (i : Int)
theorem rgI_len (a : Int) (n : Nat) : (rgI a n).length = n := by simp [rgI]
def wholeS (n : Nat) : Sd := ⟨n, rgI 1 (n + 1), 0 :: rgI 0 (n + 1), List.replicate (n + 2) false⟩
theorem gI_range {n i : Nat} {a : Int} (h : i < n) : gI (rgI a n) i = a + (i : Int) := by
  refine gI_of ?_
  unfold rgI
  rw [List.getElem?_map, List.getElem?_range h] <;> rfl
theorem Wf.whole {n : Nat} (h : n ≤ 60) : Wf (wholeS n) := by
  refine ⟨h, rgI_len _ _, congrArg Nat.succ (rgI_len _ _), List.length_replicate, fun v hv => ?_, fun v h1 h2 => ?_⟩
  · show (v : Int) < gI (rgI 1 (n + 1)) v ∧ gI (rgI 1 (n + 1)) v ≤ (n : Int) + 1
    have hv' : v ≤ n := hv
    rw [gI_range (by omega)]
    omega
  · show 0 ≤ gI (0 :: rgI 0 (n + 1)) v ∧ gI (0 :: rgI 0 (n + 1)) v < (v : Int)
    have h2' : v ≤ n + 1 := h2
    obtain ⟨u, rfl⟩ : ∃ u, v = u + 1 := ⟨v - 1, by omega⟩
    have e : gI (0 :: rgI 0 (n + 1)) (u + 1) = gI (rgI 0 (n + 1)) u := rfl
    rw [e, gI_range (by omega)]
    omega
theorem snoc_ind {α : Type} {P : List α → Prop} (h0 : P []) (h1 : ∀ l x, P l → P (l ++ [x])) (l : List α) : P l := by
  have key : ∀ r : List α, P r.reverse := by
    intro r
    induction r with
    | nil => exact h0
    | cons x r ih =>
      rw [List.reverse_cons]
      exact h1 _ _ ih
  have e := key l.reverse
  rwa [List.reverse_reverse] at e
def runS (s : Sd) (log : List Int) : Sd := log.foldl stepS s
theorem runS_snoc (s : Sd) (log : List Int) (op : Int) : runS s (log ++ [op]) = stepS (runS s log) op := by
  unfold runS
  rw [List.foldl_append] <;> rfl
theorem stepS_n (s : Sd) (op : Int) : (stepS s op).n = s.n := rfl
theorem runS_n (s : Sd) : ∀ log : List Int, (runS s log).n = s.n := by
  intro log
  induction log using snoc_ind with
  | h0 => rfl
  | h1 l x ih => rw [runS_snoc]; exact ih
/-- every operation is legal in turn -/
def Leg (s : Sd) (log : List Int) : Prop := ∀ i op, log[i]? = some op → OkOp (runS s (log.take i)) op
theorem Leg.snoc {s : Sd} {log : List Int} {op : Int} (h : Leg s log) (o : OkOp (runS s log) op) : Leg s (log ++ [op]) := by
  intro i p hp
  by_cases hi : i < log.length
  · rw [List.getElem?_append_left hi] at hp
    rw [List.take_append_of_le_length (by omega)]
    exact h i p hp
  · rw [List.getElem?_append_right (by omega)] at hp
    have e : i = log.length := by
      have := (List.getElem?_eq_some_iff.mp hp).1
      simp at this
      omega
    subst e
    have : p = op := by simpa using hp.symm
    subst this
    rw [List.take_left']
    · exact o
    · rfl
theorem Leg.take {s : Sd} {log : List Int} (h : Leg s log) (k : Nat) : Leg s (log.take k) := by
  intro i op hp
  have hi : i < (log.take k).length := (List.getElem?_eq_some_iff.mp hp).1
  rw [List.length_take] at hi
  rw [List.getElem?_take_of_lt (by omega)] at hp
  rw [List.take_take, Nat.min_eq_left (by omega)]
  exact h i op hp
theorem Leg.wf {s : Sd} (w : Wf s) : ∀ {log : List Int}, Leg s log → Wf (runS s log) := by
  intro log
  induction log using snoc_ind with
  | h0 => exact fun _ => w
  | h1 l x ih =>
    intro h
    have h1 : Leg s l := by
      have := h.take l.length
      rwa [List.take_left' rfl] at this
    have h2 := h l.length x (by simp)
    rw [List.take_left' rfl] at h2
    rw [runS_snoc]
    exact (ih h1).step h2.1
end G
set_option Elab.async false
set_option linter.all false
set_option maxRecDepth 100000
set_option maxHeartbeats 4000000
/-! What the program's own defs promise: standings, logs, gaps. -/
namespace G
open PySem PySem.Spec PyProof.Rows L2
/-! ### a standing in the heap -/
def fl (n r l o : V) : List (Str × V) := putF "_out" o (putF "_lefts" l (putF "_rights" r (putF "size" n [])))
theorem n1 : ¬ (("size" : Str) = "_rights") := by decide +kernel
theorem n2 : ¬ (("size" : Str) = "_lefts") := by decide +kernel
theorem n3 : ¬ (("size" : Str) = "_out") := by decide +kernel
theorem n4 : ¬ (("_rights" : Str) = "_lefts") := by decide +kernel
theorem n5 : ¬ (("_rights" : Str) = "_out") := by decide +kernel
theorem n6 : ¬ (("_lefts" : Str) = "_out") := by decide +kernel
theorem fl_size (n r l o : V) : (fl n r l o).lookup ("size" : Str) = some n := by
  unfold fl
  rw [lookup_putF, if_neg n3, lookup_putF, if_neg n2, lookup_putF, if_neg n1, lookup_putF, if_pos rfl]
theorem fl_R (n r l o : V) : (fl n r l o).lookup ("_rights" : Str) = some r := by
  unfold fl
  rw [lookup_putF, if_neg n5, lookup_putF, if_neg n4, lookup_putF, if_pos rfl]
theorem fl_L (n r l o : V) : (fl n r l o).lookup ("_lefts" : Str) = some l := by
  unfold fl
  rw [lookup_putF, if_neg n6, lookup_putF, if_pos rfl]
theorem fl_O (n r l o : V) : (fl n r l o).lookup ("_out" : Str) = some o := by
  unfold fl
  rw [lookup_putF, if_pos rfl]
theorem fl_no {m : Str} (n r l o : V) (h1 : ¬ m = "size") (h2 : ¬ m = "_rights") (h3 : ¬ m = "_lefts") (h4 : ¬ m = "_out") : (fl n r l o).lookup m = none := by
  unfold fl
  rw [lookup_putF, if_neg h4, lookup_putF, if_neg h3, lookup_putF, if_neg h2, lookup_putF, if_neg h1]
  rfl
theorem fl_eq (n r l o : V) : fl n r l o = [(("size" : Str), n), ("_rights", r), ("_lefts", l), ("_out", o)] := by
  unfold fl
  simp only [putF, if_neg n1, if_neg n2, if_neg n3, if_neg n4, if_neg n5, if_neg n6]
theorem fl_len (n r l o : V) : (fl n r l o).length < 1000 := by
  rw [fl_eq]
  show 4 < 1000
  decide
theorem fl_putR (n r l o r2 : V) : putF "_rights" r2 (fl n r l o) = fl n r2 l o := by
  rw [fl_eq, fl_eq]
  simp only [putF]
  rw [if_neg n1, if_pos trivial]
theorem fl_putL (n r l o l2 : V) : putF "_lefts" l2 (fl n r l o) = fl n r l2 o := by
  rw [fl_eq, fl_eq]
  simp only [putF]
  rw [if_neg n2, if_neg n4, if_pos trivial]
theorem fl_putO (n r l o o2 : V) : putF "_out" o2 (fl n r l o) = fl n r l o2 := by
  rw [fl_eq, fl_eq]
  simp only [putF]
  rw [if_neg n3, if_neg n5, if_neg n6, if_pos trivial]
structure LinksAt (K : PySem.W.Frag) (H : Hp) (p r l o : Addr) (s : Sd) : Prop where
  ob : ∃ dx, H p = some (.ins (He.ga K "Links") dx (fl (.int s.n) (.ref r) (.ref l) (.ref o)))
  hr : H r = some (.lst (s.R.map V.int))
  hl : H l = some (.lst (s.L.map V.int))
  ho : H o = some (.lst (s.O.map V.bl))
  rl : r ≠ l
  ro : r ≠ o
  lo : l ≠ o
  wf : Wf s
theorem LinksAt.pr {K : PySem.W.Frag} {H : Hp} {p r l o : Addr} {s : Sd} (a : LinksAt K H p r l o s) : p ≠ r ∧ p ≠ l ∧ p ≠ o := by
  obtain ⟨dx, h⟩ := a.ob
  exact ⟨ne_of h a.hr (by intro z; cases z), ne_of h a.hl (by intro z; cases z), ne_of h a.ho (by intro z; cases z)⟩
theorem LinksAt.kp {K : PySem.W.Frag} {H H' : Hp} {p r l o : Addr} {s : Sd} {S : List Addr} (a : LinksAt K H p r l o s) (k : Kp S H H') (h1 : p ∉ S) (h2 : r ∉ S) (h3 : l ∉ S) (h4 : o ∉ S) : LinksAt K H' p r l o s := by
  obtain ⟨dx, h⟩ := a.ob
  exact ⟨⟨dx, k _ _ h1 h⟩, k _ _ h2 a.hr, k _ _ h3 a.hl, k _ _ h4 a.ho, a.rl, a.ro, a.lo, a.wf⟩
theorem LinksAt.k0 {K : PySem.W.Frag} {H H' : Hp} {p r l o : Addr} {s : Sd} (a : LinksAt K H p r l o s) (k : Kp [] H H') : LinksAt K H' p r l o s := a.kp k (by simp) (by simp) (by simp) (by simp)
/-! ### errors -/
/-- an error of the class x leaves, new, with these fields -/
def Ex (K : PySem.W.Frag) (x : Str) (fs : List (Str × V)) (E : XK) (H : Hp) : Prop := ∀ d, H d = none → E (.ref (He.ga K x)) (some d) (upd H d (.xd fs))
def OpE (K : PySem.W.Frag) (n : Nat) (op : Int) (i : Int) (E : XK) (H : Hp) : Prop := Ex K (if IsOp n op then "Illegal" else "BadOperation") [("index", .int i), ("operation", .int op)] E H
/-- .. the first wrong operation of a log -/
def LogE (K : PySem.W.Frag) (s : Sd) (log : List Int) (E : XK) (H : Hp) : Prop := ∀ (i : Nat) (op : Int), log[i]? = some op → Leg s (log.take i) → ¬ OkOp (runS s (log.take i)) op → ∀ H', Kp [] H H' → OpE K s.n op i E H'
def SizeOk (size : Int) : Prop := 0 ≤ size ∧ size ≤ 60
instance (size : Int) : Decidable (SizeOk size) := by unfold SizeOk; infer_instance
/-! ### gaps -/
def stT (s : Sd) (v : Nat) : Str := if gI s.R v = (v : Int) + 1 then (if gI s.L (v + 1) = (v : Int) then "joined" else "left") else (if gI s.L (v + 1) = (v : Int) then "right" else "lost")
def lostL (s : Sd) : List Nat := (List.range (s.n + 1)).filter fun v => decide (stT s v = "lost")
/-! ### promises -/
section
variable (K : PySem.W.Frag)
def sp_check_size : Sp := fun vs H Q E => ∃ size : Int, vs = [.int size] ∧ (SizeOk size → Q .non H) ∧ (¬ SizeOk size → Ex K "BadSize" [("size", .int size)] E H)
def sp_check_operation : Sp := fun vs H Q E => ∃ (n : Nat) (op i : Int), vs = [.int n, .int op, .int i] ∧ (IsOp n op → Q .non H) ∧ (¬ IsOp n op → Ex K "BadOperation" [("index", .int i), ("operation", .int op)] E H)
def sp_check_gap : Sp := fun vs H Q E => ∃ (n : Nat) (g : Int), vs = [.int n, .int g] ∧ (0 ≤ g ∧ g ≤ n → Q .non H) ∧ (¬ (0 ≤ g ∧ g ≤ n) → Ex K "BadGap" [("gap", .int g)] E H)
def sp_Links___init__ : Sp := fun vs H Q E => ∃ (p dx : Addr) (size : Int), vs = [.ref p, .int size] ∧ H p = some (.ins (He.ga K "Links") dx []) ∧
  (SizeOk size → ∀ (r l o : Addr) (H' : Hp), H r = none → H l = none → H o = none → Kp [p] H H' → LinksAt K H' p r l o (wholeS size.toNat) → Q .non H') ∧ (¬ SizeOk size → Ex K "BadSize" [("size", .int size)] E H)
def sp_Links_is_legal : Sp := fun vs H Q E => ∃ (p r l o : Addr) (s : Sd) (op : Int), vs = [.ref p, .int op] ∧ LinksAt K H p r l o s ∧ IsOp s.n op ∧ Q (.bl (decide (gB s.O op.natAbs = decide (0 < op)))) H
def sp_Links_check : Sp := fun vs H Q E => ∃ (p r l o : Addr) (s : Sd) (op i : Int), vs = [.ref p, .int op, .int i] ∧ LinksAt K H p r l o s ∧ (OkOp s op → Q .non H) ∧ (¬ OkOp s op → OpE K s.n op i E H)
def sp_Links_apply_at : Sp := fun vs H Q E => ∃ (p r l o : Addr) (s : Sd) (op i : Int), vs = [.ref p, .int op, .int i] ∧ LinksAt K H p r l o s ∧ (OkOp s op → ∀ H', Kp [r, l, o] H H' → LinksAt K H' p r l o (stepS s op) → Q .non H') ∧ (¬ OkOp s op → OpE K s.n op i E H)
def sp_Links_apply : Sp := fun vs H Q E => ∃ (p r l o : Addr) (s : Sd) (op : Int), vs = [.ref p, .int op] ∧ LinksAt K H p r l o s ∧ (OkOp s op → ∀ H', Kp [r, l, o] H H' → LinksAt K H' p r l o (stepS s op) → Q .non H') ∧ (¬ OkOp s op → OpE K s.n op 0 E H)
def sp_Links_left : Sp := fun vs H Q E => ∃ (p r l o : Addr) (s : Sd) (v : Nat), vs = [.ref p, .int v] ∧ LinksAt K H p r l o s ∧ 1 ≤ v ∧ v ≤ s.n + 1 ∧ Q (.int (gI s.L v)) H
def sp_Links_right : Sp := fun vs H Q E => ∃ (p r l o : Addr) (s : Sd) (v : Nat), vs = [.ref p, .int v] ∧ LinksAt K H p r l o s ∧ v ≤ s.n ∧ Q (.int (gI s.R v)) H
/-- a new standing s -/
def NewS (H : Hp) (s : Sd) (Q : VK) : Prop := ∀ (p r l o : Addr) (H' : Hp), H p = none → H r = none → H l = none → H o = none → Kp [] H H' → LinksAt K H' p r l o s → Q (.ref p) H'
def sp_Links_copy : Sp := fun vs H Q E => ∃ (p r l o : Addr) (s : Sd), vs = [.ref p] ∧ LinksAt K H p r l o s ∧ NewS K H s Q
def sp_play : Sp := fun vs H Q E => ∃ (p r l o a : Addr) (s : Sd) (log : List Int), vs = [.ref p, .ref a] ∧ LinksAt K H p r l o s ∧ SqL K H a (log.map V.int) ∧ (Leg s log → NewS K H (runS s log) Q) ∧ LogE K s log E H
def sp_replay : Sp := fun vs H Q E => ∃ (a : Addr) (size : Int) (log : List Int), vs = [.int size, .ref a] ∧ SqL K H a (log.map V.int) ∧ (SizeOk size → Leg (wholeS size.toNat) log → NewS K H (runS (wholeS size.toNat) log) Q) ∧
  (SizeOk size → LogE K (wholeS size.toNat) log E H) ∧ (¬ SizeOk size → ∀ H', Kp [] H H' → Ex K "BadSize" [("size", .int size)] E H')
def sp_gap_state : Sp := fun vs H Q E => ∃ (p r l o : Addr) (s : Sd) (g : Int), vs = [.ref p, .int g] ∧ LinksAt K H p r l o s ∧ (0 ≤ g ∧ g ≤ s.n → Q (.str (stT s g.toNat)) H) ∧ (¬ (0 ≤ g ∧ g ≤ s.n) → Ex K "BadGap" [("gap", .int g)] E H)
def sp_gap_states : Sp := fun vs H Q E => ∃ (p r l o : Addr) (s : Sd), vs = [.ref p] ∧ LinksAt K H p r l o s ∧ ∀ (q : Addr) (H' : Hp), H q = none → Kp [] H H' → H' q = some (.lst ((List.range (s.n + 1)).map fun (v : Nat) => V.str (stT s v))) → Q (.ref q) H'
def sp_lost_gaps : Sp := fun vs H Q E => ∃ (p r l o : Addr) (s : Sd), vs = [.ref p] ∧ LinksAt K H p r l o s ∧ ∀ (q : Addr) (H' : Hp), H q = none → Kp [] H H' → H' q = some (.lst ((lostL s).map fun (v : Nat) => V.int (v : Int))) → Q (.ref q) H'
end
end G
set_option Elab.async false
set_option linter.all false
set_option maxRecDepth 100000
set_option maxHeartbeats 4000000
/-! More steps. -/
namespace G
open PySem PySem.Spec PyProof.Rows L2
section
variable {K : PySem.W.Frag} {σ : L2.St} {H : Hp} {Q : VK} {ta tb tc te : TE} {x y v : V} {D : Ends} {tl : TA} {i j : Int} {n m : Nat} {p q : Addr} {xs ys : List V} {A B : Prop}
theorem w_tT (a : A) : if true = true then A else B := iteT a
theorem w_tF (b : B) : if false = true then A else B := iteF b
theorem w_nT (a : A) : if (!false) = true then A else B := iteT a
theorem w_nF (b : B) : if (!true) = true then A else B := iteF b
theorem w_rz {C : Addr} {fs : List Str} {W : WX} (g : tl σ H fun us H1 => us.length = fs.length ∧ us.length ≤ 1000 ∧ ∀ d, H1 d = none → W (.ref C) (some d) σ (upd H1 d (.xd (fs.zip us).reverse))) : tRz C fs W tl D σ H := g
theorem w_rg1 {R : Int → Int → Hp → Prop} (g : te σ H fun x H1 => ∃ n, x = .int n ∧ R 0 n H1) : tRg1 te σ H R := g
theorem w_rg2 {R : Int → Int → Hp → Prop} (g : ta σ H fun x H1 => tb σ H1 fun y H2 => ∃ i j, x = .int i ∧ y = .int j ∧ R i j H2) : tRg2 ta tb σ H R := g
theorem w_n1 {R : Int → Prop} (g : R i) : ∃ n, V.int i = .int n ∧ R n := ⟨i, rfl, g⟩
theorem w_n2 {R : Int → Int → Prop} (g : R i j) : ∃ a b, V.int i = .int a ∧ V.int j = .int b ∧ R a b := ⟨i, j, rfl, rfl, g⟩
theorem w_sl {r : V → Option Int → Option Int → Hp → VK → Prop} {tlo thi : TO} (g : te σ H fun x H1 => tlo σ H1 fun l H2 => thi σ H2 fun u H3 => r x l u H3 Q) : tSl r te tlo thi σ H Q := g
theorem w_np {R : Option Int → Hp → Prop} (g : R none H) : tNoPart σ H R := g
theorem w_pt {R : Option Int → Hp → Prop} (g : te σ H fun x H1 => ∃ i, x = .int i ∧ R (some i) H1) : tPart te σ H R := g
theorem w_tr {R : Bool → Hp → Prop} (g : te σ H fun x H' => ∃ k, TruV K x H' k ∧ R k H') : tTr K te σ H R := g
theorem w_truL {R : Bool → Prop} (h : SqL K H p xs) (g : R (!xs.isEmpty)) : ∃ k, TruV K (.ref p) H k ∧ R k := ⟨_, .inl ⟨xs, h, rfl⟩, g⟩
theorem w_gn {k : Nat} {R : L2.St → Hp → Prop} (g : R (σ.set k (some v)) H) : gName k v σ H R := g
theorem w_g2 {T : Addr} {g1 g2 : TG} {R : L2.St → Hp → Prop} (h : SqT K H T [x, y]) (g : g1 x σ H fun σ1 H1 => g2 y σ1 H1 R) : gTup K 2 (gCons g1 (gCons g2 gNil)) (.ref T) σ H R :=
  ⟨T, [x, y], rfl, h, rfl, x, [y], rfl, by
    show g1 x σ H _
    exact (funext fun σ1 => funext fun H1 => propext ⟨fun z => ⟨y, [], rfl, by
      show g2 y σ1 H1 _
      exact (funext fun σ2 => funext fun H2 => propext ⟨fun z => ⟨rfl, z⟩, fun z => z.2⟩ : R = fun σ2 H2 => ([] : List V) = [] ∧ R σ2 H2) ▸ z⟩, fun ⟨v, r, e, z⟩ => by
      injection e with e1 e2
      subst e1 e2
      exact (funext fun σ2 => funext fun H2 => propext ⟨fun z => z.2, fun z => ⟨rfl, z⟩⟩ : (fun σ2 H2 => ([] : List V) = [] ∧ R σ2 H2) = R) ▸ z⟩ : (fun σ1 H1 => g2 y σ1 H1 R) = fun σ1 H1 => gCons g2 gNil [y] σ1 H1 R) ▸ g⟩
theorem w_g1 {g1 : TG} {R : L2.St → Hp → Prop} (g : g1 x σ H R) : gCons g1 gNil [x] σ H R := ⟨x, [], rfl, by
  have e : (fun σ2 H2 => gNil [] σ2 H2 R) = R := funext fun σ2 => funext fun H2 => propext ⟨fun z => z.2, fun z => ⟨rfl, z⟩⟩
  rw [e]
  exact g⟩
theorem w_gc {g1 : TG} {ts : TGs} {R : L2.St → Hp → Prop} (g : g1 x σ H fun σ1 H1 => ts (y :: xs) σ1 H1 R) : gCons g1 ts (x :: y :: xs) σ H R := ⟨x, y :: xs, rfl, g⟩
theorem w_gt {T : Addr} {k : Nat} {ts : TGs} {R : L2.St → Hp → Prop} (h : SqT K H T xs) (hl : xs.length = k) (g : ts xs σ H R) : gTup K k ts (.ref T) σ H R := ⟨T, xs, rfl, h, hl, g⟩
/-- a new object: the heap goes on under a name -/
def NwU (o : HO) (H : Hp) (Q : VK) : Prop := ∀ q, H q = none → Q (.ref q) (upd H q o)
theorem nw {o : HO} (g : ∀ q H', H q = none → Kp [] H H' → H' q = some o → Q (.ref q) H') : NwU o H Q := fun q n => g q _ n (Kp.new n) upd_same
theorem w_lstN (g : tl σ H fun xs H1 => xs.length ≤ sizeLine ∧ NwU (.lst xs) H1 Q) : tLst tl σ H Q := g
theorem w_tupN (g : tl σ H fun xs H1 => xs.length ≤ sizeLine ∧ NwU (.tup xs) H1 Q) : tTup tl σ H Q := g
theorem w_lrgN {t : L2.St → Hp → (Int → Int → Hp → Prop) → Prop} (g : t σ H fun a b H1 => RgOk a b ∧ NwU (.lst (rgV a b)) H1 Q) : tLstRg t σ H Q := g
theorem w_addLN (h1 : H p = some (.lst xs)) (h2 : H q = some (.lst ys)) (h : xs.length + ys.length ≤ sizeLine) (g : ∀ r H', H r = none → Kp [] H H' → H' r = some (.lst (xs ++ ys)) → Q (.ref r) H') : rAddA (.ref p) (.ref q) H Q := w_addL h1 h2 h (nw g)
theorem w_mulLN (h1 : H p = some (.lst xs)) (h2 : -(2 ^ 63) ≤ j) (h3 : j < 2 ^ 63) (h : xs.length * j.toNat ≤ sizeLine) (g : ∀ r H', H r = none → Kp [] H H' → H' r = some (.lst (List.replicate j.toNat xs).flatten) → Q (.ref r) H') : rMulA (.ref p) (.int j) H Q := w_mulL h1 h2 h3 h (nw g)
theorem w_listLN (h : SqL K H p xs) (g : ∀ l H', H l = none → Kp [] H H' → H' l = some (.lst xs) → Q (.ref l) H') : rListA K [.ref p] H Q := w_listL h (nw g)
theorem w_listTN (h : SqT K H p xs) (g : ∀ l H', H l = none → Kp [] H H' → H' l = some (.lst xs) → Q (.ref l) H') : rListA K [.ref p] H Q := w_listT h (nw g)
theorem w_sT {C dx : Addr} {fs : List (Str × V)} {f : Str} {R : Hp → Prop} {v : V} (cl : Cls K C) (na : NoAttr K C f) (h : H p = some (.ins C dx fs)) (hl : fs.length < 1000) (g : ∀ H', Kp [p] H H' → H' p = some (.ins C dx (putF f v fs)) → R H') :
    ∃ a C dx fs, V.ref p = .ref a ∧ H a = some (.ins C dx fs) ∧ Cls K C ∧ NoAttr K C f ∧ fs.length < 1000 ∧ R (upd H a (.ins C dx (putF f v fs))) := ⟨p, C, dx, fs, rfl, h, cl, na, hl, g _ (Kp.put (by simp)) upd_same⟩
theorem w_seT {R : Hp → Prop} (h : H p = some (.lst xs)) (ha : ixN xs.length i = some n) (g : ∀ H', Kp [p] H H' → H' p = some (.lst (xs.set n v)) → R H') : rSetL (.ref p) (.int i) v H R := w_setL h ha (g _ (Kp.put (by simp)) upd_same)
theorem w_apT (h : H p = some (.lst xs)) (hl : xs.length < sizeLine) (g : ∀ H', Kp [p] H H' → H' p = some (.lst (xs ++ [v])) → Q .non H') : rAppend (.ref p) [v] H Q := w_append h hl (g _ (Kp.put (by simp)) upd_same)
/-- an object of a class, made: its dict, the object -/
def MkU (C : Addr) (sp : Sp) (E : XK) (vs : List V) (H : Hp) (Q : VK) : Prop := ∀ x dx, H x = none → H dx = none → dx ≠ x → sp (.ref x :: vs) (upd (upd H dx (.own x)) x (.ins C dx [])) (fun v H2 => v = .non ∧ Q (.ref x) H2) E
theorem w_mkN {C : Addr} {sp : Sp} {E : L2.St → XK} (g : tl σ H fun vs H1 => MkU C sp (E σ) vs H1 Q) : tMk C sp E tl σ H Q := g
theorem mk {C : Addr} {sp : Sp} {E : XK} {vs : List V} (g : ∀ x dx H', H x = none → H' x = some (.ins C dx []) → Kp [] H H' → sp (.ref x :: vs) H' (fun v H2 => v = .non ∧ Q (.ref x) H2) E) : MkU C sp E vs H Q :=
  fun x dx n1 n2 ne => g x dx _ n1 upd_same ((Kp.new n2).trans (Kp.new (by rw [upd_ne (Ne.symm ne)]; exact n1)))
theorem w_r1 {R : Int → Prop} {n : Int} (h : -(2 ^ 62) ≤ n ∧ n < 2 ^ 62) (g : R n) : ∃ j : Int, [V.int n] = [.int j] ∧ -(2 ^ 62) ≤ j ∧ j < 2 ^ 62 ∧ R j := ⟨n, rfl, h.1, h.2, g⟩
theorem w_r2 {R : Int → Int → Prop} {a b : Int} (h : -(2 ^ 62) ≤ a ∧ a < 2 ^ 62 ∧ -(2 ^ 62) ≤ b ∧ b < 2 ^ 62) (g : R a b) : ∃ i j : Int, [V.int a, V.int b] = [.int i, .int j] ∧ (-(2 ^ 62) ≤ i ∧ i < 2 ^ 62 ∧ -(2 ^ 62) ≤ j ∧ j < 2 ^ 62) ∧ R i j := ⟨a, b, rfl, h, g⟩
theorem w_yes {R : Bool → Hp → Prop} (g : R true H) : tYes σ H R := g
theorem ref_ne : V.ref p ≠ .non := fun z => by cases z
theorem int_ne : V.int i ≠ .non := fun z => by cases z
theorem at_0 : atI (x :: xs) 0 = some x := by
  rw [atI_pos (by omega) (by rw [List.length_cons]; omega)] <;> rfl
theorem w_l1 {R : Addr → Prop} (h : SqL K H p xs) (g : R p) : ∃ a, V.ref p = .ref a ∧ (∃ xs, SqL K H a xs) ∧ R a := ⟨p, rfl, ⟨xs, h⟩, g⟩
/-- a field of a standing -/
theorem w_fR {r l o : Addr} {s : Sd} {R : V → Prop} (cl : Cls K (He.ga K "Links")) (na : NoAttr K (He.ga K "Links") "_rights") (a : LinksAt K H p r l o s) (g : R (.ref r)) :
    ∃ a C dx fs v, V.ref p = .ref a ∧ H a = some (.ins C dx fs) ∧ Cls K C ∧ NoAttr K C "_rights" ∧ fs.lookup ("_rights" : Str) = some v ∧ R v := by
  obtain ⟨dx, h⟩ := a.ob
  exact ⟨p, _, dx, _, _, rfl, h, cl, na, fl_R _ _ _ _, g⟩
theorem w_fL {r l o : Addr} {s : Sd} {R : V → Prop} (cl : Cls K (He.ga K "Links")) (na : NoAttr K (He.ga K "Links") "_lefts") (a : LinksAt K H p r l o s) (g : R (.ref l)) :
    ∃ a C dx fs v, V.ref p = .ref a ∧ H a = some (.ins C dx fs) ∧ Cls K C ∧ NoAttr K C "_lefts" ∧ fs.lookup ("_lefts" : Str) = some v ∧ R v := by
  obtain ⟨dx, h⟩ := a.ob
  exact ⟨p, _, dx, _, _, rfl, h, cl, na, fl_L _ _ _ _, g⟩
theorem w_fO {r l o : Addr} {s : Sd} {R : V → Prop} (cl : Cls K (He.ga K "Links")) (na : NoAttr K (He.ga K "Links") "_out") (a : LinksAt K H p r l o s) (g : R (.ref o)) :
    ∃ a C dx fs v, V.ref p = .ref a ∧ H a = some (.ins C dx fs) ∧ Cls K C ∧ NoAttr K C "_out" ∧ fs.lookup ("_out" : Str) = some v ∧ R v := by
  obtain ⟨dx, h⟩ := a.ob
  exact ⟨p, _, dx, _, _, rfl, h, cl, na, fl_O _ _ _ _, g⟩
theorem w_fS {r l o : Addr} {s : Sd} {R : V → Prop} (cl : Cls K (He.ga K "Links")) (na : NoAttr K (He.ga K "Links") "size") (a : LinksAt K H p r l o s) (g : R (.int s.n)) :
    ∃ a C dx fs v, V.ref p = .ref a ∧ H a = some (.ins C dx fs) ∧ Cls K C ∧ NoAttr K C "size" ∧ fs.lookup ("size" : Str) = some v ∧ R v := by
  obtain ⟨dx, h⟩ := a.ob
  exact ⟨p, _, dx, _, _, rfl, h, cl, na, fl_size _ _ _ _, g⟩
/-- .. of an object with the fields of a standing -/
theorem w_oR {dx : Addr} {n r l o : V} {R : V → Prop} (cl : Cls K (He.ga K "Links")) (na : NoAttr K (He.ga K "Links") "_rights") (h : H p = some (.ins (He.ga K "Links") dx (fl n r l o))) (g : R r) :
    ∃ a C dx fs v, V.ref p = .ref a ∧ H a = some (.ins C dx fs) ∧ Cls K C ∧ NoAttr K C "_rights" ∧ fs.lookup ("_rights" : Str) = some v ∧ R v := ⟨p, _, dx, _, _, rfl, h, cl, na, fl_R _ _ _ _, g⟩
theorem w_oL {dx : Addr} {n r l o : V} {R : V → Prop} (cl : Cls K (He.ga K "Links")) (na : NoAttr K (He.ga K "Links") "_lefts") (h : H p = some (.ins (He.ga K "Links") dx (fl n r l o))) (g : R l) :
    ∃ a C dx fs v, V.ref p = .ref a ∧ H a = some (.ins C dx fs) ∧ Cls K C ∧ NoAttr K C "_lefts" ∧ fs.lookup ("_lefts" : Str) = some v ∧ R v := ⟨p, _, dx, _, _, rfl, h, cl, na, fl_L _ _ _ _, g⟩
theorem w_oO {dx : Addr} {n r l o : V} {R : V → Prop} (cl : Cls K (He.ga K "Links")) (na : NoAttr K (He.ga K "Links") "_out") (h : H p = some (.ins (He.ga K "Links") dx (fl n r l o))) (g : R o) :
    ∃ a C dx fs v, V.ref p = .ref a ∧ H a = some (.ins C dx fs) ∧ Cls K C ∧ NoAttr K C "_out" ∧ fs.lookup ("_out" : Str) = some v ∧ R v := ⟨p, _, dx, _, _, rfl, h, cl, na, fl_O _ _ _ _, g⟩
/-- a method of a standing -/
theorem w_me {r l o : Addr} {s : Sd} {m : Str} {R : Prop} (a : LinksAt K H p r l o s) (hm : ∀ n r l o : V, (fl n r l o).lookup m = none) (g : R) : ∃ a dx fs, V.ref p = .ref a ∧ H a = some (.ins (He.ga K "Links") dx fs) ∧ fs.lookup m = none ∧ R := by
  obtain ⟨dx, h⟩ := a.ob
  exact ⟨p, dx, _, rfl, h, hm _ _ _ _, g⟩
end
/-- a method's name is none of the fields -/
theorem no_m {m : Str} (h1 : ¬ m = "size" := by decide +kernel) (h2 : ¬ m = "_rights" := by decide +kernel) (h3 : ¬ m = "_lefts" := by decide +kernel) (h4 : ¬ m = "_out" := by decide +kernel) (n r l o : V) : (fl n r l o).lookup m = none := fl_no n r l o h1 h2 h3 h4
theorem natAbs_if (i : Int) : (if i < 0 then -i else i) = (i.natAbs : Int) := by
  split <;> omega
end G
set_option Elab.async false
set_option linter.all false
set_option maxRecDepth 100000
set_option maxHeartbeats 4000000
/-! == by an own __eq__, any answer. -/
namespace G
open PySem PySem.Spec PyProof.Rows L2
/-- isinstance of an instance of an own class -/
def tyB (x : Str) (K : PySem.W.Frag) : Bool := He.eqO (PySem.W.findIn K (.ref (He.ga K x)) "__class__") (some (some (.builtin "object.__class__"))) && eqT (PySem.W.mroIn K (He.ga K x) (.type "object")) (some true)
theorem tyB_ok {x : Str} {K : PySem.W.Frag} (q : tyB x K = true) : PySem.W.findIn K (.ref (He.ga K x)) "__class__" = some (some (.builtin "object.__class__")) ∧ PySem.W.mroIn K (He.ga K x) (.type "object") = some true := by
  obtain ⟨q1, q2⟩ := He.ba q
  exact ⟨He.eqO_ok q1, of_decide_eq_true q2⟩
end G
set_option Elab.async false
set_option linter.all false
set_option maxRecDepth 100000
set_option maxHeartbeats 4000000
/-! More built-ins: str, tuple, is True, pop, insert, extend. -/
namespace G
open PySem PySem.Spec PyProof.Rows L2
def rStrA : List V → Hp → VK → Prop := fun xs H Q => ∃ i, xs = [.int i] ∧ i.natAbs.log2 < 1920 ∧ Q (.str (toString i)) H
def rTupA (K : PySem.W.Frag) : List V → Hp → VK → Prop := fun xs H Q => ∃ p ys, xs = [.ref p] ∧ ((SqL K H p ys ∧ ∀ l, H l = none → Q (.ref l) (upd H l (.tup ys))) ∨ (SqT K H p ys ∧ Q (.ref p) H))
section
variable {X : Cx}
theorem call_strA : CallR X (.type "str") rStrA := call_str_int
theorem call_tupA : CallR X (.type "tuple") (rTupA X.K) := call_tuple_of
end
section
variable {K : PySem.W.Frag} {σ : L2.St} {H : Hp} {Q : VK} {ta tb tc te : TE} {x y v : V} {i j : Int} {n m : Nat} {p q : Addr} {xs ys : List V} {b c : Bool}
theorem w_str (h : i.natAbs.log2 < 1920) (g : Q (.str (toString i)) H) : rStrA [.int i] H Q := ⟨i, rfl, h, g⟩
theorem w_tuA (h : SqL K H p xs) (g : ∀ l H', H l = none → Kp [] H H' → H' l = some (.tup xs) → Q (.ref l) H') : rTupA K [.ref p] H Q := ⟨p, xs, rfl, .inl ⟨h, nw g⟩⟩
theorem w_inL {neg : Bool} (h : SqL K H p xs) (hx : flatV x = true) (ha : xs.all flatV = true) (g : Q (.bl (if neg then !inV x xs else inV x xs)) H) : rIn K neg x (.ref p) H Q := ⟨p, xs, rfl, .inl h, hx, ha, g⟩
theorem w_inT {neg : Bool} (h : SqT K H p xs) (hx : flatV x = true) (ha : xs.all flatV = true) (g : Q (.bl (if neg then !inV x xs else inV x xs)) H) : rIn K neg x (.ref p) H Q := ⟨p, xs, rfl, .inr h, hx, ha, g⟩
end
end G
set_option Elab.async false
set_option linter.all false
set_option maxRecDepth 100000
set_option maxHeartbeats 4000000
/-! Static methods, texts, more in a handler; a head with defs at any address. -/
namespace G
open PySem PySem.Spec PyProof.Rows L2
/-! ### a static method by its class -/
/-! ### the head, defs at any address -/
def obsY (fa : List Chk) (fn : List He5.DefA) (K : PySem.W.Frag) : He.AlD := ((fa.all fun f => f K) && fn.all fun d => d.ok K, fn.map fun d => He5.fnA K (d.at_ K))
def valY (fn : List He5.DefA) : He.AlD := (true, fn.map He5.DefA.val)
def SaysY (fa : List Chk) (fn : List He5.DefA) (K : PySem.W.Frag) : Prop := obsY fa fn K = valY fn
section
variable {fa : List Chk} {fn : List He5.DefA} {K : PySem.W.Frag}
theorem SaysY.fact (c : SaysY fa fn K) (i : Nat) {f : Chk} (h : fa[i]? = some f := by rfl) : f K = true := by
  have c1 := (He.ba (show ((fa.all fun f => f K) && fn.all fun d => d.ok K) = true from congrArg (fun z : He.AlD => z.1) c)).1
  exact List.all_eq_true.mp c1 f (List.mem_of_getElem? h)
theorem SaysY.def_ (c : SaysY fa fn K) (i : Nat) {d : He5.DefA} (h : fn[i]? = some d := by rfl) : ∃ fd, FunD K d.name d.qual d.params d.body d.scope (d.dvs K) (d.kws K) (d.at_ K) fd := by
  have c2 := (He.ba (show ((fa.all fun f => f K) && fn.all fun d => d.ok K) = true from congrArg (fun z : He.AlD => z.1) c)).2
  have e : fn.map (fun d => He5.fnA K (d.at_ K)) = fn.map He5.DefA.val := congrArg (fun z : He.AlD => z.2) c
  have e2 : (fn.map fun d => He5.fnA K (d.at_ K))[i]? = (fn.map He5.DefA.val)[i]? := by rw [e]
  rw [List.getElem?_map, List.getElem?_map, h] at e2
  exact He5.DefA.funD (Option.some.inj e2) (List.all_eq_true.mp c2 d (List.mem_of_getElem? h))
end
/-! ### where an exception is handled -/
/-! ### texts -/
def rJoin (K : PySem.W.Frag) : V → List V → Hp → VK → Prop := fun x xs H Q => ∃ a p, ∃ ys : List Str, x = .str a ∧ xs = [.ref p] ∧ (SqL K H p (ys.map V.str) ∨ SqT K H p (ys.map V.str)) ∧
    (ys.map (·.length)).sum + ys.length * a.length ≤ 16777216 ∧ Q (.str (Txt.join a ys)) H
section
variable {X : Cx} {o e : Expr} {to te : TE}
theorem pe_joinA {apos pos : Pos} (ho : PE X o to) (he : PE X e te) (hs : starEach [e] X.env = [(false, eval e X.env)] := by rfl) (hbase : attributeBase o "join" X.env (eval o X.env) = eval o X.env := by rfl) (hline : (apos.endLine == pos.line) = true := by rfl) :
    PE X (.Call (.Attribute o "join" apos) [e] [] pos) (tM1 (rJoin X.K) to te) := pe_join ho he hs hbase hline
end
section
variable {K : PySem.W.Frag} {σ : L2.St} {H : Hp} {Q : VK} {ta tb tc te : TE} {x y v : V} {i j : Int} {n m : Nat} {p q : Addr} {xs ys : List V} {b c : Bool}
theorem w_m1 {r : V → List V → Hp → VK → Prop} (g : ta σ H fun x H1 => (∃ a, x = .str a) ∧ te σ H1 fun y H2 => r x [y] H2 Q) : tM1 r ta te σ H Q := g
theorem w_joinL {a : Str} {ss : List Str} (h : SqL K H p (ss.map V.str)) (hl : (ss.map (·.length)).sum + ss.length * a.length ≤ 16777216) (g : Q (.str (Txt.join a ss)) H) : rJoin K (.str a) [.ref p] H Q := ⟨a, p, ss, rfl, rfl, .inl h, hl, g⟩
theorem w_exS {P : Prop} {a : Str} (g : P) : (∃ b, V.str a = .str b) ∧ P := ⟨⟨a, rfl⟩, g⟩
theorem w_iS {R : It → Hp → Prop} (g : ta σ H fun v H1 => ∃ x, v = .str x ∧ R (Its x) H1) : iStr ta σ H R := g
end
end G
set_option Elab.async false
set_option linter.all false
set_option maxRecDepth 100000
set_option maxHeartbeats 4000000
/-! What a log writes down: last writes, last changes, the first loss. Promises of the defs that read logs. -/
namespace G
open PySem PySem.Spec PyProof.Rows L2
/-! ### the book -/
structure Bk where
  s : Sd
  k : Nat
  wr : List Int
  wl : List Int
  de : List Int
  ls : Option (Nat × Nat)
def lowN (s : Sd) (op : Int) : Nat := (gI s.L op.natAbs).toNat
def hiN (s : Sd) (op : Int) : Nat := (gI s.R op.natAbs).toNat - 1
def deS (s s' : Sd) (k : Nat) (de : List Int) (g : Nat) : List Int := if stT s g = stT s' g then de else de.set g (k : Int)
def lsS (s s' : Sd) (k g : Nat) (ls : Option (Nat × Nat)) : Option (Nat × Nat) := if ls = none ∧ stT s g ≠ stT s' g ∧ stT s' g = "lost" then some (k, g) else ls
def bstep (b : Bk) (op : Int) : Bk :=
  let s' := stepS b.s op
  ⟨s', b.k + 1, b.wr.set (lowN b.s op) (b.k : Int), b.wl.set (hiN b.s op) (b.k : Int), deS b.s s' b.k (deS b.s s' b.k b.de (lowN b.s op)) (hiN b.s op), lsS b.s s' b.k (hiN b.s op) (lsS b.s s' b.k (lowN b.s op) b.ls)⟩
def bk0 (n : Nat) : Bk := ⟨wholeS n, 0, List.replicate (n + 1) (-1), List.replicate (n + 1) (-1), List.replicate (n + 1) (-1), none⟩
def bkR (n : Nat) (log : List Int) : Bk := log.foldl bstep (bk0 n)
theorem bkR_snoc (n : Nat) (log : List Int) (op : Int) : bkR n (log ++ [op]) = bstep (bkR n log) op := by
  unfold bkR
  rw [List.foldl_append] <;> rfl
theorem bkR_s (n : Nat) (log : List Int) : (bkR n log).s = runS (wholeS n) log := by
  induction log using snoc_ind with
  | h0 => rfl
  | h1 l x ih => rw [bkR_snoc, runS_snoc, ← ih] <;> rfl
theorem bkR_k (n : Nat) (log : List Int) : (bkR n log).k = log.length := by
  induction log using snoc_ind with
  | h0 => rfl
  | h1 l x ih =>
    rw [bkR_snoc, List.length_append]
    show (bkR n l).k + 1 = _
    rw [ih] <;> rfl
theorem deS_len (s s' : Sd) (k : Nat) (de : List Int) (g : Nat) : (deS s s' k de g).length = de.length := by
  unfold deS
  split
  · rfl
  · exact List.length_set
theorem bkR_len (n : Nat) (log : List Int) : (bkR n log).wr.length = n + 1 ∧ (bkR n log).wl.length = n + 1 ∧ (bkR n log).de.length = n + 1 := by
  induction log using snoc_ind with
  | h0 => exact ⟨List.length_replicate, List.length_replicate, List.length_replicate⟩
  | h1 l x ih =>
    rw [bkR_snoc]
    obtain ⟨a, b, c⟩ := ih
    refine ⟨?_, ?_, ?_⟩
    · show (List.set _ _ _).length = _
      rw [List.length_set, a]
    · show (List.set _ _ _).length = _
      rw [List.length_set, b]
    · show (deS _ _ _ _ _).length = _
      rw [deS_len, deS_len, c]
/-- bounds of the two touched gaps -/
theorem touch_bd {s : Sd} (w : Wf s) {op : Int} (h : IsOp s.n op) : lowN s op < op.natAbs ∧ op.natAbs ≤ hiN s op ∧ hiN s op ≤ s.n ∧ gI s.L op.natAbs = (lowN s op : Int) ∧ gI s.R op.natAbs = (hiN s op : Int) + 1 := by
  unfold lowN hiN
  obtain ⟨r1, r2⟩ := w.rb op.natAbs h.2
  obtain ⟨l1, l2⟩ := w.lb op.natAbs h.1 (by have := h.2; omega)
  refine ⟨by omega, by omega, by omega, by omega, by omega⟩
/-- no other gap changes -/
theorem step_st {s : Sd} (w : Wf s) {op : Int} (h : IsOp s.n op) {g : Nat} (hl : g ≠ lowN s op) (hh : g ≠ hiN s op) : stT (stepS s op) g = stT s g := by
  obtain ⟨t1, t2, t3, t4, t5⟩ := touch_bd w h
  have e1 : gI (stepS s op).R g = gI s.R g := by
    show gI (s.R.set _ _) g = _
    rw [gI_set (by rw [w.lR, t4]; have := h.2; omega), t4, if_neg (by rw [Int.toNat_natCast]; exact hl)]
  have e2 : gI (stepS s op).L (g + 1) = gI s.L (g + 1) := by
    show gI (s.L.set _ _) (g + 1) = _
    rw [gI_set (by rw [w.lL, t5]; omega), t5, if_neg (by omega)]
  unfold stT
  rw [e1, e2]
/-- the lost gaps, ascending -/
theorem mem_lost {s : Sd} {g : Nat} : g ∈ lostL s ↔ g ≤ s.n ∧ stT s g = "lost" := by
  unfold lostL
  rw [List.mem_filter, List.mem_range]
  constructor
  · exact fun ⟨a, b⟩ => ⟨by omega, of_decide_eq_true b⟩
  · exact fun ⟨a, b⟩ => ⟨by omega, decide_eq_true b⟩
theorem lost_sorted (s : Sd) : (lostL s).Pairwise (· < ·) := by
  unfold lostL
  exact List.Pairwise.filter _ List.pairwise_lt_range
theorem lost_head {s : Sd} {g : Nat} {r : List Nat} (h : lostL s = g :: r) : g ≤ s.n ∧ stT s g = "lost" ∧ ∀ x, x ≤ s.n → stT s x = "lost" → g ≤ x := by
  have m : g ∈ lostL s := by rw [h]; exact List.mem_cons_self
  obtain ⟨a, b⟩ := mem_lost.mp m
  refine ⟨a, b, fun x h1 h2 => ?_⟩
  have mx : x ∈ lostL s := mem_lost.mpr ⟨h1, h2⟩
  have so := lost_sorted s
  rw [h] at mx so
  rcases List.mem_cons.mp mx with rfl | q
  · exact Nat.le_refl _
  · exact Nat.le_of_lt ((List.pairwise_cons.mp so).1 x q)
/-- while nothing is lost, a loss stands at a touched gap -/
theorem ls_step {s : Sd} (w : Wf s) {op : Int} (h : IsOp s.n op) (k : Nat) (e : lostL s = []) :
    lsS s (stepS s op) k (hiN s op) (lsS s (stepS s op) k (lowN s op) none) = ((lostL (stepS s op)).head?.map fun g => (k, g)) := by
  obtain ⟨t1, t2, t3, t4, t5⟩ := touch_bd w h
  have no : ∀ x, x ≤ s.n → stT s x ≠ "lost" := fun x h1 h2 => by
    have := mem_lost.mpr ⟨h1, h2⟩
    rw [e] at this
    cases this
  have nl := no (lowN s op) (by have := h.2; omega)
  have nh := no (hiN s op) t3
  have key : ∀ g, g ≤ s.n → ∀ l0, lsS s (stepS s op) k g l0 = if l0 = none ∧ stT (stepS s op) g = "lost" then some (k, g) else l0 := by
    intro g hg l0
    unfold lsS
    by_cases c1 : l0 = none
    · by_cases c2 : stT (stepS s op) g = "lost"
      · rw [if_pos ⟨c1, by rw [c2]; exact no g hg, c2⟩, if_pos ⟨c1, c2⟩]
      · rw [if_neg (fun z => c2 z.2.2), if_neg (fun z => c2 z.2)]
    · rw [if_neg (fun z => c1 z.1), if_neg (fun z => c1 z.1)]
  have kl := key (lowN s op) (by have := h.2; omega) none
  have only : ∀ x, x ≤ s.n → stT (stepS s op) x = "lost" → x = lowN s op ∨ x = hiN s op := by
    intro x hx hl
    by_cases c1 : x = lowN s op
    · exact .inl c1
    · by_cases c2 : x = hiN s op
      · exact .inr c2
      · rw [step_st w h c1 c2] at hl
        exact absurd hl (no x hx)
  cases hL : lostL (stepS s op) with
  | nil =>
    have n1 : stT (stepS s op) (lowN s op) ≠ "lost" := fun z => by
      have := mem_lost.mpr ⟨show lowN s op ≤ (stepS s op).n by rw [stepS_n]; have := h.2; omega, z⟩
      rw [hL] at this
      cases this
    have n2 : stT (stepS s op) (hiN s op) ≠ "lost" := fun z => by
      have := mem_lost.mpr ⟨show hiN s op ≤ (stepS s op).n by rw [stepS_n]; exact t3, z⟩
      rw [hL] at this
      cases this
    rw [kl, if_neg (fun z => n1 z.2), key _ t3, if_neg (fun z => n2 z.2)] <;> rfl
  | cons g r =>
    obtain ⟨g1, g2, g3⟩ := lost_head hL
    rw [stepS_n] at g1 g3
    show _ = some (k, g)
    by_cases c : stT (stepS s op) (lowN s op) = "lost"
    · have := g3 _ (by have := h.2; omega) c
      have eg : g = lowN s op := by
        rcases only g g1 g2 with q | q
        · exact q
        · omega
      rw [kl, if_pos ⟨rfl, c⟩, key _ t3, if_neg (fun z => by cases z.1), eg]
    · have eg : g = hiN s op := by
        rcases only g g1 g2 with q | q
        · exact absurd (q ▸ g2) c
        · exact q
      rw [kl, if_neg (fun z => c z.2), key _ t3, if_pos ⟨rfl, eg ▸ g2⟩, eg]
/-- the last change of a gap, when one more operation comes -/
theorem de_step {s : Sd} (w : Wf s) {op : Int} (h : IsOp s.n op) (k : Nat) {de : List Int} (hl : de.length = s.n + 1) {g : Nat} (hg : g ≤ s.n) :
    gI (deS s (stepS s op) k (deS s (stepS s op) k de (lowN s op)) (hiN s op)) g = if stT s g = stT (stepS s op) g then gI de g else (k : Int) := by
  obtain ⟨t1, t2, t3, t4, t5⟩ := touch_bd w h
  have key : ∀ de' : List Int, de'.length = s.n + 1 → ∀ x, x ≤ s.n → gI (deS s (stepS s op) k de' x) g = if g = x ∧ ¬ stT s g = stT (stepS s op) g then (k : Int) else gI de' g := by
    intro de' hl' x hx
    unfold deS
    by_cases c : stT s x = stT (stepS s op) x
    · rw [if_pos c, if_neg]
      rintro ⟨rfl, n⟩
      exact n c
    · rw [if_neg c, gI_set (by omega)]
      by_cases e : g = x
      · rw [if_pos e, if_pos ⟨e, by rw [e]; exact c⟩]
      · rw [if_neg e, if_neg (fun z => e z.1)]
  rw [key _ (by rw [deS_len, hl]) _ t3, key _ hl _ (by have := h.2; omega)]
  by_cases c : stT s g = stT (stepS s op) g
  · rw [if_pos c, if_neg (fun z => z.2 c), if_neg (fun z => z.2 c)]
  · rw [if_neg c]
    by_cases e2 : g = hiN s op
    · rw [if_pos ⟨e2, c⟩]
    · rw [if_neg (fun z => e2 z.1)]
      by_cases e1 : g = lowN s op
      · rw [if_pos ⟨e1, c⟩]
      · exact absurd (step_st w h e1 e2).symm c
/-! ### promises -/
section
variable (K : PySem.W.Frag)
/-- the errors of a log from the whole list -/
structure RepE (H : Hp) (size : Int) (log : List Int) (E : XK) : Prop where
  op : SizeOk size → LogE K (wholeS size.toNat) log E H
  sz : ¬ SizeOk size → ∀ H', Kp [] H H' → Ex K "BadSize" [("size", .int size)] E H'
theorem RepE.kp {K : PySem.W.Frag} {H H1 : Hp} {size : Int} {log : List Int} {E : XK} (r : RepE K H size log E) (k : Kp [] H H1) : RepE K H1 size log E :=
  ⟨fun ok i op h l b H' k' => r.op ok i op h l b H' (k.trans k'), fun b H' k' => r.sz b H' (k.trans k')⟩
/-- None or a pair -/
def OptP (H : Hp) (v : V) : Option (Nat × Nat) → Prop
  | none => v = .non
  | some (k, g) => ∃ t, v = .ref t ∧ H t = some (.tup [.int (k : Int), .int (g : Int)])
def sp_first_loss : Sp := fun vs H Q E => ∃ (a : Addr) (size : Int) (log : List Int), vs = [.int size, .ref a] ∧ SqL K H a (log.map V.int) ∧ RepE K H size log E ∧
  (SizeOk size → Leg (wholeS size.toNat) log → ∀ v H', Kp [] H H' → OptP H' v (bkR size.toNat log).ls → Q v H')
end
end G
set_option Elab.async false
set_option linter.all false
set_option maxRecDepth 100000
set_option maxHeartbeats 4000000
/-! What the law's own defs promise. -/
namespace G
open PySem PySem.Spec PyProof.Rows L2
def Bag (H : Hp) (b : Addr) : Prop := ∃ c m t : Int, H b = some (.lst [.int c, .int m, .int t])
/-- the law's own standing: a list of a size and three lists -/
structure LW (H : Hp) (w r l o : Addr) (s : Sd) : Prop where
  ob : H w = some (.lst [.int s.n, .ref r, .ref l, .ref o])
  hr : H r = some (.lst (s.R.map V.int))
  hl : ∃ L' : List Int, H l = some (.lst (L'.map V.int)) ∧ L'.length = s.n + 2 ∧ ∀ v, 1 ≤ v → gI L' v = gI s.L v
  ho : H o = some (.lst (s.O.map V.bl))
  ne : r ≠ l ∧ r ≠ o ∧ l ≠ o ∧ w ≠ r ∧ w ≠ l ∧ w ≠ o
  wf : Wf s
theorem LW.kp {H H' : Hp} {w r l o : Addr} {s : Sd} {S : List Addr} (a : LW H w r l o s) (k : Kp S H H') (h1 : w ∉ S) (h2 : r ∉ S) (h3 : l ∉ S) (h4 : o ∉ S) : LW H' w r l o s := by
  obtain ⟨L', e1, e2⟩ := a.hl
  exact ⟨k _ _ h1 a.ob, k _ _ h2 a.hr, ⟨L', k _ _ h3 e1, e2⟩, k _ _ h4 a.ho, a.ne, a.wf⟩
theorem LW.k0 {H H' : Hp} {w r l o : Addr} {s : Sd} (a : LW H w r l o s) (k : Kp [] H H') : LW H' w r l o s := a.kp k (by simp) (by simp) (by simp) (by simp)
/-- out, by the last operation of the node -/
def outF (log : List Int) (v : Nat) : Bool := match log.reverse.find? (fun x => decide (x.natAbs = v)) with
  | some x => decide (x < 0)
  | none => false
theorem outF_snoc (log : List Int) (op : Int) (v : Nat) : outF (log ++ [op]) v = if op.natAbs = v then decide (op < 0) else outF log v := by
  unfold outF
  rw [List.reverse_append, List.reverse_singleton, List.singleton_append, List.find?_cons]
  by_cases h : op.natAbs = v
  · rw [decide_eq_true h, if_pos h]
  · rw [decide_eq_false h, if_neg h]
theorem run_out {n : Nat} (hn : n ≤ 60) : ∀ log : List Int, (∀ x ∈ log, IsOp n x) → ∀ v, gB (runS (wholeS n) log).O v = outF log v := by
  intro log
  induction log using snoc_ind with
  | h0 =>
    intro _ v
    show gB (List.replicate (n + 2) false) v = false
    unfold gB
    rw [List.getD_eq_getElem?_getD]
    by_cases h : v < n + 2
    · rw [List.getElem?_replicate_of_lt h] <;> rfl
    · rw [List.getElem?_eq_none (by rw [List.length_replicate]; omega)] <;> rfl
  | h1 l x ih =>
    intro h v
    have hx := h x (by simp)
    have lo : (runS (wholeS n) l).O.length = n + 2 := by
      clear ih h hx
      induction l using snoc_ind with
      | h0 => exact List.length_replicate
      | h1 l y ih =>
        rw [runS_snoc]
        show (List.set _ _ _).length = _
        rw [List.length_set, ih]
    rw [runS_snoc, outF_snoc]
    show gB ((runS (wholeS n) l).O.set x.natAbs (decide (x < 0))) v = _
    rw [gB_set (by rw [lo]; have := hx.2; omega), ih (fun y hy => h y (by simp [hy]))]
    by_cases e : x.natAbs = v
    · rw [if_pos e.symm, if_pos e]
    · rw [if_neg (fun z => e z.symm), if_neg e]
/-- each operation turns its node -/
def Alt (log : List Int) : Prop := ∀ i op, log[i]? = some op → outF (log.take i) op.natAbs = decide (0 < op)
theorem leg_of {n : Nat} (hn : n ≤ 60) {log : List Int} (h : ∀ x ∈ log, IsOp n x) (a : Alt log) : Leg (wholeS n) log := by
  intro i op hi
  refine ⟨by rw [runS_n]; exact h op (List.mem_of_getElem? hi), ?_⟩
  rw [run_out hn _ (fun x hx => h x (List.mem_of_mem_take hx))]
  exact a i op hi
theorem Leg.isop {n : Nat} {log : List Int} (h : Leg (wholeS n) log) : ∀ x ∈ log, IsOp n x := by
  intro x hx
  obtain ⟨i, hi⟩ := List.getElem?_of_mem hx
  have := (h i x hi).1
  rwa [runS_n] at this
/-- what is due for a size, a log and a gap -/
def FltV (size : Int) (log : List Int) (g : Int) (xs : List V) : Prop :=
  (¬ SizeOk size ∧ xs = [.str "size", .int size]) ∨
  (SizeOk size ∧ ∃ (i : Nat) (op : Int), log[i]? = some op ∧ Leg (wholeS size.toNat) (log.take i) ∧ ¬ OkOp (runS (wholeS size.toNat) (log.take i)) op ∧ xs = [.str (if IsOp size.toNat op then "illegal" else "operation"), .int op, .int (i : Int)]) ∨
  (SizeOk size ∧ Leg (wholeS size.toNat) log ∧ ¬ (0 ≤ g ∧ g ≤ size) ∧ xs = [.str "gap", .int g]) ∨
  (SizeOk size ∧ Leg (wholeS size.toNat) log ∧ (0 ≤ g ∧ g ≤ size) ∧ xs = [.str "done"])
theorem bad_uniq {s : Sd} {log : List Int} {i j : Nat} {a b : Int} (hi : log[i]? = some a) (hj : log[j]? = some b) (li : Leg s (log.take i)) (lj : Leg s (log.take j)) (ni : ¬ OkOp (runS s (log.take i)) a) (nj : ¬ OkOp (runS s (log.take j)) b) : i = j ∧ a = b := by
  have lt : ∀ {i j : Nat} {a : Int}, log[i]? = some a → Leg s (log.take j) → ¬ OkOp (runS s (log.take i)) a → ¬ i < j := by
    intro i j a hi lj ni h
    have := lj i a (by rw [List.getElem?_take_of_lt h]; exact hi)
    rw [List.take_take, Nat.min_eq_left (by omega)] at this
    exact ni this
  have e : i = j := by
    have := lt hi lj ni
    have := lt hj li nj
    omega
  subst e
  exact ⟨rfl, by rw [hi] at hj; injection hj⟩
theorem bad_leg {s : Sd} {log : List Int} {i : Nat} {a : Int} (hi : log[i]? = some a) (ni : ¬ OkOp (runS s (log.take i)) a) (l : Leg s log) : False := ni (l i a hi)
theorem FltV.uniq {size : Int} {log : List Int} {g : Int} {xs ys : List V} (a : FltV size log g xs) (b : FltV size log g ys) : xs = ys := by
  rcases a with ⟨a1, rfl⟩ | ⟨a1, i, op, a2, a3, a4, rfl⟩ | ⟨a1, a2, a3, rfl⟩ | ⟨a1, a2, a3, rfl⟩ <;> rcases b with ⟨b1, rfl⟩ | ⟨b1, j, oq, b2, b3, b4, rfl⟩ | ⟨b1, b2, b3, rfl⟩ | ⟨b1, b2, b3, rfl⟩
  all_goals first
    | rfl
    | exact absurd b1 a1
    | exact absurd a1 b1
    | exact absurd b3 a3
    | exact absurd a3 b3
    | exact (bad_leg a2 a4 b2).elim
    | exact (bad_leg b2 b4 a2).elim
    | (obtain ⟨rfl, rfl⟩ := bad_uniq a2 b2 a3 b3 a4 b4; rfl)
section
def sp_law (K : PySem.W.Frag) : Sp := fun vs H Q E => ∃ (a : Addr) (ns : List Int), vs = [.ref a] ∧ SqL K H a (ns.map V.int) ∧ ns.length ≤ 63 ∧ ∀ H', Q (.bl true) H'
end
end G
set_option Elab.async false
set_option linter.all false
set_option maxRecDepth 100000
set_option maxHeartbeats 4000000
/-! k10: verdicts, certificates, values of many kinds. -/
namespace G
open PySem PySem.Spec PyProof.Rows L2
/-- .. over a list -/
theorem cp_mutL {K : PySem.W.Frag} {σ : L2.St} {H : Hp} {Q : VK} {te : TE} {tt : TT} {g : TG} {vs : List Nat} {a : Addr} {xs : List V} (Pv : Addr → Nat → List V → Hp → Prop) (hn : xs.length < sizeLine)
    (h0 : ∀ D H', H D = none → Kp [] H H' → H' D = some (.lst []) → Pv D 0 [] H')
    (hl : ∀ D i acc H', H D = none → Pv D i acc H' → SqL K H' a xs)
    (hs : ∀ (D : Addr) (i : Nat) (x : V) (acc : List V) (H' : Hp) (S : V → Hp → Prop) (N : Hp → Prop), H D = none → xs[i]? = some x → H' D = some (.lst acc) → Pv D i acc H' →
      (∀ y H4, H4 D = some (.lst acc) → (∀ H5, Kp [D] H4 H5 → H5 D = some (.lst (acc ++ [y])) → Pv D (i + 1) (acc ++ [y]) H5) → S y H4) → (∀ H4, H4 D = some (.lst acc) → Pv D (i + 1) acc H4 → N H4) →
      g x (wipe σ vs) H' fun σ2 H2 => wipe σ2 vs = wipe σ vs ∧ tt σ2 H2 fun b H3 => if b = true then te σ2 H3 S else N H3)
    (hd : ∀ D acc H', H D = none → H' D = some (.lst acc) → acc.length ≤ xs.length → Pv D xs.length acc H' → Q (.ref D) H') : CompG (Itl K a) g tt te vs σ Q H := by
  intro D nD
  refine ⟨fun i m H' => m = xs.length - i ∧ i ≤ xs.length ∧ ∃ acc, acc.length ≤ i ∧ H' D = some (.lst acc) ∧ Pv D i acc H', ⟨xs.length, by simp, Nat.zero_le _, [], Nat.le_refl _, upd_same, h0 D _ nD (Kp.new nD) upd_same⟩, ?_⟩
  rintro i m H' ⟨rfl, hi, acc, la, e, p⟩
  have q := hl D i acc H' nD p
  by_cases lt : i < xs.length
  · refine .inr ⟨⟨xs, xs[i], q, by simp [lt]⟩, fun H'' => ∃ acc, acc.length ≤ i + 1 ∧ H'' D = some (.lst acc) ∧ Pv D (i + 1) acc H'', fun H'' p => ⟨xs.length - (i + 1), by omega, rfl, lt, p⟩, fun x H'' y => ?_⟩
    obtain ⟨rfl, hx⟩ := y
    refine hs D i x acc _ _ _ nD (hx xs q) e p (fun y H4 h4 k4 => ⟨acc, h4, by omega, acc ++ [y], by rw [List.length_append]; show acc.length + 1 ≤ _; omega, upd_same, k4 _ (Kp.put (by simp)) upd_same⟩) (fun H4 h4 k4 => ⟨acc, by omega, h4, k4⟩)
  · have ei : i = xs.length := by omega
    subst ei
    exact .inl ⟨⟨xs, q, Nat.le_refl _⟩, hd D acc H' nD e la p⟩
/-- the nodes that are out, from the least on -/
def outN (n : Nat) (O : List Bool) : List Int := (((List.range n).map fun (v : Nat) => v + 1).filter fun v => gB O v).map fun (v : Nat) => (v : Int)
theorem outN_len (n : Nat) (O : List Bool) : (outN n O).length ≤ n := by
  unfold outN
  rw [List.length_map]
  refine Nat.le_trans (List.length_filter_le _ _) ?_
  rw [List.length_map, List.length_range]
  exact Nat.le_refl _
/-! a verdict in the heap -/
def vfl (g a b w : V) : List (Str × V) := putF "whole" w (putF "index" b (putF "gap" a (putF "out_nodes" g [])))
theorem m1 : ¬ (("out_nodes" : Str) = "gap") := by decide +kernel
theorem m2 : ¬ (("out_nodes" : Str) = "index") := by decide +kernel
theorem m3 : ¬ (("out_nodes" : Str) = "whole") := by decide +kernel
def whB (a : V) (gone : List Int) : Bool := match a with
  | .non => decide ((gone.length : Int) = 0)
  | _ => false
structure VdAt (K : PySem.W.Frag) (H : Hp) (x g : Addr) (gone : List Int) (a b : V) : Prop where
  ob : ∃ dx, H x = some (.ins (He.ga K "Verdict") dx (vfl (.ref g) a b (.bl (whB a gone))))
  hg : H g = some (.lst (gone.map V.int))
theorem VdAt.kp {K : PySem.W.Frag} {H H' : Hp} {x g : Addr} {gone : List Int} {a b : V} {S : List Addr} (v : VdAt K H x g gone a b) (k : Kp S H H') (h1 : x ∉ S) (h2 : g ∉ S) : VdAt K H' x g gone a b := by
  obtain ⟨dx, h⟩ := v.ob
  exact ⟨⟨dx, k _ _ h1 h⟩, k _ _ h2 v.hg⟩
theorem VdAt.k0 {K : PySem.W.Frag} {H H' : Hp} {x g : Addr} {gone : List Int} {a b : V} (v : VdAt K H x g gone a b) (k : Kp [] H H') : VdAt K H' x g gone a b := v.kp k (by simp) (by simp)
/-- what the verdict of a log is due to tell -/
def VF (n : Nat) (log : List Int) (v w : V) : Prop :=
  (∃ i : Nat, i ≤ n ∧ (∀ j, j < i → stT (runS (wholeS n) log) j = "joined") ∧ stT (runS (wholeS n) log) i ≠ "joined" ∧ v = .int (i : Int) ∧ w = .int (gI (bkR n log).de i)) ∨
  ((∀ j, j ≤ n → stT (runS (wholeS n) log) j = "joined") ∧ v = .non ∧ w = .non)
/-- the certificate of a gap -/
def paper (n : Nat) (log : List Int) (i : Nat) : List V := [.str (stT (runS (wholeS n) log) i), .int (gI (bkR n log).wr i), .int (gI (bkR n log).wl i)]
def PapersAt (H : Hp) (p : Addr) (n : Nat) (log : List Int) : Prop := ∃ ps : List V, H p = some (.lst ps) ∧ ps.length = n + 1 ∧ ∀ i, i ≤ n → ∃ t, ps[i]? = some (.ref t) ∧ H t = some (.tup (paper n log i))
theorem PapersAt.k0 {H H' : Hp} {p : Addr} {n : Nat} {log : List Int} (a : PapersAt H p n log) (k : Kp [] H H') : PapersAt H' p n log := by
  obtain ⟨ps, h1, h2, h3⟩ := a
  refine ⟨ps, k.at0 h1, h2, fun i hi => ?_⟩
  obtain ⟨t, h4, h5⟩ := h3 i hi
  exact ⟨t, h4, k.at0 h5⟩
theorem PapersAt.k1 {H H' : Hp} {p b : Addr} {n : Nat} {log : List Int} (a : PapersAt H p n log) (hb : Bag H b) (ne : p ≠ b) (k : Kp [b] H H') : PapersAt H' p n log := by
  obtain ⟨ps, h1, h2, h3⟩ := a
  refine ⟨ps, k.at1 ne h1, h2, fun i hi => ?_⟩
  obtain ⟨t, h4, h5⟩ := h3 i hi
  obtain ⟨c, m, t', hb⟩ := hb
  exact ⟨t, h4, k.at1 (ne_of h5 hb (by intro z; cases z)) h5⟩
/-! values of many kinds, apart from b -/
mutual
inductive Vl (b : Addr) (H : Hp) : V → PyData → Prop
  | non : Vl b H .non .none
  | bl (k : Bool) : Vl b H (.bl k) (.bool k)
  | int (i : Int) : Vl b H (.int i) (.int i)
  | str (x : Str) : Vl b H (.str x) (.str x)
  | lst {a : Addr} {xs : List V} {ds : List PyData} : a ≠ b → H a = some (.lst xs) → VlA b H xs ds → Vl b H (.ref a) (.list ds)
  | tup {a : Addr} {xs : List V} {ds : List PyData} : a ≠ b → H a = some (.tup xs) → VlA b H xs ds → Vl b H (.ref a) (.tuple ds)
inductive VlA (b : Addr) (H : Hp) : List V → List PyData → Prop
  | nil : VlA b H [] []
  | cons {v : V} {vs : List V} {d : PyData} {ds : List PyData} : Vl b H v d → VlA b H vs ds → VlA b H (v :: vs) (d :: ds)
end
mutual
theorem Vl.dp {K : PySem.W.Frag} {b : Addr} {H : Hp} : ∀ (d : PyData) (v : V), Vl b H v d → Dp K H v d
  | .none, _, h => by cases h; exact .non
  | .bool b, _, h => by cases h; exact .bl b
  | .int i, _, h => by cases h; exact .int i
  | .str x, _, h => by cases h; exact .str x
  | .list ds, _, h => by
    cases h with
    | lst ne hs ha => exact .lst (SqL.of hs) (VlA.dp ds _ ha)
  | .tuple ds, _, h => by
    cases h with
    | tup ne hs ha => exact .tup (SqT.of hs) (VlA.dp ds _ ha)
  | .dict _, _, h => by cases h
theorem VlA.dp {K : PySem.W.Frag} {b : Addr} {H : Hp} : ∀ (ds : List PyData) (vs : List V), VlA b H vs ds → DpAll K H vs ds
  | [], _, h => by cases h; exact .nil
  | d :: ds, _, h => by
    cases h with
    | cons h1 h2 => exact .cons (Vl.dp d _ h1) (VlA.dp ds _ h2)
end
mutual
theorem Vl.kp {b : Addr} {H H' : Hp} (k : Kp [b] H H') : ∀ (d : PyData) (v : V), Vl b H v d → Vl b H' v d
  | .none, _, h => by cases h; exact .non
  | .bool b, _, h => by cases h; exact .bl b
  | .int i, _, h => by cases h; exact .int i
  | .str x, _, h => by cases h; exact .str x
  | .list ds, _, h => by
    cases h with
    | lst ne hs ha => exact .lst ne (k.at1 ne hs) (VlA.kp k ds _ ha)
  | .tuple ds, _, h => by
    cases h with
    | tup ne hs ha => exact .tup ne (k.at1 ne hs) (VlA.kp k ds _ ha)
  | .dict _, _, h => by cases h
theorem VlA.kp {b : Addr} {H H' : Hp} (k : Kp [b] H H') : ∀ (ds : List PyData) (vs : List V), VlA b H vs ds → VlA b H' vs ds
  | [], _, h => by cases h; exact .nil
  | d :: ds, _, h => by
    cases h with
    | cons h1 h2 => exact .cons (Vl.kp k d _ h1) (VlA.kp k ds _ h2)
end
theorem Vl.k0 {b : Addr} {H H' : Hp} {v : V} {d : PyData} (h : Vl b H v d) (k : Kp [] H H') : Vl b H' v d := Vl.kp k.all d v h
/-- no truth value stands where a whole number should -/
def okv : PyData → Bool
  | .tuple [_, .bool _, _] => false
  | .tuple [_, _, .bool _] => false
  | _ => true
structure Val (b : Addr) (H : Hp) (v : V) : Prop where
  ex : ∃ d, Vl b H v d ∧ SeqAt.shaped d = true ∧ okv d = true
theorem Val.k1 {b : Addr} {H H' : Hp} {v : V} (h : Val b H v) (k : Kp [b] H H') : Val b H' v := by
  obtain ⟨d, h1, h2⟩ := h.ex
  exact ⟨d, Vl.kp k d v h1, h2⟩
def isI : PyData → Bool
  | .int _ => true
  | _ => false
def isTu : PyData → Bool
  | .tuple _ => true
  | _ => false
/-! promises -/
section
def sp_Links_outs (K : PySem.W.Frag) : Sp := fun vs H Q E => ∃ (p r l o : Addr) (s : Sd), vs = [.ref p] ∧ LinksAt K H p r l o s ∧ ∀ q H', H q = none → Kp [] H H' → H' q = some (.lst ((outN s.n s.O).map V.int)) → Q (.ref q) H'
def sp_is_plain_integer (K : PySem.W.Frag) : Sp := fun vs H Q E => ∃ (b : Addr) (x : V) (d : PyData), vs = [x] ∧ Vl b H x d ∧ Q (.bl (isI d)) H
end
end G
set_option Elab.async false
set_option linter.all false
set_option maxRecDepth 100000
set_option maxHeartbeats 4000000
/-! Texts of numbers, and of standings. -/
namespace G
open PySem PySem.Spec PyProof.Rows L2 TL
def numI (i : Int) : Str := Str.ofString (toString i)
def spS : Str := " "
def barS : Str := " | "
def joinI (l : List Int) : Str := Txt.join spS (l.map numI)
theorem tl_numI {i : Int} (h : 0 ≤ i) : tl (numI i) = numL i.toNat := by
  obtain ⟨n, rfl⟩ : ∃ n : Nat, i = (n : Int) := ⟨i.toNat, by omega⟩
  rw [Int.toNat_natCast]
  exact tl_num n
theorem tl_spS : tl spS = [32] := by decide +kernel
theorem numI_len {i : Int} (h : 0 ≤ i) (h2 : i < 1000000000) : (numI i).length ≤ 9 := by
  rw [len_tl, tl_numI h]
  exact numL_len (by decide) (by omega)
theorem joinL_len (S : List Nat) : ∀ ps : List (List Nat), (joinL S ps).length ≤ (ps.map List.length).sum + ps.length * S.length
  | [] => by simp [joinL]
  | [p] => by simp [joinL]
  | p :: q :: r => by
    have ih := joinL_len S (q :: r)
    show (p ++ (S ++ joinL S (q :: r))).length ≤ _
    simp only [List.length_append, List.map_cons, List.sum_cons, List.length_cons, Nat.add_mul, Nat.one_mul] at ih ⊢
    omega
theorem sum_le9 : ∀ {l : List Int}, (∀ i ∈ l, 0 ≤ i ∧ i < 1000000000) → ((l.map numI).map (·.length)).sum ≤ 9 * l.length
  | [], _ => by simp
  | i :: l, h => by
    have ih := sum_le9 (l := l) fun j hj => h j (List.mem_cons_of_mem _ hj)
    have h0 := h i List.mem_cons_self
    have := numI_len h0.1 h0.2
    simp only [List.map_cons, List.sum_cons, List.length_cons]
    omega
theorem joinI_len {l : List Int} (h : ∀ i ∈ l, 0 ≤ i ∧ i < 1000000000) : (joinI l).length ≤ 10 * l.length := by
  unfold joinI
  rw [len_tl, join_eq, tl_join]
  refine Nat.le_trans (joinL_len _ _) ?_
  have := sum_le9 h
  rw [tl_spS, List.map_map, List.length_map, List.length_map]
  have e : (List.map (List.length ∘ tl) (List.map numI l)).sum = ((l.map numI).map (·.length)).sum := by
    congr 1
  rw [e]
  show _ + l.length * 1 ≤ _
  omega
theorem join_cost {l : List Int} (h : ∀ i ∈ l, 0 ≤ i ∧ i < 1000000000) (hl : l.length ≤ 1000) : ((l.map numI).map (·.length)).sum + (l.map numI).length * spS.length ≤ 16777216 := by
  have := sum_le9 h
  have e : spS.length = 1 := by decide +kernel
  rw [e, List.length_map]
  omega
/-! ### a text's parts -/
def noneS : Str := "none"
/-! ### the dump -/
def outsT (l : List Int) : Str := if l = [] then noneS else joinI l
def dumpS (s : Sd) : Str := Txt.join barS [joinI s.R, joinI (s.L.drop 1), outsT (outN s.n s.O)]
theorem outN_bd {n : Nat} {O : List Bool} {i : Int} (h : i ∈ outN n O) : 1 ≤ i ∧ i ≤ n ∧ gB O i.toNat = true := by
  unfold outN at h
  obtain ⟨v, hv, rfl⟩ := List.mem_map.mp h
  obtain ⟨h1, h2⟩ := List.mem_filter.mp hv
  obtain ⟨u, hu, rfl⟩ := List.mem_map.mp h1
  have := List.mem_range.mp hu
  refine ⟨by omega, by omega, ?_⟩
  rw [Int.toNat_natCast]
  exact h2
end G
set_option Elab.async false
set_option linter.all false
set_option maxRecDepth 100000
set_option maxHeartbeats 4000000
/-! k07, k06: standings read from texts; what an operation changes. -/
namespace G
open PySem PySem.Spec PyProof.Rows L2
/-- a standing that can be read back: no left link of the head, the sentinels in -/
structure Snd (s : Sd) : Prop where
  l0 : ∃ t, s.L = 0 :: t
  o0 : gB s.O 0 = false
  o1 : gB s.O (s.n + 1) = false
theorem stepS_snd {s : Sd} (w : Wf s) (d : Snd s) {op : Int} (h : IsOp s.n op) : Snd (stepS s op) := by
  obtain ⟨t, e⟩ := d.l0
  obtain ⟨r1, r2⟩ := w.rb op.natAbs (by have := h.2; omega)
  have h1 := h.1
  have h2 := h.2
  refine ⟨?_, ?_, ?_⟩
  · obtain ⟨k, ek⟩ : ∃ k, (gI s.R op.natAbs).toNat = k + 1 := ⟨(gI s.R op.natAbs).toNat - 1, by omega⟩
    refine ⟨t.set k (if op < 0 then gI s.L op.natAbs else (op.natAbs : Int)), ?_⟩
    show s.L.set (gI s.R op.natAbs).toNat _ = _
    rw [ek]
    generalize (if op < 0 then gI s.L op.natAbs else (op.natAbs : Int)) = v
    rw [e]
    rfl
  · show gB (s.O.set op.natAbs _) 0 = false
    rw [gB_set (by rw [w.lO]; omega), if_neg (by omega)]
    exact d.o0
  · show gB (s.O.set op.natAbs _) (s.n + 1) = false
    rw [gB_set (by rw [w.lO]; omega), if_neg (by omega)]
    exact d.o1
theorem wholeS_snd (n : Nat) : Snd (wholeS n) := by
  refine ⟨⟨_, rfl⟩, ?_, ?_⟩
  · exact gB_of (by show (List.replicate (n + 2) false)[0]? = _; rw [List.getElem?_replicate_of_lt (by omega)])
  · exact gB_of (by show (List.replicate (n + 2) false)[n + 1]? = _; rw [List.getElem?_replicate_of_lt (by omega)])
/-! ### the gaps of foreign writes -/
def forW (s : Sd) (x : Nat) : List Int :=
  (if gI s.L x ≠ (x : Int) - 1 ∧ gI s.R (gI s.L x).toNat = gI s.L x + 1 then [gI s.L x] else []) ++
  (if gI s.R x ≠ (x : Int) + 1 ∧ gI s.L (gI s.R x).toNat = gI s.R x - 1 then [gI s.R x - 1] else [])
theorem forW_len (s : Sd) (x : Nat) : (forW s x).length ≤ 2 := by
  unfold forW
  rw [List.length_append]
  split <;> split <;> simp
/-! ### changes -/
abbrev Tr := Nat × Str × Str
def trV (t : Tr) : List V := [.int (t.1 : Int), .str t.2.1, .str t.2.2]
def TupsAt (H : Hp) (xs : List V) (ts : List Tr) : Prop := xs.length = ts.length ∧ ∀ (i : Nat) (t : Tr), ts[i]? = some t → ∃ a, xs[i]? = some (.ref a) ∧ H a = some (.tup (trV t))
theorem TupsAt.kp {S : List Addr} {H H' : Hp} {xs : List V} {ts : List Tr} (h : TupsAt H xs ts) (k : Kp S H H') (hS : ∀ b ∈ S, ∀ ys, H b ≠ some (.tup ys)) : TupsAt H' xs ts := by
  refine ⟨h.1, fun i t e => ?_⟩
  obtain ⟨a, h1, h2⟩ := h.2 i t e
  exact ⟨a, h1, k _ _ (fun z => hS a z _ h2) h2⟩
theorem TupsAt.k0 {H H' : Hp} {xs : List V} {ts : List Tr} (h : TupsAt H xs ts) (k : Kp [] H H') : TupsAt H' xs ts := h.kp k (by simp)
theorem TupsAt.snoc {H : Hp} {xs : List V} {ts : List Tr} {a : Addr} {t : Tr} (h : TupsAt H xs ts) (ha : H a = some (.tup (trV t))) : TupsAt H (xs ++ [.ref a]) (ts ++ [t]) := by
  refine ⟨by rw [List.length_append, List.length_append, h.1] <;> rfl, fun i u e => ?_⟩
  by_cases c : i < ts.length
  · rw [List.getElem?_append_left c] at e
    obtain ⟨b, h1, h2⟩ := h.2 i u e
    exact ⟨b, by rw [List.getElem?_append_left (by rw [h.1]; exact c)]; exact h1, h2⟩
  · have hl := (List.getElem?_eq_some_iff.mp e).1
    rw [List.length_append] at hl
    have ei : i = ts.length := by simp at hl; omega
    subst ei
    rw [List.getElem?_append_right (Nat.le_refl _), Nat.sub_self] at e
    have eu : t = u := by simpa using e
    subst eu
    exact ⟨a, by rw [List.getElem?_append_right (by rw [h.1]; exact Nat.le_refl _), h.1, Nat.sub_self] <;> rfl, ha⟩
theorem TupsAt.nil {H : Hp} : TupsAt H [] [] := ⟨rfl, fun i t e => by simp at e⟩
theorem ne_w : ¬ ("joined" : Str) = "lost" ∧ ¬ ("left" : Str) = "lost" ∧ ¬ ("right" : Str) = "lost" ∧ ¬ ("left" : Str) = "joined" ∧ ¬ ("right" : Str) = "joined" ∧ ¬ ("lost" : Str) = "joined" ∧ ¬ ("right" : Str) = "left" ∧ ¬ ("lost" : Str) = "left" ∧ ¬ ("lost" : Str) = "right" ∧ ¬ ("joined" : Str) = "left" ∧ ¬ ("joined" : Str) = "right" ∧ ¬ ("left" : Str) = "right" := by
  decide +kernel
theorem step_gR {s : Sd} (w : Wf s) {op : Int} (h : IsOp s.n op) (g : Nat) : gI (stepS s op).R g = if g = lowN s op then (if op < 0 then (hiN s op : Int) + 1 else (op.natAbs : Int)) else gI s.R g := by
  obtain ⟨t1, t2, t3, t4, t5⟩ := touch_bd w h
  show gI (s.R.set _ _) g = _
  rw [gI_set (by rw [w.lR, t4]; have := h.2; omega), t4, Int.toNat_natCast, t5]
theorem step_gL {s : Sd} (w : Wf s) {op : Int} (h : IsOp s.n op) (g : Nat) : gI (stepS s op).L (g + 1) = if g = hiN s op then (if op < 0 then (lowN s op : Int) else (op.natAbs : Int)) else gI s.L (g + 1) := by
  obtain ⟨t1, t2, t3, t4, t5⟩ := touch_bd w h
  show gI (s.L.set _ _) (g + 1) = _
  rw [gI_set (by rw [w.lL, t5]; omega), t5, t4, show ((hiN s op : Int) + 1).toNat = hiN s op + 1 by omega]
  by_cases c : g = hiN s op
  · rw [if_pos c, if_pos (by omega)]
  · rw [if_neg c, if_neg (by omega)]
/-! ### promises -/
section
def Num9 (l : List Int) : Prop := ∀ i ∈ l, 0 ≤ i ∧ i < 1000000000
/-- a new list -/
def NewL (H : Hp) (xs : List V) (Q : VK) : Prop := ∀ a H', H a = none → Kp [] H H' → H' a = some (.lst xs) → Q (.ref a) H'
def Any (H : Hp) (v : V) (Q : VK) : Prop := ∀ H', Kp [] H H' → Q v H'
def sp__joined (K : PySem.W.Frag) : Sp := fun vs H Q E => ∃ (a : Addr) (l : List Int), vs = [.ref a] ∧ SqL K H a (l.map V.int) ∧ Num9 l ∧ l.length ≤ 100 ∧ Any H (.str (joinI l)) Q
def sp_dump_of (K : PySem.W.Frag) : Sp := fun vs H Q E => ∃ (r l o : Addr) (R L O : List Int), vs = [.ref r, .ref l, .ref o] ∧ SqL K H r (R.map V.int) ∧ SqL K H l (L.map V.int) ∧ SqL K H o (O.map V.int) ∧ (Num9 R ∧ R.length ≤ 100) ∧ (Num9 L ∧ L.length ≤ 100) ∧ (Num9 O ∧ O.length ≤ 100) ∧
  Any H (.str (Txt.join barS [joinI R, joinI L, outsT O])) Q
def sp_Links_dump (K : PySem.W.Frag) : Sp := fun vs H Q E => ∃ (p r l o : Addr) (s : Sd), vs = [.ref p] ∧ LinksAt K H p r l o s ∧ Any H (.str (dumpS s)) Q
def sp_foreign_writes (K : PySem.W.Frag) : Sp := fun vs H Q E => ∃ (p r l o : Addr) (s : Sd) (op : Int), vs = [.ref p, .int op] ∧ LinksAt K H p r l o s ∧ (OkOp s op → NewL H ((forW s op.natAbs).map V.int) Q) ∧ (¬ OkOp s op → OpE K s.n op 0 E H)
def legO (s : Sd) (v : Nat) : Int := if gB s.O v then (v : Int) else -(v : Int)
/-- the pairs of a gap and a state -/
def PrsAt (H : Hp) (xs : List V) (es : List (Nat × Str)) : Prop := xs.length = es.length ∧ ∀ (i : Nat) (e : Nat × Str), es[i]? = some e → ∃ a, xs[i]? = some (.ref a) ∧ H a = some (.tup [.int (e.1 : Int), .str e.2])
end
end G
set_option Elab.async false
set_option linter.all false
set_option maxRecDepth 100000
set_option maxHeartbeats 4000000
/-! Comprehensions over texts and pairs; cuts; all. -/
namespace G
open PySem PySem.Spec PyProof.Rows L2
section
variable {K : PySem.W.Frag} {σ : L2.St} {H : Hp} {Q : VK} {te : TE} {tt : TT} {g : TG} {vs : List Nat} {p : Addr} {xs ys : List V}
theorem w_slL {lo hi : Option Int} (h : SqL K H p xs) (g : ∀ q H', H q = none → Kp [] H H' → H' q = some (.lst (cutV xs lo hi)) → Q (.ref q) H') : rSlL K (.ref p) lo hi H Q := ⟨p, xs, rfl, h, nw g⟩
theorem cut_drop (xs : List V) (k : Nat) (h : k ≤ xs.length) : cutV xs (some (k : Int)) none = xs.drop k := by
  unfold cutV
  rw [HT.sIx_nat, HT.sIx_none, Nat.min_eq_left h]
  refine List.take_of_length_le ?_
  rw [List.length_drop] <;> omega
theorem cut_take (xs : List V) (k : Nat) (h : k ≤ xs.length) : cutV xs none (some (k : Int)) = xs.take k := by
  unfold cutV
  rw [HT.sIx_nat, HT.sIx_none, Nat.min_eq_left h, List.drop_zero, Nat.sub_zero]
theorem w_asu {D : Ends} {k : Nat} {ts : TGs} (h : te σ H fun v H0 => gUnl K k ts v σ H0 D.nx) : tAsg te (gUnl K k ts) D σ H := h
theorem map_snoc {l : List Int} {i : Nat} {x : Int} {f : Int → V} (h : l[i]? = some x) : (l.take (i + 1)).map f = (l.take i).map f ++ [f x] := by
  rw [List.take_succ, h, List.map_append] <;> rfl
end
/-! ### joins behind an if -/
section
variable {σ : L2.St} {H : Hp} {s1 s2 a b : TS} {t : TT} {D : Ends}
def SeqIf (t : TT) (a b s2 : TS) : TS := tSeq (tIfS t a b) s2
theorem w_seqI (g : SeqIf t a b s2 D σ H) : tSeq (tIfS t a b) s2 D σ H := g
theorem w_ifK (P : Hp → Prop) (h1 : ∀ N : L2.St → Hp → Prop, (∀ H', P H' → N σ H') → tIfS t a b { D with nx := N } σ H) (h2 : ∀ H', P H' → s2 D σ H') : SeqIf t a b s2 D σ H := h1 _ h2
theorem w_ifJ (P : L2.St → Hp → Prop) (h1 : ∀ N : L2.St → Hp → Prop, (∀ σ' H', P σ' H' → N σ' H') → tIfS t a b { D with nx := N } σ H) (h2 : ∀ σ' H', P σ' H' → s2 D σ' H') : SeqIf t a b s2 D σ H := h1 _ h2
end
end G
set_option Elab.async false
set_option linter.all false
set_option maxRecDepth 100000
set_option maxHeartbeats 4000000
/-! for over a tuple, a list, where an exception is handled. -/
set_option Elab.async false
set_option linter.all false
set_option maxRecDepth 100000
set_option maxHeartbeats 4000000
/-! xs[lo::k], `in` over data of any depth. -/
namespace G
open PySem PySem.Spec PyProof.Rows L2
section
variable {X : Cx} {e : Expr} {te : TE} {lo hi st : Option Expr} {tl th ts : TO} {pos p2 : Pos}
theorem op_inDA {k : Nat} (hr : Room k X.A) : OpR X (compareOp .In) (rInD X.K) := op_inD (by have := hr.un; omega)
end
end G
set_option Elab.async false
set_option linter.all false
set_option maxRecDepth 100000
set_option maxHeartbeats 1000000
/-! Words with a sign; f"{x:+d}". -/
set_option Elab.async false
set_option linter.all false
set_option maxRecDepth 100000
set_option maxHeartbeats 1000000
set_option Elab.async false
set_option linter.all false
set_option maxRecDepth 100000
set_option maxHeartbeats 1000000
/-! Words of logs, the text of a log, pieces of texts. -/
namespace G
open PySem PySem.Spec PyProof.Rows L2 TL NumText
def spC : Str := " "
theorem tl_spC : tl spC = [32] := by decide +kernel
def posL (cs : List Nat) : Bool := decide (cs ≠ [] ∧ cs.length ≤ 9 ∧ cs.head? ≠ some 48) && cs.all fun c => decide (48 ≤ c ∧ c ≤ 57)
def okW (w : Str) : Bool := match tl w with
  | [] => false
  | c :: cs => decide (c = 43 ∨ c = 45) && posL cs
def valW (w : Str) : Int := match tl w with
  | [] => 0
  | c :: cs => if c = 45 then -((digitsVal cs : Nat) : Int) else ((digitsVal cs : Nat) : Int)
/-! ### the numbers of a log -/
def wordsT (t : Str) : List Str := if t = "" then [] else Txt.split t spC
def badW (ws : List Str) : Option Nat := ws.findIdx? fun w => !okW w
/-! ### lengths -/
def sumL (ws : List Str) : Nat := (ws.map (·.length)).sum
theorem spl_sum : ∀ (l acc : List Nat), ((spl [32] 0 acc l).map List.length).sum ≤ acc.length + l.length ∧ (spl [32] 0 acc l).length ≤ l.length + 1 ∧ spl [32] 0 acc l ≠ []
  | [], acc => by
    rw [spl_nil]
    refine ⟨by simp, by simp, by simp⟩
  | c :: r, acc => by
    cases h : pre [32] (c :: r) with
    | true =>
      rw [spl_hit h]
      obtain ⟨i1, i2, i3⟩ := spl_sum r []
      show ((acc :: spl [32] 0 [] r).map List.length).sum ≤ _ ∧ (acc :: spl [32] 0 [] r).length ≤ _ ∧ acc :: spl [32] 0 [] r ≠ []
      refine ⟨?_, ?_, by simp⟩
      · simp only [List.map_cons, List.sum_cons, List.length_cons, List.length_nil] at i1 ⊢
        omega
      · simp only [List.length_cons] at i2 ⊢
        omega
    | false =>
      rw [spl_miss h]
      obtain ⟨i1, i2, i3⟩ := spl_sum r (acc ++ [c])
      refine ⟨?_, ?_, i3⟩
      · simp only [List.length_append, List.length_cons, List.length_nil] at i1 ⊢
        omega
      · simp only [List.length_cons] at i2 ⊢
        omega
theorem split_sum (t : Str) : sumL (Txt.split t spC) ≤ t.length ∧ (Txt.split t spC).length ≤ t.length + 1 ∧ Txt.split t spC ≠ [] := by
  have e := split_spl t spC (by rw [tl_spC]; simp) (kind_ok (by decide +kernel))
  rw [tl_spC] at e
  obtain ⟨h1, h2, h3⟩ := spl_sum (tl t) []
  rw [← e] at h1 h2 h3
  refine ⟨?_, ?_, fun z => h3 (by rw [z] <;> rfl)⟩
  · have : (List.map List.length ((Txt.split t spC).map tl)).sum = sumL (Txt.split t spC) := by
      unfold sumL
      rw [List.map_map]
      congr 1
    rw [this] at h1
    rw [len_tl]
    simpa using h1
  · rw [List.length_map] at h2
    rw [len_tl]
    exact h2
end G
set_option Elab.async false
set_option linter.all false
set_option maxRecDepth 100000
set_option maxHeartbeats 4000000
/-! Steps over texts: cuts, signs that are not in a text, insert, f"{x:+d}". -/
set_option Elab.async false
set_option linter.all false
set_option maxRecDepth 100000
set_option maxHeartbeats 4000000
/-! Two clauses under one name. -/
set_option Elab.async false
set_option linter.all false
set_option maxRecDepth 100000
set_option maxHeartbeats 4000000
/-! == with data of another kind, len and str by an own method, len(range(..)). -/
namespace G
open PySem PySem.Spec PyProof.Rows L2
/-- an own def, run behind built-ins -/
theorem run_at {X : Cx} {k : Nat} {f : Addr} {fd : FuncData} {ps : List Str} {sp : Sp} {A' : Around} {pins : List (Addr × Obj)} {σ : L2.St} {H : Hp} {s : Shared} {Q : VK} {E : XK} {us : List Value} {vs : List V} (F : FnOk X.prog X.w X.K X.mg X.base (L2N.CX X.prog X.w) k f fd ps sp) (hr : Room k A') (hb : Binds X.K fd ps [])
    (he : Env0 X.prog X.w X.K X.mg X.base A' X.stack s H) (hx : PAt X (fun _ => E)) (I : Inv X pins σ H s) (r : Vals vs us) (h : sp vs H Q E) : wpAny (model X.prog X.w) A' (call (.ref f) us) (EP X pins σ Q) X.xe s := by
  have hl : us.length = ps.length := by rw [← r.length]; exact F.len _ _ _ _ h
  have b := hb s us I.kIn (by rw [List.append_nil]; exact hl)
  rw [List.append_nil] at b
  refine wpAny_call (codeAny_mono (F.run A' X.stack s H ⟨us, []⟩ us vs Q E hr he b r h) fun r s' hq => ?_)
  cases r with
  | error e => exact hx σ pins H s e s' I hq
  | ok fl =>
    cases fl with
    | ret u => exact I.after hq
    | next => exact False.elim hq
    | brk => exact False.elim hq
    | cont => exact False.elim hq
end G
namespace G
open PySem PySem.Spec PyProof.Rows L2
section
variable {X : Cx} {j k : Nat} {ps : List Str} {sp : Sp} {E : XK} {C f : Addr} {fd : FuncData}
/-- str(e) by an own method -/
def rStrO (C : Addr) (sp : Sp) (E : XK) : List V → Hp → VK → Prop := fun xs H Q => ∃ a dx fs, xs = [.ref a] ∧ H a = some (.ins C dx fs) ∧ sp [.ref a] H (fun v H' => ∃ z : Str, v = .str z ∧ Q (.str z) H') E
theorem call_strO (c : Met X.prog X.w X.K X.mg X.base k C "__str__" ps sp) (hr : Room j X.A) (hk : k + 2 ≤ j) (hx : PAt X (fun _ => E)) : CallR X (.type "str") (rStrO C sp E) := by
  obtain ⟨f, fd, F, hm, hb⟩ := c.ex
  intro pins s σ H xs us Q I r h
  obtain ⟨a, dx, fs, rfl, ha, q⟩ := h
  obtain ⟨u, rfl, ru⟩ := vals1 r
  cases ru
  obtain ⟨mA, J, _⟩ := ins_get I.hok ha
  obtain ⟨od, J, _⟩ := J.look
  have hr2 : Room k X.A.in1.in1 := ((show Room (k + 1 + 1) X.A from hr.mono hk).in1).in1
  refine PySem.W.kso_call hr2.units0 I.kIn J hm.at_ hm.fn ?_
  refine wpAny_mono (run_at (E := E) (us := [.ref a]) (vs := [.ref a]) F hr2 hb I.env0.in1.in1 hx I (.cons rfl .nil) q) (fun r s' z => ?_) fun _ _ x => x
  obtain ⟨w, H', I', rw_, ⟨z, rfl, qq⟩⟩ := z
  obtain ⟨t, rfl⟩ := rw_
  exact ⟨.str z, H', I', ⟨_, rfl⟩, qq⟩
/-- str(text) -/
def rStrS : List V → Hp → VK → Prop := fun xs H Q => ∃ z, xs = [.str z] ∧ Q (.str z) H
theorem call_strS : CallR X (.type "str") rStrS := SkE.call_str_str
end
section
variable {K : PySem.W.Frag} {σ : L2.St} {H : Hp} {Q : VK} {sp : Sp} {E : XK} {C : Addr} {x y : V}
theorem w_strS {z : Str} (g : Q (.str z) H) : rStrS [.str z] H Q := ⟨z, rfl, g⟩
theorem w_strO {a dx : Addr} {fs} (ha : H a = some (.ins C dx fs)) (g : sp [.ref a] H (fun v H' => ∃ z : Str, v = .str z ∧ Q (.str z) H') E) : rStrO C sp E [.ref a] H Q := ⟨a, dx, fs, rfl, ha, g⟩
end
end G
set_option Elab.async false
set_option linter.all false
set_option maxRecDepth 100000
set_option maxHeartbeats 4000000
/-! Generators by a method, `in` by an own method, comprehensions over reversed lists. -/
set_option Elab.async false
set_option linter.all false
set_option maxRecDepth 100000
set_option maxHeartbeats 4000000
/-! a < b < c < d. -/
set_option Elab.async false
set_option linter.all false
set_option maxRecDepth 100000
set_option maxHeartbeats 4000000
/-! {elt for x in xs}, elt a whole number that leaves the heap as it is; sorted of it. -/
set_option Elab.async false
set_option linter.all false
set_option maxRecDepth 100000
set_option maxHeartbeats 4000000
/-! shared small facts: == of lists of numbers; reverse. -/
set_option Elab.async false
set_option linter.all false
set_option maxRecDepth 100000
set_option maxHeartbeats 4000000
/-! tables of sets laid anew, for the masks that a union meets. -/
namespace G
open PySem PySem.Spec PyProof.Rows L2
def MaskU (m : Nat) : Prop := m = 7 ∨ m = 15 ∨ m = 31 ∨ m = 63 ∨ m = 127 ∨ m = 255
def rnd (m : Nat) : Bool := ((List.range (m + 1)).all fun j => (List.range (m + 1)).any fun b => lcgN m b == j) && (lcgN m (m + 1) == 0)
theorem rnd_all {m : Nat} (h : MaskU m) : rnd m = true := by
  rcases h with e | e | e | e | e | e <;> subst e <;> decide +kernel
/-- i -> 5 i + 1 comes around to every place, from every place -/
theorem rnd_any {m i j : Nat} (h : MaskU m) (hi : i ≤ m) (hj : j ≤ m) : ∃ k, k ≤ m ∧ lcgI m i k = j := by
  have z := rnd_all h
  unfold rnd at z
  rw [Bool.and_eq_true, List.all_eq_true, beq_iff_eq] at z
  obtain ⟨z1, z2⟩ := z
  have at_ : ∀ j, j ≤ m → ∃ b, b ≤ m ∧ lcgN m b = j := fun j hj => by
    obtain ⟨b, hb, e⟩ := List.any_eq_true.mp (z1 j (List.mem_range.mpr (Nat.lt_succ_of_le hj)))
    exact ⟨b, Nat.le_of_lt_succ (List.mem_range.mp hb), beq_iff_eq.mp e⟩
  obtain ⟨a, ha, ea⟩ := at_ i hi
  obtain ⟨b, hb, eb⟩ := at_ j hj
  by_cases c : a ≤ b
  · refine ⟨b - a, by omega, ?_⟩
    rw [← ea, lcgN_add, show a + (b - a) = b by omega, eb]
  · -- once more around
    refine ⟨(m + 1 - a) + b, by omega, ?_⟩
    have more : ∀ k, lcgI m 0 k = lcgN m k := fun k => by
      have := lcgN_add m 0 k
      rw [Nat.zero_add] at this
      exact this
    have split : ∀ x k l, lcgI m x (k + l) = lcgI m (lcgI m x k) l := fun x k l => by
      induction l with
      | zero => rfl
      | succ l ih => show (lcgI m x (k + l) * 5 + 1) % (m + 1) = _; rw [ih]; rfl
    rw [split, ← ea, lcgN_add, show a + (m + 1 - a) = m + 1 by omega, z2, more, eb]
/-- a free place is found -/
theorem free_ok {m : Nat} (hm : MaskU m) (owner : Array (Option Nat)) (x : Int) {j : Nat} (hj : j ≤ m) (hf : oAt owner j = none) :
    ∃ j', SetTable.layClean.free m owner (SetTable.turns m) (SetTable.bits x % (m + 1)) (SetTable.bits x) = some j' ∧ j' ≤ m ∧ oAt owner j' = none := by
  obtain ⟨k, hk, ek⟩ := rnd_any hm (runI_le m (SetTable.bits x) 12) hj
  rw [← runI_tail (bits_lt x)] at ek
  have start : ∀ n, (nth m (runAt m (SetTable.bits x % (m + 1)) (SetTable.bits x)) (off m (SetTable.bits x % (m + 1)) (SetTable.bits x) n)).j = runI m (SetTable.bits x) n := fun n => by
    rw [nth_off, itL_run]
    rfl
  obtain ⟨K, k1, k2, k3⟩ := st_least (p := fun q => oAt owner (nth m (runAt m (SetTable.bits x % (m + 1)) (SetTable.bits x)) q).j = none) _ (show oAt owner (nth m (runAt m (SetTable.bits x % (m + 1)) (SetTable.bits x)) (off m (SetTable.bits x % (m + 1)) (SetTable.bits x) (12 + k))).j = none by rw [start, ek]; exact hf)
  have r0 := runI_le m (SetTable.bits x) 0
  have rb := runEnd_bd (m := m) (i := SetTable.bits x % (m + 1)) r0
  refine ⟨_, free_spec m owner (SetTable.turns m) (12 + k) _ _ K (by unfold SetTable.turns; omega) k1 (fun q hq => ?_) (by rw [show oAt owner _ = none from k2]; rfl), ?_, k2⟩
  · cases z : oAt owner (nth m (runAt m (SetTable.bits x % (m + 1)) (SetTable.bits x)) q).j with
    | none => exact absurd z (k3 q hq)
    | some _ => rfl
  · have := nth_in K (runAt m (SetTable.bits x % (m + 1)) (SetTable.bits x)) (show SetTable.bits x % (m + 1) + (SetTable.runEnd m (SetTable.bits x % (m + 1)) - SetTable.bits x % (m + 1)) ≤ m by omega)
    omega
end G
set_option Elab.async false
set_option linter.all false
set_option maxRecDepth 100000
set_option maxHeartbeats 4000000
/-! a set of whole numbers with all that its table is. -/
namespace G
open PySem PySem.Spec PyProof.Rows L2
structure SX (w : World) (h : Heap) (a : Addr) (es : Array (Int × Value)) (ep : Nat) (t : SetTable) : Prop where
  ob : ∃ o, h.get? a = some o ∧ o.ExactSet ∧ o.data = .set es ep t
  good : ∀ e ∈ es.toList, GoodE e
  nd : (es.toList.map keyOf).Nodup
  sz : es.size < scanBound
  fit : t.fits es.size = true
  ris : Ris t.place.toList
  led : w.params.followText "set-order" = true ∨ t.led = true
theorem SX.at {w : World} {h h' : Heap} {a : Addr} {es : Array (Int × Value)} {ep : Nat} {t : SetTable} (R : SX w h a es ep t) (k : ∀ o, h.get? a = some o → h'.get? a = some o) : SX w h' a es ep t := by
  obtain ⟨o, ho, r⟩ := R.ob
  exact ⟨⟨o, k o ho, r⟩, R.good, R.nd, R.sz, R.fit, R.ris, R.led⟩
end G
set_option Elab.async false
set_option linter.all false
set_option maxRecDepth 100000
set_option maxHeartbeats 4000000
/-! a set of whole numbers walked. -/
set_option Elab.async false
set_option linter.all false
set_option maxRecDepth 100000
set_option maxHeartbeats 4000000
/-! a set merged into another. -/
set_option Elab.async false
set_option linter.all false
set_option maxRecDepth 100000
set_option maxHeartbeats 4000000
/-! a | b of sets of whole numbers. -/
set_option Elab.async false
set_option linter.all false
set_option maxRecDepth 100000
set_option maxHeartbeats 4000000
/-! set(xs) of a list of whole numbers; what a def sees of it, of a | b. -/
set_option Elab.async false
set_option linter.all false
set_option maxRecDepth 100000
set_option maxHeartbeats 1000000
namespace G
open PySem PySem.Spec PyProof.Rows L2
/-! f(e, .., k = v): a def with keyword-only parameters, called with keywords -/
structure CalK (P : Program) (w : World) (K : PySem.W.Frag) (mg : Str → Option Value) (base : Heap) (k : Nat) (x : Str) (ps : List Str) (n : Nat) (ks : List Str) (sp : Sp) : Prop where
  ex : ∃ (f : Addr) (fd : FuncData) (g : List Value → List Value → List Value), FnOk P w K mg base (L2N.CX P w) k f fd ps sp ∧ mg x = some (.ref f) ∧ PySem.W.keepIn K (.ref f) = true ∧ KBn K fd ps n ks g (fun vs zs => vs ++ zs)
def tClK (n m : Nat) (sp : Sp) (E : L2.St → XK) (t tk : TA) : TE := fun σ H Q => tCallN n m sp (fun vs zs => vs ++ zs) (E σ) t tk σ H Q
section
variable {X : Cx} {j k n : Nat} {x : Str} {ps ks : List Str} {sp : Sp} {E : L2.St → XK} {p pos : Pos} {e : Expr} {es : List Expr} {kws : List Keyword} {t tk : TA}
theorem run_fnK {pins : List (Addr × Obj)} {σ : L2.St} {H : Hp} {s : Shared} {Q : VK} {f : Addr} {fd : FuncData} {us ws : List Value} {vs zs : List V} {E : XK} {g : List Value → List Value → List Value} {gV : List V → List V → List V} (F : FnOk X.prog X.w X.K X.mg X.base (L2N.CX X.prog X.w) k f fd ps sp) (hr : Room k X.A) (hb : KBn X.K fd ps n ks g gV) (hx : PassesAt (L2N.CX X.prog X.w) X σ E)
    (I : Inv X pins σ H s) (r : Vals vs us) (rz : Vals zs ws) (l1 : vs.length = n) (l2 : zs.length = ks.length) (h : sp (gV vs zs) H Q E) : wpAny (model X.prog X.w) X.A (call (.ref f) us (ks.zip ws)) (EP X pins σ Q) X.xe s := by
  refine wpAny_call (codeAny_mono (F.run X.A X.stack s H ⟨us, ks.zip ws⟩ (g us ws) (gV vs zs) Q E hr I.env0 (hb.to s us ws I.kIn (r.length.symm.trans l1) (rz.length.symm.trans l2)) (hb.rel r rz) h) fun y s' hq => ?_)
  cases y with
  | error er => exact hx pins H s er s' I hq
  | ok fl =>
    cases fl with
    | ret u => exact I.after hq
    | next => exact False.elim hq
    | brk => exact False.elim hq
    | cont => exact False.elim hq
theorem pe_clK (c : CalK X.prog X.w X.K X.mg X.base k x ps n ks sp) (hr : Room j X.A) (hk : k ≤ j) (hx : PAt X E) (ha : PA X (e :: es) t) (hkw : PK X kws tk) (hg : Gl X x := by rfl)
    (hall : (backToKw pos (keywordEach kws X.env)).all (·.1.isSome) = true := by rfl) (hks : (backToKw pos (keywordEach kws X.env)).filterMap (·.1) = ks := by rfl)
    (hdb : (x == ("__debug__" : Str)) = false := by decide) (he : starEach (e :: es) X.env = (false, eval e X.env) :: starEach es X.env := by rfl)
    (hpl : ((backTo pos (starEach (e :: es) X.env)).any (·.1) || (backToKw pos (keywordEach kws X.env)).any (·.1.isNone)) = false := by rfl) : PE X (.Call (.Name x p) (e :: es) kws pos) (tClK n ks.length sp E t tk) := by
  obtain ⟨f, fd, g, F, hm, kp, hb⟩ := c.ex
  refine ⟨fun pins s σ H Q I h => ?_⟩
  refine wpAny_Call_Name_kw (ld_glob I hg hm (PySem.W.callWith_KW (h₀ := X.base) I.ok.mod.kin kp hall (thn (ha.run pos pins s σ H _ I h) fun us sa ⟨vs, Ha, Ia, ra, qa⟩ => thn (hkw.run pos pins sa σ Ha _ Ia qa) fun ws sb ⟨zs, Hb, Ib, rz, l1, l2, qb⟩ => ⟨Ib.kIn, ?_⟩) hpl he) hdb)
  rw [hks]
  exact run_fnK F (hr.mono hk) hb (hx σ) Ib ra rz l1 l2 qb
theorem w_clK {σ : L2.St} {H : Hp} {Q : VK} (h : t σ H fun vs H1 => tk σ H1 fun zs H2 => vs.length = n ∧ zs.length = m ∧ sp (vs ++ zs) H2 Q (E σ)) : tClK n m sp E t tk σ H Q := h
end
section
variable {K : PySem.W.Frag} {x qual : Str} {params : Arguments} {body : List Stmt} {scope : Scope} {kws : List (Str × V)} {f : Addr} {fd : FuncData} {ps : List Str}
theorem kbn_all (F : FunD K x qual params body scope [] kws f fd) (n : Nat) (ks : List Str) (hk : kws ≠ [])
    (h : ∀ (D : Addr) (doc pm : Value) (an : Option Addr) (cdv ct : Value) (us ws : List Value), us.length = n → ws.length = ks.length → bindArgs (PySem.W.fnOf x qual params body scope .none (.ref D) doc pm an cdv ct) ⟨us, ks.zip ws⟩ = pure (ps.zip (us ++ ws))) :
    ∃ g : List Value → List Value → List Value, KBn K fd ps n ks g (fun vs zs => vs ++ zs) := by
  obtain ⟨mv, hb⟩ := F.kbinds0 n ks [] (fun us _ ws => us ++ ws) hk (fun q hq => by cases hq) (fun r1 _ r3 => r1.append r3) fun D doc pm an cdv ct us mv ws l1 _ l3 => by
    exact h D doc pm an cdv ct us ws l1 l3
  exact ⟨_, hb⟩
end
end G
set_option Elab.async false
set_option linter.all false
set_option maxRecDepth 100000
set_option maxHeartbeats 2000000
/-! comprehensions while an exception is handled -/
set_option Elab.async false
set_option linter.all false
set_option maxRecDepth 100000
set_option maxHeartbeats 2000000
/-! a list comprehension while an exception is handled -/
set_option Elab.async false
set_option linter.all false
set_option maxRecDepth 100000
set_option maxHeartbeats 2000000
/-! methods called, ranges walked while an exception is handled -/
set_option Elab.async false
set_option linter.all false
set_option maxRecDepth 100000
set_option maxHeartbeats 4000000
/-! One clause that gives the error no name. -/
set_option Elab.async false
set_option linter.all false
set_option maxRecDepth 100000
set_option maxHeartbeats 4000000
/-! super().m(..) in a method of an own class. -/
namespace G
open PySem PySem.Spec PyProof.Rows L2 NdefX
/-- what the running method's frame tells: its class D is captured -/
structure SupOk (X : Cx) (D : Addr) (sf : Str) : Prop where
  ks : X.env.kindOf "super" = some .globalImplicit
  kc : X.env.kindOf "__class__" = some .free
  gs : X.mg "super" = none
  fn : ∃ f fo fd ar, X.env.func = some f ∧ X.K.lookup f = some fo ∧ fo.data = .func fd ∧ (fd.params.posonlyargs ++ fd.params.args).head? = some ar ∧ ar.arg = sf
  self0 : X.N[0]? = some sf
  selfL : X.env.scope.names.lookup sf = some .local
  code : ∃ cc oc vs file tf, X.env.code = .ref cc ∧ X.K.lookup cc = some oc ∧ oc.data = .fields vs ∧ vs[2]? = some (.str file tf) ∧ ((X.prog.main.file : Str) == file) = true
  top : (X.prog.main.scope.names.lookup ("super" : Str)).isSome = false
  cel : ∃ c oc, X.env.cells.lookup ("__class__" : Str) = some c ∧ X.K.lookup c = some oc ∧ oc.data = .cell (some (.ref D))
/-- the method m behind the class D in the order of the class C is f2 -/
structure SupTo (K : PySem.W.Frag) (C D : Addr) (m : Str) (f2 : Addr) : Prop where
  cd : ∃ cd, PySem.W.clsIn K C = some cd ∧ PySem.W.alongIn K m ((cd.mro.dropWhile (· != .ref D)).drop 1) = some (some (.ref f2))
  sub : PySem.W.mroIn K C (.ref D) = some true
  dd : ∃ oD cdD, K.lookup D = some oD ∧ oD.data = .cls cdD
  fo : ∃ of, K.lookup f2 = some of ∧ of.cls = .type "function"
  fn : PySem.W.fnIn K f2 = true
  opq : PySem.W.nsIn K cStatics "thirdparty.any" = some none
section
variable {X : Cx} {D f2 : Addr} {sf m : Str} {body : List Stmt} {e : Expr} {es : List Expr} {t : TA} {E : L2.St → XK} {k : Nat} {fd2 : FuncData} {ps2 : List Str} {sp2 : Sp} {p0 p1 apos pos : Pos}
theorem sup_eval (so : SupOk X D sf) (F2 : FnOk X.prog X.w X.K X.mg X.base (L2N.CX X.prog X.w) k f2 fd2 ps2 sp2) (hr : Room k X.A) (hb : Binds X.K fd2 ps2 []) (hx : PAt X E) (ha : PA X (e :: es) t)
    (hat : (m == ("__class__" : Str)) = false) (hst : starEach (e :: es) X.env = (false, eval e X.env) :: starEach es X.env) (hpl : (backTo pos (starEach es X.env)).any (·.1) = false)
    (het : ∀ pl : Sem Bool, True) {pl : Sem Bool}
    (he : eval (.Call (.Attribute (.Call (.Name "super" p0) [] [] p1) m apos) (e :: es) [] pos) X.env = (do
      let ov ← attributeBase (.Call (.Name "super" p0) [] [] p1) m X.env (eval (.Call (.Name "super" p0) [] [] p1) X.env)
      standAt apos.atName
      let (f, first) ← holding [ov] (getMethod ov m pl)
      callWith pos f first (backTo pos (starEach (e :: es) X.env)) []))
    {pins : List (Addr × Obj)} {s : Shared} {σ : L2.St} {H : Hp} {Q : VK} (I : Inv X pins σ H s) {x C dx : Addr} {fs : List (Str × V)} (h0 : σ[0]? = some (some (.ref x))) (hx0 : H x = some (.ins C dx fs)) (st : SupTo X.K C D m f2)
    (q : t σ H fun us H1 => sp2 (.ref x :: us) H1 Q (E σ)) :
    PySem.wpAt (model X.prog X.w) X.A (.func body X.env) (eval (.Call (.Attribute (.Call (.Name "super" p0) [] [] p1) m apos) (e :: es) [] pos) X.env) (EP X pins σ Q) X.xe s := by
  obtain ⟨f, fo, fd, ar, hfu, lkf, hfd, hp, hself⟩ := so.fn
  obtain ⟨cc, oc, vs, file, tf, hco, lkcc, hoc, hvs, hfile⟩ := so.code
  obtain ⟨c, ocl, hc, lkc, hcd⟩ := so.cel
  obtain ⟨cd, hcls, halong⟩ := st.cd
  obtain ⟨oD, cdD, lkD, hDd⟩ := st.dd
  obtain ⟨of, lkf2, hfc⟩ := st.fo
  obtain ⟨mb, hb1, hb2⟩ := I.mod.blt
  obtain ⟨mA, O, rO, wiO, lnO, hoO⟩ := ins_get I.hok hx0
  have KX := I.kIn
  have hX : s.heap.get? x = some (PySem.W.instObj C dx) := O.obj
  have hno : PySem.W.Looks (model X.prog X.w) s.heap (opaqueClassAbove (.ref C)) none := PySem.W.looks_opaque KX st.opq
  have nxt : ∀ {s' : Shared}, Inv X pins σ H s' → True := fun _ => trivial
  obtain ⟨ml, hns, hlook⟩ := id I.loc
  obtain ⟨us, rus, lk⟩ := hlook 0 sf (.ref x) so.self0 h0 (.inl so.selfL)
  have hml : ml sf = some us := by
    rcases lk with ⟨_, z⟩ | ⟨z, _⟩
    · exact z
    · have z : X.env.scope.names.lookup sf = some .cell ∨ X.env.scope.names.lookup sf = some .free := z
      rw [so.selfL] at z
      rcases z with z | z <;> cases z
  obtain rfl : us = .ref x := rus
  have hxC : x ≠ C := by
    rintro rfl
    unfold PySem.W.clsIn at hcls
    split at hcls
    · rename_i c d cd' sl ho
      have e := KX _ _ ho
      rw [hX] at e
      cases e
    · cases hcls
  refine PySem.ks_wpAt_MethodCall (pl := pl) ?_ he
  refine PySem.ks_wpAt_super_base so.ks so.kc hat hfu (KX _ _ lkf) hfd hp hco (KX _ _ lkcc) hoc hvs hfile so.top ?_
  refine PySem.W.ks_loadName_global I.ok.kind so.ks ?_
  refine Calls.loadGlobal_builtin (by rw [I.ok.glob]; exact I.mod.glob.keeps I.bk) so.gs (by rw [I.ok.blt]; exact hb1.keeps I.bk) ((hb2 _ (by decide)).trans (by rfl : bootBuiltins "super" = some (.type "super"))) ⟨rfl, ?_⟩
  refine wpAny_loadName_free I.ok.kind so.kc hc ⟨_, KX _ _ lkc, hcd⟩ ?_
  rw [hself]
  refine wpAny_loadName_local I.ok.kind so.selfL hns hml ?_
  refine PySem.ks_wpAny_isType_cls (KX _ _ lkD) hDd ⟨rfl, ?_⟩
  obtain ⟨hp0, g0, d0, t0, os0⟩ := s
  refine PySem.ks_wpAny_call_super (KX _ _ lkD) hDd hX rfl (fun c z => by cases z) (PySem.W.looks_mroIn KX st.sub) (fun h' hso kp => ?_)
  have KX1 : X.K.In h' := KX.keeps kp
  refine PySem.ks_wpAny_getMethod_super (K := X.K) (l₀ := cd.mro) hso (PySem.W.looks_opaque KX1 st.opq) ((PySem.W.looks_clsIn KX1 hcls).andThen .now) rfl KX1 halong (KX1 _ _ lkf2) hfc hxC hat ?_
  have kpush : ∀ b u, h'.get? b = some u → (h'.push { cls := .type "method", data := .fields #[.ref f2, .ref x] }).get? b = some u := fun b u z => Heap.get?_push_of_some _ z
  have hq0 : (h'.push { cls := .type "method", data := .fields #[.ref f2, .ref x] }).get? h'.objs.size = some (PySem.W.methodObj (.ref f2) (.ref x)) := Heap.get?_push_size h' rfl
  have lsz : hp0.objs.size ≤ h'.objs.size := by
    have := Heap.lt_size hso
    exact Nat.le_of_lt this
  generalize hq' : h'.objs.size = qa at *
  generalize hh2 : h'.push { cls := .type "method", data := .fields #[.ref f2, .ref x] } = h2 at *
  have I0 : Inv X pins σ H ⟨h2, g0, d0, t0 + 1, os0⟩ := I.kept fun b u z => kpush _ _ (kp _ _ z)
  have fp := I.fpOk (b := qa) lsz (I.hok.fresh lsz)
  have I1 : Inv X (pins ++ [(qa, PySem.W.methodObj (.ref f2) (.ref x))]) σ H ⟨h2, g0, d0, t0 + 1, os0⟩ := I0.pins_of fun p hp => by
    rcases List.mem_append.mp hp with z | z
    · exact I0.pin p (List.mem_append_right _ z)
    · obtain rfl := List.mem_singleton.mp z
      exact ⟨hq0, fp.1, fp.2.1, fp.2.2.1, fun v z => by cases z⟩
  rw [hst]
  refine PySem.W.callWith_of (P := PySem.W.MethP X.K qa f2 (.ref x)) (by show ((false || (backTo pos (starEach es X.env)).any (·.1)) || false) = false; rw [hpl]; rfl) (PySem.W.keeps_M st.fn) (Calls.evalArgs_plain ?_)
  have run := ha.run pos _ _ σ H _ I1 q
  rw [hst] at run
  refine thn run fun us s1 ⟨vs, H1, I2, r, q2⟩ => ?_
  have pq := (I2.pin (qa, PySem.W.methodObj (.ref f2) (.ref x)) (by simp)).1
  refine ⟨⟨pq, I2.kIn⟩, ?_⟩
  have r2 : Vals (.ref x :: vs) (.ref x :: us) := .cons rfl r
  have hl : (.ref x :: us : List Value).length = ps2.length := by rw [← r2.length]; exact F2.len _ _ _ _ q2
  refine wpAny_call (PySem.ks_codeAny_call_bound pq ?_)
  refine codeAny_mono (F2.run X.A X.stack s1 H1 ⟨.ref x :: us, []⟩ ((.ref x :: us) ++ []) (.ref x :: vs) Q (E σ) hr I2.env0 (hb s1 (.ref x :: us) I2.kIn (by rw [List.append_nil]; exact hl)) (by rw [List.append_nil]; exact r2) q2) fun r s' hq => ?_
  cases r with
  | error e => exact hx σ _ H1 s1 e s' I2 hq
  | ok fl =>
    cases fl with
    | ret u =>
      obtain ⟨v, H2, I3, rv, q3⟩ := I2.after hq
      exact ⟨v, H2, I3.unpinned, rv, q3⟩
    | next => exact False.elim hq
    | brk => exact False.elim hq
    | cont => exact False.elim hq
end
/-- a method that captures its class D, as the top has written it -/
structure FunS (K : PySem.W.Frag) (prog : Program) (x qual : Str) (params : Arguments) (body : List Stmt) (scope : Scope) (D f : Addr) (fd : FuncData) : Prop where
  ex : ∃ (oc : Value) (od an : Option Addr) (kV doc pm ct : Value) (c cc : Addr) (osl : Array (Option Value)) (ocl oco : Obj) (vs : Array Value) (file : Str) (tf : Tok),
    fd = PySem.W.fnX x qual params body scope [("__class__", cc)] .none kV doc pm an (.ref c) ct ∧ K.lookup f = some ⟨oc, od, .func fd, osl⟩ ∧ PySem.W.codeIn K (.ref c) qual = true ∧
    K.lookup cc = some ocl ∧ ocl.data = .cell (some (.ref D)) ∧ K.lookup c = some oco ∧ oco.data = .fields vs ∧ vs[2]? = some (.str file tf) ∧ ((prog.main.file : Str) == file) = true
  kp : PySem.W.keepIn K (.ref f) = true
section
variable {P : Program} {w : World} {K : PySem.W.Frag} {mg : Str → Option Value} {base : Heap} {x qual m y sf : Str} {params : Arguments} {body rest : List Stmt} {scope : Scope} {D f f2 : Addr} {fd fd2 : FuncData} {N ps ps2 : List Str} {k k2 i : Nat} {sp sp2 : Sp} {e : Expr} {es : List Expr} {p0 p1 apos pos py pa : Pos} {ar : Arg}
abbrev nfS (x qual : Str) (params : Arguments) (body : List Stmt) (scope : Scope) (c cc : Addr) : NF := ⟨x, qual, params, body, scope, [("__class__", cc)], c⟩
/-- THE RULE: such a method whose first statement is y = super().m(..) -/
theorem FunS.ok (F : FunS K P x qual params body scope D f fd) (S : NScope N ps ["__class__"] scope) (len : ∀ vs H Q E, sp vs H Q E → vs.length = ps.length)
    (hbody : body = .Assign [.Name y py] (.Call (.Attribute (.Call (.Name "super" p0) [] [] p1) m apos) (e :: es) [] pos) pa :: rest)
    (F2 : FnOk P w K mg base (L2N.CX P w) k2 f2 fd2 ps2 sp2) (hk : k2 ≤ k) (hb2 : Binds K fd2 ps2 [])
    (hpar : (params.posonlyargs ++ params.args).head? = some ar) (hsf : ar.arg = sf) (hN0 : N[0]? = some sf) (hsl : scope.names.lookup sf = some .local)
    (hks : scope.names.lookup ("super" : Str) = some .globalImplicit) (hgs : mg "super" = none) (htop : (P.main.scope.names.lookup ("super" : Str)).isSome = false)
    (hat : (m == ("__class__" : Str)) = false) (hi : N[i]? = some y) (hyl : scope.names.lookup y = some .local)
    (hrd : ∀ (c cc : Addr) (A : Around) (outer : List Env) (s : Shared) (H : Hp) (vs : List V) (Q : VK) (E : XK), Room k (A.deeper (envF (nfS x qual params body scope c cc) f s.heap.objs.size)) → sp vs H Q E →
      ∃ (t : TA) (u : TS) (x0 C dx : Addr) (fs : List (Str × V)) (pl : Sem Bool), PA (ncx (L2N.CX P w) P w K mg base N (nfS x qual params body scope c cc) f A outer s H E) (e :: es) t ∧ PSs (ncx (L2N.CX P w) P w K mg base N (nfS x qual params body scope c cc) f A outer s H E) rest u ∧
        PAt (ncx (L2N.CX P w) P w K mg base N (nfS x qual params body scope c cc) f A outer s H E) (fun _ => E) ∧
        starEach (e :: es) (envF (nfS x qual params body scope c cc) f s.heap.objs.size) = (false, eval e (envF (nfS x qual params body scope c cc) f s.heap.objs.size)) :: starEach es (envF (nfS x qual params body scope c cc) f s.heap.objs.size) ∧
        (backTo pos (starEach es (envF (nfS x qual params body scope c cc) f s.heap.objs.size))).any (·.1) = false ∧
        eval (.Call (.Attribute (.Call (.Name "super" p0) [] [] p1) m apos) (e :: es) [] pos) (envF (nfS x qual params body scope c cc) f s.heap.objs.size) = (do
          let ov ← attributeBase (.Call (.Name "super" p0) [] [] p1) m (envF (nfS x qual params body scope c cc) f s.heap.objs.size) (eval (.Call (.Name "super" p0) [] [] p1) (envF (nfS x qual params body scope c cc) f s.heap.objs.size))
          standAt apos.atName
          let (g, first) ← holding [ov] (getMethod ov m pl)
          callWith pos g first (backTo pos (starEach (e :: es) (envF (nfS x qual params body scope c cc) f s.heap.objs.size))) []) ∧
        swapsWith (.Call (.Attribute (.Call (.Name "super" p0) [] [] p1) m apos) (e :: es) [] pos) (some (.Name y py)) pa.line (envF (nfS x qual params body scope c cc) f s.heap.objs.size) = pure false ∧
        vs[0]? = some (.ref x0) ∧ H x0 = some (.ins C dx fs) ∧ SupTo K C D m f2 ∧
        t (startF N vs [some (.ref D)]) H fun us H1 => sp2 (.ref x0 :: us) H1 (fun v H2 => u { nx := fun _ H' => Q .non H', rt := Q } ((startF N vs [some (.ref D)]).set i (some v)) H2) E) :
    FnOk P w K mg base (L2N.CX P w) (k + 1) f fd ps sp := by
  obtain ⟨oc, od, an, kV, doc, pm, ct, c, cc, osl, ocl, oco, vs0, file, tf, rfl, lk, hcd, lkcc, hcc, lkc, hco, hvs, hfile⟩ := F.ex
  refine ⟨len, fun A outer s H args us vs Q E hr e0 hb r hsp => ?_⟩
  have hl := len _ _ _ _ hsp
  have KX : K.In s.heap := e0.mod.kin.keeps fun b o e => (e0.bs b o e).1
  have lim : s.heap.NoLimit := e0.mod.nolimit.keeps fun b o e => (e0.bs b o e).1
  have hfree : H cc = none := (e0.bs _ _ (e0.mod.kin _ _ lkcc)).2
  have hcell : s.heap.IsCell cc (some (.ref D)) := ⟨_, KX _ _ lkcc, hcc⟩
  have C : CellsAt (nfS x qual params body scope c cc).cl ["__class__"] [some (.ref D)] s.heap H := by
    have one : ∀ y c', ([("__class__", cc)] : List (Str × Addr)).lookup y = some c' → y = "__class__" ∧ c' = cc := by
      intro y c' h
      by_cases e : y = "__class__"
      · rw [e] at h ⊢
        exact ⟨rfl, by simpa [List.lookup] using h.symm⟩
      · have : (y == ("__class__" : Str)) = false := by simpa using e
        simp [List.lookup, this] at h
    refine ⟨rfl, fun y c' h => ?_, fun y z c' h1 h2 => ?_, fun j y h => ?_⟩
    · obtain ⟨_, rfl⟩ := one y c' h
      exact ⟨hfree, _, hcell⟩
    · rw [(one y c' h1).1, (one z c' h2).1]
    · match j, h with
      | 0, h =>
        have h : some ("__class__" : Str) = some y := h
        injection h with h
        subst h
        refine ⟨cc, by simp [List.lookup], fun v hv => ?_⟩
        have hv : some (some (V.ref D)) = some (some v) := hv
        injection hv with hv
        injection hv with hv
        subst hv
        exact ⟨_, rfl, hcell⟩
  refine codeAny_call_function hr.depth (KX _ _ lk) rfl S.co S.gen rfl (PySem.W.codeRec_of KX hcd) (hb _ _ _ _ ?_)
  refine wpAny_newFunctionEnv S.nocell (fun ⟨n, _⟩ hy => S.par n (List.of_mem_zip hy).1) (fun h₁ hns hsb => ⟨lim.fresh _ hsb, ?_⟩) S.kind
  show codeAny _ _ (.func body (envF (nfS x qual params body scope c cc) f s.heap.objs.size)) _ _
  refine PySem.ks_codeAny_funcAt ?_
  have kp : ∀ b o, s.heap.get? b = some o → h₁.get? b = some o := fun b o e => hsb.extBut b o (Nat.ne_of_lt (Heap.lt_size e)) (Heap.get?_push_of_some _ e)
  obtain ⟨t, u, x0, C0, dx, fs, pl, ha, hu, hx, hst, hpl, he, hsw, hv0, hx0, st, q⟩ := hrd c cc A outer s H vs Q E (hr.deeper _) hsp
  have I : Inv (ncx (L2N.CX P w) P w K mg base N (nfS x qual params body scope c cc) f A outer s H E) [] (startF N vs [some (.ref D)]) H { s with heap := h₁, toks := s.toks + (ps.zip us).length } := inv_startN S hr.hd e0 hl r C hns kp
  have eb : execs body (envF (nfS x qual params body scope c cc) f s.heap.objs.size) = execs (.Assign [.Name y py] (.Call (.Attribute (.Call (.Name "super" p0) [] [] p1) m apos) (e :: es) [] pos) pa :: rest) (envF (nfS x qual params body scope c cc) f s.heap.objs.size) := congrArg (fun b => execs b (envF (nfS x qual params body scope c cc) f s.heap.objs.size)) hbody
  rw [eb]
  have so : SupOk (ncx (L2N.CX P w) P w K mg base N (nfS x qual params body scope c cc) f A outer s H E) D sf :=
    ⟨hks, S.frk _ (by simp), hgs, ⟨f, _, _, ar, rfl, lk, rfl, hpar, hsf⟩, hN0, hsl, ⟨c, oco, vs0, file, tf, rfl, lkc, hco, hvs, hfile⟩, htop, ⟨cc, ocl, List.lookup_cons_self, lkcc, hcc⟩⟩
  have h0 : (startF N vs [some (.ref D)])[0]? = some (some (.ref x0)) := by
    have lv : 0 < vs.length := (List.getElem?_eq_some_iff.mp hv0).1
    unfold startF
    rw [List.getElem?_append_left (by rw [List.length_map]; exact lv), List.getElem?_map, hv0] <;> rfl
  refine PySem.ks_wpAt_execs_cons (PySem.ks_wpAt_Assign_Name (PySem.ks_wpAt_mono (sup_eval (E := fun _ => E) so (F2.mono hk) (hr.deeper _) hb2 hx ha hat hst hpl (fun _ => trivial) he I h0 hx0 st q) (fun v s1 hv => ?_) (fun e s' h => h)) hsw)
  obtain ⟨v', H1, I1, rv, q1⟩ := hv
  refine store_ok I1 S.nd hi (.inl hyl) rv (fun s2 I2 => ?_) (.inr hyl)
  refine PySem.wpAt_of_wpAny (wpAny_mono (hu.run [] s2 _ H1 _ I2 q1) (fun fl s' hs => ?_) fun e s' hs => hs)
  have fin : ∀ {σ' : L2.St} {H' : Hp} {v : V} {u : Value}, Inv (ncx (L2N.CX P w) P w K mg base N (nfS x qual params body scope c cc) f A outer s H E) [] σ' H' s' → L2.RelV v u → Q v H' → CE outer P w H s Q u s' :=
    fun {σ' H' v u} J rv q => ⟨v, H', J.os, J.bare, J.base, J.hok, rv, q⟩
  cases fl with
  | ret u =>
    obtain ⟨v, σ', H', J, rv, q⟩ := hs
    exact fin J rv q
  | next =>
    obtain ⟨σ', H', J, q⟩ := hs
    exact fin (v := V.non) (u := Value.none) J rfl q
  | brk =>
    obtain ⟨_, _, _, q⟩ := hs
    exact False.elim q
  | cont =>
    obtain ⟨_, _, _, q⟩ := hs
    exact False.elim q
theorem FunS.bindsN (F : FunS K P x qual params body scope D f fd)
    (h : ∀ (cc : Addr) (kV doc pm : Value) (an : Option Addr) (cdv ct : Value) (us : List Value), us.length = ps.length → bindArgs (PySem.W.fnX x qual params body scope [("__class__", cc)] .none kV doc pm an cdv ct) ⟨us, []⟩ = pure (ps.zip us)) : Binds K fd ps [] := by
  obtain ⟨oc, od, an, kV, doc, pm, ct, c, cc, osl, ocl, oco, vs0, file, tf, rfl, _⟩ := F.ex
  exact .all (h cc kV doc pm an (.ref c) ct)
end
end G
set_option Elab.async false
set_option linter.all false
set_option maxRecDepth 100000
set_option maxHeartbeats 4000000
/-! The head's facts over the first n addresses of the heap. -/
set_option Elab.async false
set_option linter.all false
set_option maxRecDepth 100000
set_option maxHeartbeats 4000000
/-! The head's facts with methods that capture their class. -/
namespace G
open PySem PySem.Spec PyProof.Rows L2
/-- a method that captures its class -/
structure DefS where
  at_ : PySem.W.Frag → Addr
  name : Str
  qual : Str
  params : Arguments
  body : List Stmt
  scope : Scope
  cls : PySem.W.Frag → Addr
  file : Str
/-- a function's words, whatever it captures -/
def fnB (K : PySem.W.Frag) (a : Addr) : He.FnW := match K.lookup a with
  | some ⟨_, _, .func fd, _⟩ => some (fd.name, fd.qualname, fd.params, fd.body, fd.scope, fd.globals, [], fd.builtins)
  | _ => none
def DefS.val (d : DefS) : He.FnW := some (d.name, d.qual, d.params, .stmts d.body, d.scope, mainGlobals, [], builtinsNs)
def cellB (K : PySem.W.Frag) (cc D : Addr) : Bool := match K.lookup cc with
  | some ⟨_, _, .cell (some (.ref D')), _⟩ => D' == D
  | _ => false
def cloB (K : PySem.W.Frag) (cl : List (Str × Addr)) (D : Addr) : Bool := match cl with
  | [(n, cc)] => n == "__class__" && cellB K cc D
  | _ => false
def fldB (vs : Array Value) (file : Str) : Bool := match (vs[2]? : Option Value) with
  | some (Value.str f _) => f == file
  | _ => false
def filB (K : PySem.W.Frag) (cd : Value) (file : Str) : Bool := match cd with
  | .ref c => (match K.lookup c with
    | some ⟨_, _, .fields vs, _⟩ => fldB vs file
    | _ => false)
  | _ => false
def nonB : Value → Bool
  | .none => true
  | _ => false
theorem nonB_ok {v : Value} (h : nonB v = true) : v = .none := by
  cases v <;> first | rfl | cases h
def DefS.ok (K : PySem.W.Frag) (d : DefS) : Bool := PySem.W.keepIn K (.ref (d.at_ K)) && (match K.lookup (d.at_ K) with
  | some ⟨_, _, .func fd, _⟩ => PySem.W.codeIn K fd.code d.qual && (nonB fd.defaults && (cloB K fd.closure (d.cls K) && filB K fd.code d.file))
  | _ => false)
theorem DefS.funS {K : PySem.W.Frag} {d : DefS} {P : Program} (e : fnB K (d.at_ K) = d.val) (c : d.ok K = true) (hf : ((P.main.file : Str) == d.file) = true) : ∃ fd, FunS K P d.name d.qual d.params d.body d.scope (d.cls K) (d.at_ K) fd := by
  obtain ⟨kp, c2⟩ := He.ba c
  unfold fnB at e
  cases q : K.lookup (d.at_ K) with
  | none =>
    rw [q] at c2
    cases c2
  | some o =>
    obtain ⟨oc, od, dt, osl⟩ := o
    rw [q] at c2 e
    cases dt with
    | func fd =>
      obtain ⟨n1, n2, n3, n4, n5, n6, n7, n8, n9, n10, n11, n12, n13, n14, n15⟩ := fd
      have e2 : (some (n1, n2, n3, n4, n5, n6, [], n15) : He.FnW) = some (d.name, d.qual, d.params, .stmts d.body, d.scope, mainGlobals, [], builtinsNs) := e
      simp only [Option.some.injEq, Prod.mk.injEq] at e2
      obtain ⟨h1, h2, h3, h4, h5, h6, _, h8⟩ := e2
      subst h1 h2 h3 h4 h5 h6 h8
      have c3 : (PySem.W.codeIn K n13 d.qual && (nonB n8 && (cloB K n7 (d.cls K) && filB K n13 d.file))) = true := c2
      obtain ⟨k1, k2⟩ := He.ba c3
      obtain ⟨k0, k5⟩ := He.ba k2
      obtain rfl := nonB_ok k0
      obtain ⟨k3, k4⟩ := He.ba k5
      obtain ⟨cc, ocl, rfl, l1, l2⟩ : ∃ cc ocl, n7 = [(("__class__" : Str), cc)] ∧ K.lookup cc = some ocl ∧ ocl.data = .cell (some (.ref (d.cls K))) := by
        unfold cloB at k3
        split at k3
        · rename_i n cc
          obtain ⟨a, b⟩ := He.ba k3
          unfold cellB at b
          split at b
          · rename_i x1 x2 D' x4 hl
            have a : n = "__class__" := by simpa using a
            have b : D' = d.cls K := by simpa using b
            subst a b
            exact ⟨cc, _, rfl, hl, rfl⟩
          · cases b
        · cases k3
      obtain ⟨cd, oco, vs, tf, rfl, m1, m2, m3⟩ : ∃ cd oco vs tf, n13 = .ref cd ∧ K.lookup cd = some oco ∧ oco.data = .fields vs ∧ vs[2]? = some (.str d.file tf) := by
        unfold filB at k4
        split at k4
        · rename_i cd
          split at k4
          · rename_i x1 x2 vs x4 hl
            unfold fldB at k4
            split at k4
            · rename_i f t hv
              have k4 : f = d.file := by simpa using k4
              subst k4
              exact ⟨cd, _, vs, t, rfl, hl, rfl, hv⟩
            · cases k4
          · cases k4
        · cases k4
      exact ⟨_, ⟨oc, od, n12, n9, n10, n11, n14, cd, cc, osl, ocl, oco, vs, d.file, tf, rfl, q, k1, l1, l2, m1, m2, m3, hf⟩, kp⟩
    | _ => cases c2
/-! ### the hook -/
def obsS (fa : List Chk) (fn : List He5.DefA) (fs : List DefS) (K : PySem.W.Frag) : He.AlD := (((fa.all fun f => f K) && fn.all fun d => d.ok K) && fs.all fun d => d.ok K, (fn.map fun d => He5.fnA K (d.at_ K)) ++ fs.map fun d => fnB K (d.at_ K))
def valS (fn : List He5.DefA) (fs : List DefS) : He.AlD := (true, fn.map He5.DefA.val ++ fs.map DefS.val)
def SaysS (fa : List Chk) (fn : List He5.DefA) (fs : List DefS) (K : PySem.W.Frag) : Prop := obsS fa fn fs K = valS fn fs
/-- the same over given addresses (ZL.lean finds those that are needed) -/
def obsSL (L : List Addr) (fa : List Chk) (fn : List He5.DefA) (fs : List DefS) (g : Addr → Option Obj) : He.AlD := obsS fa fn fs (He.frG g L)
def hookSL (L : List Addr) (fa : List Chk) (fn : List He5.DefA) (fs : List DefS) : PySem.W.Hook where
  α := He.AlD
  obs := fun z => obsSL L fa fn fs z.heap.get?
  val := fun _ => valS fn fs
  says := fun _ z => ∃ J : PySem.W.Frag, J.In z ∧ SaysS fa fn fs J
  of := fun _ _ e => ⟨_, He.frG_in, e⟩
  keeps := fun _ _ _ ⟨J, hJ, c⟩ k => ⟨J, PySem.W.Frag.In.keeps hJ k, c⟩
theorem obsSL_eq {L : List Addr} {fa : List Chk} {fn : List He5.DefA} {fs : List DefS} {g : Addr → Option Obj} {z : Shared} (h : ∀ a, g a = z.heap.get? a) : obsSL L fa fn fs g = (hookSL L fa fn fs).obs z := by
  have e : g = z.heap.get? := funext h
  rw [e] <;> rfl
section
variable {fa : List Chk} {fn : List He5.DefA} {fs : List DefS} {K : PySem.W.Frag}
theorem SaysS.parts (c : SaysS fa fn fs K) : SaysY fa fn K ∧ (fs.all fun d => d.ok K) = true ∧ (fs.map fun d => fnB K (d.at_ K)) = fs.map DefS.val := by
  have c1 : (((fa.all fun f => f K) && fn.all fun d => d.ok K) && fs.all fun d => d.ok K) = true := congrArg (fun z : He.AlD => z.1) c
  have c2 : (fn.map fun d => He5.fnA K (d.at_ K)) ++ fs.map (fun d => fnB K (d.at_ K)) = fn.map He5.DefA.val ++ fs.map DefS.val := congrArg (fun z : He.AlD => z.2) c
  obtain ⟨h1, h2⟩ := He.ba c1
  obtain ⟨e1, e2⟩ := List.append_inj c2 (by rw [List.length_map, List.length_map])
  exact ⟨Prod.ext h1 e1, h2, e2⟩
theorem SaysS.toY (c : SaysS fa fn fs K) : SaysY fa fn K := c.parts.1
theorem SaysS.sup (c : SaysS fa fn fs K) (P : Program) (i : Nat) {d : DefS} (hf : ((P.main.file : Str) == d.file) = true) (h : fs[i]? = some d := by rfl) : ∃ fd, FunS K P d.name d.qual d.params d.body d.scope (d.cls K) (d.at_ K) fd := by
  obtain ⟨_, c2, e⟩ := c.parts
  have e2 : (fs.map fun d => fnB K (d.at_ K))[i]? = (fs.map DefS.val)[i]? := by rw [e]
  rw [List.getElem?_map, List.getElem?_map, h] at e2
  exact DefS.funS (Option.some.inj e2) (List.all_eq_true.mp c2 d (List.mem_of_getElem? h)) hf
end
/-! ### the class behind -/
def aloB (K : PySem.W.Frag) (C D : Addr) (m : Str) (f2 : Addr) : Bool := match PySem.W.clsIn K C with
  | some cd => (match PySem.W.alongIn K m ((cd.mro.dropWhile (· != .ref D)).drop 1) with
    | some (some (.ref a)) => a == f2
    | _ => false)
  | _ => false
def mroB (K : PySem.W.Frag) (C D : Addr) : Bool := match PySem.W.mroIn K C (.ref D) with
  | some true => true
  | _ => false
def isClB (K : PySem.W.Frag) (D : Addr) : Bool := match K.lookup D with
  | some ⟨_, _, .cls _, _⟩ => true
  | _ => false
def isFuB (K : PySem.W.Frag) (f : Addr) : Bool := match K.lookup f with
  | some ⟨.type n, _, _, _⟩ => n == "function"
  | _ => false
def opqB (K : PySem.W.Frag) : Bool := match PySem.W.nsIn K cStatics "thirdparty.any" with
  | some none => true
  | _ => false
def supB (K : PySem.W.Frag) (C D : Addr) (m : Str) (f2 : Addr) : Bool := aloB K C D m f2 && (mroB K C D && (isClB K D && (isFuB K f2 && (PySem.W.fnIn K f2 && opqB K))))
theorem supB_ok {K : PySem.W.Frag} {C D f2 : Addr} {m : Str} (h : supB K C D m f2 = true) : SupTo K C D m f2 := by
  obtain ⟨h1, h⟩ := He.ba h
  obtain ⟨h2, h⟩ := He.ba h
  obtain ⟨h3, h⟩ := He.ba h
  obtain ⟨h4, h⟩ := He.ba h
  obtain ⟨h5, h6⟩ := He.ba h
  refine ⟨?_, ?_, ?_, ?_, h5, ?_⟩
  · unfold aloB at h1
    split at h1
    · rename_i cd hcd
      refine ⟨cd, hcd, ?_⟩
      split at h1
      · rename_i a ha
        have h1 : a = f2 := by simpa using h1
        rw [ha, h1]
      · cases h1
    · cases h1
  · unfold mroB at h2
    split at h2
    · assumption
    · cases h2
  · unfold isClB at h3
    split at h3
    · rename_i a b c d hl
      exact ⟨_, _, hl, rfl⟩
    · cases h3
  · unfold isFuB at h4
    split at h4
    · rename_i n b c d hl
      have h4 : n = "function" := by simpa using h4
      subst h4
      exact ⟨_, hl, rfl⟩
    · cases h4
  · unfold opqB at h6
    split at h6
    · assumption
    · cases h6
end G
set_option Elab.async false
set_option linter.all false
set_option maxRecDepth 100000
set_option maxHeartbeats 4000000
/-! C() of a class without __init__; o.m(..) on an object of one of several classes. -/
namespace G
open PySem PySem.Spec PyProof.Rows L2 NdefX
/-- a class of the text that has object's __init__ -/
structure Mk0 (K : PySem.W.Frag) (C : Addr) : Prop where
  makes : PySem.W.makesIn K C = true
  init : PySem.W.findIn K (.ref C) "__init__" = some (some (.builtin "object.__init__"))
  top : PySem.W.mroIn K C (.type "object") = some true
  kp : PySem.W.keepIn K (.ref C) = true
def mk0B (K : PySem.W.Frag) (C : Addr) : Bool := PySem.W.makesIn K C && ((match PySem.W.findIn K (.ref C) "__init__" with
  | some (some (.builtin n)) => n == "object.__init__"
  | _ => false) && ((match PySem.W.mroIn K C (.type "object") with
  | some true => true
  | _ => false) && PySem.W.keepIn K (.ref C)))
theorem mk0B_ok {K : PySem.W.Frag} {C : Addr} (h : mk0B K C = true) : Mk0 K C := by
  obtain ⟨h1, h⟩ := He.ba h
  obtain ⟨h2, h⟩ := He.ba h
  obtain ⟨h3, h4⟩ := He.ba h
  refine ⟨h1, ?_, ?_, h4⟩
  · split at h2
    · rename_i n hn
      have h2 : n = "object.__init__" := by simpa using h2
      rw [hn, h2]
    · cases h2
  · split at h3
    · assumption
    · cases h3
def tMk0 (C : Addr) : TE := fun _ H Q => ∀ x dx, H x = none → H dx = none → dx ≠ x → Q (.ref x) (upd (upd H dx (.own x)) x (.ins C dx []))
section
variable {X : Cx} {C : Addr} {x : Str} {p pos : Pos} {j : Nat}
theorem run_mk0 {pn : List (Addr × Obj)} {τ : L2.St} {H0 : Hp} {sh : Shared} {R : VK} (M : Mk0 X.K C) (I : Inv X pn τ H0 sh)
    (h : ∀ x dx, H0 x = none → H0 dx = none → dx ≠ x → R (.ref x) (upd (upd H0 dx (.own x)) x (.ins C dx []))) :
    wpAny (model X.prog X.w) X.A (call (.ref C) []) (EP X pn τ R) X.xe sh := by
  have q0 := h (sh.heap.objs.size + 1) sh.heap.objs.size (I.hok.fresh (Nat.le_succ _)) (I.hok.fresh (Nat.le_refl _)) (Nat.ne_of_lt (Nat.lt_succ_self _))
  have J := Inv.made (C := C) I
  refine wpAny_call (make_map0 I.kIn M.makes M.init (fun self => PySem.W.Looks.of_pure (PySem.W.oi_bind self)) ?_)
  obtain ⟨hh, g, d, t, os⟩ := sh
  have e2 : ((hh.push PySem.W.emptyDict).push (PySem.W.instObj C hh.objs.size)).get? (hh.objs.size + 1) = some (PySem.W.instObj C hh.objs.size) := by
    have := Heap.get?_push_size (hh.push PySem.W.emptyDict) (o := PySem.W.instObj C hh.objs.size) rfl
    rwa [Heap.size_push] at this
  have t1 : PySem.W.Looks (model X.prog X.w) ((hh.push PySem.W.emptyDict).push (PySem.W.instObj C hh.objs.size)) (typeOf (.ref (hh.objs.size + 1))) (.ref C) := (PySem.W.Looks.ld e2).andThen .now
  have t2 : PySem.W.Looks (model X.prog X.w) ((hh.push PySem.W.emptyDict).push (PySem.W.instObj C hh.objs.size)) (isInstance (.ref (hh.objs.size + 1)) (.type "object")) true := t1.andThen (PySem.W.looks_mroIn J.kIn M.top)
  refine codeAny_call_builtin PySem.W.oi_plain PySem.W.entry_oi (@PySem.W.check_slot (model X.prog X.w) _ _ _ "object.__init__" "object" "__init__" (.ref (hh.objs.size + 1)) [] [] _ PySem.W.oi_kind PySem.W.oi_split t2 (PySem.W.oi_args (.ref (hh.objs.size + 1))) ?_)
  rw [PySem.W.oi_run]
  exact wpAny_pure (And.intro rfl ⟨V.ref (hh.objs.size + 1), _, J, rfl, q0⟩)
theorem pe_mk0 (M : Mk0 X.K C) (hm : X.mg x = some (.ref C)) (hg : Gl X x := by rfl) (hdb : (x == ("__debug__" : Str)) = false := by decide) : PE X (.Call (.Name x p) [] [] pos) (tMk0 C) :=
  ⟨fun pn s τ H Q I h => wpAny_Call_Name_kw (ld_glob I hg hm (PySem.W.callWith_K0 I.kIn M.kp (run_mk0 M I h)) hdb)⟩
end
/-- o.m(..), o of one of the classes in L; each has its promise -/
def tMtD (L : List (Addr × Sp)) (m : Str) (E : L2.St → XK) (ta : TE) (t : TA) : TE := fun σ H Q => ta σ H fun x H1 => ∃ C sp, (C, sp) ∈ L ∧ ∃ a dx fs, x = .ref a ∧ H1 a = some (.ins C dx fs) ∧ fs.lookup m = none ∧ t σ H1 fun vs H2 => sp (x :: vs) H2 Q (E σ)
section
variable {X : Cx} {L : List (Addr × Sp)} {m : Str} {E : L2.St → XK} {ta : TE} {t : TA} {o e : Expr} {es : List Expr} {apos pos : Pos} {j k : Nat}
theorem pe_mtD {pl : Sem Bool} (c : ∀ q ∈ L, (∃ ps, Met X.prog X.w X.K X.mg X.base k q.1 m ps q.2) ∧ Cls X.K q.1) (hr : Room j X.A) (hk : k ≤ j) (hx : PAt X E) (he : PE X o ta) (ha : PA X (e :: es) t)
    (hst : starEach (e :: es) X.env = (false, eval e X.env) :: starEach es X.env := by rfl) (hpl : (backTo pos (starEach es X.env)).any (·.1) = false := by rfl)
    (ht : eval (.Call (.Attribute o m apos) (e :: es) [] pos) X.env = (do
      let ov ← eval o X.env
      standAt apos.atName
      let (f, first) ← holding [ov] (getMethod ov m pl)
      callWith pos f first (backTo pos (starEach (e :: es) X.env)) (backToKw pos (keywordEach [] X.env))) := by rfl) : PE X (.Call (.Attribute o m apos) (e :: es) [] pos) (tMtD L m E ta t) := by
  refine ⟨fun pins s σ H Q I h => PySem.W.methodCall_KW (pl := pl) (thn (he.run pins s σ H _ I h) fun u s1 hh => ?_) ht⟩
  obtain ⟨x, H1, I1, rx, C, sp, hC, a, dx, fs, ex, ea, l, q⟩ := hh
  obtain ⟨⟨ps, cm⟩, cl⟩ := c _ hC
  obtain ⟨f, fd, F, hm, hb⟩ := cm.ex
  subst ex
  obtain rfl : u = Value.ref a := rx
  refine getmeth_ok I1 ea cl hm l (PySem.W.callWith_K (first := [.ref a]) (h₀ := X.base) I.ok.mod.kin hm.kp (thn (ha.run pos pins s1 σ H1 _ I1 q) fun us s2 hh => ?_) hst hpl)
  obtain ⟨vs, H2, I2, r, q2⟩ := hh
  exact ⟨I2.kIn, run_fnS (us := .ref a :: us) (vs := .ref a :: vs) F (hr.mono hk) hb (hx σ) I2 (.cons rfl r) q2⟩
end
/-! ### text constants of a class, read by the class or by an object -/
def ccsB (x f : Str) (v : Str) (K : PySem.W.Frag) : Bool := PySem.W.readsIn K (He.ga K x) (.type "type") && (He.eqO (PySem.W.specialIn K (.ref (He.ga K x)) "__getattribute__") (some (some (.builtin "type.__getattribute__"))) &&
  (match PySem.W.findCls K (.ref (He.ga K x)) (.type "type") f with
  | some (.val (.str j _)) => decide (j = v)
  | _ => false))
theorem ccsB_ok {K : PySem.W.Frag} {x f v : Str} (q : ccsB x f v K = true) : ∃ mc u, ClX.CRead K (He.ga K x) mc ∧ ClX.CVal K (He.ga K x) mc f (.str v) u := by
  obtain ⟨q1, q⟩ := He.ba q
  obtain ⟨q2, q3⟩ := He.ba q
  have q4 : (match PySem.W.findCls K (.ref (He.ga K x)) (.type "type") f with
    | some (.val (.str j _)) => decide (j = v)
    | _ => false) = true := q3
  split at q4
  · rename_i j t e
    have ej : j = v := of_decide_eq_true q4
    subst ej
    exact ⟨_, _, ⟨q1, He.eqO_ok q2⟩, ⟨e, ⟨t, rfl⟩⟩⟩
  · cases q4
def conB (x f : Str) (v : Str) (K : PySem.W.Frag) : Bool := (match PySem.W.findIn K (.ref (He.ga K x)) f with
  | some (some (.str j t)) => decide (j = v) && (match PySem.W.specialIn K (.str j t) "__get__" with
    | some none => true
    | _ => false)
  | _ => false) && !PySem.W.copiedNames.contains f
theorem conB_ok {K : PySem.W.Frag} {x f v : Str} (q : conB x f v K = true) : ∃ u, Con K (He.ga K x) f (.str v) u := by
  obtain ⟨q1, q2⟩ := He.ba q
  split at q1
  · rename_i j t e
    obtain ⟨a, b⟩ := He.ba q1
    have ej : j = v := of_decide_eq_true a
    subst ej
    split at b
    · rename_i hs
      exact ⟨_, e, ⟨t, rfl⟩, hs, by simpa using q2⟩
    · cases b
  · cases q1
/-! ### the reading of a method that begins with y = super().m(..) -/
def tSup (K : PySem.W.Frag) (D : Addr) (m : Str) (f2 : Addr) (sp2 : Sp) (E : XK) (i : Nat) (t : TA) (u : TS) : TS := fun Dn σ H => ∃ x0 C dx fs, σ[0]? = some (some (.ref x0)) ∧ H x0 = some (.ins C dx fs) ∧ SupTo K C D m f2 ∧ t σ H fun us H1 => sp2 (.ref x0 :: us) H1 (fun v H2 => u Dn (σ.set i (some v)) H2) E
section
variable {P : Program} {w : World} {K : PySem.W.Frag} {mg : Str → Option Value} {base : Heap} {x qual m y sf : Str} {params : Arguments} {body rest : List Stmt} {scope : Scope} {D f f2 : Addr} {fd fd2 : FuncData} {N ps ps2 : List Str} {k k2 i : Nat} {sp sp2 : Sp} {e : Expr} {es : List Expr} {p0 p1 apos pos py pa : Pos} {ar : Arg}
theorem startF_0 {vs : List V} {x0 : V} {ws : List (Option V)} (hp : 0 < vs.length) (h : (startF N vs ws)[0]? = some (some x0)) : vs[0]? = some x0 := by
  unfold startF at h
  rw [List.getElem?_append_left (by rw [List.length_map]; exact hp), List.getElem?_map] at h
  cases z : vs[0]? with
  | none => rw [z] at h; cases h
  | some a => rw [z] at h; injection h
theorem FunS.okT (F : FunS K P x qual params body scope D f fd) (S : NScope N ps ["__class__"] scope) (len : ∀ vs H Q E, sp vs H Q E → vs.length = ps.length) (hp : 0 < ps.length)
    (hbody : body = .Assign [.Name y py] (.Call (.Attribute (.Call (.Name "super" p0) [] [] p1) m apos) (e :: es) [] pos) pa :: rest)
    (F2 : FnOk P w K mg base (L2N.CX P w) k2 f2 fd2 ps2 sp2) (hk : k2 ≤ k) (hb2 : Binds K fd2 ps2 [])
    (hpar : (params.posonlyargs ++ params.args).head? = some ar) (hsf : ar.arg = sf) (hN0 : N[0]? = some sf) (hsl : scope.names.lookup sf = some .local)
    (hks : scope.names.lookup ("super" : Str) = some .globalImplicit) (hgs : mg "super" = none) (htop : (P.main.scope.names.lookup ("super" : Str)).isSome = false)
    (hat : (m == ("__class__" : Str)) = false) (hi : N[i]? = some y) (hyl : scope.names.lookup y = some .local)
    (hsyn : ∀ X : Cx, X.env.scope = scope → starEach (e :: es) X.env = (false, eval e X.env) :: starEach es X.env ∧ (backTo pos (starEach es X.env)).any (·.1) = false ∧
        (∃ pl : Sem Bool, eval (.Call (.Attribute (.Call (.Name "super" p0) [] [] p1) m apos) (e :: es) [] pos) X.env = (do
          let ov ← attributeBase (.Call (.Name "super" p0) [] [] p1) m X.env (eval (.Call (.Name "super" p0) [] [] p1) X.env)
          standAt apos.atName
          let (g, first) ← holding [ov] (getMethod ov m pl)
          callWith pos g first (backTo pos (starEach (e :: es) X.env)) [])) ∧
        swapsWith (.Call (.Attribute (.Call (.Name "super" p0) [] [] p1) m apos) (e :: es) [] pos) (some (.Name y py)) pa.line X.env = pure false)
    (hrd : ∀ (c cc : Addr) (A : Around) (outer : List Env) (s : Shared) (H : Hp) (vs : List V) (Q : VK) (E : XK), Room k (A.deeper (envF (nfS x qual params body scope c cc) f s.heap.objs.size)) → sp vs H Q E →
      ∃ (t : TA) (u : TS), PA (ncx (L2N.CX P w) P w K mg base N (nfS x qual params body scope c cc) f A outer s H E) (e :: es) t ∧ PSs (ncx (L2N.CX P w) P w K mg base N (nfS x qual params body scope c cc) f A outer s H E) rest u ∧
        PAt (ncx (L2N.CX P w) P w K mg base N (nfS x qual params body scope c cc) f A outer s H E) (fun _ => E) ∧
        tSup K D m f2 sp2 E i t u { nx := fun _ H' => Q .non H', rt := Q } (startF N vs [some (.ref D)]) H) :
    FnOk P w K mg base (L2N.CX P w) (k + 1) f fd ps sp := by
  refine FunS.ok F S len hbody F2 hk hb2 hpar hsf hN0 hsl hks hgs htop hat hi hyl fun c cc A outer s H vs Q E hr hs => ?_
  obtain ⟨t, u, ha, hu, hx, x0, C, dx, fs, h0, hx0, st, q⟩ := hrd c cc A outer s H vs Q E hr hs
  obtain ⟨s1, s2, ⟨pl, s3⟩, s4⟩ := hsyn (ncx (L2N.CX P w) P w K mg base N (nfS x qual params body scope c cc) f A outer s H E) rfl
  exact ⟨t, u, x0, C, dx, fs, pl, ha, hu, hx, s1, s2, s3, s4, startF_0 (by rw [len _ _ _ _ hs]; exact hp) h0, hx0, st, q⟩
end
/-! ### four classes -/
theorem Met.up {P : Program} {w : World} {K : PySem.W.Frag} {mg : Str → Option Value} {base : Heap} {k j : Nat} {C : Addr} {m : Str} {ps : List Str} {sp : Sp} (c : Met P w K mg base k C m ps sp) (h : k ≤ j) : Met P w K mg base j C m ps sp := by
  obtain ⟨f, fd, F, hm, hb⟩ := c.ex
  exact ⟨f, fd, F.mono h, hm, hb⟩
theorem poly4 {P : Program} {w : World} {K : PySem.W.Frag} {mg : Str → Option Value} {base : Heap} {k1 k2 k3 k : Nat} {C1 C2 C3 C4 : Addr} {m : Str} {p1 p2 p3 p4 : List Str} {s1 s2 s3 s4 : Sp}
    (c1 : Met P w K mg base k1 C1 m p1 s1) (l1 : Cls K C1) (c2 : Met P w K mg base k2 C2 m p2 s2) (l2 : Cls K C2) (c3 : Met P w K mg base k3 C3 m p3 s3) (l3 : Cls K C3) (c4 : Met P w K mg base k C4 m p4 s4) (l4 : Cls K C4) (h1 : k1 ≤ k) (h2 : k2 ≤ k) (h3 : k3 ≤ k) :
    ∀ q ∈ [(C1, s1), (C2, s2), (C3, s3), (C4, s4)], (∃ ps, Met P w K mg base k q.1 m ps q.2) ∧ Cls K q.1 := by
  intro q hq
  simp only [List.mem_cons, List.not_mem_nil, or_false] at hq
  rcases hq with rfl | rfl | rfl | rfl
  · exact ⟨⟨_, c1.up h1⟩, l1⟩
  · exact ⟨⟨_, c2.up h2⟩, l2⟩
  · exact ⟨⟨_, c3.up h3⟩, l3⟩
  · exact ⟨⟨_, c4⟩, l4⟩
/-! ### C.m(..), m a plain def of the class C -/
structure Cfn (P : Program) (w : World) (K : PySem.W.Frag) (mg : Str → Option Value) (base : Heap) (k : Nat) (C : Addr) (m : Str) (ps : List Str) (sp : Sp) : Prop where
  ex : ∃ (f : Addr) (fd : FuncData), FnOk P w K mg base (L2N.CX P w) k f fd ps sp ∧ ClX.CRead K C (.type "type") ∧ PySem.W.findCls K (.ref C) (.type "type") m = some (.val (.ref f)) ∧ PySem.W.keepIn K (.ref f) = true ∧ Binds K fd ps []
section
variable {X : Cx} {j k : Nat} {m : Str} {ps : List Str} {sp : Sp} {C : Addr} {pos apos : Pos} {e o : Expr} {es : List Expr} {t : TA} {E : L2.St → XK}
theorem pe_cf {pl : Sem Bool} (c : Cfn X.prog X.w X.K X.mg X.base k C m ps sp) (hr : Room j X.A) (hk : k ≤ j) (hx : PAt X E) (he : PE X o (tC (.ref C))) (ha : PA X (e :: es) t)
    (hst : starEach (e :: es) X.env = (false, eval e X.env) :: starEach es X.env := by rfl) (hpl : (backTo pos (starEach es X.env)).any (·.1) = false := by rfl)
    (ht : eval (.Call (.Attribute o m apos) (e :: es) [] pos) X.env = (do
      let ov ← eval o X.env
      standAt apos.atName
      let (f, first) ← holding [ov] (getMethod ov m pl)
      callWith pos f first (backTo pos (starEach (e :: es) X.env)) (backToKw pos (keywordEach [] X.env))) := by rfl) : PE X (.Call (.Attribute o m apos) (e :: es) [] pos) (tCl sp E t) := by
  obtain ⟨f, fd, F, r, e1, kp, hb⟩ := c.ex
  refine ⟨fun pins s σ H Q I h => PySem.W.methodCall_KW (pl := pl) (thn (he.run pins s σ H (fun x H1 => x = V.ref C ∧ tCl sp E t σ H1 Q) I ⟨rfl, h⟩) fun u s1 hh => ?_) ht⟩
  obtain ⟨x, H1, I1, rx, ex, q⟩ := hh
  subst ex
  obtain rfl : u = Value.ref C := rx
  refine PySem.W.method_cls I1.kIn r.ga (PySem.W.cls_value I1.kIn r.rd e1 rfl ?_)
  have I2 := I1.tok (s1.toks + 1)
  refine PySem.W.callWith_K (first := []) (h₀ := X.base) I2.ok.mod.kin kp (thn (ha.run pos pins _ σ H1 _ I2 q) fun us s2 hh => ?_) hst hpl
  obtain ⟨vs, H2, I3, rv, q2⟩ := hh
  exact ⟨I3.kIn, run_fnS (E := E) (us := us) (vs := vs) F (hr.mono hk) hb (hx σ) I3 rv q2⟩
end
/-- C.m is the plain def at ma C m -/
def cfB (x m : Str) (K : PySem.W.Frag) : Bool := PySem.W.readsIn K (He.ga K x) (.type "type") && (He.eqO (PySem.W.specialIn K (.ref (He.ga K x)) "__getattribute__") (some (some (.builtin "type.__getattribute__"))) &&
  (match PySem.W.findCls K (.ref (He.ga K x)) (.type "type") m with
  | some (.val (.ref f)) => f == He.fAd K (x, some m)
  | _ => false))
theorem cfB_ok {K : PySem.W.Frag} {x m : Str} (q : cfB x m K = true) : ClX.CRead K (He.ga K x) (.type "type") ∧ PySem.W.findCls K (.ref (He.ga K x)) (.type "type") m = some (.val (.ref (He.fAd K (x, some m)))) := by
  obtain ⟨q1, q⟩ := He.ba q
  obtain ⟨q2, q3⟩ := He.ba q
  refine ⟨⟨q1, He.eqO_ok q2⟩, ?_⟩
  split at q3
  · rename_i f hf
    have q3 : f = He.fAd K (x, some m) := by simpa using q3
    rw [hf, q3]
  · cases q3
/-- the __init__ of an error with three fields that calls the __init__ of its base for the first two -/
theorem ini3b {K : PySem.W.Frag} {f g h : Str} {vs : List V} {H : Hp} {Q : VK} {E : XK} {N : List Str} (hN : N.length = 4) (hh : spIn K [f, g, h] vs H Q E) :
    (tSeq (tDrop (tCl (spIn K [f, g]) (fun _ => E) (tCons (tVar 0) (tCons (tVar 1) (tCons (tVar 2) tNil))))) (tOst K h (tVar 0) (tVar 3))) { nx := fun _ H' => Q .non H', rt := Q } (start N vs) H := by
  obtain ⟨a, C, us, rfl, hl, T, hno, ha, q⟩ := hh
  match us, hl with
  | [v1, v2, v3], _ =>
    match N, hN with
    | [_, _, _, _], _ =>
      refine ⟨_, rfl, _, rfl, _, rfl, ⟨a, C, [v1, v2], rfl, rfl, T, fun x hx => hno x (by simp at hx ⊢; rcases hx with r | r <;> simp [r]), ha, fun dx H' hd ne h1 h2 h3 => ?_⟩⟩
      refine ⟨_, rfl, _, rfl, a, C, rfl, T, hno h (by simp), Or.inr ⟨dx, [(g, v2), (f, v1)], h1, h2, by show 2 ≤ 900; decide, ?_⟩⟩
      refine q dx _ hd ne ?_ upd_same fun b n1 n2 => ?_
      · rw [upd_ne (Ne.symm ne)]
        exact h1
      · rw [upd_ne n2]
        exact h3 b n1 n2
end G
set_option Elab.async false
set_option linter.all false
set_option maxRecDepth 100000
set_option maxHeartbeats 4000000
/-! f(e, ..): a def with keyword-only parameters, called without them. -/
namespace G
open PySem PySem.Spec PyProof.Rows L2
structure CalD (P : Program) (w : World) (K : PySem.W.Frag) (mg : Str → Option Value) (base : Heap) (k : Nat) (x : Str) (ps : List Str) (n : Nat) (dvs : List V) (sp : Sp) : Prop where
  ex : ∃ (f : Addr) (fd : FuncData) (g : List Value → List Value → List Value), FnOk P w K mg base (L2N.CX P w) k f fd ps sp ∧ mg x = some (.ref f) ∧ PySem.W.keepIn K (.ref f) = true ∧ KBn K fd ps n [] g (fun vs _ => vs ++ dvs)
def tClD (n : Nat) (sp : Sp) (dvs : List V) (E : L2.St → XK) (t : TA) : TE := fun σ H Q => t σ H fun vs H1 => vs.length = n ∧ sp (vs ++ dvs) H1 Q (E σ)
section
variable {X : Cx} {j k n : Nat} {x : Str} {ps : List Str} {dvs : List V} {sp : Sp} {E : L2.St → XK} {p pos : Pos} {e : Expr} {es : List Expr} {t : TA}
theorem pe_clD (c : CalD X.prog X.w X.K X.mg X.base k x ps n dvs sp) (hr : Room j X.A) (hk : k ≤ j) (hx : PAt X E) (ha : PA X (e :: es) t) (hg : Gl X x := by rfl) (hdb : (x == ("__debug__" : Str)) = false := by decide)
    (he : starEach (e :: es) X.env = (false, eval e X.env) :: starEach es X.env := by rfl) (hpl : (backTo pos (starEach es X.env)).any (·.1) = false := by rfl) : PE X (.Call (.Name x p) (e :: es) [] pos) (tClD n sp dvs E t) := by
  obtain ⟨f, fd, g, F, hm, kp, hb⟩ := c.ex
  refine ⟨fun pn s τ H Q I h => wpAny_Call_Name_kw (ld_glob I hg hm ?_ hdb)⟩
  refine PySem.W.callWith_K (h₀ := X.base) I.ok.mod.kin kp (thn (ha.run pos pn s τ H _ I h) fun us s1 hh => ?_) he hpl
  obtain ⟨vs, H1, I1, r, l1, q⟩ := hh
  exact ⟨I1.kIn, run_fnK (ks := []) (ws := []) (zs := []) F (hr.mono hk) hb (hx τ) I1 r .nil l1 rfl q⟩
end
section
variable {K : PySem.W.Frag} {x qual : Str} {params : Arguments} {body : List Stmt} {scope : Scope} {kws : List (Str × V)} {f : Addr} {fd : FuncData} {ps : List Str}
theorem kbn_def (F : FunD K x qual params body scope [] kws f fd) (n : Nat) (hk : kws ≠ [])
    (h : ∀ (D : Addr) (doc pm : Value) (an : Option Addr) (cdv ct : Value) (us mv : List Value), us.length = n → mv.length = kws.length →
      KwChain D ((kws.map (·.1)).zip mv) (bindArgs (PySem.W.fnOf x qual params body scope .none (.ref D) doc pm an cdv ct) ⟨us, []⟩) (ps.zip (us ++ mv))) :
    ∃ g : List Value → List Value → List Value, KBn K fd ps n [] g (fun vs _ => vs ++ kws.map (·.2)) := by
  obtain ⟨mv, hb⟩ := F.kbinds0 n [] kws (fun us ms _ => us ++ ms) hk (fun q hq => hq) (fun r1 r2 _ => r1.append r2) fun D doc pm an cdv ct us mv ws l1 l2 l3 => h D doc pm an cdv ct us mv l1 l2
  exact ⟨_, hb⟩
end
end G
set_option Elab.async false
set_option linter.all false
set_option maxRecDepth 100000
set_option maxHeartbeats 4000000
namespace G
open PySem PySem.Spec PyProof.Rows L2
def top (i : Nat) : Stmt := PySem.Challenge.pw_latelink_k47_whole_saving_mode_and_losse.main.body.getD i (.Pass ⟨0, 0, 0, 0⟩)
abbrev s__law_put : Stmt := top 62
abbrev s__law_start : Stmt := top 61
abbrev s__law_states : Stmt := top 66
abbrev s__law_book : Stmt := top 69
abbrev s__law_box : Stmt := top 58
abbrev s__law_draw : Stmt := top 59
abbrev s__law_log : Stmt := top 68
abbrev s__law_bent : Stmt := top 74
abbrev s_check_size : Stmt := top 17
abbrev s_Links___init__ : Stmt := inClass (top 16) 1
abbrev s_Links_is_legal : Stmt := inClass (top 16) 11
abbrev s_check_operation : Stmt := top 18
abbrev s_Links_check : Stmt := inClass (top 16) 12
abbrev s_Links_apply_at : Stmt := inClass (top 16) 14
abbrev s_Links_left : Stmt := inClass (top 16) 7
abbrev s_Links_right : Stmt := inClass (top 16) 8
abbrev s_check_gap : Stmt := top 35
abbrev s_gap_state : Stmt := top 30
abbrev s_gap_states : Stmt := top 31
abbrev s__certificates : Stmt := top 56
abbrev s_loss_certificate : Stmt := top 54
abbrev s__law_paper : Stmt := top 72
abbrev s__law_same : Stmt := top 60
abbrev s_is_plain_integer : Stmt := top 52
abbrev s_is_loss_certificate : Stmt := top 55
abbrev s__law_papers : Stmt := top 75
abbrev s__law_after : Stmt := top 64
abbrev s__law_dump : Stmt := top 65
abbrev s__law_twin : Stmt := top 63
abbrev s__law_refuser : Stmt := top 67
abbrev s__law_firsts : Stmt := top 70
abbrev s_Links_outs : Stmt := inClass (top 16) 10
abbrev s__joined : Stmt := top 21
abbrev s_dump_of : Stmt := top 20
abbrev s_Links_dump : Stmt := inClass (top 16) 21
abbrev s_Links___str__ : Stmt := inClass (top 16) 6
abbrev s_Links_apply : Stmt := inClass (top 16) 13
abbrev s_Links_is_out : Stmt := inClass (top 16) 9
abbrev s__has_fitting_neighbours : Stmt := top 49
abbrev s_foreign_writes : Stmt := top 33
abbrev s_left_to : Stmt := top 34
abbrev s__leaves_a_gap_to_a_holder_that_is_in : Stmt := top 48
abbrev s__loses_a_gap : Stmt := top 47
abbrev s_FreeMode_refusal : Stmt := inClass (top 37) 1
abbrev s_SavingMode_refusal : Stmt := inClass (top 38) 1
abbrev s_GuardedMode_refusal : Stmt := inClass (top 39) 1
abbrev s_CheckedMode_refusal : Stmt := inClass (top 40) 1
abbrev s_check_admitted : Stmt := top 46
abbrev s_all_modes : Stmt := top 42
abbrev s_mode_named : Stmt := top 41
abbrev s_replay_in : Stmt := top 44
abbrev s__law_in_saving : Stmt := top 71
abbrev s_lost_gaps : Stmt := top 32
abbrev s_first_loss : Stmt := top 51
abbrev s_Links_copy : Stmt := inClass (top 16) 19
abbrev s_play : Stmt := top 28
abbrev s_replay : Stmt := top 27
abbrev s_first_refusal : Stmt := top 45
abbrev s__law_refusals : Stmt := top 73
abbrev s_admits : Stmt := top 43
abbrev s__law_saved : Stmt := top 76
abbrev s_law : Stmt := top 77
abbrev s_BadGap___init__ : Stmt := inClass (top 9) 0
abbrev s_BadMode___init__ : Stmt := inClass (top 10) 0
abbrev s_BadNode___init__ : Stmt := inClass (top 8) 0
abbrev s_BadSize___init__ : Stmt := inClass (top 7) 0
abbrev s_LogError___init__ : Stmt := inClass (top 3) 0
abbrev s_NotLost___init__ : Stmt := inClass (top 12) 0
abbrev s_Refused___init__ : Stmt := inClass (top 6) 0
theorem sc__law_put : FnScope ["state", "deed", "node", "low", "high"] ["state", "deed"] (defScope s__law_put) := ⟨rfl, rfl, rfl, by decide +kernel, rfl, by decide +kernel, by decide +kernel⟩
theorem sc__law_start : FnScope ["many", "v"] ["many"] (defScope s__law_start) := ⟨rfl, rfl, rfl, by decide +kernel, rfl, by decide +kernel, by decide +kernel⟩
theorem sc__law_states : FnScope ["state", "rows", "v", "near", "far"] ["state"] (defScope s__law_states) := ⟨rfl, rfl, rfl, by decide +kernel, rfl, by decide +kernel, by decide +kernel⟩
theorem sc__law_book : FnScope ["many", "row", "state", "since", "found", "before", "k", "after", "v"] ["many", "row"] (defScope s__law_book) := ⟨rfl, rfl, rfl, by decide +kernel, rfl, by decide +kernel, by decide +kernel⟩
theorem sc__law_box : FnScope ["script", "start", "cells", "seed", "cell"] ["script", "start"] (defScope s__law_box) := ⟨rfl, rfl, rfl, by decide +kernel, rfl, by decide +kernel, by decide +kernel⟩
theorem sc__law_draw : FnScope ["box", "many", "cell", "rest"] ["box", "many"] (defScope s__law_draw) := ⟨rfl, rfl, rfl, by decide +kernel, rfl, by decide +kernel, by decide +kernel⟩
theorem sc__law_log : FnScope ["box", "many", "limit", "row", "low", "at", "outs", "deed", "wide", "k", "node"] ["box", "many", "limit"] (defScope s__law_log) := ⟨rfl, rfl, rfl, by decide +kernel, rfl, by decide +kernel, by decide +kernel⟩
theorem sc__law_bent : FnScope ["box", "many", "found", "paper", "at"] ["box", "many", "found"] (defScope s__law_bent) := ⟨rfl, rfl, rfl, by decide +kernel, rfl, by decide +kernel, by decide +kernel⟩
theorem sc_check_size : FnScope ["size"] ["size"] (defScope s_check_size) := ⟨rfl, rfl, rfl, by decide +kernel, rfl, by decide +kernel, by decide +kernel⟩
theorem sc_Links___init__ : FnScope ["self", "size"] ["self", "size"] (defScope s_Links___init__) := ⟨rfl, rfl, rfl, by decide +kernel, rfl, by decide +kernel, by decide +kernel⟩
theorem sc_Links_is_legal : FnScope ["self", "operation"] ["self", "operation"] (defScope s_Links_is_legal) := ⟨rfl, rfl, rfl, by decide +kernel, rfl, by decide +kernel, by decide +kernel⟩
theorem sc_check_operation : FnScope ["size", "operation", "index"] ["size", "operation", "index"] (defScope s_check_operation) := ⟨rfl, rfl, rfl, by decide +kernel, rfl, by decide +kernel, by decide +kernel⟩
theorem sc_Links_check : FnScope ["self", "operation", "index"] ["self", "operation", "index"] (defScope s_Links_check) := ⟨rfl, rfl, rfl, by decide +kernel, rfl, by decide +kernel, by decide +kernel⟩
theorem sc_Links_apply_at : FnScope ["self", "operation", "index", "node", "low", "high", "is_unlink"] ["self", "operation", "index"] (defScope s_Links_apply_at) := ⟨rfl, rfl, rfl, by decide +kernel, rfl, by decide +kernel, by decide +kernel⟩
theorem sc_Links_left : FnScope ["self", "node"] ["self", "node"] (defScope s_Links_left) := ⟨rfl, rfl, rfl, by decide +kernel, rfl, by decide +kernel, by decide +kernel⟩
theorem sc_Links_right : FnScope ["self", "node"] ["self", "node"] (defScope s_Links_right) := ⟨rfl, rfl, rfl, by decide +kernel, rfl, by decide +kernel, by decide +kernel⟩
theorem sc_check_gap : FnScope ["size", "gap"] ["size", "gap"] (defScope s_check_gap) := ⟨rfl, rfl, rfl, by decide +kernel, rfl, by decide +kernel, by decide +kernel⟩
theorem sc_gap_state : FnScope ["links", "gap", "is_held_left", "is_held_right"] ["links", "gap"] (defScope s_gap_state) := ⟨rfl, rfl, rfl, by decide +kernel, rfl, by decide +kernel, by decide +kernel⟩
theorem sc_gap_states : FnScope ["links", "gap"] ["links"] (defScope s_gap_states) := ⟨rfl, rfl, rfl, by decide +kernel, rfl, by decide +kernel, by decide +kernel⟩
theorem sc__certificates : FnScope ["size", "log", "links", "states", "changes", "index", "operation", "before", "gap", "state", "_"] ["size", "log"] (defScope s__certificates) := ⟨rfl, rfl, rfl, by decide +kernel, rfl, by decide +kernel, by decide +kernel⟩
theorem sc_loss_certificate : FnScope ["size", "log", "certificates"] ["size", "log"] (defScope s_loss_certificate) := ⟨rfl, rfl, rfl, by decide +kernel, rfl, by decide +kernel, by decide +kernel⟩
theorem sc__law_paper : FnScope ["many", "row", "told", "raised"] ["many", "row"] (defScope s__law_paper) := ⟨rfl, rfl, rfl, by decide +kernel, rfl, by decide +kernel, by decide +kernel⟩
theorem sc__law_same : FnScope ["told", "due", "k"] ["told", "due"] (defScope s__law_same) := ⟨rfl, rfl, rfl, by decide +kernel, rfl, by decide +kernel, by decide +kernel⟩
theorem sc_is_plain_integer : FnScope ["value"] ["value"] (defScope s_is_plain_integer) := ⟨rfl, rfl, rfl, by decide +kernel, rfl, by decide +kernel, by decide +kernel⟩
theorem sc_is_loss_certificate : FnScope ["size", "log", "value", "certificates", "member"] ["size", "log", "value"] (defScope s_is_loss_certificate) := ⟨rfl, rfl, rfl, by decide +kernel, rfl, by decide +kernel, by decide +kernel⟩
theorem sc__law_papers : FnScope ["box", "many", "row", "found", "given", "due", "one", "part", "least", "wrong", "k", "paper", "other"] ["box", "many", "row", "found"] (defScope s__law_papers) := ⟨rfl, rfl, rfl, by decide +kernel, rfl, by decide +kernel, by decide +kernel⟩
theorem sc__law_after : FnScope ["many", "row", "state", "deed"] ["many", "row"] (defScope s__law_after) := ⟨rfl, rfl, rfl, by decide +kernel, rfl, by decide +kernel, by decide +kernel⟩
theorem sc__law_dump : FnScope ["state", "outs", "rights", "lefts", "v"] ["state"] (defScope s__law_dump) := ⟨rfl, rfl, rfl, by decide +kernel, rfl, by decide +kernel, by decide +kernel⟩
theorem sc__law_twin : FnScope ["state"] ["state"] (defScope s__law_twin) := ⟨rfl, rfl, rfl, by decide +kernel, rfl, by decide +kernel, by decide +kernel⟩
theorem sc__law_refuser : FnScope ["state", "deed", "node", "low", "high", "before", "then", "after", "v"] ["state", "deed"] (defScope s__law_refuser) := ⟨rfl, rfl, rfl, by decide +kernel, rfl, by decide +kernel, by decide +kernel⟩
theorem sc__law_firsts : FnScope ["many", "row", "state", "firsts", "k", "level", "m"] ["many", "row"] (defScope s__law_firsts) := ⟨rfl, rfl, rfl, by decide +kernel, rfl, by decide +kernel, by decide +kernel⟩
theorem sc_Links_outs : FnScope ["self", "node"] ["self"] (defScope s_Links_outs) := ⟨rfl, rfl, rfl, by decide +kernel, rfl, by decide +kernel, by decide +kernel⟩
theorem sc__joined : FnScope ["numbers", "number"] ["numbers"] (defScope s__joined) := ⟨rfl, rfl, rfl, by decide +kernel, rfl, by decide +kernel, by decide +kernel⟩
theorem sc_dump_of : FnScope ["rights", "lefts", "outs"] ["rights", "lefts", "outs"] (defScope s_dump_of) := ⟨rfl, rfl, rfl, by decide +kernel, rfl, by decide +kernel, by decide +kernel⟩
theorem sc_Links_dump : FnScope ["self"] ["self"] (defScope s_Links_dump) := ⟨rfl, rfl, rfl, by decide +kernel, rfl, by decide +kernel, by decide +kernel⟩
theorem sc_Links___str__ : FnScope ["self"] ["self"] (defScope s_Links___str__) := ⟨rfl, rfl, rfl, by decide +kernel, rfl, by decide +kernel, by decide +kernel⟩
theorem sc_Links_apply : FnScope ["self", "operation"] ["self", "operation"] (defScope s_Links_apply) := ⟨rfl, rfl, rfl, by decide +kernel, rfl, by decide +kernel, by decide +kernel⟩
theorem sc_Links_is_out : FnScope ["self", "node"] ["self", "node"] (defScope s_Links_is_out) := ⟨rfl, rfl, rfl, by decide +kernel, rfl, by decide +kernel, by decide +kernel⟩
theorem sc__has_fitting_neighbours : FnScope ["links", "operation", "node", "low", "high"] ["links", "operation"] (defScope s__has_fitting_neighbours) := ⟨rfl, rfl, rfl, by decide +kernel, rfl, by decide +kernel, by decide +kernel⟩
theorem sc_foreign_writes : FnScope ["links", "operation", "node", "low", "high", "written"] ["links", "operation"] (defScope s_foreign_writes) := ⟨rfl, rfl, rfl, by decide +kernel, rfl, by decide +kernel, by decide +kernel⟩
theorem sc_left_to : FnScope ["operation", "gap"] ["operation", "gap"] (defScope s_left_to) := ⟨rfl, rfl, rfl, by decide +kernel, rfl, by decide +kernel, by decide +kernel⟩
theorem sc__leaves_a_gap_to_a_holder_that_is_in : FnScope ["links", "operation", "gap"] ["links", "operation"] (defScope s__leaves_a_gap_to_a_holder_that_is_in) := ⟨rfl, rfl, rfl, by decide +kernel, rfl, by decide +kernel, by decide +kernel⟩
theorem sc__loses_a_gap : FnScope ["links", "operation", "gap"] ["links", "operation"] (defScope s__loses_a_gap) := ⟨rfl, rfl, rfl, by decide +kernel, rfl, by decide +kernel, by decide +kernel⟩
theorem sc_FreeMode_refusal : FnScope ["self", "links", "operation"] ["self", "links", "operation"] (defScope s_FreeMode_refusal) := ⟨rfl, rfl, rfl, by decide +kernel, rfl, by decide +kernel, by decide +kernel⟩
theorem sc_SavingMode_refusal : NdefX.NScope ["self", "links", "operation", "__class__", "refusing"] ["self", "links", "operation"] ["__class__"] (defScope s_SavingMode_refusal) := NdefX.nscope_by (by decide +kernel)
theorem sc_GuardedMode_refusal : NdefX.NScope ["self", "links", "operation", "__class__", "refusing"] ["self", "links", "operation"] ["__class__"] (defScope s_GuardedMode_refusal) := NdefX.nscope_by (by decide +kernel)
theorem sc_CheckedMode_refusal : NdefX.NScope ["self", "links", "operation", "__class__", "refusing"] ["self", "links", "operation"] ["__class__"] (defScope s_CheckedMode_refusal) := NdefX.nscope_by (by decide +kernel)
theorem sc_check_admitted : FnScope ["links", "operation", "index", "judge", "refusing"] ["links", "operation", "index", "judge"] (defScope s_check_admitted) := ⟨rfl, rfl, rfl, by decide +kernel, rfl, by decide +kernel, by decide +kernel⟩
theorem sc_all_modes : FnScope [] [] (defScope s_all_modes) := ⟨rfl, rfl, rfl, by decide +kernel, rfl, by decide +kernel, by decide +kernel⟩
theorem sc_mode_named : FnScope ["mode", "known"] ["mode"] (defScope s_mode_named) := ⟨rfl, rfl, rfl, by decide +kernel, rfl, by decide +kernel, by decide +kernel⟩
theorem sc_replay_in : FnScope ["size", "log", "mode", "links", "judge", "index", "operation"] ["size", "log", "mode"] (defScope s_replay_in) := ⟨rfl, rfl, rfl, by decide +kernel, rfl, by decide +kernel, by decide +kernel⟩
theorem sc__law_in_saving : FnScope ["many", "row", "links", "raised", "deed"] ["many", "row"] (defScope s__law_in_saving) := ⟨rfl, rfl, rfl, by decide +kernel, rfl, by decide +kernel, by decide +kernel⟩
theorem sc_lost_gaps : FnScope ["links", "gap", "state"] ["links"] (defScope s_lost_gaps) := ⟨rfl, rfl, rfl, by decide +kernel, rfl, by decide +kernel, by decide +kernel⟩
theorem sc_first_loss : FnScope ["size", "log", "links", "loss", "index", "operation", "lost"] ["size", "log"] (defScope s_first_loss) := ⟨rfl, rfl, rfl, by decide +kernel, rfl, by decide +kernel, by decide +kernel⟩
theorem sc_Links_copy : FnScope ["self", "twin"] ["self"] (defScope s_Links_copy) := ⟨rfl, rfl, rfl, by decide +kernel, rfl, by decide +kernel, by decide +kernel⟩
theorem sc_play : FnScope ["links", "log", "after", "index", "operation"] ["links", "log"] (defScope s_play) := ⟨rfl, rfl, rfl, by decide +kernel, rfl, by decide +kernel, by decide +kernel⟩
theorem sc_replay : FnScope ["size", "log"] ["size", "log"] (defScope s_replay) := ⟨rfl, rfl, rfl, by decide +kernel, rfl, by decide +kernel, by decide +kernel⟩
theorem sc_first_refusal : FnScope ["size", "log", "mode", "judge", "links", "index", "operation"] ["size", "log", "mode"] (defScope s_first_refusal) := ⟨rfl, rfl, rfl, by decide +kernel, rfl, by decide +kernel, by decide +kernel⟩
theorem sc__law_refusals : FnScope ["many", "row", "found", "names", "given", "due", "firsts", "m", "end", "at", "ahead"] ["many", "row", "found"] (defScope s__law_refusals) := ⟨rfl, rfl, rfl, by decide +kernel, rfl, by decide +kernel, by decide +kernel⟩
theorem sc_admits : FnScope ["links", "operation", "mode"] ["links", "operation", "mode"] (defScope s_admits) := ⟨rfl, rfl, rfl, by decide +kernel, rfl, by decide +kernel, by decide +kernel⟩
theorem sc__law_saved : FnScope ["many", "row", "state", "saved", "missed", "deed", "node", "now", "at", "part", "links", "before", "told", "one"] ["many", "row"] (defScope s__law_saved) := ⟨rfl, rfl, rfl, by decide +kernel, rfl, by decide +kernel, by decide +kernel⟩
theorem sc_law : FnScope ["script", "box", "many", "limit", "row", "found"] ["script"] (defScope s_law) := ⟨rfl, rfl, rfl, by decide +kernel, rfl, by decide +kernel, by decide +kernel⟩
theorem sc_BadGap___init__ : FnScope ["self", "gap"] ["self", "gap"] (defScope s_BadGap___init__) := ⟨rfl, rfl, rfl, by decide +kernel, rfl, by decide +kernel, by decide +kernel⟩
theorem sc_BadMode___init__ : FnScope ["self", "name"] ["self", "name"] (defScope s_BadMode___init__) := ⟨rfl, rfl, rfl, by decide +kernel, rfl, by decide +kernel, by decide +kernel⟩
theorem sc_BadNode___init__ : FnScope ["self", "node"] ["self", "node"] (defScope s_BadNode___init__) := ⟨rfl, rfl, rfl, by decide +kernel, rfl, by decide +kernel, by decide +kernel⟩
theorem sc_BadSize___init__ : FnScope ["self", "size"] ["self", "size"] (defScope s_BadSize___init__) := ⟨rfl, rfl, rfl, by decide +kernel, rfl, by decide +kernel, by decide +kernel⟩
theorem sc_LogError___init__ : FnScope ["self", "operation", "index"] ["self", "operation", "index"] (defScope s_LogError___init__) := ⟨rfl, rfl, rfl, by decide +kernel, rfl, by decide +kernel, by decide +kernel⟩
theorem sc_NotLost___init__ : FnScope ["self", "size"] ["self", "size"] (defScope s_NotLost___init__) := ⟨rfl, rfl, rfl, by decide +kernel, rfl, by decide +kernel, by decide +kernel⟩
theorem sc_Refused___init__ : FnScope ["self", "operation", "index", "refusing"] ["self", "operation", "index", "refusing"] (defScope s_Refused___init__) := ⟨rfl, rfl, rfl, by decide +kernel, rfl, by decide +kernel, by decide +kernel⟩
def d__law_put : He5.DefA := ⟨fun K => He.fAd K ("_law_put", none), "_law_put", "_law_put", defArgs s__law_put, defBody s__law_put, defScope s__law_put, [], []⟩
def d__law_start : He5.DefA := ⟨fun K => He.fAd K ("_law_start", none), "_law_start", "_law_start", defArgs s__law_start, defBody s__law_start, defScope s__law_start, [], []⟩
def d__law_states : He5.DefA := ⟨fun K => He.fAd K ("_law_states", none), "_law_states", "_law_states", defArgs s__law_states, defBody s__law_states, defScope s__law_states, [], []⟩
def d__law_book : He5.DefA := ⟨fun K => He.fAd K ("_law_book", none), "_law_book", "_law_book", defArgs s__law_book, defBody s__law_book, defScope s__law_book, [], []⟩
def d__law_box : He5.DefA := ⟨fun K => He.fAd K ("_law_box", none), "_law_box", "_law_box", defArgs s__law_box, defBody s__law_box, defScope s__law_box, [], []⟩
def d__law_draw : He5.DefA := ⟨fun K => He.fAd K ("_law_draw", none), "_law_draw", "_law_draw", defArgs s__law_draw, defBody s__law_draw, defScope s__law_draw, [], []⟩
def d__law_log : He5.DefA := ⟨fun K => He.fAd K ("_law_log", none), "_law_log", "_law_log", defArgs s__law_log, defBody s__law_log, defScope s__law_log, [], []⟩
def d__law_bent : He5.DefA := ⟨fun K => He.fAd K ("_law_bent", none), "_law_bent", "_law_bent", defArgs s__law_bent, defBody s__law_bent, defScope s__law_bent, [], []⟩
def d_check_size : He5.DefA := ⟨fun K => He.fAd K ("check_size", none), "check_size", "check_size", defArgs s_check_size, defBody s_check_size, defScope s_check_size, [], []⟩
def d_Links___init__ : He5.DefA := ⟨fun K => He.fAd K ("Links", some "__init__"), "__init__", "Links.__init__", defArgs s_Links___init__, defBody s_Links___init__, defScope s_Links___init__, [], []⟩
def d_Links_is_legal : He5.DefA := ⟨fun K => He.fAd K ("Links", some "is_legal"), "is_legal", "Links.is_legal", defArgs s_Links_is_legal, defBody s_Links_is_legal, defScope s_Links_is_legal, [], []⟩
def d_check_operation : He5.DefA := ⟨fun K => He.fAd K ("check_operation", none), "check_operation", "check_operation", defArgs s_check_operation, defBody s_check_operation, defScope s_check_operation, [], []⟩
def d_Links_check : He5.DefA := ⟨fun K => He.fAd K ("Links", some "check"), "check", "Links.check", defArgs s_Links_check, defBody s_Links_check, defScope s_Links_check, [], []⟩
def d_Links_apply_at : He5.DefA := ⟨fun K => He.fAd K ("Links", some "apply_at"), "apply_at", "Links.apply_at", defArgs s_Links_apply_at, defBody s_Links_apply_at, defScope s_Links_apply_at, [], []⟩
def d_Links_left : He5.DefA := ⟨fun K => He.fAd K ("Links", some "left"), "left", "Links.left", defArgs s_Links_left, defBody s_Links_left, defScope s_Links_left, [], []⟩
def d_Links_right : He5.DefA := ⟨fun K => He.fAd K ("Links", some "right"), "right", "Links.right", defArgs s_Links_right, defBody s_Links_right, defScope s_Links_right, [], []⟩
def d_check_gap : He5.DefA := ⟨fun K => He.fAd K ("check_gap", none), "check_gap", "check_gap", defArgs s_check_gap, defBody s_check_gap, defScope s_check_gap, [], []⟩
def d_gap_state : He5.DefA := ⟨fun K => He.fAd K ("gap_state", none), "gap_state", "gap_state", defArgs s_gap_state, defBody s_gap_state, defScope s_gap_state, [], []⟩
def d_gap_states : He5.DefA := ⟨fun K => He.fAd K ("gap_states", none), "gap_states", "gap_states", defArgs s_gap_states, defBody s_gap_states, defScope s_gap_states, [], []⟩
def d__certificates : He5.DefA := ⟨fun K => He.fAd K ("_certificates", none), "_certificates", "_certificates", defArgs s__certificates, defBody s__certificates, defScope s__certificates, [], []⟩
def d_loss_certificate : He5.DefA := ⟨fun K => He.fAd K ("loss_certificate", none), "loss_certificate", "loss_certificate", defArgs s_loss_certificate, defBody s_loss_certificate, defScope s_loss_certificate, [], []⟩
def d__law_paper : He5.DefA := ⟨fun K => He.fAd K ("_law_paper", none), "_law_paper", "_law_paper", defArgs s__law_paper, defBody s__law_paper, defScope s__law_paper, [], []⟩
def d__law_same : He5.DefA := ⟨fun K => He.fAd K ("_law_same", none), "_law_same", "_law_same", defArgs s__law_same, defBody s__law_same, defScope s__law_same, [], []⟩
def d_is_plain_integer : He5.DefA := ⟨fun K => He.fAd K ("is_plain_integer", none), "is_plain_integer", "is_plain_integer", defArgs s_is_plain_integer, defBody s_is_plain_integer, defScope s_is_plain_integer, [], []⟩
def d_is_loss_certificate : He5.DefA := ⟨fun K => He.fAd K ("is_loss_certificate", none), "is_loss_certificate", "is_loss_certificate", defArgs s_is_loss_certificate, defBody s_is_loss_certificate, defScope s_is_loss_certificate, [], []⟩
def d__law_papers : He5.DefA := ⟨fun K => He.fAd K ("_law_papers", none), "_law_papers", "_law_papers", defArgs s__law_papers, defBody s__law_papers, defScope s__law_papers, [], []⟩
def d__law_after : He5.DefA := ⟨fun K => He.fAd K ("_law_after", none), "_law_after", "_law_after", defArgs s__law_after, defBody s__law_after, defScope s__law_after, [], []⟩
def d__law_dump : He5.DefA := ⟨fun K => He.fAd K ("_law_dump", none), "_law_dump", "_law_dump", defArgs s__law_dump, defBody s__law_dump, defScope s__law_dump, [], []⟩
def d__law_twin : He5.DefA := ⟨fun K => He.fAd K ("_law_twin", none), "_law_twin", "_law_twin", defArgs s__law_twin, defBody s__law_twin, defScope s__law_twin, [], []⟩
def d__law_refuser : He5.DefA := ⟨fun K => He.fAd K ("_law_refuser", none), "_law_refuser", "_law_refuser", defArgs s__law_refuser, defBody s__law_refuser, defScope s__law_refuser, [], []⟩
def d__law_firsts : He5.DefA := ⟨fun K => He.fAd K ("_law_firsts", none), "_law_firsts", "_law_firsts", defArgs s__law_firsts, defBody s__law_firsts, defScope s__law_firsts, [], []⟩
def d_Links_outs : He5.DefA := ⟨fun K => He.fAd K ("Links", some "outs"), "outs", "Links.outs", defArgs s_Links_outs, defBody s_Links_outs, defScope s_Links_outs, [], []⟩
def d__joined : He5.DefA := ⟨fun K => He.fAd K ("_joined", none), "_joined", "_joined", defArgs s__joined, defBody s__joined, defScope s__joined, [], []⟩
def d_dump_of : He5.DefA := ⟨fun K => He.fAd K ("dump_of", none), "dump_of", "dump_of", defArgs s_dump_of, defBody s_dump_of, defScope s_dump_of, [], []⟩
def d_Links_dump : He5.DefA := ⟨fun K => He.fAd K ("Links", some "dump"), "dump", "Links.dump", defArgs s_Links_dump, defBody s_Links_dump, defScope s_Links_dump, [], []⟩
def d_Links___str__ : He5.DefA := ⟨fun K => He.fAd K ("Links", some "__str__"), "__str__", "Links.__str__", defArgs s_Links___str__, defBody s_Links___str__, defScope s_Links___str__, [], []⟩
def d_Links_apply : He5.DefA := ⟨fun K => He.fAd K ("Links", some "apply"), "apply", "Links.apply", defArgs s_Links_apply, defBody s_Links_apply, defScope s_Links_apply, [], []⟩
def d_Links_is_out : He5.DefA := ⟨fun K => He.fAd K ("Links", some "is_out"), "is_out", "Links.is_out", defArgs s_Links_is_out, defBody s_Links_is_out, defScope s_Links_is_out, [], []⟩
def d__has_fitting_neighbours : He5.DefA := ⟨fun K => He.fAd K ("_has_fitting_neighbours", none), "_has_fitting_neighbours", "_has_fitting_neighbours", defArgs s__has_fitting_neighbours, defBody s__has_fitting_neighbours, defScope s__has_fitting_neighbours, [], []⟩
def d_foreign_writes : He5.DefA := ⟨fun K => He.fAd K ("foreign_writes", none), "foreign_writes", "foreign_writes", defArgs s_foreign_writes, defBody s_foreign_writes, defScope s_foreign_writes, [], []⟩
def d_left_to : He5.DefA := ⟨fun K => He.fAd K ("left_to", none), "left_to", "left_to", defArgs s_left_to, defBody s_left_to, defScope s_left_to, [], []⟩
def d__leaves_a_gap_to_a_holder_that_is_in : He5.DefA := ⟨fun K => He.fAd K ("_leaves_a_gap_to_a_holder_that_is_in", none), "_leaves_a_gap_to_a_holder_that_is_in", "_leaves_a_gap_to_a_holder_that_is_in", defArgs s__leaves_a_gap_to_a_holder_that_is_in, defBody s__leaves_a_gap_to_a_holder_that_is_in, defScope s__leaves_a_gap_to_a_holder_that_is_in, [], []⟩
def d__loses_a_gap : He5.DefA := ⟨fun K => He.fAd K ("_loses_a_gap", none), "_loses_a_gap", "_loses_a_gap", defArgs s__loses_a_gap, defBody s__loses_a_gap, defScope s__loses_a_gap, [], []⟩
def d_FreeMode_refusal : He5.DefA := ⟨fun K => He.fAd K ("FreeMode", some "refusal"), "refusal", "FreeMode.refusal", defArgs s_FreeMode_refusal, defBody s_FreeMode_refusal, defScope s_FreeMode_refusal, [], []⟩
def d_SavingMode_refusal : DefS := ⟨fun K => He.fAd K ("SavingMode", some "refusal"), "refusal", "SavingMode.refusal", defArgs s_SavingMode_refusal, defBody s_SavingMode_refusal, defScope s_SavingMode_refusal, fun K => He.ga K "SavingMode", PySem.Challenge.pw_latelink_k47_whole_saving_mode_and_losse.main.file⟩
def d_GuardedMode_refusal : DefS := ⟨fun K => He.fAd K ("GuardedMode", some "refusal"), "refusal", "GuardedMode.refusal", defArgs s_GuardedMode_refusal, defBody s_GuardedMode_refusal, defScope s_GuardedMode_refusal, fun K => He.ga K "GuardedMode", PySem.Challenge.pw_latelink_k47_whole_saving_mode_and_losse.main.file⟩
def d_CheckedMode_refusal : DefS := ⟨fun K => He.fAd K ("CheckedMode", some "refusal"), "refusal", "CheckedMode.refusal", defArgs s_CheckedMode_refusal, defBody s_CheckedMode_refusal, defScope s_CheckedMode_refusal, fun K => He.ga K "CheckedMode", PySem.Challenge.pw_latelink_k47_whole_saving_mode_and_losse.main.file⟩
def d_check_admitted : He5.DefA := ⟨fun K => He.fAd K ("check_admitted", none), "check_admitted", "check_admitted", defArgs s_check_admitted, defBody s_check_admitted, defScope s_check_admitted, [], []⟩
def d_all_modes : He5.DefA := ⟨fun K => He.fAd K ("all_modes", none), "all_modes", "all_modes", defArgs s_all_modes, defBody s_all_modes, defScope s_all_modes, [], []⟩
def d_mode_named : He5.DefA := ⟨fun K => He.fAd K ("mode_named", none), "mode_named", "mode_named", defArgs s_mode_named, defBody s_mode_named, defScope s_mode_named, [], []⟩
def d_replay_in : He5.DefA := ⟨fun K => He.fAd K ("replay_in", none), "replay_in", "replay_in", defArgs s_replay_in, defBody s_replay_in, defScope s_replay_in, [], [("mode", .str "free")]⟩
def d__law_in_saving : He5.DefA := ⟨fun K => He.fAd K ("_law_in_saving", none), "_law_in_saving", "_law_in_saving", defArgs s__law_in_saving, defBody s__law_in_saving, defScope s__law_in_saving, [], []⟩
def d_lost_gaps : He5.DefA := ⟨fun K => He.fAd K ("lost_gaps", none), "lost_gaps", "lost_gaps", defArgs s_lost_gaps, defBody s_lost_gaps, defScope s_lost_gaps, [], []⟩
def d_first_loss : He5.DefA := ⟨fun K => He.fAd K ("first_loss", none), "first_loss", "first_loss", defArgs s_first_loss, defBody s_first_loss, defScope s_first_loss, [], []⟩
def d_Links_copy : He5.DefA := ⟨fun K => He.fAd K ("Links", some "copy"), "copy", "Links.copy", defArgs s_Links_copy, defBody s_Links_copy, defScope s_Links_copy, [], []⟩
def d_play : He5.DefA := ⟨fun K => He.fAd K ("play", none), "play", "play", defArgs s_play, defBody s_play, defScope s_play, [], []⟩
def d_replay : He5.DefA := ⟨fun K => He.fAd K ("replay", none), "replay", "replay", defArgs s_replay, defBody s_replay, defScope s_replay, [], []⟩
def d_first_refusal : He5.DefA := ⟨fun K => He.fAd K ("first_refusal", none), "first_refusal", "first_refusal", defArgs s_first_refusal, defBody s_first_refusal, defScope s_first_refusal, [], [("mode", .str "free")]⟩
def d__law_refusals : He5.DefA := ⟨fun K => He.fAd K ("_law_refusals", none), "_law_refusals", "_law_refusals", defArgs s__law_refusals, defBody s__law_refusals, defScope s__law_refusals, [], []⟩
def d_admits : He5.DefA := ⟨fun K => He.fAd K ("admits", none), "admits", "admits", defArgs s_admits, defBody s_admits, defScope s_admits, [], [("mode", .str "free")]⟩
def d__law_saved : He5.DefA := ⟨fun K => He.fAd K ("_law_saved", none), "_law_saved", "_law_saved", defArgs s__law_saved, defBody s__law_saved, defScope s__law_saved, [], []⟩
def d_law : He5.DefA := ⟨fun K => He.fAd K ("law", none), "law", "law", defArgs s_law, defBody s_law, defScope s_law, [], []⟩
def d_BadGap___init__ : He5.DefA := ⟨fun K => He.fAd K ("BadGap", some "__init__"), "__init__", "BadGap.__init__", defArgs s_BadGap___init__, defBody s_BadGap___init__, defScope s_BadGap___init__, [], []⟩
def d_BadMode___init__ : He5.DefA := ⟨fun K => He.fAd K ("BadMode", some "__init__"), "__init__", "BadMode.__init__", defArgs s_BadMode___init__, defBody s_BadMode___init__, defScope s_BadMode___init__, [], []⟩
def d_BadNode___init__ : He5.DefA := ⟨fun K => He.fAd K ("BadNode", some "__init__"), "__init__", "BadNode.__init__", defArgs s_BadNode___init__, defBody s_BadNode___init__, defScope s_BadNode___init__, [], []⟩
def d_BadSize___init__ : He5.DefA := ⟨fun K => He.fAd K ("BadSize", some "__init__"), "__init__", "BadSize.__init__", defArgs s_BadSize___init__, defBody s_BadSize___init__, defScope s_BadSize___init__, [], []⟩
def d_LogError___init__ : He5.DefA := ⟨fun K => He.fAd K ("LogError", some "__init__"), "__init__", "LogError.__init__", defArgs s_LogError___init__, defBody s_LogError___init__, defScope s_LogError___init__, [], []⟩
def d_NotLost___init__ : He5.DefA := ⟨fun K => He.fAd K ("NotLost", some "__init__"), "__init__", "NotLost.__init__", defArgs s_NotLost___init__, defBody s_NotLost___init__, defScope s_NotLost___init__, [], []⟩
def d_Refused___init__ : He5.DefA := ⟨fun K => He.fAd K ("Refused", some "__init__"), "__init__", "Refused.__init__", defArgs s_Refused___init__, defBody s_Refused___init__, defScope s_Refused___init__, [], []⟩
def fnL : List He5.DefA := [d__law_put, d__law_start, d__law_states, d__law_book, d__law_box, d__law_draw, d__law_log, d__law_bent, d_check_size, d_Links___init__, d_Links_is_legal, d_check_operation, d_Links_check, d_Links_apply_at, d_Links_left, d_Links_right, d_check_gap, d_gap_state, d_gap_states, d__certificates, d_loss_certificate, d__law_paper, d__law_same, d_is_plain_integer, d_is_loss_certificate, d__law_papers, d__law_after, d__law_dump, d__law_twin, d__law_refuser, d__law_firsts, d_Links_outs, d__joined, d_dump_of, d_Links_dump, d_Links___str__, d_Links_apply, d_Links_is_out, d__has_fitting_neighbours, d_foreign_writes, d_left_to, d__leaves_a_gap_to_a_holder_that_is_in, d__loses_a_gap, d_FreeMode_refusal, d_check_admitted, d_all_modes, d_mode_named, d_replay_in, d__law_in_saving, d_lost_gaps, d_first_loss, d_Links_copy, d_play, d_replay, d_first_refusal, d__law_refusals, d_admits, d__law_saved, d_law, d_BadGap___init__, d_BadMode___init__, d_BadNode___init__, d_BadSize___init__, d_LogError___init__, d_NotLost___init__, d_Refused___init__]
def fsL : List DefS := [d_SavingMode_refusal, d_GuardedMode_refusal, d_CheckedMode_refusal]
def chkL : List Chk := [fa_ (.glo "LinkError"),
  fa_ (.glo "LogError"),
  fa_ (.glo "BadOperation"),
  fa_ (.glo "Illegal"),
  fa_ (.glo "Refused"),
  fa_ (.glo "BadSize"),
  fa_ (.glo "BadNode"),
  fa_ (.glo "BadGap"),
  fa_ (.glo "BadMode"),
  fa_ (.glo "BadDump"),
  fa_ (.glo "NotLost"),
  fa_ (.glo "Links"),
  fa_ (.glo "FreeMode"),
  fa_ (.glo "SavingMode"),
  fa_ (.glo "GuardedMode"),
  fa_ (.glo "CheckedMode"),
  fa_ (.glo "_law_put"),
  fa_ (.glo "_law_start"),
  fa_ (.glo "_law_states"),
  fa_ (.glo "_law_book"),
  fa_ (.glo "_law_box"),
  fa_ (.glo "_law_draw"),
  fa_ (.glo "_law_log"),
  fa_ (.glo "_law_bent"),
  fa_ (.glo "check_size"),
  fa_ (.glo "check_operation"),
  fa_ (.glo "check_gap"),
  fa_ (.glo "gap_state"),
  fa_ (.glo "gap_states"),
  fa_ (.glo "_certificates"),
  fa_ (.glo "loss_certificate"),
  fa_ (.glo "_law_paper"),
  fa_ (.glo "_law_same"),
  fa_ (.glo "is_plain_integer"),
  fa_ (.glo "is_loss_certificate"),
  fa_ (.glo "_law_papers"),
  fa_ (.glo "_law_after"),
  fa_ (.glo "_law_dump"),
  fa_ (.glo "_law_twin"),
  fa_ (.glo "_law_refuser"),
  fa_ (.glo "_law_firsts"),
  fa_ (.glo "_joined"),
  fa_ (.glo "dump_of"),
  fa_ (.glo "_has_fitting_neighbours"),
  fa_ (.glo "foreign_writes"),
  fa_ (.glo "left_to"),
  fa_ (.glo "_leaves_a_gap_to_a_holder_that_is_in"),
  fa_ (.glo "_loses_a_gap"),
  fa_ (.glo "check_admitted"),
  fa_ (.glo "all_modes"),
  fa_ (.glo "mode_named"),
  fa_ (.glo "replay_in"),
  fa_ (.glo "_law_in_saving"),
  fa_ (.glo "lost_gaps"),
  fa_ (.glo "first_loss"),
  fa_ (.glo "play"),
  fa_ (.glo "replay"),
  fa_ (.glo "first_refusal"),
  fa_ (.glo "_law_refusals"),
  fa_ (.glo "admits"),
  fa_ (.glo "_law_saved"),
  fa_ (.glo "law"),
  fa_ (.free "ValueError"),
  fa_ (.free "abs"),
  fa_ (.free "all"),
  fa_ (.free "any"),
  fa_ (.free "bool"),
  fa_ (.free "enumerate"),
  fa_ (.free "int"),
  fa_ (.free "isinstance"),
  fa_ (.free "len"),
  fa_ (.free "list"),
  fa_ (.free "min"),
  fa_ (.free "range"),
  fa_ (.free "sorted"),
  fa_ (.free "str"),
  fa_ (.free "super"),
  fa_ (.free "tuple"),
  fa_ (.str "DIGITS" "0123456789"),
  fa_ (.int "MOST_DIGITS" 9),
  ccsB "CheckedMode" "NAME" "checked",
  ccsB "GuardedMode" "NAME" "guarded",
  ccB "Links" "MOST" 60,
  ccsB "SavingMode" "NAME" "saving",
  conB "CheckedMode" "NAME" "checked",
  conB "FreeMode" "NAME" "free",
  conB "GuardedMode" "NAME" "guarded",
  conB "SavingMode" "NAME" "saving",
  (fun K => mk0B K (He.ga K "CheckedMode")),
  (fun K => mk0B K (He.ga K "FreeMode")),
  (fun K => mk0B K (He.ga K "GuardedMode")),
  (fun K => mk0B K (He.ga K "SavingMode")),
  (fun K => supB K (He.ga K "SavingMode") (He.ga K "SavingMode") "refusal" (He.fAd K ("FreeMode", some "refusal"))),
  (fun K => supB K (He.ga K "GuardedMode") (He.ga K "SavingMode") "refusal" (He.fAd K ("FreeMode", some "refusal"))),
  (fun K => supB K (He.ga K "CheckedMode") (He.ga K "SavingMode") "refusal" (He.fAd K ("FreeMode", some "refusal"))),
  (fun K => supB K (He.ga K "GuardedMode") (He.ga K "GuardedMode") "refusal" (He.fAd K ("SavingMode", some "refusal"))),
  (fun K => supB K (He.ga K "CheckedMode") (He.ga K "GuardedMode") "refusal" (He.fAd K ("SavingMode", some "refusal"))),
  (fun K => supB K (He.ga K "CheckedMode") (He.ga K "CheckedMode") "refusal" (He.fAd K ("GuardedMode", some "refusal"))),
  fa_ (.cls "Links"),
  tyB "Links",
  fa_ (.noat "Links" "_lefts"),
  fa_ (.noat "Links" "_out"),
  fa_ (.noat "Links" "_rights"),
  fa_ (.noat "Links" "size"),
  fa_ (.mkr "Links"),
  fa_ (.meth "Links" "is_legal"),
  fa_ (.meth "Links" "check"),
  fa_ (.meth "Links" "apply_at"),
  fa_ (.meth "Links" "left"),
  fa_ (.meth "Links" "right"),
  fa_ (.meth "Links" "outs"),
  fa_ (.meth "Links" "dump"),
  fa_ (.meth "Links" "__str__"),
  fa_ (.meth "Links" "apply"),
  fa_ (.meth "Links" "is_out"),
  fa_ (.meth "Links" "copy"),
  fa_ (.cls "FreeMode"),
  tyB "FreeMode",
  fa_ (.meth "FreeMode" "refusal"),
  fa_ (.cls "SavingMode"),
  tyB "SavingMode",
  fa_ (.meth "SavingMode" "refusal"),
  fa_ (.cls "GuardedMode"),
  tyB "GuardedMode",
  fa_ (.meth "GuardedMode" "refusal"),
  fa_ (.cls "CheckedMode"),
  tyB "CheckedMode",
  fa_ (.meth "CheckedMode" "refusal"),
  cfB "LogError" "__init__",
  askB "BadDump",
  askB "BadGap",
  askB "BadMode",
  askB "BadNode",
  askB "BadOperation",
  askB "BadSize",
  askB "Illegal",
  askB "LinkError",
  askB "LogError",
  askB "NotLost",
  askB "Refused",
  excB "BadGap" ["gap"],
  iniB "BadGap",
  kitB2 "BadGap" "BadDump" false,
  kitB2 "BadGap" "BadGap" true,
  kitB2 "BadGap" "BadMode" false,
  kitB2 "BadGap" "BadNode" false,
  kitB2 "BadGap" "BadOperation" false,
  kitB2 "BadGap" "BadSize" false,
  kitB2 "BadGap" "Illegal" false,
  kitB2 "BadGap" "LinkError" true,
  kitB2 "BadGap" "LogError" false,
  kitB2 "BadGap" "NotLost" false,
  exmB "BadGap" "NotLost" false,
  kitB2 "BadGap" "Refused" false,
  exmB "BadGap" "Refused" false,
  kitT2 "BadGap" "ValueError" true,
  excB "BadMode" ["name"],
  iniB "BadMode",
  kitB2 "BadMode" "BadDump" false,
  kitB2 "BadMode" "BadGap" false,
  kitB2 "BadMode" "BadMode" true,
  kitB2 "BadMode" "BadNode" false,
  kitB2 "BadMode" "BadOperation" false,
  kitB2 "BadMode" "BadSize" false,
  kitB2 "BadMode" "Illegal" false,
  kitB2 "BadMode" "LinkError" true,
  kitB2 "BadMode" "LogError" false,
  kitB2 "BadMode" "NotLost" false,
  exmB "BadMode" "NotLost" false,
  kitB2 "BadMode" "Refused" false,
  exmB "BadMode" "Refused" false,
  kitT2 "BadMode" "ValueError" true,
  excB "BadNode" ["node"],
  iniB "BadNode",
  kitB2 "BadNode" "BadDump" false,
  kitB2 "BadNode" "BadGap" false,
  kitB2 "BadNode" "BadMode" false,
  kitB2 "BadNode" "BadNode" true,
  kitB2 "BadNode" "BadOperation" false,
  kitB2 "BadNode" "BadSize" false,
  kitB2 "BadNode" "Illegal" false,
  kitB2 "BadNode" "LinkError" true,
  kitB2 "BadNode" "LogError" false,
  kitB2 "BadNode" "NotLost" false,
  exmB "BadNode" "NotLost" false,
  kitB2 "BadNode" "Refused" false,
  exmB "BadNode" "Refused" false,
  kitT2 "BadNode" "ValueError" true,
  excB "BadOperation" ["operation", "index"],
  iniB "BadOperation",
  (fun K => decide (He.ma K (He.ga K "BadOperation") "__init__" = He.ma K (He.ga K "LogError") "__init__")),
  kitB2 "BadOperation" "BadDump" false,
  kitB2 "BadOperation" "BadGap" false,
  kitB2 "BadOperation" "BadMode" false,
  kitB2 "BadOperation" "BadNode" false,
  kitB2 "BadOperation" "BadOperation" true,
  kitB2 "BadOperation" "BadSize" false,
  kitB2 "BadOperation" "Illegal" false,
  kitB2 "BadOperation" "LinkError" true,
  kitB2 "BadOperation" "LogError" true,
  kitB2 "BadOperation" "NotLost" false,
  exmB "BadOperation" "NotLost" false,
  kitB2 "BadOperation" "Refused" false,
  exmB "BadOperation" "Refused" false,
  kitT2 "BadOperation" "ValueError" true,
  excB "BadSize" ["size"],
  iniB "BadSize",
  kitB2 "BadSize" "BadDump" false,
  kitB2 "BadSize" "BadGap" false,
  kitB2 "BadSize" "BadMode" false,
  kitB2 "BadSize" "BadNode" false,
  kitB2 "BadSize" "BadOperation" false,
  kitB2 "BadSize" "BadSize" true,
  kitB2 "BadSize" "Illegal" false,
  kitB2 "BadSize" "LinkError" true,
  kitB2 "BadSize" "LogError" false,
  kitB2 "BadSize" "NotLost" false,
  exmB "BadSize" "NotLost" false,
  kitB2 "BadSize" "Refused" false,
  exmB "BadSize" "Refused" false,
  kitT2 "BadSize" "ValueError" true,
  excB "Illegal" ["operation", "index"],
  iniB "Illegal",
  (fun K => decide (He.ma K (He.ga K "Illegal") "__init__" = He.ma K (He.ga K "LogError") "__init__")),
  kitB2 "Illegal" "BadDump" false,
  kitB2 "Illegal" "BadGap" false,
  kitB2 "Illegal" "BadMode" false,
  kitB2 "Illegal" "BadNode" false,
  kitB2 "Illegal" "BadOperation" false,
  kitB2 "Illegal" "BadSize" false,
  kitB2 "Illegal" "Illegal" true,
  kitB2 "Illegal" "LinkError" true,
  kitB2 "Illegal" "LogError" true,
  kitB2 "Illegal" "NotLost" false,
  exmB "Illegal" "NotLost" false,
  kitB2 "Illegal" "Refused" false,
  exmB "Illegal" "Refused" false,
  kitT2 "Illegal" "ValueError" true,
  excB "NotLost" ["size"],
  iniB "NotLost",
  kitB2 "NotLost" "BadDump" false,
  kitB2 "NotLost" "BadGap" false,
  kitB2 "NotLost" "BadMode" false,
  kitB2 "NotLost" "BadNode" false,
  kitB2 "NotLost" "BadOperation" false,
  kitB2 "NotLost" "BadSize" false,
  kitB2 "NotLost" "Illegal" false,
  kitB2 "NotLost" "LinkError" true,
  kitB2 "NotLost" "LogError" false,
  kitB2 "NotLost" "NotLost" true,
  exmB "NotLost" "NotLost" true,
  kitB2 "NotLost" "Refused" false,
  exmB "NotLost" "Refused" false,
  kitT2 "NotLost" "ValueError" true,
  excB "Refused" ["operation", "index", "refusing"],
  iniB "Refused",
  kitB2 "Refused" "BadDump" false,
  kitB2 "Refused" "BadGap" false,
  kitB2 "Refused" "BadMode" false,
  kitB2 "Refused" "BadNode" false,
  kitB2 "Refused" "BadOperation" false,
  kitB2 "Refused" "BadSize" false,
  kitB2 "Refused" "Illegal" false,
  kitB2 "Refused" "LinkError" true,
  kitB2 "Refused" "LogError" true,
  kitB2 "Refused" "NotLost" false,
  exmB "Refused" "NotLost" false,
  kitB2 "Refused" "Refused" true,
  exmB "Refused" "Refused" true,
  kitT2 "Refused" "ValueError" true]
abbrev R : PySem.W.OpenRow := PySem.W.OpenLaw.row PySem.Challenge.rw_latelink_k47_whole_saving_mode_and_losse
def adL : List Addr := [2, 3, 30, 31, 47, 48, 50, 51, 62, 63, 74, 75, 90, 91, 93, 94, 109, 110, 112, 113, 128, 129, 131, 132, 147, 148, 150, 151, 166, 167, 169, 170, 188, 189, 204, 205, 207, 208, 223, 224, 261, 262, 268, 269, 275, 276, 282, 283, 287, 288, 294, 295, 301, 302, 308, 309, 315, 316, 350, 351, 364, 365, 367, 368, 378, 379, 385, 386, 397, 398, 402, 403, 429, 430, 436, 437, 443, 444, 448, 449, 453, 454, 460, 461, 467, 468, 474, 475, 488, 489, 491, 492, 500, 511, 512, 514, 515, 521, 532, 533, 535, 536, 542, 553, 554, 556, 557, 565, 566, 572, 573, 574, 580, 581, 582, 588, 589, 590, 596, 597, 603, 604, 608, 609, 613, 614, 620, 621, 627, 628, 634, 635, 641, 642, 646, 647, 651, 652, 656, 657, 663, 664, 670, 671, 675, 676, 682, 683, 689, 690, 696, 697, 701, 702, 708, 709, 713, 714, 718, 719, 725, 726, 732, 733, 739, 740, 746, 747, 753, 754, 760, 761, 765, 766, 772, 773, 779, 780]
abbrev hk : PySem.W.Hook := hookSL adL chkL fnL fsL
def ob (s : PySem.W.SharedT) : He.AlD := obsSL adL chkL fnL fsL (HandSHeadRun.getT s)
theorem ob_eq (s : PySem.W.SharedT) : ob s = hk.obs s.abs := obsSL_eq (HandSHeadRun.getT_eq s)
def loose0 : List Str := ["_wall", "__name__", "LinkError", "LogError", "BadOperation", "Illegal", "Refused", "BadSize", "BadNode", "BadGap", "BadMode", "BadDump", "NotLost", "DIGITS", "MOST_DIGITS", "Links", "check_size", "check_operation", "is_positive", "dump_of"]
def loose1 : List Str := ["_joined", "_read_numbers", "_read_rights", "_read_lefts", "_read_outs", "replay", "play", "gap_state", "gap_states", "lost_gaps", "foreign_writes", "left_to", "check_gap", "FreeMode", "SavingMode", "GuardedMode", "CheckedMode", "mode_named", "all_modes", "admits"]
def loose2 : List Str := ["replay_in", "first_refusal", "check_admitted", "_loses_a_gap", "_leaves_a_gap_to_a_holder_that_is_in", "_has_fitting_neighbours", "first_loss", "is_plain_integer", "loss_certificate", "is_loss_certificate", "_certificates", "_law_box", "_law_draw", "_law_same", "_law_start", "_law_put", "_law_twin", "_law_after", "_law_dump", "_law_states"]
def loose3 : List Str := ["_law_refuser", "_law_log", "_law_book", "_law_firsts", "_law_in_saving", "_law_paper", "_law_refusals", "_law_bent", "_law_papers", "_law_saved"]
def loose : List Str := loose0 ++ loose1 ++ loose2 ++ loose3
set_option maxHeartbeats 0 in
theorem run (w : World) : HandSHeadRun.RunEq R (PySem.W.view R.prog [77]) hk ob 8000 loose w := by
  intro os
  kernel_rfl
/-- what the top has written -/
structure Txt (K : PySem.W.Frag) (mg : Str → Option Value) : Prop where
  g_LinkError : mg "LinkError" = some (.ref (He.ga K "LinkError"))
  g_LogError : mg "LogError" = some (.ref (He.ga K "LogError"))
  g_BadOperation : mg "BadOperation" = some (.ref (He.ga K "BadOperation"))
  g_Illegal : mg "Illegal" = some (.ref (He.ga K "Illegal"))
  g_Refused : mg "Refused" = some (.ref (He.ga K "Refused"))
  g_BadSize : mg "BadSize" = some (.ref (He.ga K "BadSize"))
  g_BadNode : mg "BadNode" = some (.ref (He.ga K "BadNode"))
  g_BadGap : mg "BadGap" = some (.ref (He.ga K "BadGap"))
  g_BadMode : mg "BadMode" = some (.ref (He.ga K "BadMode"))
  g_BadDump : mg "BadDump" = some (.ref (He.ga K "BadDump"))
  g_NotLost : mg "NotLost" = some (.ref (He.ga K "NotLost"))
  g_Links : mg "Links" = some (.ref (He.ga K "Links"))
  g_FreeMode : mg "FreeMode" = some (.ref (He.ga K "FreeMode"))
  g_SavingMode : mg "SavingMode" = some (.ref (He.ga K "SavingMode"))
  g_GuardedMode : mg "GuardedMode" = some (.ref (He.ga K "GuardedMode"))
  g_CheckedMode : mg "CheckedMode" = some (.ref (He.ga K "CheckedMode"))
  gf__law_put : mg "_law_put" = some (.ref (He.ga K "_law_put"))
  gf__law_start : mg "_law_start" = some (.ref (He.ga K "_law_start"))
  gf__law_states : mg "_law_states" = some (.ref (He.ga K "_law_states"))
  gf__law_book : mg "_law_book" = some (.ref (He.ga K "_law_book"))
  gf__law_box : mg "_law_box" = some (.ref (He.ga K "_law_box"))
  gf__law_draw : mg "_law_draw" = some (.ref (He.ga K "_law_draw"))
  gf__law_log : mg "_law_log" = some (.ref (He.ga K "_law_log"))
  gf__law_bent : mg "_law_bent" = some (.ref (He.ga K "_law_bent"))
  gf_check_size : mg "check_size" = some (.ref (He.ga K "check_size"))
  gf_check_operation : mg "check_operation" = some (.ref (He.ga K "check_operation"))
  gf_check_gap : mg "check_gap" = some (.ref (He.ga K "check_gap"))
  gf_gap_state : mg "gap_state" = some (.ref (He.ga K "gap_state"))
  gf_gap_states : mg "gap_states" = some (.ref (He.ga K "gap_states"))
  gf__certificates : mg "_certificates" = some (.ref (He.ga K "_certificates"))
  gf_loss_certificate : mg "loss_certificate" = some (.ref (He.ga K "loss_certificate"))
  gf__law_paper : mg "_law_paper" = some (.ref (He.ga K "_law_paper"))
  gf__law_same : mg "_law_same" = some (.ref (He.ga K "_law_same"))
  gf_is_plain_integer : mg "is_plain_integer" = some (.ref (He.ga K "is_plain_integer"))
  gf_is_loss_certificate : mg "is_loss_certificate" = some (.ref (He.ga K "is_loss_certificate"))
  gf__law_papers : mg "_law_papers" = some (.ref (He.ga K "_law_papers"))
  gf__law_after : mg "_law_after" = some (.ref (He.ga K "_law_after"))
  gf__law_dump : mg "_law_dump" = some (.ref (He.ga K "_law_dump"))
  gf__law_twin : mg "_law_twin" = some (.ref (He.ga K "_law_twin"))
  gf__law_refuser : mg "_law_refuser" = some (.ref (He.ga K "_law_refuser"))
  gf__law_firsts : mg "_law_firsts" = some (.ref (He.ga K "_law_firsts"))
  gf__joined : mg "_joined" = some (.ref (He.ga K "_joined"))
  gf_dump_of : mg "dump_of" = some (.ref (He.ga K "dump_of"))
  gf__has_fitting_neighbours : mg "_has_fitting_neighbours" = some (.ref (He.ga K "_has_fitting_neighbours"))
  gf_foreign_writes : mg "foreign_writes" = some (.ref (He.ga K "foreign_writes"))
  gf_left_to : mg "left_to" = some (.ref (He.ga K "left_to"))
  gf__leaves_a_gap_to_a_holder_that_is_in : mg "_leaves_a_gap_to_a_holder_that_is_in" = some (.ref (He.ga K "_leaves_a_gap_to_a_holder_that_is_in"))
  gf__loses_a_gap : mg "_loses_a_gap" = some (.ref (He.ga K "_loses_a_gap"))
  gf_check_admitted : mg "check_admitted" = some (.ref (He.ga K "check_admitted"))
  gf_all_modes : mg "all_modes" = some (.ref (He.ga K "all_modes"))
  gf_mode_named : mg "mode_named" = some (.ref (He.ga K "mode_named"))
  gf_replay_in : mg "replay_in" = some (.ref (He.ga K "replay_in"))
  gf__law_in_saving : mg "_law_in_saving" = some (.ref (He.ga K "_law_in_saving"))
  gf_lost_gaps : mg "lost_gaps" = some (.ref (He.ga K "lost_gaps"))
  gf_first_loss : mg "first_loss" = some (.ref (He.ga K "first_loss"))
  gf_play : mg "play" = some (.ref (He.ga K "play"))
  gf_replay : mg "replay" = some (.ref (He.ga K "replay"))
  gf_first_refusal : mg "first_refusal" = some (.ref (He.ga K "first_refusal"))
  gf__law_refusals : mg "_law_refusals" = some (.ref (He.ga K "_law_refusals"))
  gf_admits : mg "admits" = some (.ref (He.ga K "admits"))
  gf__law_saved : mg "_law_saved" = some (.ref (He.ga K "_law_saved"))
  gf_law : mg "law" = some (.ref (He.ga K "law"))
  b_ValueError : mg "ValueError" = none
  b_abs : mg "abs" = none
  b_all : mg "all" = none
  b_any : mg "any" = none
  b_bool : mg "bool" = none
  b_enumerate : mg "enumerate" = none
  b_int : mg "int" = none
  b_isinstance : mg "isinstance" = none
  b_len : mg "len" = none
  b_list : mg "list" = none
  b_min : mg "min" = none
  b_range : mg "range" = none
  b_sorted : mg "sorted" = none
  b_str : mg "str" = none
  b_super : mg "super" = none
  b_tuple : mg "tuple" = none
  k_DIGITS : ∃ t, mg "DIGITS" = some (.str "0123456789" t)
  k_MOST_DIGITS : ∃ t, mg "MOST_DIGITS" = some (.int 9 t)
  cc_CheckedMode_NAME : ∃ mc u, ClX.CRead K (He.ga K "CheckedMode") mc ∧ ClX.CVal K (He.ga K "CheckedMode") mc "NAME" (.str "checked") u
  cc_GuardedMode_NAME : ∃ mc u, ClX.CRead K (He.ga K "GuardedMode") mc ∧ ClX.CVal K (He.ga K "GuardedMode") mc "NAME" (.str "guarded") u
  cc_Links_MOST : ∃ mc u, ClX.CRead K (He.ga K "Links") mc ∧ ClX.CVal K (He.ga K "Links") mc "MOST" (.int 60) u
  cc_SavingMode_NAME : ∃ mc u, ClX.CRead K (He.ga K "SavingMode") mc ∧ ClX.CVal K (He.ga K "SavingMode") mc "NAME" (.str "saving") u
  con_CheckedMode_NAME : ∃ u, Con K (He.ga K "CheckedMode") "NAME" (.str "checked") u
  con_FreeMode_NAME : ∃ u, Con K (He.ga K "FreeMode") "NAME" (.str "free") u
  con_GuardedMode_NAME : ∃ u, Con K (He.ga K "GuardedMode") "NAME" (.str "guarded") u
  con_SavingMode_NAME : ∃ u, Con K (He.ga K "SavingMode") "NAME" (.str "saving") u
  mk0_CheckedMode : Mk0 K (He.ga K "CheckedMode")
  mk0_FreeMode : Mk0 K (He.ga K "FreeMode")
  mk0_GuardedMode : Mk0 K (He.ga K "GuardedMode")
  mk0_SavingMode : Mk0 K (He.ga K "SavingMode")
  sup_SavingMode_SavingMode_refusal : SupTo K (He.ga K "SavingMode") (He.ga K "SavingMode") "refusal" (He.fAd K ("FreeMode", some "refusal"))
  sup_GuardedMode_SavingMode_refusal : SupTo K (He.ga K "GuardedMode") (He.ga K "SavingMode") "refusal" (He.fAd K ("FreeMode", some "refusal"))
  sup_CheckedMode_SavingMode_refusal : SupTo K (He.ga K "CheckedMode") (He.ga K "SavingMode") "refusal" (He.fAd K ("FreeMode", some "refusal"))
  sup_GuardedMode_GuardedMode_refusal : SupTo K (He.ga K "GuardedMode") (He.ga K "GuardedMode") "refusal" (He.fAd K ("SavingMode", some "refusal"))
  sup_CheckedMode_GuardedMode_refusal : SupTo K (He.ga K "CheckedMode") (He.ga K "GuardedMode") "refusal" (He.fAd K ("SavingMode", some "refusal"))
  sup_CheckedMode_CheckedMode_refusal : SupTo K (He.ga K "CheckedMode") (He.ga K "CheckedMode") "refusal" (He.fAd K ("GuardedMode", some "refusal"))
  cl_Links : Cls K (He.ga K "Links")
  ty_Links : PySem.W.findIn K (.ref (He.ga K "Links")) "__class__" = some (some (.builtin "object.__class__")) ∧ PySem.W.mroIn K (He.ga K "Links") (.type "object") = some true
  na_Links__lefts : NoAttr K (He.ga K "Links") "_lefts"
  na_Links__out : NoAttr K (He.ga K "Links") "_out"
  na_Links__rights : NoAttr K (He.ga K "Links") "_rights"
  na_Links_size : NoAttr K (He.ga K "Links") "size"
  mk_Links : Mk K (He.ga K "Links") (He.ma K (He.ga K "Links") "__init__")
  me_Links_is_legal : Meth K (He.ga K "Links") "is_legal" (He.ma K (He.ga K "Links") "is_legal")
  me_Links_check : Meth K (He.ga K "Links") "check" (He.ma K (He.ga K "Links") "check")
  me_Links_apply_at : Meth K (He.ga K "Links") "apply_at" (He.ma K (He.ga K "Links") "apply_at")
  me_Links_left : Meth K (He.ga K "Links") "left" (He.ma K (He.ga K "Links") "left")
  me_Links_right : Meth K (He.ga K "Links") "right" (He.ma K (He.ga K "Links") "right")
  me_Links_outs : Meth K (He.ga K "Links") "outs" (He.ma K (He.ga K "Links") "outs")
  me_Links_dump : Meth K (He.ga K "Links") "dump" (He.ma K (He.ga K "Links") "dump")
  me_Links___str__ : Meth K (He.ga K "Links") "__str__" (He.ma K (He.ga K "Links") "__str__")
  me_Links_apply : Meth K (He.ga K "Links") "apply" (He.ma K (He.ga K "Links") "apply")
  me_Links_is_out : Meth K (He.ga K "Links") "is_out" (He.ma K (He.ga K "Links") "is_out")
  me_Links_copy : Meth K (He.ga K "Links") "copy" (He.ma K (He.ga K "Links") "copy")
  cl_FreeMode : Cls K (He.ga K "FreeMode")
  ty_FreeMode : PySem.W.findIn K (.ref (He.ga K "FreeMode")) "__class__" = some (some (.builtin "object.__class__")) ∧ PySem.W.mroIn K (He.ga K "FreeMode") (.type "object") = some true
  me_FreeMode_refusal : Meth K (He.ga K "FreeMode") "refusal" (He.ma K (He.ga K "FreeMode") "refusal")
  cl_SavingMode : Cls K (He.ga K "SavingMode")
  ty_SavingMode : PySem.W.findIn K (.ref (He.ga K "SavingMode")) "__class__" = some (some (.builtin "object.__class__")) ∧ PySem.W.mroIn K (He.ga K "SavingMode") (.type "object") = some true
  me_SavingMode_refusal : Meth K (He.ga K "SavingMode") "refusal" (He.ma K (He.ga K "SavingMode") "refusal")
  cl_GuardedMode : Cls K (He.ga K "GuardedMode")
  ty_GuardedMode : PySem.W.findIn K (.ref (He.ga K "GuardedMode")) "__class__" = some (some (.builtin "object.__class__")) ∧ PySem.W.mroIn K (He.ga K "GuardedMode") (.type "object") = some true
  me_GuardedMode_refusal : Meth K (He.ga K "GuardedMode") "refusal" (He.ma K (He.ga K "GuardedMode") "refusal")
  cl_CheckedMode : Cls K (He.ga K "CheckedMode")
  ty_CheckedMode : PySem.W.findIn K (.ref (He.ga K "CheckedMode")) "__class__" = some (some (.builtin "object.__class__")) ∧ PySem.W.mroIn K (He.ga K "CheckedMode") (.type "object") = some true
  me_CheckedMode_refusal : Meth K (He.ga K "CheckedMode") "refusal" (He.ma K (He.ga K "CheckedMode") "refusal")
  cf_LogError : ClX.CRead K (He.ga K "LogError") (.type "type") ∧ PySem.W.findCls K (.ref (He.ga K "LogError")) (.type "type") "__init__" = some (.val (.ref (He.fAd K ("LogError", some "__init__"))))
  ex_BadDump : ExK K (He.ga K "BadDump")
  ex_BadGap : ExK K (He.ga K "BadGap")
  ex_BadMode : ExK K (He.ga K "BadMode")
  ex_BadNode : ExK K (He.ga K "BadNode")
  ex_BadOperation : ExK K (He.ga K "BadOperation")
  ex_BadSize : ExK K (He.ga K "BadSize")
  ex_Illegal : ExK K (He.ga K "Illegal")
  ex_LinkError : ExK K (He.ga K "LinkError")
  ex_LogError : ExK K (He.ga K "LogError")
  ex_NotLost : ExK K (He.ga K "NotLost")
  ex_Refused : ExK K (He.ga K "Refused")
  oe_BadGap : OexC K (He.ga K "BadGap") ∧ ∀ f ∈ (["gap"] : List Str), PySem.W.findIn K (.ref (He.ga K "BadGap")) f = some none
  in_BadGap : PySem.W.findIn K (.ref (He.ga K "BadGap")) "__init__" = some (some (.ref (He.ma K (He.ga K "BadGap") "__init__"))) ∧ PySem.W.typeIn K (.ref (He.ma K (He.ga K "BadGap") "__init__")) = some (.type "function")
  kit_BadGap_BadDump : PySem.W.kitOne K (.ref (He.ga K "BadGap")) (.ref (He.ga K "BadDump")) = some false
  kit_BadGap_BadGap : PySem.W.kitOne K (.ref (He.ga K "BadGap")) (.ref (He.ga K "BadGap")) = some true
  kit_BadGap_BadMode : PySem.W.kitOne K (.ref (He.ga K "BadGap")) (.ref (He.ga K "BadMode")) = some false
  kit_BadGap_BadNode : PySem.W.kitOne K (.ref (He.ga K "BadGap")) (.ref (He.ga K "BadNode")) = some false
  kit_BadGap_BadOperation : PySem.W.kitOne K (.ref (He.ga K "BadGap")) (.ref (He.ga K "BadOperation")) = some false
  kit_BadGap_BadSize : PySem.W.kitOne K (.ref (He.ga K "BadGap")) (.ref (He.ga K "BadSize")) = some false
  kit_BadGap_Illegal : PySem.W.kitOne K (.ref (He.ga K "BadGap")) (.ref (He.ga K "Illegal")) = some false
  kit_BadGap_LinkError : PySem.W.kitOne K (.ref (He.ga K "BadGap")) (.ref (He.ga K "LinkError")) = some true
  kit_BadGap_LogError : PySem.W.kitOne K (.ref (He.ga K "BadGap")) (.ref (He.ga K "LogError")) = some false
  kit_BadGap_NotLost : PySem.W.kitOne K (.ref (He.ga K "BadGap")) (.ref (He.ga K "NotLost")) = some false
  exm_BadGap_NotLost : PySem.W.exmOne K (.ref (He.ga K "BadGap")) (.ref (He.ga K "NotLost")) = some false
  kit_BadGap_Refused : PySem.W.kitOne K (.ref (He.ga K "BadGap")) (.ref (He.ga K "Refused")) = some false
  exm_BadGap_Refused : PySem.W.exmOne K (.ref (He.ga K "BadGap")) (.ref (He.ga K "Refused")) = some false
  kit_BadGap_ValueError : PySem.W.kitOne K (.ref (He.ga K "BadGap")) (.type "ValueError") = some true
  oe_BadMode : OexC K (He.ga K "BadMode") ∧ ∀ f ∈ (["name"] : List Str), PySem.W.findIn K (.ref (He.ga K "BadMode")) f = some none
  in_BadMode : PySem.W.findIn K (.ref (He.ga K "BadMode")) "__init__" = some (some (.ref (He.ma K (He.ga K "BadMode") "__init__"))) ∧ PySem.W.typeIn K (.ref (He.ma K (He.ga K "BadMode") "__init__")) = some (.type "function")
  kit_BadMode_BadDump : PySem.W.kitOne K (.ref (He.ga K "BadMode")) (.ref (He.ga K "BadDump")) = some false
  kit_BadMode_BadGap : PySem.W.kitOne K (.ref (He.ga K "BadMode")) (.ref (He.ga K "BadGap")) = some false
  kit_BadMode_BadMode : PySem.W.kitOne K (.ref (He.ga K "BadMode")) (.ref (He.ga K "BadMode")) = some true
  kit_BadMode_BadNode : PySem.W.kitOne K (.ref (He.ga K "BadMode")) (.ref (He.ga K "BadNode")) = some false
  kit_BadMode_BadOperation : PySem.W.kitOne K (.ref (He.ga K "BadMode")) (.ref (He.ga K "BadOperation")) = some false
  kit_BadMode_BadSize : PySem.W.kitOne K (.ref (He.ga K "BadMode")) (.ref (He.ga K "BadSize")) = some false
  kit_BadMode_Illegal : PySem.W.kitOne K (.ref (He.ga K "BadMode")) (.ref (He.ga K "Illegal")) = some false
  kit_BadMode_LinkError : PySem.W.kitOne K (.ref (He.ga K "BadMode")) (.ref (He.ga K "LinkError")) = some true
  kit_BadMode_LogError : PySem.W.kitOne K (.ref (He.ga K "BadMode")) (.ref (He.ga K "LogError")) = some false
  kit_BadMode_NotLost : PySem.W.kitOne K (.ref (He.ga K "BadMode")) (.ref (He.ga K "NotLost")) = some false
  exm_BadMode_NotLost : PySem.W.exmOne K (.ref (He.ga K "BadMode")) (.ref (He.ga K "NotLost")) = some false
  kit_BadMode_Refused : PySem.W.kitOne K (.ref (He.ga K "BadMode")) (.ref (He.ga K "Refused")) = some false
  exm_BadMode_Refused : PySem.W.exmOne K (.ref (He.ga K "BadMode")) (.ref (He.ga K "Refused")) = some false
  kit_BadMode_ValueError : PySem.W.kitOne K (.ref (He.ga K "BadMode")) (.type "ValueError") = some true
  oe_BadNode : OexC K (He.ga K "BadNode") ∧ ∀ f ∈ (["node"] : List Str), PySem.W.findIn K (.ref (He.ga K "BadNode")) f = some none
  in_BadNode : PySem.W.findIn K (.ref (He.ga K "BadNode")) "__init__" = some (some (.ref (He.ma K (He.ga K "BadNode") "__init__"))) ∧ PySem.W.typeIn K (.ref (He.ma K (He.ga K "BadNode") "__init__")) = some (.type "function")
  kit_BadNode_BadDump : PySem.W.kitOne K (.ref (He.ga K "BadNode")) (.ref (He.ga K "BadDump")) = some false
  kit_BadNode_BadGap : PySem.W.kitOne K (.ref (He.ga K "BadNode")) (.ref (He.ga K "BadGap")) = some false
  kit_BadNode_BadMode : PySem.W.kitOne K (.ref (He.ga K "BadNode")) (.ref (He.ga K "BadMode")) = some false
  kit_BadNode_BadNode : PySem.W.kitOne K (.ref (He.ga K "BadNode")) (.ref (He.ga K "BadNode")) = some true
  kit_BadNode_BadOperation : PySem.W.kitOne K (.ref (He.ga K "BadNode")) (.ref (He.ga K "BadOperation")) = some false
  kit_BadNode_BadSize : PySem.W.kitOne K (.ref (He.ga K "BadNode")) (.ref (He.ga K "BadSize")) = some false
  kit_BadNode_Illegal : PySem.W.kitOne K (.ref (He.ga K "BadNode")) (.ref (He.ga K "Illegal")) = some false
  kit_BadNode_LinkError : PySem.W.kitOne K (.ref (He.ga K "BadNode")) (.ref (He.ga K "LinkError")) = some true
  kit_BadNode_LogError : PySem.W.kitOne K (.ref (He.ga K "BadNode")) (.ref (He.ga K "LogError")) = some false
  kit_BadNode_NotLost : PySem.W.kitOne K (.ref (He.ga K "BadNode")) (.ref (He.ga K "NotLost")) = some false
  exm_BadNode_NotLost : PySem.W.exmOne K (.ref (He.ga K "BadNode")) (.ref (He.ga K "NotLost")) = some false
  kit_BadNode_Refused : PySem.W.kitOne K (.ref (He.ga K "BadNode")) (.ref (He.ga K "Refused")) = some false
  exm_BadNode_Refused : PySem.W.exmOne K (.ref (He.ga K "BadNode")) (.ref (He.ga K "Refused")) = some false
  kit_BadNode_ValueError : PySem.W.kitOne K (.ref (He.ga K "BadNode")) (.type "ValueError") = some true
  oe_BadOperation : OexC K (He.ga K "BadOperation") ∧ ∀ f ∈ (["operation", "index"] : List Str), PySem.W.findIn K (.ref (He.ga K "BadOperation")) f = some none
  in_BadOperation : PySem.W.findIn K (.ref (He.ga K "BadOperation")) "__init__" = some (some (.ref (He.ma K (He.ga K "BadOperation") "__init__"))) ∧ PySem.W.typeIn K (.ref (He.ma K (He.ga K "BadOperation") "__init__")) = some (.type "function")
  sm_BadOperation : He.ma K (He.ga K "BadOperation") "__init__" = He.ma K (He.ga K "LogError") "__init__"
  kit_BadOperation_BadDump : PySem.W.kitOne K (.ref (He.ga K "BadOperation")) (.ref (He.ga K "BadDump")) = some false
  kit_BadOperation_BadGap : PySem.W.kitOne K (.ref (He.ga K "BadOperation")) (.ref (He.ga K "BadGap")) = some false
  kit_BadOperation_BadMode : PySem.W.kitOne K (.ref (He.ga K "BadOperation")) (.ref (He.ga K "BadMode")) = some false
  kit_BadOperation_BadNode : PySem.W.kitOne K (.ref (He.ga K "BadOperation")) (.ref (He.ga K "BadNode")) = some false
  kit_BadOperation_BadOperation : PySem.W.kitOne K (.ref (He.ga K "BadOperation")) (.ref (He.ga K "BadOperation")) = some true
  kit_BadOperation_BadSize : PySem.W.kitOne K (.ref (He.ga K "BadOperation")) (.ref (He.ga K "BadSize")) = some false
  kit_BadOperation_Illegal : PySem.W.kitOne K (.ref (He.ga K "BadOperation")) (.ref (He.ga K "Illegal")) = some false
  kit_BadOperation_LinkError : PySem.W.kitOne K (.ref (He.ga K "BadOperation")) (.ref (He.ga K "LinkError")) = some true
  kit_BadOperation_LogError : PySem.W.kitOne K (.ref (He.ga K "BadOperation")) (.ref (He.ga K "LogError")) = some true
  kit_BadOperation_NotLost : PySem.W.kitOne K (.ref (He.ga K "BadOperation")) (.ref (He.ga K "NotLost")) = some false
  exm_BadOperation_NotLost : PySem.W.exmOne K (.ref (He.ga K "BadOperation")) (.ref (He.ga K "NotLost")) = some false
  kit_BadOperation_Refused : PySem.W.kitOne K (.ref (He.ga K "BadOperation")) (.ref (He.ga K "Refused")) = some false
  exm_BadOperation_Refused : PySem.W.exmOne K (.ref (He.ga K "BadOperation")) (.ref (He.ga K "Refused")) = some false
  kit_BadOperation_ValueError : PySem.W.kitOne K (.ref (He.ga K "BadOperation")) (.type "ValueError") = some true
  oe_BadSize : OexC K (He.ga K "BadSize") ∧ ∀ f ∈ (["size"] : List Str), PySem.W.findIn K (.ref (He.ga K "BadSize")) f = some none
  in_BadSize : PySem.W.findIn K (.ref (He.ga K "BadSize")) "__init__" = some (some (.ref (He.ma K (He.ga K "BadSize") "__init__"))) ∧ PySem.W.typeIn K (.ref (He.ma K (He.ga K "BadSize") "__init__")) = some (.type "function")
  kit_BadSize_BadDump : PySem.W.kitOne K (.ref (He.ga K "BadSize")) (.ref (He.ga K "BadDump")) = some false
  kit_BadSize_BadGap : PySem.W.kitOne K (.ref (He.ga K "BadSize")) (.ref (He.ga K "BadGap")) = some false
  kit_BadSize_BadMode : PySem.W.kitOne K (.ref (He.ga K "BadSize")) (.ref (He.ga K "BadMode")) = some false
  kit_BadSize_BadNode : PySem.W.kitOne K (.ref (He.ga K "BadSize")) (.ref (He.ga K "BadNode")) = some false
  kit_BadSize_BadOperation : PySem.W.kitOne K (.ref (He.ga K "BadSize")) (.ref (He.ga K "BadOperation")) = some false
  kit_BadSize_BadSize : PySem.W.kitOne K (.ref (He.ga K "BadSize")) (.ref (He.ga K "BadSize")) = some true
  kit_BadSize_Illegal : PySem.W.kitOne K (.ref (He.ga K "BadSize")) (.ref (He.ga K "Illegal")) = some false
  kit_BadSize_LinkError : PySem.W.kitOne K (.ref (He.ga K "BadSize")) (.ref (He.ga K "LinkError")) = some true
  kit_BadSize_LogError : PySem.W.kitOne K (.ref (He.ga K "BadSize")) (.ref (He.ga K "LogError")) = some false
  kit_BadSize_NotLost : PySem.W.kitOne K (.ref (He.ga K "BadSize")) (.ref (He.ga K "NotLost")) = some false
  exm_BadSize_NotLost : PySem.W.exmOne K (.ref (He.ga K "BadSize")) (.ref (He.ga K "NotLost")) = some false
  kit_BadSize_Refused : PySem.W.kitOne K (.ref (He.ga K "BadSize")) (.ref (He.ga K "Refused")) = some false
  exm_BadSize_Refused : PySem.W.exmOne K (.ref (He.ga K "BadSize")) (.ref (He.ga K "Refused")) = some false
  kit_BadSize_ValueError : PySem.W.kitOne K (.ref (He.ga K "BadSize")) (.type "ValueError") = some true
  oe_Illegal : OexC K (He.ga K "Illegal") ∧ ∀ f ∈ (["operation", "index"] : List Str), PySem.W.findIn K (.ref (He.ga K "Illegal")) f = some none
  in_Illegal : PySem.W.findIn K (.ref (He.ga K "Illegal")) "__init__" = some (some (.ref (He.ma K (He.ga K "Illegal") "__init__"))) ∧ PySem.W.typeIn K (.ref (He.ma K (He.ga K "Illegal") "__init__")) = some (.type "function")
  sm_Illegal : He.ma K (He.ga K "Illegal") "__init__" = He.ma K (He.ga K "LogError") "__init__"
  kit_Illegal_BadDump : PySem.W.kitOne K (.ref (He.ga K "Illegal")) (.ref (He.ga K "BadDump")) = some false
  kit_Illegal_BadGap : PySem.W.kitOne K (.ref (He.ga K "Illegal")) (.ref (He.ga K "BadGap")) = some false
  kit_Illegal_BadMode : PySem.W.kitOne K (.ref (He.ga K "Illegal")) (.ref (He.ga K "BadMode")) = some false
  kit_Illegal_BadNode : PySem.W.kitOne K (.ref (He.ga K "Illegal")) (.ref (He.ga K "BadNode")) = some false
  kit_Illegal_BadOperation : PySem.W.kitOne K (.ref (He.ga K "Illegal")) (.ref (He.ga K "BadOperation")) = some false
  kit_Illegal_BadSize : PySem.W.kitOne K (.ref (He.ga K "Illegal")) (.ref (He.ga K "BadSize")) = some false
  kit_Illegal_Illegal : PySem.W.kitOne K (.ref (He.ga K "Illegal")) (.ref (He.ga K "Illegal")) = some true
  kit_Illegal_LinkError : PySem.W.kitOne K (.ref (He.ga K "Illegal")) (.ref (He.ga K "LinkError")) = some true
  kit_Illegal_LogError : PySem.W.kitOne K (.ref (He.ga K "Illegal")) (.ref (He.ga K "LogError")) = some true
  kit_Illegal_NotLost : PySem.W.kitOne K (.ref (He.ga K "Illegal")) (.ref (He.ga K "NotLost")) = some false
  exm_Illegal_NotLost : PySem.W.exmOne K (.ref (He.ga K "Illegal")) (.ref (He.ga K "NotLost")) = some false
  kit_Illegal_Refused : PySem.W.kitOne K (.ref (He.ga K "Illegal")) (.ref (He.ga K "Refused")) = some false
  exm_Illegal_Refused : PySem.W.exmOne K (.ref (He.ga K "Illegal")) (.ref (He.ga K "Refused")) = some false
  kit_Illegal_ValueError : PySem.W.kitOne K (.ref (He.ga K "Illegal")) (.type "ValueError") = some true
  oe_NotLost : OexC K (He.ga K "NotLost") ∧ ∀ f ∈ (["size"] : List Str), PySem.W.findIn K (.ref (He.ga K "NotLost")) f = some none
  in_NotLost : PySem.W.findIn K (.ref (He.ga K "NotLost")) "__init__" = some (some (.ref (He.ma K (He.ga K "NotLost") "__init__"))) ∧ PySem.W.typeIn K (.ref (He.ma K (He.ga K "NotLost") "__init__")) = some (.type "function")
  kit_NotLost_BadDump : PySem.W.kitOne K (.ref (He.ga K "NotLost")) (.ref (He.ga K "BadDump")) = some false
  kit_NotLost_BadGap : PySem.W.kitOne K (.ref (He.ga K "NotLost")) (.ref (He.ga K "BadGap")) = some false
  kit_NotLost_BadMode : PySem.W.kitOne K (.ref (He.ga K "NotLost")) (.ref (He.ga K "BadMode")) = some false
  kit_NotLost_BadNode : PySem.W.kitOne K (.ref (He.ga K "NotLost")) (.ref (He.ga K "BadNode")) = some false
  kit_NotLost_BadOperation : PySem.W.kitOne K (.ref (He.ga K "NotLost")) (.ref (He.ga K "BadOperation")) = some false
  kit_NotLost_BadSize : PySem.W.kitOne K (.ref (He.ga K "NotLost")) (.ref (He.ga K "BadSize")) = some false
  kit_NotLost_Illegal : PySem.W.kitOne K (.ref (He.ga K "NotLost")) (.ref (He.ga K "Illegal")) = some false
  kit_NotLost_LinkError : PySem.W.kitOne K (.ref (He.ga K "NotLost")) (.ref (He.ga K "LinkError")) = some true
  kit_NotLost_LogError : PySem.W.kitOne K (.ref (He.ga K "NotLost")) (.ref (He.ga K "LogError")) = some false
  kit_NotLost_NotLost : PySem.W.kitOne K (.ref (He.ga K "NotLost")) (.ref (He.ga K "NotLost")) = some true
  exm_NotLost_NotLost : PySem.W.exmOne K (.ref (He.ga K "NotLost")) (.ref (He.ga K "NotLost")) = some true
  kit_NotLost_Refused : PySem.W.kitOne K (.ref (He.ga K "NotLost")) (.ref (He.ga K "Refused")) = some false
  exm_NotLost_Refused : PySem.W.exmOne K (.ref (He.ga K "NotLost")) (.ref (He.ga K "Refused")) = some false
  kit_NotLost_ValueError : PySem.W.kitOne K (.ref (He.ga K "NotLost")) (.type "ValueError") = some true
  oe_Refused : OexC K (He.ga K "Refused") ∧ ∀ f ∈ (["operation", "index", "refusing"] : List Str), PySem.W.findIn K (.ref (He.ga K "Refused")) f = some none
  in_Refused : PySem.W.findIn K (.ref (He.ga K "Refused")) "__init__" = some (some (.ref (He.ma K (He.ga K "Refused") "__init__"))) ∧ PySem.W.typeIn K (.ref (He.ma K (He.ga K "Refused") "__init__")) = some (.type "function")
  kit_Refused_BadDump : PySem.W.kitOne K (.ref (He.ga K "Refused")) (.ref (He.ga K "BadDump")) = some false
  kit_Refused_BadGap : PySem.W.kitOne K (.ref (He.ga K "Refused")) (.ref (He.ga K "BadGap")) = some false
  kit_Refused_BadMode : PySem.W.kitOne K (.ref (He.ga K "Refused")) (.ref (He.ga K "BadMode")) = some false
  kit_Refused_BadNode : PySem.W.kitOne K (.ref (He.ga K "Refused")) (.ref (He.ga K "BadNode")) = some false
  kit_Refused_BadOperation : PySem.W.kitOne K (.ref (He.ga K "Refused")) (.ref (He.ga K "BadOperation")) = some false
  kit_Refused_BadSize : PySem.W.kitOne K (.ref (He.ga K "Refused")) (.ref (He.ga K "BadSize")) = some false
  kit_Refused_Illegal : PySem.W.kitOne K (.ref (He.ga K "Refused")) (.ref (He.ga K "Illegal")) = some false
  kit_Refused_LinkError : PySem.W.kitOne K (.ref (He.ga K "Refused")) (.ref (He.ga K "LinkError")) = some true
  kit_Refused_LogError : PySem.W.kitOne K (.ref (He.ga K "Refused")) (.ref (He.ga K "LogError")) = some true
  kit_Refused_NotLost : PySem.W.kitOne K (.ref (He.ga K "Refused")) (.ref (He.ga K "NotLost")) = some false
  exm_Refused_NotLost : PySem.W.exmOne K (.ref (He.ga K "Refused")) (.ref (He.ga K "NotLost")) = some false
  kit_Refused_Refused : PySem.W.kitOne K (.ref (He.ga K "Refused")) (.ref (He.ga K "Refused")) = some true
  exm_Refused_Refused : PySem.W.exmOne K (.ref (He.ga K "Refused")) (.ref (He.ga K "Refused")) = some true
  kit_Refused_ValueError : PySem.W.kitOne K (.ref (He.ga K "Refused")) (.type "ValueError") = some true
theorem txt_of {K : PySem.W.Frag} {h : Heap} {mg : Str → Option Value} (X : K.In h) (G : h.Ns mainGlobals mg) (c : SaysY chkL fnL K) : Txt K mg where
  g_LinkError := He.glo_ok X G (c.fact 0 (f := fa_ (.glo "LinkError")) rfl)
  g_LogError := He.glo_ok X G (c.fact 1 (f := fa_ (.glo "LogError")) rfl)
  g_BadOperation := He.glo_ok X G (c.fact 2 (f := fa_ (.glo "BadOperation")) rfl)
  g_Illegal := He.glo_ok X G (c.fact 3 (f := fa_ (.glo "Illegal")) rfl)
  g_Refused := He.glo_ok X G (c.fact 4 (f := fa_ (.glo "Refused")) rfl)
  g_BadSize := He.glo_ok X G (c.fact 5 (f := fa_ (.glo "BadSize")) rfl)
  g_BadNode := He.glo_ok X G (c.fact 6 (f := fa_ (.glo "BadNode")) rfl)
  g_BadGap := He.glo_ok X G (c.fact 7 (f := fa_ (.glo "BadGap")) rfl)
  g_BadMode := He.glo_ok X G (c.fact 8 (f := fa_ (.glo "BadMode")) rfl)
  g_BadDump := He.glo_ok X G (c.fact 9 (f := fa_ (.glo "BadDump")) rfl)
  g_NotLost := He.glo_ok X G (c.fact 10 (f := fa_ (.glo "NotLost")) rfl)
  g_Links := He.glo_ok X G (c.fact 11 (f := fa_ (.glo "Links")) rfl)
  g_FreeMode := He.glo_ok X G (c.fact 12 (f := fa_ (.glo "FreeMode")) rfl)
  g_SavingMode := He.glo_ok X G (c.fact 13 (f := fa_ (.glo "SavingMode")) rfl)
  g_GuardedMode := He.glo_ok X G (c.fact 14 (f := fa_ (.glo "GuardedMode")) rfl)
  g_CheckedMode := He.glo_ok X G (c.fact 15 (f := fa_ (.glo "CheckedMode")) rfl)
  gf__law_put := He.glo_ok X G (c.fact 16 (f := fa_ (.glo "_law_put")) rfl)
  gf__law_start := He.glo_ok X G (c.fact 17 (f := fa_ (.glo "_law_start")) rfl)
  gf__law_states := He.glo_ok X G (c.fact 18 (f := fa_ (.glo "_law_states")) rfl)
  gf__law_book := He.glo_ok X G (c.fact 19 (f := fa_ (.glo "_law_book")) rfl)
  gf__law_box := He.glo_ok X G (c.fact 20 (f := fa_ (.glo "_law_box")) rfl)
  gf__law_draw := He.glo_ok X G (c.fact 21 (f := fa_ (.glo "_law_draw")) rfl)
  gf__law_log := He.glo_ok X G (c.fact 22 (f := fa_ (.glo "_law_log")) rfl)
  gf__law_bent := He.glo_ok X G (c.fact 23 (f := fa_ (.glo "_law_bent")) rfl)
  gf_check_size := He.glo_ok X G (c.fact 24 (f := fa_ (.glo "check_size")) rfl)
  gf_check_operation := He.glo_ok X G (c.fact 25 (f := fa_ (.glo "check_operation")) rfl)
  gf_check_gap := He.glo_ok X G (c.fact 26 (f := fa_ (.glo "check_gap")) rfl)
  gf_gap_state := He.glo_ok X G (c.fact 27 (f := fa_ (.glo "gap_state")) rfl)
  gf_gap_states := He.glo_ok X G (c.fact 28 (f := fa_ (.glo "gap_states")) rfl)
  gf__certificates := He.glo_ok X G (c.fact 29 (f := fa_ (.glo "_certificates")) rfl)
  gf_loss_certificate := He.glo_ok X G (c.fact 30 (f := fa_ (.glo "loss_certificate")) rfl)
  gf__law_paper := He.glo_ok X G (c.fact 31 (f := fa_ (.glo "_law_paper")) rfl)
  gf__law_same := He.glo_ok X G (c.fact 32 (f := fa_ (.glo "_law_same")) rfl)
  gf_is_plain_integer := He.glo_ok X G (c.fact 33 (f := fa_ (.glo "is_plain_integer")) rfl)
  gf_is_loss_certificate := He.glo_ok X G (c.fact 34 (f := fa_ (.glo "is_loss_certificate")) rfl)
  gf__law_papers := He.glo_ok X G (c.fact 35 (f := fa_ (.glo "_law_papers")) rfl)
  gf__law_after := He.glo_ok X G (c.fact 36 (f := fa_ (.glo "_law_after")) rfl)
  gf__law_dump := He.glo_ok X G (c.fact 37 (f := fa_ (.glo "_law_dump")) rfl)
  gf__law_twin := He.glo_ok X G (c.fact 38 (f := fa_ (.glo "_law_twin")) rfl)
  gf__law_refuser := He.glo_ok X G (c.fact 39 (f := fa_ (.glo "_law_refuser")) rfl)
  gf__law_firsts := He.glo_ok X G (c.fact 40 (f := fa_ (.glo "_law_firsts")) rfl)
  gf__joined := He.glo_ok X G (c.fact 41 (f := fa_ (.glo "_joined")) rfl)
  gf_dump_of := He.glo_ok X G (c.fact 42 (f := fa_ (.glo "dump_of")) rfl)
  gf__has_fitting_neighbours := He.glo_ok X G (c.fact 43 (f := fa_ (.glo "_has_fitting_neighbours")) rfl)
  gf_foreign_writes := He.glo_ok X G (c.fact 44 (f := fa_ (.glo "foreign_writes")) rfl)
  gf_left_to := He.glo_ok X G (c.fact 45 (f := fa_ (.glo "left_to")) rfl)
  gf__leaves_a_gap_to_a_holder_that_is_in := He.glo_ok X G (c.fact 46 (f := fa_ (.glo "_leaves_a_gap_to_a_holder_that_is_in")) rfl)
  gf__loses_a_gap := He.glo_ok X G (c.fact 47 (f := fa_ (.glo "_loses_a_gap")) rfl)
  gf_check_admitted := He.glo_ok X G (c.fact 48 (f := fa_ (.glo "check_admitted")) rfl)
  gf_all_modes := He.glo_ok X G (c.fact 49 (f := fa_ (.glo "all_modes")) rfl)
  gf_mode_named := He.glo_ok X G (c.fact 50 (f := fa_ (.glo "mode_named")) rfl)
  gf_replay_in := He.glo_ok X G (c.fact 51 (f := fa_ (.glo "replay_in")) rfl)
  gf__law_in_saving := He.glo_ok X G (c.fact 52 (f := fa_ (.glo "_law_in_saving")) rfl)
  gf_lost_gaps := He.glo_ok X G (c.fact 53 (f := fa_ (.glo "lost_gaps")) rfl)
  gf_first_loss := He.glo_ok X G (c.fact 54 (f := fa_ (.glo "first_loss")) rfl)
  gf_play := He.glo_ok X G (c.fact 55 (f := fa_ (.glo "play")) rfl)
  gf_replay := He.glo_ok X G (c.fact 56 (f := fa_ (.glo "replay")) rfl)
  gf_first_refusal := He.glo_ok X G (c.fact 57 (f := fa_ (.glo "first_refusal")) rfl)
  gf__law_refusals := He.glo_ok X G (c.fact 58 (f := fa_ (.glo "_law_refusals")) rfl)
  gf_admits := He.glo_ok X G (c.fact 59 (f := fa_ (.glo "admits")) rfl)
  gf__law_saved := He.glo_ok X G (c.fact 60 (f := fa_ (.glo "_law_saved")) rfl)
  gf_law := He.glo_ok X G (c.fact 61 (f := fa_ (.glo "law")) rfl)
  b_ValueError := He.free_ok X G (c.fact 62 (f := fa_ (.free "ValueError")) rfl)
  b_abs := He.free_ok X G (c.fact 63 (f := fa_ (.free "abs")) rfl)
  b_all := He.free_ok X G (c.fact 64 (f := fa_ (.free "all")) rfl)
  b_any := He.free_ok X G (c.fact 65 (f := fa_ (.free "any")) rfl)
  b_bool := He.free_ok X G (c.fact 66 (f := fa_ (.free "bool")) rfl)
  b_enumerate := He.free_ok X G (c.fact 67 (f := fa_ (.free "enumerate")) rfl)
  b_int := He.free_ok X G (c.fact 68 (f := fa_ (.free "int")) rfl)
  b_isinstance := He.free_ok X G (c.fact 69 (f := fa_ (.free "isinstance")) rfl)
  b_len := He.free_ok X G (c.fact 70 (f := fa_ (.free "len")) rfl)
  b_list := He.free_ok X G (c.fact 71 (f := fa_ (.free "list")) rfl)
  b_min := He.free_ok X G (c.fact 72 (f := fa_ (.free "min")) rfl)
  b_range := He.free_ok X G (c.fact 73 (f := fa_ (.free "range")) rfl)
  b_sorted := He.free_ok X G (c.fact 74 (f := fa_ (.free "sorted")) rfl)
  b_str := He.free_ok X G (c.fact 75 (f := fa_ (.free "str")) rfl)
  b_super := He.free_ok X G (c.fact 76 (f := fa_ (.free "super")) rfl)
  b_tuple := He.free_ok X G (c.fact 77 (f := fa_ (.free "tuple")) rfl)
  k_DIGITS := He.str_ok X G (c.fact 78 (f := fa_ (.str "DIGITS" "0123456789")) rfl)
  k_MOST_DIGITS := He.int_ok X G (c.fact 79 (f := fa_ (.int "MOST_DIGITS" 9)) rfl)
  cc_CheckedMode_NAME := ccsB_ok (c.fact 80 (f := ccsB "CheckedMode" "NAME" "checked") rfl)
  cc_GuardedMode_NAME := ccsB_ok (c.fact 81 (f := ccsB "GuardedMode" "NAME" "guarded") rfl)
  cc_Links_MOST := ccB_ok (c.fact 82 (f := ccB "Links" "MOST" 60) rfl)
  cc_SavingMode_NAME := ccsB_ok (c.fact 83 (f := ccsB "SavingMode" "NAME" "saving") rfl)
  con_CheckedMode_NAME := conB_ok (c.fact 84 (f := conB "CheckedMode" "NAME" "checked") rfl)
  con_FreeMode_NAME := conB_ok (c.fact 85 (f := conB "FreeMode" "NAME" "free") rfl)
  con_GuardedMode_NAME := conB_ok (c.fact 86 (f := conB "GuardedMode" "NAME" "guarded") rfl)
  con_SavingMode_NAME := conB_ok (c.fact 87 (f := conB "SavingMode" "NAME" "saving") rfl)
  mk0_CheckedMode := mk0B_ok (c.fact 88 (f := (fun K => mk0B K (He.ga K "CheckedMode"))) rfl)
  mk0_FreeMode := mk0B_ok (c.fact 89 (f := (fun K => mk0B K (He.ga K "FreeMode"))) rfl)
  mk0_GuardedMode := mk0B_ok (c.fact 90 (f := (fun K => mk0B K (He.ga K "GuardedMode"))) rfl)
  mk0_SavingMode := mk0B_ok (c.fact 91 (f := (fun K => mk0B K (He.ga K "SavingMode"))) rfl)
  sup_SavingMode_SavingMode_refusal := supB_ok (c.fact 92 (f := (fun K => supB K (He.ga K "SavingMode") (He.ga K "SavingMode") "refusal" (He.fAd K ("FreeMode", some "refusal")))) rfl)
  sup_GuardedMode_SavingMode_refusal := supB_ok (c.fact 93 (f := (fun K => supB K (He.ga K "GuardedMode") (He.ga K "SavingMode") "refusal" (He.fAd K ("FreeMode", some "refusal")))) rfl)
  sup_CheckedMode_SavingMode_refusal := supB_ok (c.fact 94 (f := (fun K => supB K (He.ga K "CheckedMode") (He.ga K "SavingMode") "refusal" (He.fAd K ("FreeMode", some "refusal")))) rfl)
  sup_GuardedMode_GuardedMode_refusal := supB_ok (c.fact 95 (f := (fun K => supB K (He.ga K "GuardedMode") (He.ga K "GuardedMode") "refusal" (He.fAd K ("SavingMode", some "refusal")))) rfl)
  sup_CheckedMode_GuardedMode_refusal := supB_ok (c.fact 96 (f := (fun K => supB K (He.ga K "CheckedMode") (He.ga K "GuardedMode") "refusal" (He.fAd K ("SavingMode", some "refusal")))) rfl)
  sup_CheckedMode_CheckedMode_refusal := supB_ok (c.fact 97 (f := (fun K => supB K (He.ga K "CheckedMode") (He.ga K "CheckedMode") "refusal" (He.fAd K ("GuardedMode", some "refusal")))) rfl)
  cl_Links := He.cls_ok (c.fact 98 (f := fa_ (.cls "Links")) rfl)
  ty_Links := tyB_ok (c.fact 99 (f := tyB "Links") rfl)
  na_Links__lefts := He.noat_ok (c.fact 100 (f := fa_ (.noat "Links" "_lefts")) rfl)
  na_Links__out := He.noat_ok (c.fact 101 (f := fa_ (.noat "Links" "_out")) rfl)
  na_Links__rights := He.noat_ok (c.fact 102 (f := fa_ (.noat "Links" "_rights")) rfl)
  na_Links_size := He.noat_ok (c.fact 103 (f := fa_ (.noat "Links" "size")) rfl)
  mk_Links := He.mkr_ok (c.fact 104 (f := fa_ (.mkr "Links")) rfl)
  me_Links_is_legal := He.meth_ok (c.fact 105 (f := fa_ (.meth "Links" "is_legal")) rfl)
  me_Links_check := He.meth_ok (c.fact 106 (f := fa_ (.meth "Links" "check")) rfl)
  me_Links_apply_at := He.meth_ok (c.fact 107 (f := fa_ (.meth "Links" "apply_at")) rfl)
  me_Links_left := He.meth_ok (c.fact 108 (f := fa_ (.meth "Links" "left")) rfl)
  me_Links_right := He.meth_ok (c.fact 109 (f := fa_ (.meth "Links" "right")) rfl)
  me_Links_outs := He.meth_ok (c.fact 110 (f := fa_ (.meth "Links" "outs")) rfl)
  me_Links_dump := He.meth_ok (c.fact 111 (f := fa_ (.meth "Links" "dump")) rfl)
  me_Links___str__ := He.meth_ok (c.fact 112 (f := fa_ (.meth "Links" "__str__")) rfl)
  me_Links_apply := He.meth_ok (c.fact 113 (f := fa_ (.meth "Links" "apply")) rfl)
  me_Links_is_out := He.meth_ok (c.fact 114 (f := fa_ (.meth "Links" "is_out")) rfl)
  me_Links_copy := He.meth_ok (c.fact 115 (f := fa_ (.meth "Links" "copy")) rfl)
  cl_FreeMode := He.cls_ok (c.fact 116 (f := fa_ (.cls "FreeMode")) rfl)
  ty_FreeMode := tyB_ok (c.fact 117 (f := tyB "FreeMode") rfl)
  me_FreeMode_refusal := He.meth_ok (c.fact 118 (f := fa_ (.meth "FreeMode" "refusal")) rfl)
  cl_SavingMode := He.cls_ok (c.fact 119 (f := fa_ (.cls "SavingMode")) rfl)
  ty_SavingMode := tyB_ok (c.fact 120 (f := tyB "SavingMode") rfl)
  me_SavingMode_refusal := He.meth_ok (c.fact 121 (f := fa_ (.meth "SavingMode" "refusal")) rfl)
  cl_GuardedMode := He.cls_ok (c.fact 122 (f := fa_ (.cls "GuardedMode")) rfl)
  ty_GuardedMode := tyB_ok (c.fact 123 (f := tyB "GuardedMode") rfl)
  me_GuardedMode_refusal := He.meth_ok (c.fact 124 (f := fa_ (.meth "GuardedMode" "refusal")) rfl)
  cl_CheckedMode := He.cls_ok (c.fact 125 (f := fa_ (.cls "CheckedMode")) rfl)
  ty_CheckedMode := tyB_ok (c.fact 126 (f := tyB "CheckedMode") rfl)
  me_CheckedMode_refusal := He.meth_ok (c.fact 127 (f := fa_ (.meth "CheckedMode" "refusal")) rfl)
  cf_LogError := cfB_ok (c.fact 128 (f := cfB "LogError" "__init__") rfl)
  ex_BadDump := askB_ok (c.fact 129 (f := askB "BadDump") rfl)
  ex_BadGap := askB_ok (c.fact 130 (f := askB "BadGap") rfl)
  ex_BadMode := askB_ok (c.fact 131 (f := askB "BadMode") rfl)
  ex_BadNode := askB_ok (c.fact 132 (f := askB "BadNode") rfl)
  ex_BadOperation := askB_ok (c.fact 133 (f := askB "BadOperation") rfl)
  ex_BadSize := askB_ok (c.fact 134 (f := askB "BadSize") rfl)
  ex_Illegal := askB_ok (c.fact 135 (f := askB "Illegal") rfl)
  ex_LinkError := askB_ok (c.fact 136 (f := askB "LinkError") rfl)
  ex_LogError := askB_ok (c.fact 137 (f := askB "LogError") rfl)
  ex_NotLost := askB_ok (c.fact 138 (f := askB "NotLost") rfl)
  ex_Refused := askB_ok (c.fact 139 (f := askB "Refused") rfl)
  oe_BadGap := excB_ok (c.fact 140 (f := excB "BadGap" ["gap"]) rfl)
  in_BadGap := iniB_ok (c.fact 141 (f := iniB "BadGap") rfl)
  kit_BadGap_BadDump := of_decide_eq_true (c.fact 142 (f := kitB2 "BadGap" "BadDump" false) rfl)
  kit_BadGap_BadGap := of_decide_eq_true (c.fact 143 (f := kitB2 "BadGap" "BadGap" true) rfl)
  kit_BadGap_BadMode := of_decide_eq_true (c.fact 144 (f := kitB2 "BadGap" "BadMode" false) rfl)
  kit_BadGap_BadNode := of_decide_eq_true (c.fact 145 (f := kitB2 "BadGap" "BadNode" false) rfl)
  kit_BadGap_BadOperation := of_decide_eq_true (c.fact 146 (f := kitB2 "BadGap" "BadOperation" false) rfl)
  kit_BadGap_BadSize := of_decide_eq_true (c.fact 147 (f := kitB2 "BadGap" "BadSize" false) rfl)
  kit_BadGap_Illegal := of_decide_eq_true (c.fact 148 (f := kitB2 "BadGap" "Illegal" false) rfl)
  kit_BadGap_LinkError := of_decide_eq_true (c.fact 149 (f := kitB2 "BadGap" "LinkError" true) rfl)
  kit_BadGap_LogError := of_decide_eq_true (c.fact 150 (f := kitB2 "BadGap" "LogError" false) rfl)
  kit_BadGap_NotLost := of_decide_eq_true (c.fact 151 (f := kitB2 "BadGap" "NotLost" false) rfl)
  exm_BadGap_NotLost := of_decide_eq_true (c.fact 152 (f := exmB "BadGap" "NotLost" false) rfl)
  kit_BadGap_Refused := of_decide_eq_true (c.fact 153 (f := kitB2 "BadGap" "Refused" false) rfl)
  exm_BadGap_Refused := of_decide_eq_true (c.fact 154 (f := exmB "BadGap" "Refused" false) rfl)
  kit_BadGap_ValueError := of_decide_eq_true (c.fact 155 (f := kitT2 "BadGap" "ValueError" true) rfl)
  oe_BadMode := excB_ok (c.fact 156 (f := excB "BadMode" ["name"]) rfl)
  in_BadMode := iniB_ok (c.fact 157 (f := iniB "BadMode") rfl)
  kit_BadMode_BadDump := of_decide_eq_true (c.fact 158 (f := kitB2 "BadMode" "BadDump" false) rfl)
  kit_BadMode_BadGap := of_decide_eq_true (c.fact 159 (f := kitB2 "BadMode" "BadGap" false) rfl)
  kit_BadMode_BadMode := of_decide_eq_true (c.fact 160 (f := kitB2 "BadMode" "BadMode" true) rfl)
  kit_BadMode_BadNode := of_decide_eq_true (c.fact 161 (f := kitB2 "BadMode" "BadNode" false) rfl)
  kit_BadMode_BadOperation := of_decide_eq_true (c.fact 162 (f := kitB2 "BadMode" "BadOperation" false) rfl)
  kit_BadMode_BadSize := of_decide_eq_true (c.fact 163 (f := kitB2 "BadMode" "BadSize" false) rfl)
  kit_BadMode_Illegal := of_decide_eq_true (c.fact 164 (f := kitB2 "BadMode" "Illegal" false) rfl)
  kit_BadMode_LinkError := of_decide_eq_true (c.fact 165 (f := kitB2 "BadMode" "LinkError" true) rfl)
  kit_BadMode_LogError := of_decide_eq_true (c.fact 166 (f := kitB2 "BadMode" "LogError" false) rfl)
  kit_BadMode_NotLost := of_decide_eq_true (c.fact 167 (f := kitB2 "BadMode" "NotLost" false) rfl)
  exm_BadMode_NotLost := of_decide_eq_true (c.fact 168 (f := exmB "BadMode" "NotLost" false) rfl)
  kit_BadMode_Refused := of_decide_eq_true (c.fact 169 (f := kitB2 "BadMode" "Refused" false) rfl)
  exm_BadMode_Refused := of_decide_eq_true (c.fact 170 (f := exmB "BadMode" "Refused" false) rfl)
  kit_BadMode_ValueError := of_decide_eq_true (c.fact 171 (f := kitT2 "BadMode" "ValueError" true) rfl)
  oe_BadNode := excB_ok (c.fact 172 (f := excB "BadNode" ["node"]) rfl)
  in_BadNode := iniB_ok (c.fact 173 (f := iniB "BadNode") rfl)
  kit_BadNode_BadDump := of_decide_eq_true (c.fact 174 (f := kitB2 "BadNode" "BadDump" false) rfl)
  kit_BadNode_BadGap := of_decide_eq_true (c.fact 175 (f := kitB2 "BadNode" "BadGap" false) rfl)
  kit_BadNode_BadMode := of_decide_eq_true (c.fact 176 (f := kitB2 "BadNode" "BadMode" false) rfl)
  kit_BadNode_BadNode := of_decide_eq_true (c.fact 177 (f := kitB2 "BadNode" "BadNode" true) rfl)
  kit_BadNode_BadOperation := of_decide_eq_true (c.fact 178 (f := kitB2 "BadNode" "BadOperation" false) rfl)
  kit_BadNode_BadSize := of_decide_eq_true (c.fact 179 (f := kitB2 "BadNode" "BadSize" false) rfl)
  kit_BadNode_Illegal := of_decide_eq_true (c.fact 180 (f := kitB2 "BadNode" "Illegal" false) rfl)
  kit_BadNode_LinkError := of_decide_eq_true (c.fact 181 (f := kitB2 "BadNode" "LinkError" true) rfl)
  kit_BadNode_LogError := of_decide_eq_true (c.fact 182 (f := kitB2 "BadNode" "LogError" false) rfl)
  kit_BadNode_NotLost := of_decide_eq_true (c.fact 183 (f := kitB2 "BadNode" "NotLost" false) rfl)
  exm_BadNode_NotLost := of_decide_eq_true (c.fact 184 (f := exmB "BadNode" "NotLost" false) rfl)
  kit_BadNode_Refused := of_decide_eq_true (c.fact 185 (f := kitB2 "BadNode" "Refused" false) rfl)
  exm_BadNode_Refused := of_decide_eq_true (c.fact 186 (f := exmB "BadNode" "Refused" false) rfl)
  kit_BadNode_ValueError := of_decide_eq_true (c.fact 187 (f := kitT2 "BadNode" "ValueError" true) rfl)
  oe_BadOperation := excB_ok (c.fact 188 (f := excB "BadOperation" ["operation", "index"]) rfl)
  in_BadOperation := iniB_ok (c.fact 189 (f := iniB "BadOperation") rfl)
  sm_BadOperation := of_decide_eq_true (c.fact 190 (f := (fun K => decide (He.ma K (He.ga K "BadOperation") "__init__" = He.ma K (He.ga K "LogError") "__init__"))) rfl)
  kit_BadOperation_BadDump := of_decide_eq_true (c.fact 191 (f := kitB2 "BadOperation" "BadDump" false) rfl)
  kit_BadOperation_BadGap := of_decide_eq_true (c.fact 192 (f := kitB2 "BadOperation" "BadGap" false) rfl)
  kit_BadOperation_BadMode := of_decide_eq_true (c.fact 193 (f := kitB2 "BadOperation" "BadMode" false) rfl)
  kit_BadOperation_BadNode := of_decide_eq_true (c.fact 194 (f := kitB2 "BadOperation" "BadNode" false) rfl)
  kit_BadOperation_BadOperation := of_decide_eq_true (c.fact 195 (f := kitB2 "BadOperation" "BadOperation" true) rfl)
  kit_BadOperation_BadSize := of_decide_eq_true (c.fact 196 (f := kitB2 "BadOperation" "BadSize" false) rfl)
  kit_BadOperation_Illegal := of_decide_eq_true (c.fact 197 (f := kitB2 "BadOperation" "Illegal" false) rfl)
  kit_BadOperation_LinkError := of_decide_eq_true (c.fact 198 (f := kitB2 "BadOperation" "LinkError" true) rfl)
  kit_BadOperation_LogError := of_decide_eq_true (c.fact 199 (f := kitB2 "BadOperation" "LogError" true) rfl)
  kit_BadOperation_NotLost := of_decide_eq_true (c.fact 200 (f := kitB2 "BadOperation" "NotLost" false) rfl)
  exm_BadOperation_NotLost := of_decide_eq_true (c.fact 201 (f := exmB "BadOperation" "NotLost" false) rfl)
  kit_BadOperation_Refused := of_decide_eq_true (c.fact 202 (f := kitB2 "BadOperation" "Refused" false) rfl)
  exm_BadOperation_Refused := of_decide_eq_true (c.fact 203 (f := exmB "BadOperation" "Refused" false) rfl)
  kit_BadOperation_ValueError := of_decide_eq_true (c.fact 204 (f := kitT2 "BadOperation" "ValueError" true) rfl)
  oe_BadSize := excB_ok (c.fact 205 (f := excB "BadSize" ["size"]) rfl)
  in_BadSize := iniB_ok (c.fact 206 (f := iniB "BadSize") rfl)
  kit_BadSize_BadDump := of_decide_eq_true (c.fact 207 (f := kitB2 "BadSize" "BadDump" false) rfl)
  kit_BadSize_BadGap := of_decide_eq_true (c.fact 208 (f := kitB2 "BadSize" "BadGap" false) rfl)
  kit_BadSize_BadMode := of_decide_eq_true (c.fact 209 (f := kitB2 "BadSize" "BadMode" false) rfl)
  kit_BadSize_BadNode := of_decide_eq_true (c.fact 210 (f := kitB2 "BadSize" "BadNode" false) rfl)
  kit_BadSize_BadOperation := of_decide_eq_true (c.fact 211 (f := kitB2 "BadSize" "BadOperation" false) rfl)
  kit_BadSize_BadSize := of_decide_eq_true (c.fact 212 (f := kitB2 "BadSize" "BadSize" true) rfl)
  kit_BadSize_Illegal := of_decide_eq_true (c.fact 213 (f := kitB2 "BadSize" "Illegal" false) rfl)
  kit_BadSize_LinkError := of_decide_eq_true (c.fact 214 (f := kitB2 "BadSize" "LinkError" true) rfl)
  kit_BadSize_LogError := of_decide_eq_true (c.fact 215 (f := kitB2 "BadSize" "LogError" false) rfl)
  kit_BadSize_NotLost := of_decide_eq_true (c.fact 216 (f := kitB2 "BadSize" "NotLost" false) rfl)
  exm_BadSize_NotLost := of_decide_eq_true (c.fact 217 (f := exmB "BadSize" "NotLost" false) rfl)
  kit_BadSize_Refused := of_decide_eq_true (c.fact 218 (f := kitB2 "BadSize" "Refused" false) rfl)
  exm_BadSize_Refused := of_decide_eq_true (c.fact 219 (f := exmB "BadSize" "Refused" false) rfl)
  kit_BadSize_ValueError := of_decide_eq_true (c.fact 220 (f := kitT2 "BadSize" "ValueError" true) rfl)
  oe_Illegal := excB_ok (c.fact 221 (f := excB "Illegal" ["operation", "index"]) rfl)
  in_Illegal := iniB_ok (c.fact 222 (f := iniB "Illegal") rfl)
  sm_Illegal := of_decide_eq_true (c.fact 223 (f := (fun K => decide (He.ma K (He.ga K "Illegal") "__init__" = He.ma K (He.ga K "LogError") "__init__"))) rfl)
  kit_Illegal_BadDump := of_decide_eq_true (c.fact 224 (f := kitB2 "Illegal" "BadDump" false) rfl)
  kit_Illegal_BadGap := of_decide_eq_true (c.fact 225 (f := kitB2 "Illegal" "BadGap" false) rfl)
  kit_Illegal_BadMode := of_decide_eq_true (c.fact 226 (f := kitB2 "Illegal" "BadMode" false) rfl)
  kit_Illegal_BadNode := of_decide_eq_true (c.fact 227 (f := kitB2 "Illegal" "BadNode" false) rfl)
  kit_Illegal_BadOperation := of_decide_eq_true (c.fact 228 (f := kitB2 "Illegal" "BadOperation" false) rfl)
  kit_Illegal_BadSize := of_decide_eq_true (c.fact 229 (f := kitB2 "Illegal" "BadSize" false) rfl)
  kit_Illegal_Illegal := of_decide_eq_true (c.fact 230 (f := kitB2 "Illegal" "Illegal" true) rfl)
  kit_Illegal_LinkError := of_decide_eq_true (c.fact 231 (f := kitB2 "Illegal" "LinkError" true) rfl)
  kit_Illegal_LogError := of_decide_eq_true (c.fact 232 (f := kitB2 "Illegal" "LogError" true) rfl)
  kit_Illegal_NotLost := of_decide_eq_true (c.fact 233 (f := kitB2 "Illegal" "NotLost" false) rfl)
  exm_Illegal_NotLost := of_decide_eq_true (c.fact 234 (f := exmB "Illegal" "NotLost" false) rfl)
  kit_Illegal_Refused := of_decide_eq_true (c.fact 235 (f := kitB2 "Illegal" "Refused" false) rfl)
  exm_Illegal_Refused := of_decide_eq_true (c.fact 236 (f := exmB "Illegal" "Refused" false) rfl)
  kit_Illegal_ValueError := of_decide_eq_true (c.fact 237 (f := kitT2 "Illegal" "ValueError" true) rfl)
  oe_NotLost := excB_ok (c.fact 238 (f := excB "NotLost" ["size"]) rfl)
  in_NotLost := iniB_ok (c.fact 239 (f := iniB "NotLost") rfl)
  kit_NotLost_BadDump := of_decide_eq_true (c.fact 240 (f := kitB2 "NotLost" "BadDump" false) rfl)
  kit_NotLost_BadGap := of_decide_eq_true (c.fact 241 (f := kitB2 "NotLost" "BadGap" false) rfl)
  kit_NotLost_BadMode := of_decide_eq_true (c.fact 242 (f := kitB2 "NotLost" "BadMode" false) rfl)
  kit_NotLost_BadNode := of_decide_eq_true (c.fact 243 (f := kitB2 "NotLost" "BadNode" false) rfl)
  kit_NotLost_BadOperation := of_decide_eq_true (c.fact 244 (f := kitB2 "NotLost" "BadOperation" false) rfl)
  kit_NotLost_BadSize := of_decide_eq_true (c.fact 245 (f := kitB2 "NotLost" "BadSize" false) rfl)
  kit_NotLost_Illegal := of_decide_eq_true (c.fact 246 (f := kitB2 "NotLost" "Illegal" false) rfl)
  kit_NotLost_LinkError := of_decide_eq_true (c.fact 247 (f := kitB2 "NotLost" "LinkError" true) rfl)
  kit_NotLost_LogError := of_decide_eq_true (c.fact 248 (f := kitB2 "NotLost" "LogError" false) rfl)
  kit_NotLost_NotLost := of_decide_eq_true (c.fact 249 (f := kitB2 "NotLost" "NotLost" true) rfl)
  exm_NotLost_NotLost := of_decide_eq_true (c.fact 250 (f := exmB "NotLost" "NotLost" true) rfl)
  kit_NotLost_Refused := of_decide_eq_true (c.fact 251 (f := kitB2 "NotLost" "Refused" false) rfl)
  exm_NotLost_Refused := of_decide_eq_true (c.fact 252 (f := exmB "NotLost" "Refused" false) rfl)
  kit_NotLost_ValueError := of_decide_eq_true (c.fact 253 (f := kitT2 "NotLost" "ValueError" true) rfl)
  oe_Refused := excB_ok (c.fact 254 (f := excB "Refused" ["operation", "index", "refusing"]) rfl)
  in_Refused := iniB_ok (c.fact 255 (f := iniB "Refused") rfl)
  kit_Refused_BadDump := of_decide_eq_true (c.fact 256 (f := kitB2 "Refused" "BadDump" false) rfl)
  kit_Refused_BadGap := of_decide_eq_true (c.fact 257 (f := kitB2 "Refused" "BadGap" false) rfl)
  kit_Refused_BadMode := of_decide_eq_true (c.fact 258 (f := kitB2 "Refused" "BadMode" false) rfl)
  kit_Refused_BadNode := of_decide_eq_true (c.fact 259 (f := kitB2 "Refused" "BadNode" false) rfl)
  kit_Refused_BadOperation := of_decide_eq_true (c.fact 260 (f := kitB2 "Refused" "BadOperation" false) rfl)
  kit_Refused_BadSize := of_decide_eq_true (c.fact 261 (f := kitB2 "Refused" "BadSize" false) rfl)
  kit_Refused_Illegal := of_decide_eq_true (c.fact 262 (f := kitB2 "Refused" "Illegal" false) rfl)
  kit_Refused_LinkError := of_decide_eq_true (c.fact 263 (f := kitB2 "Refused" "LinkError" true) rfl)
  kit_Refused_LogError := of_decide_eq_true (c.fact 264 (f := kitB2 "Refused" "LogError" true) rfl)
  kit_Refused_NotLost := of_decide_eq_true (c.fact 265 (f := kitB2 "Refused" "NotLost" false) rfl)
  exm_Refused_NotLost := of_decide_eq_true (c.fact 266 (f := exmB "Refused" "NotLost" false) rfl)
  kit_Refused_Refused := of_decide_eq_true (c.fact 267 (f := kitB2 "Refused" "Refused" true) rfl)
  exm_Refused_Refused := of_decide_eq_true (c.fact 268 (f := exmB "Refused" "Refused" true) rfl)
  kit_Refused_ValueError := of_decide_eq_true (c.fact 269 (f := kitT2 "Refused" "ValueError" true) rfl)
end G
set_option Elab.async false
set_option linter.all false
set_option maxRecDepth 100000
set_option maxHeartbeats 4000000
/-! k21: certificates of loss. -/
namespace G
open PySem PySem.Spec PyProof.Rows L2
/-- the state of a gap after i operations -/
def stL (n : Nat) (log : List Int) (i g : Nat) : Str := stT (runS (wholeS n) (log.take i)) g
/-- the operations that changed it -/
def chL (n : Nat) (log : List Int) (g i : Nat) : List Int := ((List.range i).filter fun j => decide (¬ stL n log (j + 1) g = stL n log j g)).map fun (j : Nat) => (j : Int)
theorem chL_snoc (n : Nat) (log : List Int) (g i : Nat) : chL n log g (i + 1) = chL n log g i ++ (if ¬ stL n log (i + 1) g = stL n log i g then [(i : Int)] else []) := by
  unfold chL
  rw [List.range_succ, List.filter_append, List.map_append]
  congr 1
  by_cases c : stL n log (i + 1) g = stL n log i g
  · rw [if_neg (fun z => z c), List.filter_cons_of_neg (by rw [decide_eq_false (fun z => z c)]; exact Bool.false_ne_true)] <;> rfl
  · rw [if_pos c, List.filter_cons_of_pos (by rw [decide_eq_true c])] <;> rfl
theorem chL_len (n : Nat) (log : List Int) (g i : Nat) : (chL n log g i).length ≤ i := by
  unfold chL
  rw [List.length_map]
  refine Nat.le_trans (List.length_filter_le _ _) ?_
  rw [List.length_range]
  exact Nat.le_refl _
theorem jl : ¬ (("joined" : Str) = "lost") := by decide +kernel
theorem ll : ¬ (("left" : Str) = "lost") := by decide +kernel
theorem rl_ : ¬ (("right" : Str) = "lost") := by decide +kernel
theorem jl2 : ¬ (("left" : Str) = "joined") := by decide +kernel
theorem jr2 : ¬ (("right" : Str) = "joined") := by decide +kernel
theorem jx2 : ¬ (("lost" : Str) = "joined") := by decide +kernel
theorem stT_joined {s : Sd} {g : Nat} : stT s g = "joined" ↔ gI s.R g = (g : Int) + 1 ∧ gI s.L (g + 1) = (g : Int) := by
  unfold stT
  split <;> split <;> rename_i a b
  · exact ⟨fun _ => ⟨a, b⟩, fun _ => rfl⟩
  · exact ⟨fun z => absurd z jl2, fun z => absurd z.2 b⟩
  · exact ⟨fun z => absurd z jr2, fun z => absurd z.1 a⟩
  · exact ⟨fun z => absurd z jx2, fun z => absurd z.1 a⟩
theorem stT_lost2 {s : Sd} {g : Nat} : stT s g = "lost" ↔ ¬ gI s.R g = (g : Int) + 1 ∧ ¬ gI s.L (g + 1) = (g : Int) := by
  unfold stT
  split <;> split <;> rename_i a b
  · exact ⟨fun z => absurd z jl, fun z => absurd a z.1⟩
  · exact ⟨fun z => absurd z ll, fun z => absurd a z.1⟩
  · exact ⟨fun z => absurd z rl_, fun z => absurd b z.2⟩
  · exact ⟨fun _ => ⟨a, b⟩, fun _ => rfl⟩
/-- no operation loses a joined gap -/
theorem no_jump {s : Sd} {op : Int} (w : Wf s) (ok : IsOp s.n op) {g : Nat} (h : stT s g = "joined") : ¬ stT (stepS s op) g = "lost" := by
  intro z
  obtain ⟨h1, h2⟩ := stT_joined.mp h
  obtain ⟨z1, z2⟩ := stT_lost2.mp z
  obtain ⟨t1, t2, _⟩ := touch_bd w ok
  rw [step_gR w ok] at z1
  rw [step_gL w ok] at z2
  by_cases c1 : g = lowN s op
  · rw [if_neg (by omega)] at z2
    exact z2 h2
  · rw [if_neg c1] at z1
    exact z1 h1
theorem whole_joined {n g : Nat} (hg : g ≤ n) : stT (wholeS n) g = "joined" := by
  refine stT_joined.mpr ⟨?_, ?_⟩
  · show gI (rgI 1 (n + 1)) g = _
    rw [gI_range (by omega)]
    omega
  · show gI (rgI 0 (n + 1)) g = _
    rw [gI_range (by omega)]
    omega
theorem stL_snoc {n : Nat} {log : List Int} {i : Nat} {op : Int} (h : log[i]? = some op) (g : Nat) : stL n log (i + 1) g = stT (stepS (runS (wholeS n) (log.take i)) op) g := by
  unfold stL
  have e : log.take (i + 1) = log.take i ++ [op] := by rw [List.take_succ, h] <;> rfl
  rw [e, runS_snoc]
theorem lost_two {n : Nat} (hn : n ≤ 60) {log : List Int} (le : Leg (wholeS n) log) {g : Nat} (hg : g ≤ n) : ∀ i, i ≤ log.length → stL n log i g = "joined" ∨ (¬ stL n log i g = "lost" ∧ 1 ≤ (chL n log g i).length) ∨ 2 ≤ (chL n log g i).length := by
  intro i
  induction i with
  | zero =>
    intro _
    left
    unfold stL
    rw [List.take_zero]
    exact whole_joined hg
  | succ i ih =>
    intro hi
    obtain ⟨op, hop⟩ : ∃ op, log[i]? = some op := ⟨_, List.getElem?_eq_getElem (by omega)⟩
    have ok := le i op hop
    have wf : Wf (runS (wholeS n) (log.take i)) := Leg.wf (.whole hn) (le.take i)
    rw [chL_snoc]
    by_cases c : stL n log (i + 1) g = stL n log i g
    · rw [if_neg (fun z => z c), List.append_nil, c]
      exact ih (by omega)
    · rw [if_pos c, List.length_append]
      rcases ih (by omega) with h | ⟨h, l⟩ | l
      · right; left
        refine ⟨?_, by show 1 ≤ _ + 1; omega⟩
        rw [stL_snoc hop]
        exact no_jump wf ok.1 h
      · right; right
        show 2 ≤ _ + 1
        omega
      · right; right
        show 2 ≤ _ + 1
        omega
theorem lost_len {n : Nat} (hn : n ≤ 60) {log : List Int} (le : Leg (wholeS n) log) {g : Nat} (hg : g ≤ n) (h : stL n log log.length g = "lost") : 2 ≤ (chL n log g log.length).length := by
  rcases lost_two hn le hg log.length (Nat.le_refl _) with z | ⟨z, _⟩ | z
  · rw [h] at z
    exact absurd z jx2
  · exact absurd h z
  · exact z
/-! ### triples -/
abbrev Ct := Int × Int × Int
def ctV (t : Ct) : List V := [.int t.1, .int t.2.1, .int t.2.2]
def ctD (t : Ct) : PyData := .tuple [.int t.1, .int t.2.1, .int t.2.2]
def certAt (n : Nat) (log : List Int) (g : Nat) : Ct := ((g : Int), gI (chL n log g log.length) ((chL n log g log.length).length - 2), gI (chL n log g log.length) ((chL n log g log.length).length - 1))
def certK (n : Nat) (log : List Int) (k : Nat) : List Ct := ((List.range k).filter fun g => decide (stL n log log.length g = "lost")).map fun g => certAt n log g
def certs (n : Nat) (log : List Int) : List Ct := certK n log (n + 1)
theorem certK_snoc (n : Nat) (log : List Int) (k : Nat) : certK n log (k + 1) = certK n log k ++ (if stL n log log.length k = "lost" then [certAt n log k] else []) := by
  unfold certK
  rw [List.range_succ, List.filter_append, List.map_append]
  congr 1
  by_cases c : stL n log log.length k = "lost"
  · rw [if_pos c, List.filter_cons_of_pos (by rw [decide_eq_true c])] <;> rfl
  · rw [if_neg c, List.filter_cons_of_neg (by rw [decide_eq_false c]; exact Bool.false_ne_true)] <;> rfl
def CPs (H : Hp) (xs : List V) (es : List Ct) : Prop := xs.length = es.length ∧ ∀ (i : Nat) (e : Ct), es[i]? = some e → ∃ a, xs[i]? = some (.ref a) ∧ H a = some (.tup (ctV e))
theorem CPs.kp {S : List Addr} {H H' : Hp} {xs : List V} {es : List Ct} (h : CPs H xs es) (k : Kp S H H') (hS : ∀ b ∈ S, ∀ ys, H b ≠ some (.tup ys)) : CPs H' xs es := by
  refine ⟨h.1, fun i t e => ?_⟩
  obtain ⟨a, h1, h2⟩ := h.2 i t e
  exact ⟨a, h1, k _ _ (fun z => hS a z _ h2) h2⟩
theorem CPs.k0 {H H' : Hp} {xs : List V} {es : List Ct} (h : CPs H xs es) (k : Kp [] H H') : CPs H' xs es := h.kp k (by simp)
theorem CPs.app {H : Hp} {xs ys : List V} {es fs : List Ct} (h : CPs H xs es) (h2 : CPs H ys fs) : CPs H (xs ++ ys) (es ++ fs) := by
  refine ⟨by rw [List.length_append, List.length_append, h.1, h2.1], fun i u e => ?_⟩
  by_cases c : i < es.length
  · rw [List.getElem?_append_left c] at e
    obtain ⟨b, e1, e2⟩ := h.2 i u e
    exact ⟨b, by rw [List.getElem?_append_left (by rw [h.1]; exact c)]; exact e1, e2⟩
  · rw [List.getElem?_append_right (by omega)] at e
    obtain ⟨b, e1, e2⟩ := h2.2 _ u e
    exact ⟨b, by rw [List.getElem?_append_right (by rw [h.1]; omega), h.1]; exact e1, e2⟩
theorem CPs.one {H : Hp} {a : Addr} {t : Ct} (ha : H a = some (.tup (ctV t))) : CPs H [.ref a] [t] := by
  refine ⟨rfl, fun i u e => ?_⟩
  match i, e with
  | 0, e =>
    have eu : t = u := by simpa using e
    subst eu
    exact ⟨a, rfl, ha⟩
  | i + 1, e => simp at e
theorem CPs.nil {H : Hp} : CPs H [] [] := ⟨rfl, fun i t e => by simp at e⟩
theorem CPs.tail {H : Hp} {x : V} {xs : List V} {e : Ct} {es : List Ct} (h : CPs H (x :: xs) (e :: es)) : CPs H xs es := by
  have := h.1
  refine ⟨by simpa using this, fun i u z => ?_⟩
  obtain ⟨a, h1, h2⟩ := h.2 (i + 1) u (by simpa using z)
  exact ⟨a, by simpa using h1, h2⟩
theorem CPs.dp {K : PySem.W.Frag} {H : Hp} : ∀ {xs : List V} {es : List Ct}, CPs H xs es → DpAll K H xs (es.map ctD)
  | [], [], _ => .nil
  | x :: xs, e :: es, h => by
    obtain ⟨a, h1, h2⟩ := h.2 0 e rfl
    have ex : x = .ref a := by simpa using h1
    subst ex
    exact .cons (.tup (SqT.of h2) (.cons (.int _) (.cons (.int _) (.cons (.int _) .nil)))) h.tail.dp
  | [], _ :: _, h => by have := h.1; simp at this
  | _ :: _, [], h => by have := h.1; simp at this
theorem layCt : ∀ es : List Ct, PyData.canLayAll0 (es.map ctD) = true
  | [] => by simp [PyData.canLayAll0]
  | e :: es => by
    show PyData.canLayAll0 (ctD e :: es.map ctD) = true
    rw [PyData.canLayAll0, layCt es]
    simp [ctD, PyData.canLay0, PyData.canLayAll0]
theorem depCt : ∀ es : List Ct, PyData.depthAll (es.map ctD) ≤ 2
  | [] => by simp [PyData.depthAll]
  | e :: es => by
    have := depCt es
    show PyData.depthAll (ctD e :: es.map ctD) ≤ 2
    rw [PyData.depthAll]
    simp [ctD, PyData.depth, PyData.depthAll]
    omega
theorem shCt (es : List Ct) : SeqAt.shaped (.list (es.map ctD)) = true := by
  unfold SeqAt.shaped
  rw [PyData.canLay0, layCt, PyData.depth]
  have := depCt es
  simp
  omega
/-- three whole numbers -/
def tripD : PyData → Bool
  | .tuple [a, b, c] => isI a && (isI b && isI c)
  | _ => false
def inD (d : PyData) (es : List Ct) : Bool := (es.map ctD).any fun z => PyData.eqv z d
def cerD (d : PyData) (es : List Ct) : Bool := tripD d && inD d es
/-! ### the law's things -/
structure Bk5 (H : Hp) (w l r o : Addr) (s : Sd) : Prop where
  ob : H w = some (.lst [.int s.n, .ref l, .ref r, .ref o])
  hl : ∃ L' : List Int, H l = some (.lst (L'.map V.int)) ∧ L'.length = s.n + 2 ∧ ∀ v, 1 ≤ v → v ≤ s.n + 1 → gI L' v = gI s.L v
  hr : ∃ R' : List Int, H r = some (.lst (R'.map V.int)) ∧ R'.length = s.n + 2 ∧ ∀ v, v ≤ s.n → gI R' v = gI s.R v
  ho : H o = some (.lst (s.O.map V.bl))
  ne : l ≠ r ∧ l ≠ o ∧ r ≠ o ∧ w ≠ l ∧ w ≠ r ∧ w ≠ o
  wf : Wf s
theorem Bk5.kp {H H' : Hp} {w l r o : Addr} {s : Sd} {S : List Addr} (a : Bk5 H w l r o s) (k : Kp S H H') (h1 : w ∉ S) (h2 : l ∉ S) (h3 : r ∉ S) (h4 : o ∉ S) : Bk5 H' w l r o s := by
  obtain ⟨L', e1, e2⟩ := a.hl
  obtain ⟨R', f1, f2⟩ := a.hr
  exact ⟨k _ _ h1 a.ob, ⟨L', k _ _ h2 e1, e2⟩, ⟨R', k _ _ h3 f1, f2⟩, k _ _ h4 a.ho, a.ne, a.wf⟩
theorem Bk5.k0 {H H' : Hp} {w l r o : Addr} {s : Sd} (a : Bk5 H w l r o s) (k : Kp [] H H') : Bk5 H' w l r o s := a.kp k (by simp) (by simp) (by simp) (by simp)
theorem Bk5.fr {H : Hp} {w l r o x : Addr} {s : Sd} (a : Bk5 H w l r o s) (n : H x = none) : w ≠ x ∧ l ≠ x ∧ r ≠ x ∧ o ≠ x := by
  obtain ⟨L', e1, e2⟩ := a.hl
  obtain ⟨R', f1, f2⟩ := a.hr
  exact ⟨ne_of_none a.ob n, ne_of_none e1 n, ne_of_none f1 n, ne_of_none a.ho n⟩
theorem legO_ok' {s : Sd} {v : Nat} (h1 : 1 ≤ v) (h2 : v ≤ s.n) : OkOp s (legO s v) ∧ (legO s v).natAbs = v := by
  unfold legO
  by_cases c : gB s.O v = true
  · rw [if_pos c]
    refine ⟨⟨⟨by omega, by omega⟩, ?_⟩, by omega⟩
    rw [Int.natAbs_natCast, c]
    symm
    exact decide_eq_true (by omega)
  · rw [if_neg c]
    refine ⟨⟨⟨by omega, by omega⟩, ?_⟩, by omega⟩
    rw [Int.natAbs_neg, Int.natAbs_natCast, Bool.not_eq_true] at *
    rw [c]
    symm
    exact decide_eq_false (by omega)
structure Bag5 (H : Hp) (b c : Addr) : Prop where
  ob : ∃ p q m t : Int, H b = some (.lst [.ref c, .int p, .int q, .int m, .int t]) ∧ 0 ≤ p
  hc : ∃ ns : List Int, H c = some (.lst (ns.map V.int)) ∧ ns.length ≤ 63
theorem Bag5.ne {H : Hp} {b c : Addr} (h : Bag5 H b c) : b ≠ c := by
  obtain ⟨p, q, m, t, h1, _⟩ := h.ob
  obtain ⟨ns, h2, _⟩ := h.hc
  rintro rfl
  rw [h1] at h2
  injection h2 with h2
  injection h2 with h2
  cases ns with
  | nil => cases h2
  | cons x ns =>
    injection h2 with h2
    cases h2
theorem Bag5.kp {H H' : Hp} {b c : Addr} {S : List Addr} (a : Bag5 H b c) (k : Kp S H H') (h1 : b ∉ S) (h2 : c ∉ S) : Bag5 H' b c := by
  obtain ⟨p, q, m, t, e1, p0⟩ := a.ob
  obtain ⟨ns, e2, e3⟩ := a.hc
  exact ⟨⟨p, q, m, t, k _ _ h1 e1, p0⟩, ⟨ns, k _ _ h2 e2, e3⟩⟩
theorem Bag5.k0 {H H' : Hp} {b c : Addr} (a : Bag5 H b c) (k : Kp [] H H') : Bag5 H' b c := a.kp k (by simp) (by simp)
theorem Bag5.fr {H : Hp} {b c x : Addr} (a : Bag5 H b c) (n : H x = none) : x ≠ b ∧ x ≠ c := by
  obtain ⟨_, _, _, _, e1, _⟩ := a.ob
  obtain ⟨_, e2, _⟩ := a.hc
  exact ⟨(ne_of_none e1 n).symm, (ne_of_none e2 n).symm⟩
structure ValS (b : Addr) (H : Hp) (v : V) : Prop where
  ex : ∃ d, Vl b H v d ∧ SeqAt.shaped d = true
theorem ValS.k1 {b : Addr} {H H' : Hp} {v : V} (h : ValS b H v) (k : Kp [b] H H') : ValS b H' v := by
  obtain ⟨d, h1, h2⟩ := h.ex
  exact ⟨d, Vl.kp k d v h1, h2⟩
theorem ValS.k0 {b : Addr} {H H' : Hp} {v : V} (h : ValS b H v) (k : Kp [] H H') : ValS b H' v := h.k1 k.all
/-- what is told of a wrong log -/
def FltC (size : Int) (log : List Int) (m : Bool) (s : Str) (i j : Int) : Prop :=
  (¬ SizeOk size ∧ s = "size" ∧ i = size ∧ j = 0) ∨
  (SizeOk size ∧ ∃ (k : Nat) (op : Int), log[k]? = some op ∧ Leg (wholeS size.toNat) (log.take k) ∧ ¬ OkOp (runS (wholeS size.toNat) (log.take k)) op ∧ s = (if IsOp size.toNat op then ("illegal" : Str) else "operation") ∧ i = op ∧ j = (k : Int)) ∨
  (m = true ∧ SizeOk size ∧ Leg (wholeS size.toNat) log ∧ certs size.toNat log = [] ∧ s = "none" ∧ i = size ∧ j = 0)
theorem FltC.uniq {size : Int} {log : List Int} {m m' : Bool} {s s' : Str} {i j i' j' : Int} (bad : ¬ (SizeOk size ∧ Leg (wholeS size.toNat) log)) (a : FltC size log m s i j) (b : FltC size log m' s' i' j') : s = s' ∧ i = i' ∧ j = j' := by
  rcases a with ⟨a1, rfl, rfl, rfl⟩ | ⟨a1, k, op, a2, a3, a4, rfl, rfl, rfl⟩ | ⟨_, a1, a2, _⟩
  · rcases b with ⟨b1, rfl, rfl, rfl⟩ | ⟨b1, _⟩ | ⟨_, b1, _⟩
    · exact ⟨rfl, rfl, rfl⟩
    · exact absurd b1 a1
    · exact absurd b1 a1
  · rcases b with ⟨b1, _⟩ | ⟨b1, k', op', b2, b3, b4, rfl, rfl, rfl⟩ | ⟨_, b1, b2, _⟩
    · exact absurd a1 b1
    · obtain ⟨rfl, rfl⟩ := bad_uniq a2 b2 a3 b3 a4 b4
      exact ⟨rfl, rfl, rfl⟩
    · exact absurd ⟨b1, b2⟩ bad
  · exact absurd ⟨a1, a2⟩ bad
/-! ### promises -/
section
def sp__certificates (K : PySem.W.Frag) : Sp := fun vs H Q E => ∃ (a : Addr) (size : Int) (log : List Int), vs = [.int size, .ref a] ∧ SqL K H a (log.map V.int) ∧ log.length ≤ 1000 ∧ RepE K H size log E ∧
  (SizeOk size → Leg (wholeS size.toNat) log → ∀ xs q H', H q = none → Kp [] H H' → H' q = some (.lst xs) → CPs H' xs (certs size.toNat log) → Q (.ref q) H')
def sp_is_loss_certificate (K : PySem.W.Frag) : Sp := fun vs H Q E => ∃ (a b : Addr) (size : Int) (log : List Int) (x : V) (d : PyData), vs = [.int size, .ref a, x] ∧ SqL K H a (log.map V.int) ∧ log.length ≤ 1000 ∧ Vl b H x d ∧ SeqAt.shaped d = true ∧ RepE K H size log E ∧
  (SizeOk size → Leg (wholeS size.toNat) log → Any H (.bl (cerD d (certs size.toNat log))) Q)
def sp_loss_certificate (K : PySem.W.Frag) : Sp := fun vs H Q E => ∃ (a : Addr) (size : Int) (log : List Int), vs = [.int size, .ref a] ∧ SqL K H a (log.map V.int) ∧ log.length ≤ 1000 ∧ RepE K H size log E ∧
  (SizeOk size → Leg (wholeS size.toNat) log → certs size.toNat log = [] → ∀ H', Kp [] H H' → Ex K "NotLost" [("size", .int size)] E H') ∧
  (SizeOk size → Leg (wholeS size.toNat) log → ∀ e es, certs size.toNat log = e :: es → ∀ t H', Kp [] H H' → H' t = some (.tup (ctV e)) → Q (.ref t) H')
end
end G
set_option Elab.async false
set_option linter.all false
set_option maxRecDepth 100000
set_option maxHeartbeats 4000000
/-! k06: sole holders; promises. -/
namespace G
open PySem PySem.Spec PyProof.Rows L2
theorem stT_left {s : Sd} {g : Nat} : stT s g = "left" ↔ gI s.R g = (g : Int) + 1 ∧ gI s.L (g + 1) ≠ (g : Int) := by
  obtain ⟨a, b, c, d, e, f, h, i, j, k, l, m⟩ := ne_w
  unfold stT
  by_cases h1 : gI s.R g = (g : Int) + 1 <;> by_cases h2 : gI s.L (g + 1) = (g : Int)
  · rw [if_pos h1, if_pos h2]
    exact ⟨fun z => absurd z k, fun z => absurd h2 z.2⟩
  · rw [if_pos h1, if_neg h2]
    exact ⟨fun _ => ⟨h1, h2⟩, fun _ => rfl⟩
  · rw [if_neg h1, if_pos h2]
    exact ⟨fun z => absurd z h, fun z => absurd z.1 h1⟩
  · rw [if_neg h1, if_neg h2]
    exact ⟨fun z => absurd z i, fun z => absurd z.1 h1⟩
theorem stT_right {s : Sd} {g : Nat} : stT s g = "right" ↔ gI s.R g ≠ (g : Int) + 1 ∧ gI s.L (g + 1) = (g : Int) := by
  obtain ⟨a, b, c, d, e, f, h, i, j, k, l, m⟩ := ne_w
  unfold stT
  by_cases h1 : gI s.R g = (g : Int) + 1 <;> by_cases h2 : gI s.L (g + 1) = (g : Int)
  · rw [if_pos h1, if_pos h2]
    exact ⟨fun z => absurd z l, fun z => absurd h1 z.1⟩
  · rw [if_pos h1, if_neg h2]
    exact ⟨fun z => absurd z m, fun z => absurd h1 z.1⟩
  · rw [if_neg h1, if_pos h2]
    exact ⟨fun _ => ⟨h1, h2⟩, fun _ => rfl⟩
  · rw [if_neg h1, if_neg h2]
    exact ⟨fun z => absurd z j, fun z => absurd z.2 h2⟩
/-- the four words of a state, one by one -/
theorem st_cases (s : Sd) (g : Nat) : (gI s.R g = (g : Int) + 1 ∧ gI s.L (g + 1) = (g : Int) ∧ stT s g = "joined") ∨ (gI s.R g = (g : Int) + 1 ∧ ¬ gI s.L (g + 1) = (g : Int) ∧ stT s g = "left") ∨
    (¬ gI s.R g = (g : Int) + 1 ∧ gI s.L (g + 1) = (g : Int) ∧ stT s g = "right") ∨ (¬ gI s.R g = (g : Int) + 1 ∧ ¬ gI s.L (g + 1) = (g : Int) ∧ stT s g = "lost") := by
  unfold stT
  by_cases h1 : gI s.R g = (g : Int) + 1 <;> by_cases h2 : gI s.L (g + 1) = (g : Int)
  · exact .inl ⟨h1, h2, by rw [if_pos h1, if_pos h2]⟩
  · exact .inr (.inl ⟨h1, h2, by rw [if_pos h1, if_neg h2]⟩)
  · exact .inr (.inr (.inl ⟨h1, h2, by rw [if_neg h1, if_pos h2]⟩))
  · exact .inr (.inr (.inr ⟨h1, h2, by rw [if_neg h1, if_neg h2]⟩))
/-! ### promises -/
end G
set_option Elab.async false
set_option linter.all false
set_option maxRecDepth 100000
set_option maxHeartbeats 4000000
/-! k00: promises. -/
namespace G
open PySem PySem.Spec PyProof.Rows L2 TL
/-- the law's box of draws: cells, place, number, seed, count -/
structure BxI (H : Hp) (b c : Addr) : Prop where
  ob : ∃ p q m t : Int, H b = some (.lst [.ref c, .int p, .int q, .int m, .int t]) ∧ 0 ≤ p
  hc : ∃ ns : List Int, H c = some (.lst (ns.map V.int)) ∧ ns.length ≤ 63
theorem BxI.ne {H : Hp} {b c : Addr} (h : BxI H b c) : b ≠ c := by
  obtain ⟨p, q, m, t, h1, _⟩ := h.ob
  obtain ⟨ns, h2, _⟩ := h.hc
  rintro rfl
  rw [h1] at h2
  injection h2 with h2
  injection h2 with h2
  cases ns with
  | nil => cases h2
  | cons x ns =>
    injection h2 with h2
    cases h2
theorem BxI.kp {H H' : Hp} {b c : Addr} {S : List Addr} (a : BxI H b c) (k : Kp S H H') (h1 : b ∉ S) (h2 : c ∉ S) : BxI H' b c := by
  obtain ⟨p, q, m, t, e1, p0⟩ := a.ob
  obtain ⟨ns, e2, e3⟩ := a.hc
  exact ⟨⟨p, q, m, t, k _ _ h1 e1, p0⟩, ⟨ns, k _ _ h2 e2, e3⟩⟩
theorem BxI.k0 {H H' : Hp} {b c : Addr} (a : BxI H b c) (k : Kp [] H H') : BxI H' b c := a.kp k (by simp) (by simp)
theorem BxI.fr {H : Hp} {b c x : Addr} (a : BxI H b c) (n : H x = none) : x ≠ b ∧ x ≠ c := by
  obtain ⟨_, _, _, _, e1, _⟩ := a.ob
  obtain ⟨_, e2, _⟩ := a.hc
  exact ⟨(ne_of_none e1 n).symm, (ne_of_none e2 n).symm⟩
/-- what a reading of the text is due to tell -/
def DueA (H : Hp) (t : Str) (xs : List V) : Prop := (∃ k : Nat, badW (wordsT t) = some k ∧ xs = [.bl false, .int (k : Int)]) ∨ (badW (wordsT t) = none ∧ ∃ l, xs = [.bl true, .ref l] ∧ H l = some (.lst (((wordsT t).map valW).map V.int)))
theorem DueA.k0 {H H' : Hp} {t : Str} {xs : List V} (h : DueA H t xs) (k : Kp [] H H') : DueA H' t xs := by
  rcases h with h | ⟨h, l, e, hl⟩
  · exact .inl h
  · exact .inr ⟨h, l, e, k.at0 hl⟩
end G
set_option Elab.async false
set_option linter.all false
set_option maxRecDepth 100000
set_option maxHeartbeats 4000000
/-! k03: dumps of any form. -/
namespace G
open PySem PySem.Spec PyProof.Rows L2 TL NumText
/-! ### canonical digits -/
def numZ (w : Str) : Int := if tl w = [48] then 0 else if posL (tl w) = true then ((digitsVal (tl w) : Nat) : Int) else -1
/-! ### what is split is joined again -/
/-! ### the parts of a dump -/
def nz (t : Str) : List Int := (Txt.split t spS).map numZ
theorem nz_len (t : Str) : (nz t).length = (Txt.split t spS).length := List.length_map ..
theorem nz_ne (t : Str) : nz t ≠ [] := fun z => (split_sum t).2.2 (by
  have := nz_len t
  rw [z] at this
  exact List.length_eq_zero_iff.mp this.symm)
def okR (R : List Int) : Prop := R.length ≤ 61 ∧ ∀ v, v < R.length → (v : Int) < gI R v ∧ gI R v ≤ R.length
def okL (L : List Int) (n : Nat) : Prop := L.length = n + 1 ∧ ∀ v, v ≤ n → 0 ≤ gI L v ∧ gI L v ≤ v
def okO (O : List Int) (n : Nat) : Prop := ∀ i, i < O.length → gI (0 :: O) i < gI O i ∧ gI O i ≤ n
def prt (t : Str) (i : Nat) : Str := (Txt.split t barS ++ (["", ""] : List Str)).getD i ""
def szT (t : Str) : Nat := (nz (prt t 0)).length - 1
def osT (t : Str) : List Int := if prt t 2 = noneS then [] else nz (prt t 2)
def bitsO (n : Nat) (O : List Int) : List Bool := (List.range (n + 2)).map fun (v : Nat) => decide ((v : Int) ∈ O)
def sdT (t : Str) : Sd := ⟨szT t, nz (prt t 0), 0 :: nz (prt t 1), bitsO (szT t) (osT t)⟩
theorem bits_len (n : Nat) (O : List Int) : (bitsO n O).length = n + 2 := by
  unfold bitsO
  rw [List.length_map, List.length_range]
/-- a right text -/
structure RightT (t : Str) : Prop where
  r : okR (nz (prt t 0))
  l : okL (nz (prt t 1)) (szT t)
  o : okO (osT t) (szT t)
theorem RightT.wf {t : Str} (h : RightT t) : Wf (sdT t) := by
  have hn := List.length_pos_iff.mpr (nz_ne (prt t 0))
  have e : (nz (prt t 0)).length = szT t + 1 := by
    unfold szT
    omega
  refine ⟨?_, e, by show (nz (prt t 1)).length + 1 = _; rw [h.l.1] <;> rfl, bits_len _ _, fun v hv => ?_, fun v h1 h2 => ?_⟩
  · have := h.r.1
    show szT t ≤ 60
    omega
  · have := h.r.2 v (by rw [e]; exact Nat.lt_succ_of_le hv)
    rw [e] at this
    exact this
  · obtain ⟨u, rfl⟩ : ∃ u, v = u + 1 := ⟨v - 1, by omega⟩
    have := h.l.2 u (by show u ≤ szT t; have : u + 1 ≤ szT t + 1 := h2; omega)
    show 0 ≤ gI (nz (prt t 1)) u ∧ gI (nz (prt t 1)) u < _
    omega
end G
set_option Elab.async false
set_option linter.all false
set_option maxRecDepth 100000
set_option maxHeartbeats 4000000
/-! k03: promises. -/
namespace G
open PySem PySem.Spec PyProof.Rows L2 TL
/-- the law's lists of links -/
structure WdZ (H : Hp) (r l o : Addr) (n : Nat) (R L : List Int) (O : List Bool) : Prop where
  hr : H r = some (.lst (R.map V.int))
  hl : H l = some (.lst (L.map V.int))
  ho : H o = some (.lst (O.map V.bl))
  ne : r ≠ l ∧ r ≠ o ∧ l ≠ o
  lR : R.length = n + 1
  lL : L.length = n + 2
  lO : O.length = n + 2
  rb : ∀ v : Nat, v ≤ n → (v : Int) < gI R v ∧ gI R v ≤ (n : Int) + 1
  lb : ∀ v : Nat, 1 ≤ v → v ≤ n + 1 → 0 ≤ gI L v ∧ gI L v < (v : Int)
  o0 : gB O 0 = false
  o1 : gB O (n + 1) = false
theorem WdZ.kp {H H' : Hp} {r l o : Addr} {n : Nat} {R L : List Int} {O : List Bool} {S : List Addr} (a : WdZ H r l o n R L O) (k : Kp S H H') (h1 : r ∉ S) (h2 : l ∉ S) (h3 : o ∉ S) : WdZ H' r l o n R L O :=
  ⟨k _ _ h1 a.hr, k _ _ h2 a.hl, k _ _ h3 a.ho, a.ne, a.lR, a.lL, a.lO, a.rb, a.lb, a.o0, a.o1⟩
theorem WdZ.k0 {H H' : Hp} {r l o : Addr} {n : Nat} {R L : List Int} {O : List Bool} (a : WdZ H r l o n R L O) (k : Kp [] H H') : WdZ H' r l o n R L O := a.kp k (by simp) (by simp) (by simp)
section
def sp03_Links_is_out (K : PySem.W.Frag) : Sp := fun vs H Q E => ∃ (p r l o : Addr) (s : Sd) (v : Nat), vs = [.ref p, .int (v : Int)] ∧ LinksAt K H p r l o s ∧ v ≤ s.n + 1 ∧ Q (.bl (gB s.O v)) H
end
end G
set_option Elab.async false
set_option linter.all false
set_option maxRecDepth 100000
set_option maxHeartbeats 4000000
/-! k02: mathematics and promises. -/
namespace G
open PySem PySem.Spec PyProof.Rows L2 TL
/-! ### the standing of the law's lists -/
def wS (n : Nat) (R L : List Int) (O : List Bool) : Sd := ⟨n, R, 0 :: L.drop 1, O⟩
theorem gI_wL {L : List Int} {v : Nat} (h : 1 ≤ v) : gI (0 :: L.drop 1) v = gI L v := by
  obtain ⟨u, rfl⟩ : ∃ u, v = u + 1 := ⟨v - 1, by omega⟩
  show (L.drop 1).getD u 0 = L.getD (u + 1) 0
  rw [List.getD_eq_getElem?_getD, List.getD_eq_getElem?_getD, List.getElem?_drop, Nat.add_comm]
theorem WdZ.wf {H : Hp} {r l o : Addr} {n : Nat} {R L : List Int} {O : List Bool} (a : WdZ H r l o n R L O) (hn : n ≤ 60) : Wf (wS n R L O) := by
  refine ⟨hn, a.lR, ?_, a.lO, a.rb, fun v h1 h2 => ?_⟩
  · show (L.drop 1).length + 1 = n + 2
    rw [List.length_drop, a.lL]
    omega
  · show 0 ≤ gI (0 :: L.drop 1) v ∧ gI (0 :: L.drop 1) v < _
    rw [gI_wL h1]
    exact a.lb v h1 h2
/-! ### dumps are alike exactly if the standings are -/
end G
set_option Elab.async false
set_option linter.all false
set_option maxRecDepth 100000
set_option maxHeartbeats 4000000
/-! k02: promises. -/
namespace G
open PySem PySem.Spec PyProof.Rows L2 TL
def sp02_Links___str__ (K : PySem.W.Frag) : Sp := fun vs H Q E => ∃ (p r l o : Addr) (s : Sd), vs = [.ref p] ∧ LinksAt K H p r l o s ∧ Any H (.str (dumpS s)) Q
end G
set_option Elab.async false
set_option linter.all false
set_option maxRecDepth 100000
set_option maxHeartbeats 4000000
/-! k04: mathematics. -/
namespace G
open PySem PySem.Spec PyProof.Rows L2 TL
/-! ### walks -/
/-! ### sound, whole -/
/-! ### the mirror -/
theorem step_gB {s : Sd} (w : Wf s) {op : Int} (h : IsOp s.n op) (v : Nat) : gB (stepS s op).O v = if v = op.natAbs then decide (op < 0) else gB s.O v := by
  show gB (s.O.set op.natAbs (decide (op < 0))) v = _
  have := w.lO
  have := h.2
  rw [gB_set (by omega)]
theorem step_gI {s : Sd} (w : Wf s) {op : Int} (h : IsOp s.n op) (v : Nat) : gI (stepS s op).R v = (if v = (gI s.L op.natAbs).toNat then (if op < 0 then gI s.R op.natAbs else (op.natAbs : Int)) else gI s.R v) ∧ gI (stepS s op).L v = (if v = (gI s.R op.natAbs).toNat then (if op < 0 then gI s.L op.natAbs else (op.natAbs : Int)) else gI s.L v) := by
  have h1 := h.1
  have h2 := h.2
  have rb := w.rb op.natAbs h2
  have lb := w.lb op.natAbs h1 (by omega)
  have l1 := w.lR
  have l2 := w.lL
  refine ⟨?_, ?_⟩
  · show gI (s.R.set _ _) v = _
    rw [gI_set (by omega)]
  · show gI (s.L.set _ _) v = _
    rw [gI_set (by omega)]
end G
set_option Elab.async false
set_option linter.all false
set_option maxRecDepth 100000
set_option maxHeartbeats 4000000
/-! k16: due nodes, debts, finishing by relinks: mathematics. -/
namespace G
open PySem PySem.Spec PyProof.Rows L2
/-! ### finishing by relinks alone -/
theorem lost_nil {s : Sd} : lostL s = [] ↔ ∀ g, g ≤ s.n → stT s g ≠ "lost" := by
  unfold lostL
  rw [List.filter_eq_nil_iff]
  constructor
  · intro h g hg z
    exact h g (List.mem_range.mpr (by omega)) (decide_eq_true z)
  · intro h g hg z
    exact h g (by have := List.mem_range.mp hg; omega) (of_decide_eq_true z)
/-! ### rows -/
end G
set_option Elab.async false
set_option linter.all false
set_option maxRecDepth 100000
set_option maxHeartbeats 4000000
/-! k16: promises. -/
namespace G
open PySem PySem.Spec PyProof.Rows L2
/-- the rows on the heap, none of them anything of z -/
def RowAt (H : Hp) (z w : Addr) (t : Sd) : Prop := ∃ l r o, Bk5 H w l r o t ∧ Snd t ∧ w ≠ z ∧ l ≠ z ∧ r ≠ z ∧ o ≠ z
theorem RowAt.kz {H H' : Hp} {z w : Addr} {t : Sd} (h : RowAt H z w t) (k : Kp [z] H H') : RowAt H' z w t := by
  obtain ⟨l, r, o, b, d, h1, h2, h3, h4⟩ := h
  exact ⟨l, r, o, b.kp k (by simpa using h1) (by simpa using h2) (by simpa using h3) (by simpa using h4), d, h1, h2, h3, h4⟩
def RowsAt (H : Hp) (z : Addr) (ws : List Addr) (ts : List Sd) : Prop := ws.length = ts.length ∧ ∀ (i : Nat) (w : Addr) (t : Sd), ws[i]? = some w → ts[i]? = some t → RowAt H z w t
theorem RowsAt.kz {H H' : Hp} {z : Addr} {ws : List Addr} {ts : List Sd} (h : RowsAt H z ws ts) (k : Kp [z] H H') : RowsAt H' z ws ts := ⟨h.1, fun i w t a b => (h.2 i w t a b).kz k⟩
theorem RowsAt.k0 {H H' : Hp} {z : Addr} {ws : List Addr} {ts : List Sd} (h : RowsAt H z ws ts) (k : Kp [] H H') : RowsAt H' z ws ts := h.kz k.all
theorem RowsAt.nil (H : Hp) (z : Addr) : RowsAt H z [] [] := ⟨rfl, fun i w t a _ => by simp at a⟩
theorem RowsAt.snoc {H : Hp} {z w : Addr} {t : Sd} {ws : List Addr} {ts : List Sd} (h : RowsAt H z ws ts) (r : RowAt H z w t) : RowsAt H z (ws ++ [w]) (ts ++ [t]) := by
  refine ⟨by rw [List.length_append, List.length_append, h.1]; rfl, fun i u q a b => ?_⟩
  rcases Nat.lt_or_ge i ws.length with c | c
  · rw [List.getElem?_append_left c] at a
    rw [List.getElem?_append_left (by rw [← h.1]; exact c)] at b
    exact h.2 i u q a b
  · rw [List.getElem?_append_right c] at a
    rw [List.getElem?_append_right (by rw [← h.1]; exact c)] at b
    have c2 : i - ws.length = 0 := by
      have := (List.getElem?_eq_some_iff.mp a).1
      simp at this
      omega
    rw [c2] at a
    rw [← h.1, c2] at b
    injection a with a
    injection b with b
    subst a b
    exact r
def NotRep (K : PySem.W.Frag) (s : Sd) (E : XK) (H : Hp) : Prop := ∀ (g : Nat) (gs : List Nat), lostL s = g :: gs → ∀ H', Kp [] H H' → Ex K "NotRepairable" [("gap", .int (g : Int))] E H'
theorem NotRep.k0 {K : PySem.W.Frag} {s : Sd} {E : XK} {H H1 : Hp} (h : NotRep K s E H) (k : Kp [] H H1) : NotRep K s E H1 := fun g gs e H' k' => h g gs e H' (k.trans k')
end G
set_option Elab.async false
set_option linter.all false
set_option maxRecDepth 100000
set_option maxHeartbeats 4000000
/-! k05: the mathematics of squeezed logs. -/
namespace G
open PySem PySem.Spec PyProof.Rows L2 TL
/-! ### runs -/
/-! ### short runs -/
/-! ### what a squeezed log does -/
theorem runS_app (s : Sd) (a b : List Int) : runS s (a ++ b) = runS (runS s a) b := by
  unfold runS
  rw [List.foldl_append]
end G
set_option Elab.async false
set_option linter.all false
set_option maxRecDepth 100000
set_option maxHeartbeats 4000000
/-! k17: first repairs: mathematics. -/
namespace G
open PySem PySem.Spec PyProof.Rows L2
/-! ### lowering operations -/
abbrev gA (s : Sd) (g : Nat) : Prop := gI s.R g = (g : Int) + 1
abbrev gBk (s : Sd) (g : Nat) : Prop := gI s.L (g + 1) = (g : Int)
/-- where a node's links stand -/
theorem low_at {s : Sd} (w : Wf s) {v : Nat} (hv : v + 1 ≤ s.n) : ∃ l h : Nat, gI s.L (v + 1) = (l : Int) ∧ gI s.R (v + 1) = (h : Int) + 1 ∧ l ≤ v ∧ v < h ∧ h ≤ s.n := by
  obtain ⟨a, b⟩ := w.lb (v + 1) (by omega) (by omega)
  obtain ⟨c, d⟩ := w.rb (v + 1) hv
  exact ⟨(gI s.L (v + 1)).toNat, (gI s.R (v + 1)).toNat - 1, by omega, by omega, by omega, by omega, by omega⟩
/-! ### the first repair -/
end G
set_option Elab.async false
set_option linter.all false
set_option maxRecDepth 100000
set_option maxHeartbeats 4000000
/-! k17: promises. -/
namespace G
open PySem PySem.Spec PyProof.Rows L2
def ltI (v : Nat) (g : Int) : Int := if g < (v : Int) then g + 1 else g
def Dj (A B : List Addr) : Prop := ∀ x ∈ A, x ∉ B
theorem Dj.hd {A B : List Addr} {b : Addr} (d : Dj A (b :: B)) : Dj A [b] := fun x hx z => d x hx (by rw [List.mem_singleton.mp z]; exact List.mem_cons_self ..)
theorem Dj.tl {A B : List Addr} {p : Addr} (d : Dj (p :: A) B) : Dj B A := fun x hx z => d x (List.mem_cons_of_mem _ z) hx
section
def sp17_left_to (K : PySem.W.Frag) : Sp := fun vs H Q E => ∃ op g : Int, vs = [.int op, .int g] ∧ Q (.int (ltI op.natAbs g)) H
end
end G
set_option Elab.async false
set_option linter.all false
set_option maxRecDepth 100000
set_option maxHeartbeats 4000000
/-! k22: once-only logs, late writes. -/
namespace G
open PySem PySem.Spec PyProof.Rows L2
def OnceA (log : List Int) : Prop := ∀ (i : Nat) (op : Int), log[i]? = some op → op < 0 → op ∉ log.take i
theorem OnceA.take {log : List Int} (h : OnceA log) (k : Nat) : OnceA (log.take k) := by
  intro i op hi ho
  have hk : i < (log.take k).length := (List.getElem?_eq_some_iff.mp hi).1
  rw [List.length_take] at hk
  rw [List.getElem?_take_of_lt (by omega)] at hi
  rw [List.take_take, Nat.min_eq_left (by omega)]
  exact h i op hi ho
theorem OnceA.snoc {log : List Int} {op : Int} (h : OnceA log) (ho : op < 0 → op ∉ log) : OnceA (log ++ [op]) := by
  intro i x hi hx
  by_cases c : i < log.length
  · rw [List.getElem?_append_left c] at hi
    rw [List.take_append_of_le_length (by omega)]
    exact h i x hi hx
  · have hl := (List.getElem?_eq_some_iff.mp hi).1
    rw [List.length_append] at hl
    have ei : i = log.length := by simp at hl; omega
    subst ei
    rw [List.getElem?_append_right (Nat.le_refl _), Nat.sub_self] at hi
    have e : op = x := by simpa using hi
    subst e
    rw [List.take_left' rfl]
    exact ho hx
theorem alt_snoc' {ds : List Int} {op : Int} (a : Alt ds) (o : outF ds op.natAbs = decide (0 < op)) : Alt (ds ++ [op]) := by
  intro i x hi
  by_cases h : i < ds.length
  · rw [List.getElem?_append_left h] at hi
    rw [List.take_append_of_le_length (by omega)]
    exact a i x hi
  · have hl := (List.getElem?_eq_some_iff.mp hi).1
    rw [List.length_append] at hl
    have e : i = ds.length := by simp at hl; omega
    subst e
    rw [List.getElem?_append_right (Nat.le_refl _), Nat.sub_self] at hi
    have ex : op = x := by simpa using hi
    subst ex
    rw [List.take_left' rfl]
    exact o
theorem alt_nil' : Alt [] := fun i op h => by simp at h
theorem outF_nil (v : Nat) : outF [] v = false := rfl
/-- 0: has not acted, 1: out, 2: back -/
def stgF (log : List Int) (v : Nat) : Nat := match log.reverse.find? (fun x => decide (x.natAbs = v)) with
  | some x => if x < 0 then 1 else 2
  | none => 0
/-! ### late writes -/
def lateL (s : Sd) (earlier : List Int) (x : Nat) : List Int :=
  (if gI s.L x ≠ (x : Int) - 1 ∧ gI s.L x + 1 ∈ earlier then [gI s.L x] else []) ++ (if gI s.R x ≠ (x : Int) + 1 ∧ gI s.R x - 1 ∈ earlier then [gI s.R x - 1] else [])
/-! ### faults -/
/-- the first second unlink -/
def TwiceAt (log : List Int) (i : Nat) : Prop := ∃ op, log[i]? = some op ∧ op < 0 ∧ op ∈ log.take i ∧ OnceA (log.take i)
structure OnE (K : PySem.W.Frag) (H : Hp) (size : Int) (log : List Int) (E : XK) : Prop where
  re : RepE K H size log E
  tw : SizeOk size → Leg (wholeS size.toNat) log → ∀ i, TwiceAt log i → ∀ H', Kp [] H H' → Ex K "NotOnce" [("index", .int (i : Int))] E H'
theorem OnE.kp {K : PySem.W.Frag} {H H1 : Hp} {size : Int} {log : List Int} {E : XK} (r : OnE K H size log E) (k : Kp [] H H1) : OnE K H1 size log E := ⟨r.re.kp k, fun a b i t H' k' => r.tw a b i t H' (k.trans k')⟩
def FltO (size : Int) (log : List Int) (xs : List V) : Prop :=
  (¬ SizeOk size ∧ xs = [.str "size", .int size]) ∨
  (SizeOk size ∧ ∃ (i : Nat) (op : Int), log[i]? = some op ∧ Leg (wholeS size.toNat) (log.take i) ∧ ¬ OkOp (runS (wholeS size.toNat) (log.take i)) op ∧ xs = [.str (if IsOp size.toNat op then "illegal" else "operation"), .int op, .int (i : Int)]) ∨
  (SizeOk size ∧ Leg (wholeS size.toNat) log ∧ ∃ i : Nat, TwiceAt log i ∧ xs = [.str "once", .int (i : Int)]) ∨
  (SizeOk size ∧ Leg (wholeS size.toNat) log ∧ OnceA log ∧ xs = [.str "none"])
theorem twice_uniq {log : List Int} {i j : Nat} (hi : TwiceAt log i) (hj : TwiceAt log j) : i = j := by
  obtain ⟨a, a1, a2, a3, a4⟩ := hi
  obtain ⟨b, b1, b2, b3, b4⟩ := hj
  have lt : ∀ {i j : Nat} {a : Int}, log[i]? = some a → a < 0 → a ∈ log.take i → OnceA (log.take j) → ¬ i < j := by
    intro i j a h1 h2 h3 h4 h
    have := h4 i a (by rw [List.getElem?_take_of_lt h]; exact h1) h2
    rw [List.take_take, Nat.min_eq_left (by omega)] at this
    exact this h3
  have := lt a1 a2 a3 b4
  have := lt b1 b2 b3 a4
  omega
theorem twice_once {log : List Int} {i : Nat} (hi : TwiceAt log i) (o : OnceA log) : False := by
  obtain ⟨a, a1, a2, a3, a4⟩ := hi
  exact o i a a1 a2 a3
theorem FltO.uniq {size : Int} {log : List Int} {xs ys : List V} (a : FltO size log xs) (b : FltO size log ys) : xs = ys := by
  rcases a with ⟨a1, rfl⟩ | ⟨a1, i, op, a2, a3, a4, rfl⟩ | ⟨a1, a2, i, a3, rfl⟩ | ⟨a1, a2, a3, rfl⟩ <;> rcases b with ⟨b1, rfl⟩ | ⟨b1, j, oq, b2, b3, b4, rfl⟩ | ⟨b1, b2, j, b3, rfl⟩ | ⟨b1, b2, b3, rfl⟩
  all_goals first
    | rfl
    | exact absurd b1 a1
    | exact absurd a1 b1
    | exact (bad_leg a2 a4 b2).elim
    | exact (bad_leg b2 b4 a2).elim
    | (rw [twice_uniq a3 b3])
    | exact (twice_once a3 b3).elim
    | exact (twice_once b3 a3).elim
    | (obtain ⟨rfl, rfl⟩ := bad_uniq a2 b2 a3 b3 a4 b4; rfl)
/-! ### the law's things -/
/-- the law's book: left links, right links, stages -/
structure LB (H : Hp) (w l r g : Addr) (n : Nat) (log : List Int) : Prop where
  ob : H w = some (.lst [.ref l, .ref r, .ref g])
  hl : ∃ L' : List Int, H l = some (.lst (L'.map V.int)) ∧ L'.length = n + 2 ∧ ∀ v, 1 ≤ v → v ≤ n + 1 → gI L' v = gI (runS (wholeS n) log).L v
  hr : ∃ R' : List Int, H r = some (.lst (R'.map V.int)) ∧ R'.length = n + 2 ∧ ∀ v, v ≤ n → gI R' v = gI (runS (wholeS n) log).R v
  hg : ∃ G' : List Int, H g = some (.lst (G'.map V.int)) ∧ G'.length = n + 2 ∧ (∀ v, 1 ≤ v → v ≤ n → gI G' v = (stgF log v : Int)) ∧ gI G' 0 = 0 ∧ gI G' (n + 1) = 0
  ne : l ≠ r ∧ l ≠ g ∧ r ≠ g ∧ w ≠ l ∧ w ≠ r ∧ w ≠ g
  le : Leg (wholeS n) log
  oo : OnceA log
  n60 : n ≤ 60
theorem LB.kp {H H' : Hp} {w l r g : Addr} {n : Nat} {log : List Int} {S : List Addr} (a : LB H w l r g n log) (k : Kp S H H') (h1 : w ∉ S) (h2 : l ∉ S) (h3 : r ∉ S) (h4 : g ∉ S) : LB H' w l r g n log := by
  obtain ⟨L', e1, e2⟩ := a.hl
  obtain ⟨R', f1, f2⟩ := a.hr
  obtain ⟨G', g1, g2⟩ := a.hg
  exact ⟨k _ _ h1 a.ob, ⟨L', k _ _ h2 e1, e2⟩, ⟨R', k _ _ h3 f1, f2⟩, ⟨G', k _ _ h4 g1, g2⟩, a.ne, a.le, a.oo, a.n60⟩
theorem LB.k0 {H H' : Hp} {w l r g : Addr} {n : Nat} {log : List Int} (a : LB H w l r g n log) (k : Kp [] H H') : LB H' w l r g n log := a.kp k (by simp) (by simp) (by simp) (by simp)
/-- the law's box of draws -/
structure BoxI (H : Hp) (b c : Addr) : Prop where
  ob : ∃ x y z : Int, H b = some (.lst [.int x, .int y, .int z, .ref c])
  hc : ∃ ns : List Int, H c = some (.lst (ns.map V.int)) ∧ ns.length ≤ 63
theorem BoxI.ne {H : Hp} {b c : Addr} (h : BoxI H b c) : b ≠ c := by
  obtain ⟨x, y, z, h1⟩ := h.ob
  obtain ⟨ns, h2, _⟩ := h.hc
  rintro rfl
  rw [h1] at h2
  injection h2 with h2
  injection h2 with h2
  match ns, h2 with
  | [_, _, _, d], h2 =>
    simp at h2
theorem BoxI.kp {H H' : Hp} {b c : Addr} {S : List Addr} (a : BoxI H b c) (k : Kp S H H') (h1 : b ∉ S) (h2 : c ∉ S) : BoxI H' b c := by
  obtain ⟨x, y, z, e1⟩ := a.ob
  obtain ⟨ns, e2, e3⟩ := a.hc
  exact ⟨⟨x, y, z, k _ _ h1 e1⟩, ⟨ns, k _ _ h2 e2, e3⟩⟩
theorem BoxI.k0 {H H' : Hp} {b c : Addr} (a : BoxI H b c) (k : Kp [] H H') : BoxI H' b c := a.kp k (by simp) (by simp)
theorem BoxI.fr {H : Hp} {b c x : Addr} (a : BoxI H b c) (n : H x = none) : x ≠ b ∧ x ≠ c := by
  obtain ⟨_, _, _, e1⟩ := a.ob
  obtain ⟨_, e2, _⟩ := a.hc
  exact ⟨(ne_of_none e1 n).symm, (ne_of_none e2 n).symm⟩
/-- pairs of numbers -/
def PPs (H : Hp) (xs : List V) (es : List (Int × Int)) : Prop := xs.length = es.length ∧ ∀ (i : Nat) (e : Int × Int), es[i]? = some e → ∃ a, xs[i]? = some (.ref a) ∧ H a = some (.tup [.int e.1, .int e.2])
theorem PPs.kp {S : List Addr} {H H' : Hp} {xs : List V} {es : List (Int × Int)} (h : PPs H xs es) (k : Kp S H H') (hS : ∀ b ∈ S, ∀ ys, H b ≠ some (.tup ys)) : PPs H' xs es := by
  refine ⟨h.1, fun i t e => ?_⟩
  obtain ⟨a, h1, h2⟩ := h.2 i t e
  exact ⟨a, h1, k _ _ (fun z => hS a z _ h2) h2⟩
theorem PPs.k0 {H H' : Hp} {xs : List V} {es : List (Int × Int)} (h : PPs H xs es) (k : Kp [] H H') : PPs H' xs es := h.kp k (by simp)
theorem PPs.app {H : Hp} {xs ys : List V} {es fs : List (Int × Int)} (h : PPs H xs es) (h2 : PPs H ys fs) : PPs H (xs ++ ys) (es ++ fs) := by
  refine ⟨by rw [List.length_append, List.length_append, h.1, h2.1], fun i u e => ?_⟩
  by_cases c : i < es.length
  · rw [List.getElem?_append_left c] at e
    obtain ⟨b, e1, e2⟩ := h.2 i u e
    exact ⟨b, by rw [List.getElem?_append_left (by rw [h.1]; exact c)]; exact e1, e2⟩
  · rw [List.getElem?_append_right (by omega)] at e
    obtain ⟨b, e1, e2⟩ := h2.2 _ u e
    exact ⟨b, by rw [List.getElem?_append_right (by rw [h.1]; omega), h.1]; exact e1, e2⟩
theorem PPs.one {H : Hp} {a : Addr} {t : Int × Int} (ha : H a = some (.tup [.int t.1, .int t.2])) : PPs H [.ref a] [t] := by
  refine ⟨rfl, fun i u e => ?_⟩
  match i, e with
  | 0, e =>
    have eu : t = u := by simpa using e
    subst eu
    exact ⟨a, rfl, ha⟩
  | i + 1, e => simp at e
theorem PPs.nil {H : Hp} : PPs H [] [] := ⟨rfl, fun i t e => by simp at e⟩
/-! ### promises -/
section
/-- a log that is legal and once-only -/
structure LgO (n : Nat) (ds : List Int) : Prop where
  ops : ∀ x ∈ ds, IsOp n x
  alt : Alt ds
  one : OnceA ds
  len : ds.length ≤ 120
end
end G
set_option Elab.async false
set_option linter.all false
set_option maxRecDepth 100000
set_option maxHeartbeats 4000000
/-! k23: the main fact about once-only logs: mathematics. -/
namespace G
open PySem PySem.Spec PyProof.Rows L2
abbrev kF (log : List Int) (u : Nat) : Prop := stgF log u = 2
def LateG (n : Nat) (log : List Int) (g : Nat) : Prop := ∃ i op, log[i]? = some op ∧ (g : Int) ∈ lateL (runS (wholeS n) (log.take i)) (log.take i) op.natAbs
theorem lateG_snoc {n : Nat} {log : List Int} {op : Int} {g : Nat} : LateG n (log ++ [op]) g ↔ LateG n log g ∨ (g : Int) ∈ lateL (runS (wholeS n) log) log op.natAbs := by
  constructor
  · rintro ⟨i, x, hi, h⟩
    by_cases c : i < log.length
    · rw [List.getElem?_append_left c] at hi
      rw [List.take_append_of_le_length (by omega)] at h
      exact .inl ⟨i, x, hi, h⟩
    · have hl := (List.getElem?_eq_some_iff.mp hi).1
      rw [List.length_append] at hl
      have ei : i = log.length := by simp at hl; omega
      subst ei
      rw [List.getElem?_append_right (Nat.le_refl _), Nat.sub_self] at hi
      have e : op = x := by simpa using hi
      subst e
      rw [List.take_left' rfl] at h
      exact .inr h
  · rintro (⟨i, x, hi, h⟩ | h)
    · have hl := (List.getElem?_eq_some_iff.mp hi).1
      exact ⟨i, x, by rw [List.getElem?_append_left hl]; exact hi, by rw [List.take_append_of_le_length (by omega)]; exact h⟩
    · exact ⟨log.length, op, by simp, by rw [List.take_left' rfl]; exact h⟩
theorem whole_links {n u : Nat} (h : u ≤ n) : gI (wholeS n).R u = (u : Int) + 1 ∧ gI (wholeS n).L (u + 1) = (u : Int) := by
  constructor
  · show gI (rgI 1 (n + 1)) u = _
    rw [gI_range (by omega)]
    omega
  · show gI (rgI 0 (n + 1)) u = _
    rw [gI_range (by omega)]
    omega
/-! ### what follows -/
end G
set_option Elab.async false
set_option linter.all false
set_option maxRecDepth 100000
set_option maxHeartbeats 4000000
/-! k23: promises. -/
namespace G
open PySem PySem.Spec PyProof.Rows L2
/-- no late write in the log at all; all that act are back -/
def Calm (n : Nat) (log : List Int) : Prop := ∀ g, g ≤ n → ¬ LateG n log g
end G
set_option Elab.async false
set_option linter.all false
set_option maxRecDepth 100000
set_option maxHeartbeats 4000000
/-! k23: whole lists, late writes as pairs, debts. -/
namespace G
open PySem PySem.Spec PyProof.Rows L2
theorem gB_rep (m v : Nat) : gB (List.replicate m false) v = false := by
  unfold gB
  rw [List.getD_eq_getElem?_getD]
  by_cases h : v < m
  · rw [List.getElem?_replicate_of_lt h] <;> rfl
  · rw [List.getElem?_eq_none (by rw [List.length_replicate]; omega)] <;> rfl
theorem LgO.take {n : Nat} {log : List Int} (L : LgO n log) (k : Nat) : LgO n (log.take k) := by
  refine ⟨fun x hx => L.ops x (List.mem_of_mem_take hx), fun i op hi => ?_, L.one.take k, by rw [List.length_take]; have := L.len; omega⟩
  have hk : i < (log.take k).length := (List.getElem?_eq_some_iff.mp hi).1
  rw [List.length_take] at hk
  rw [List.getElem?_take_of_lt (by omega)] at hi
  rw [List.take_take, Nat.min_eq_left (by omega)]
  exact L.alt i op hi
theorem Calm.take {n : Nat} {log : List Int} (c : Calm n log) (k : Nat) : Calm n (log.take k) := by
  rintro g hg ⟨i, op, hi, h⟩
  have hk : i < (log.take k).length := (List.getElem?_eq_some_iff.mp hi).1
  rw [List.length_take] at hk
  rw [List.getElem?_take_of_lt (by omega)] at hi
  rw [List.take_take, Nat.min_eq_left (by omega)] at h
  exact c g hg ⟨i, op, hi, h⟩
theorem Calm.snoc {n : Nat} {log : List Int} {op : Int} (c : Calm n log) (h : lateL (runS (wholeS n) log) log op.natAbs = []) : Calm n (log ++ [op]) := by
  intro g hg z
  rcases lateG_snoc.mp z with z | z
  · exact c g hg z
  · rw [h] at z
    cases z
end G
set_option Elab.async false
set_option linter.all false
set_option maxRecDepth 100000
set_option maxHeartbeats 4000000
/-! k48: an operation lowers the debt exactly if it spoils nothing. -/
set_option Elab.async false
set_option linter.all false
set_option maxRecDepth 100000
set_option maxHeartbeats 4000000
/-! k48: the law's things; promises. -/
namespace G
open PySem PySem.Spec PyProof.Rows L2
/-- the law's state of a list: right links, left links, who is out -/
structure St3 (H : Hp) (w r l o : Addr) (s : Sd) : Prop where
  ob : H w = some (.lst [.ref r, .ref l, .ref o])
  hr : H r = some (.lst (s.R.map V.int))
  hl : H l = some (.lst (((-1 : Int) :: s.L.tail).map V.int))
  ho : H o = some (.lst (s.O.map V.bl))
  ne : r ≠ l ∧ r ≠ o ∧ l ≠ o ∧ w ≠ r ∧ w ≠ l ∧ w ≠ o
  wf : Wf s
  sn : Snd s
theorem St3.kp {H H' : Hp} {w r l o : Addr} {s : Sd} {S : List Addr} (a : St3 H w r l o s) (k : Kp S H H') (h1 : w ∉ S) (h2 : r ∉ S) (h3 : l ∉ S) (h4 : o ∉ S) : St3 H' w r l o s :=
  ⟨k _ _ h1 a.ob, k _ _ h2 a.hr, k _ _ h3 a.hl, k _ _ h4 a.ho, a.ne, a.wf, a.sn⟩
theorem St3.k0 {H H' : Hp} {w r l o : Addr} {s : Sd} (a : St3 H w r l o s) (k : Kp [] H H') : St3 H' w r l o s := a.kp k (by simp) (by simp) (by simp) (by simp)
theorem St3.fr {H : Hp} {w r l o x : Addr} {s : Sd} (a : St3 H w r l o s) (n : H x = none) : w ≠ x ∧ r ≠ x ∧ l ≠ x ∧ o ≠ x := ⟨ne_of_none a.ob n, ne_of_none a.hr n, ne_of_none a.hl n, ne_of_none a.ho n⟩
theorem gI_tail {s : Sd} (d : Snd s) (x : Int) {v : Nat} (h : 1 ≤ v) : gI (x :: s.L.tail) v = gI s.L v := by
  obtain ⟨t, e⟩ := d.l0
  rw [e]
  obtain ⟨u, rfl⟩ : ∃ u, v = u + 1 := ⟨v - 1, by omega⟩
  rfl
theorem len_tail {s : Sd} (w : Wf s) (d : Snd s) (x : Int) : (x :: s.L.tail).length = s.n + 2 := by
  obtain ⟨t, e⟩ := d.l0
  have := w.lL
  rw [e] at this ⊢
  exact this
/-- the law's box of draws: a list of great cells, three counters -/
structure Bx8 (N : Nat) (H : Hp) (b c : Addr) : Prop where
  ob : ∃ (x y z : Int) (ns : List Int), H b = some (.lst [.ref c, .int x, .int y, .int z]) ∧ H c = some (.lst (ns.map V.int)) ∧ ns.length ≤ 63 ∧ 0 ≤ z ∧ z ≤ N
theorem Bx8.mono {N M : Nat} {H : Hp} {b c : Addr} (a : Bx8 N H b c) (h : N ≤ M) : Bx8 M H b c := by
  obtain ⟨x, y, z, ns, h1, h2, h3, h4, h5⟩ := a.ob
  exact ⟨x, y, z, ns, h1, h2, h3, h4, by omega⟩
theorem Bx8.kp {N : Nat} {H H' : Hp} {b c : Addr} {S : List Addr} (a : Bx8 N H b c) (k : Kp S H H') (h1 : b ∉ S) (h2 : c ∉ S) : Bx8 N H' b c := by
  obtain ⟨x, y, z, ns, e1, e2, e3⟩ := a.ob
  exact ⟨x, y, z, ns, k _ _ h1 e1, k _ _ h2 e2, e3⟩
theorem Bx8.k0 {N : Nat} {H H' : Hp} {b c : Addr} (a : Bx8 N H b c) (k : Kp [] H H') : Bx8 N H' b c := a.kp k (by simp) (by simp)
theorem Bx8.fr {N : Nat} {H : Hp} {b c x : Addr} (a : Bx8 N H b c) (n : H x = none) : x ≠ b ∧ x ≠ c := by
  obtain ⟨_, _, _, ns, h1, h2, _⟩ := a.ob
  exact ⟨(ne_of_none h1 n).symm, (ne_of_none h2 n).symm⟩
theorem Bx8.ne {N : Nat} {H : Hp} {b c : Addr} (a : Bx8 N H b c) : b ≠ c := by
  obtain ⟨_, _, _, ns, h1, h2, _⟩ := a.ob
  rintro rfl
  rw [h1] at h2
  injection h2 with h2
  injection h2 with h2
  match ns, h2 with
  | u :: _, h2 => injection h2 with h2; cases h2
/-- the list of great cells behind draws: the old one or a new one -/
def Nx8 (H : Hp) (c c' : Addr) : Prop := c' = c ∨ H c' = none
theorem Nx8.trans {N : Nat} {H H' : Hp} {b c c' c'' : Addr} (x : Nx8 H c c') (y : Nx8 H' c' c'') (k : Kp [b] H H') (bx : Bx8 N H' b c') : Nx8 H c c'' := by
  rcases y with rfl | y
  · exact x
  · refine .inr ?_
    by_cases e : c'' = b
    · obtain ⟨_, _, _, _, h1, _⟩ := bx.ob
      rw [e, h1] at y
      cases y
    · exact k.free (by simpa using e) y
/-- alike data, to a depth -/
def Atom : V → Prop
  | .non => True
  | .bl _ => True
  | .int _ => True
  | .str _ => True
  | _ => False
def SamV : Nat → Hp → V → V → Prop
  | 0, _, _, _ => False
  | n + 1, H, x, y => (x = y ∧ Atom x) ∨ ∃ (a b : Addr) (xs ys : List V), x = .ref a ∧ y = .ref b ∧ ((H a = some (.lst xs) ∧ H b = some (.lst ys)) ∨ (H a = some (.tup xs) ∧ H b = some (.tup ys))) ∧ xs.length = ys.length ∧ ys.length ≤ 1000 ∧
      ∀ (i : Nat) u v, xs[i]? = some u → ys[i]? = some v → SamV n H u v
theorem SamV.at {n : Nat} {H : Hp} {x : V} (h : Atom x) : SamV (n + 1) H x x := .inl ⟨rfl, h⟩
theorem SamV.tup {n : Nat} {H : Hp} {a b : Addr} {xs ys : List V} (h1 : H a = some (.tup xs)) (h2 : H b = some (.tup ys)) (hl : xs.length = ys.length) (hm : ys.length ≤ 1000) (h : ∀ (i : Nat) u v, xs[i]? = some u → ys[i]? = some v → SamV n H u v) : SamV (n + 1) H (.ref a) (.ref b) :=
  .inr ⟨a, b, xs, ys, rfl, rfl, .inr ⟨h1, h2⟩, hl, hm, h⟩
/-- the losses in the order of time -/
def fndAt (n : Nat) (log : List Int) (k : Nat) : List Ct := ((List.range (n + 1)).filter fun g => !decide (stL n log (k + 1) g = stL n log k g) && decide (stL n log (k + 1) g = "lost")).map fun (g : Nat) => ((g : Int), gI (bkR n (log.take k)).de g, (k : Int))
def fndK (n : Nat) (log : List Int) (k : Nat) : List Ct := ((List.range k).map fun j => fndAt n log j).flatten
def fndL (n : Nat) (log : List Int) : List Ct := fndK n log log.length
theorem fndK_snoc (n : Nat) (log : List Int) (k : Nat) : fndK n log (k + 1) = fndK n log k ++ fndAt n log k := by
  unfold fndK
  rw [List.range_succ, List.map_append, List.flatten_append]
  simp
section
def sp48_same (n : Nat) (K : PySem.W.Frag) : Sp := fun vs H Q E => ∃ x y : V, vs = [x, y] ∧ SamV n H x y ∧ Q (.bl true) H
def sp48__law_box (K : PySem.W.Frag) : Sp := fun vs H Q E => ∃ (a : Addr) (st : Int) (ns : List Int), vs = [.ref a, .int st] ∧ SqL K H a (ns.map V.int) ∧ ns.length ≤ 63 ∧ ∀ b c H', H b = none → H c = none → Kp [] H H' → Bx8 0 H' b c → Q (.ref b) H'
def sp48__law_draw (K : PySem.W.Frag) : Sp := fun vs H Q E => ∃ (N : Nat) (b c : Addr) (many : Int), vs = [.ref b, .int many] ∧ N ≤ 100000 ∧ 0 < many ∧ many < 2 ^ 30 ∧ Bx8 N H b c ∧ ∀ (d : Int) c' H', 0 ≤ d → d < many → Nx8 H c c' → Kp [b] H H' → Bx8 (N + 1) H' b c' → Q (.int d) H'
def sp48__law_start (K : PySem.W.Frag) : Sp := fun vs H Q E => ∃ n : Nat, vs = [.int (n : Int)] ∧ n ≤ 60 ∧ ∀ w r l o H', H w = none → H r = none → H l = none → H o = none → Kp [] H H' → St3 H' w r l o (wholeS n) → Q (.ref w) H'
def sp48__law_put (K : PySem.W.Frag) : Sp := fun vs H Q E => ∃ (w r l o : Addr) (s : Sd) (op : Int), vs = [.ref w, .int op] ∧ St3 H w r l o s ∧ IsOp s.n op ∧ ∀ H', Kp [r, l, o] H H' → St3 H' w r l o (stepS s op) → Q .non H'
def sp48__law_twin (K : PySem.W.Frag) : Sp := fun vs H Q E => ∃ (w r l o : Addr) (s : Sd), vs = [.ref w] ∧ St3 H w r l o s ∧ ∀ w' r' l' o' H', H w' = none → H r' = none → H l' = none → H o' = none → Kp [] H H' → St3 H' w' r' l' o' s → Q (.ref w') H'
def sp48__law_states (K : PySem.W.Frag) : Sp := fun vs H Q E => ∃ (w r l o : Addr) (s : Sd), vs = [.ref w] ∧ St3 H w r l o s ∧ NewL H ((List.range (s.n + 1)).map fun (v : Nat) => V.str (stT s v)) Q
def sp48__law_book (K : PySem.W.Frag) : Sp := fun vs H Q E => ∃ (a : Addr) (n : Nat) (log : List Int), vs = [.int (n : Int), .ref a] ∧ n ≤ 60 ∧ SqL K H a (log.map V.int) ∧ log.length ≤ 500 ∧ Leg (wholeS n) log ∧
  ∀ t w r l o c f xs H', H w = none → H r = none → H l = none → H o = none → Kp [] H H' → H' t = some (.tup [.ref w, .ref c, .ref f]) → St3 H' w r l o (runS (wholeS n) log) → H' c = some (.lst ((bkR n log).de.map V.int)) → H' f = some (.lst xs) → CPs H' xs (fndL n log) → Q (.ref t) H'
def sp48__law_paper (K : PySem.W.Frag) : Sp := fun vs H Q E => ∃ (a : Addr) (n : Nat) (log : List Int), vs = [.int (n : Int), .ref a] ∧ n ≤ 60 ∧ SqL K H a (log.map V.int) ∧ log.length ≤ 500 ∧ Leg (wholeS n) log ∧
  (certs n log = [] → ∀ t H', Kp [] H H' → H' t = some (.tup [.str "refused", .int (n : Int), .bl true, .bl false]) → Q (.ref t) H') ∧
  (∀ e es, certs n log = e :: es → ∀ t u H', Kp [] H H' → H' t = some (.tup [.str "paper", .ref u]) → H' u = some (.tup (ctV e)) → Q (.ref t) H')
end
end G
set_option Elab.async false
set_option linter.all false
set_option maxRecDepth 100000
set_option maxHeartbeats 4000000
/-! k48: what is lost stays lost; logs that lead to the whole list; == of nested rows. -/
namespace G
open PySem PySem.Spec PyProof.Rows L2
theorem lost_keep {s : Sd} (w : Wf s) {op : Int} (io : IsOp s.n op) {g : Nat} (hg : stT s g = "lost") : stT (stepS s op) g = "lost" := by
  obtain ⟨m, hm⟩ : ∃ m, op.natAbs = m + 1 := ⟨op.natAbs - 1, by have := io.1; omega⟩
  have io' := io
  obtain ⟨o1, o2⟩ := io
  obtain ⟨l, h, e1, e2, e3, e4, e5⟩ := low_at w (v := m) (by omega)
  obtain ⟨a, b⟩ := stT_lost2.mp hg
  have s1 := (step_gI w io' g).1
  have s2 := (step_gI w io' (g + 1)).2
  rw [hm, e1, e2, Int.toNat_natCast] at s1
  rw [hm, e1, e2, show ((h : Int) + 1).toNat = h + 1 by omega] at s2
  refine stT_lost2.mpr ⟨?_, ?_⟩
  · rw [s1]
    by_cases c : g = l
    · rw [if_pos c]
      have : g ≠ m := fun z => b (by rw [z, e1]; omega)
      split <;> omega
    · rw [if_neg c]; exact a
  · rw [s2]
    by_cases c : g = h
    · rw [if_pos (by omega)]
      have : g ≠ m + 1 := fun z => a (by rw [z, e2]; omega)
      split <;> omega
    · rw [if_neg (by omega)]; exact b
/-! nested rows -/
theorem inV_S8 {t : Str} {f : Nat → Str} : ∀ l : List Nat, inV (.str t) (l.map fun (v : Nat) => V.str (f v)) = l.any fun v => decide (f v = t)
  | [] => rfl
  | v :: l => by
    have e : inV (.str t) ((v :: l).map fun (v : Nat) => V.str (f v)) = ((f v == t) || inV (.str t) (l.map fun (v : Nat) => V.str (f v))) := rfl
    rw [e, inV_S8 l, List.any_cons]
    congr 1
end G
set_option Elab.async false
set_option linter.all false
set_option maxRecDepth 100000
set_option maxHeartbeats 4000000
/-! k48: the book of a log, gap by gap. -/
namespace G
open PySem PySem.Spec PyProof.Rows L2
def midD (n : Nat) (log : List Int) (k v : Nat) : List Int := (List.range (n + 1)).map fun u => if u < v ∧ ¬ stL n log (k + 1) u = stL n log k u then (k : Int) else gI (bkR n (log.take k)).de u
theorem midD_len (n : Nat) (log : List Int) (k v : Nat) : (midD n log k v).length = n + 1 := by
  unfold midD
  rw [List.length_map, List.length_range]
theorem midD_at {n : Nat} {log : List Int} {k v u : Nat} (hu : u ≤ n) : gI (midD n log k v) u = if u < v ∧ ¬ stL n log (k + 1) u = stL n log k u then (k : Int) else gI (bkR n (log.take k)).de u := by
  refine gI_of ?_
  unfold midD
  rw [List.getElem?_map, List.getElem?_range (by omega)] <;> rfl
theorem ext_gI8 {xs ys : List Int} {n : Nat} (h1 : xs.length = n + 1) (h2 : ys.length = n + 1) (h : ∀ u, u ≤ n → gI xs u = gI ys u) : xs = ys := by
  refine List.ext_getElem? fun i => ?_
  by_cases c : i < n + 1
  · rw [gI_at (by omega), gI_at (by omega), h i (by omega)]
  · rw [List.getElem?_eq_none (by omega), List.getElem?_eq_none (by omega)]
theorem midD_zero (n : Nat) (log : List Int) (k : Nat) : midD n log k 0 = (bkR n (log.take k)).de :=
  ext_gI8 (midD_len _ _ _ _) (bkR_len _ _).2.2 fun u hu => by rw [midD_at hu, if_neg (fun z => Nat.not_lt_zero _ z.1)]
theorem midD_yes {n : Nat} {log : List Int} {k v : Nat} (hv : v ≤ n) (c : ¬ stL n log (k + 1) v = stL n log k v) : (midD n log k v).set v (k : Int) = midD n log k (v + 1) :=
  ext_gI8 (by rw [List.length_set, midD_len]) (midD_len _ _ _ _) fun u hu => by
    rw [gI_set (by rw [midD_len]; omega), midD_at hu, midD_at hu]
    by_cases e : u = v
    · subst e
      rw [if_pos rfl, if_pos ⟨by omega, c⟩]
    · rw [if_neg e]
      by_cases d : u < v ∧ ¬ stL n log (k + 1) u = stL n log k u
      · rw [if_pos d, if_pos ⟨by omega, d.2⟩]
      · rw [if_neg d, if_neg (fun z => d ⟨by omega, z.2⟩)]
theorem midD_no {n : Nat} {log : List Int} {k v : Nat} (hv : v ≤ n) (c : stL n log (k + 1) v = stL n log k v) : midD n log k v = midD n log k (v + 1) :=
  ext_gI8 (midD_len _ _ _ _) (midD_len _ _ _ _) fun u hu => by
    rw [midD_at hu, midD_at hu]
    by_cases d : u < v ∧ ¬ stL n log (k + 1) u = stL n log k u
    · rw [if_pos d, if_pos ⟨by omega, d.2⟩]
    · rw [if_neg d, if_neg (fun z => by
        by_cases e : u = v
        · subst e; exact z.2 c
        · exact d ⟨by omega, z.2⟩)]
theorem midD_end {n : Nat} (hn : n ≤ 60) {log : List Int} (le : Leg (wholeS n) log) {k : Nat} {op : Int} (h : log[k]? = some op) : midD n log k (n + 1) = (bkR n (log.take (k + 1))).de := by
  have lk := (List.getElem?_eq_some_iff.mp h).1
  have tk : log.take (k + 1) = log.take k ++ [op] := by rw [List.take_succ, h] <;> rfl
  have w : Wf (runS (wholeS n) (log.take k)) := Leg.wf (Wf.whole hn) (le.take k)
  have en : (runS (wholeS n) (log.take k)).n = n := runS_n _ _
  have io := (le k op h).1
  refine ext_gI8 (midD_len _ _ _ _) (bkR_len _ _).2.2 fun u hu => ?_
  rw [midD_at hu, tk, bkR_snoc]
  have e := de_step w io (bkR n (log.take k)).k (de := (bkR n (log.take k)).de) (by rw [(bkR_len _ _).2.2, en]) (g := u) (by rw [en]; exact hu)
  have kl : (bkR n (log.take k)).k = k := by rw [bkR_k, List.length_take]; omega
  have sl := stL_snoc (n := n) h u
  have s0 : stL n log k u = stT (runS (wholeS n) (log.take k)) u := rfl
  show _ = gI (deS (bkR n (log.take k)).s (stepS (bkR n (log.take k)).s op) (bkR n (log.take k)).k (deS (bkR n (log.take k)).s (stepS (bkR n (log.take k)).s op) (bkR n (log.take k)).k (bkR n (log.take k)).de (lowN (bkR n (log.take k)).s op)) (hiN (bkR n (log.take k)).s op)) u
  rw [bkR_s, e, sl, s0, kl]
  by_cases c : stT (runS (wholeS n) (log.take k)) u = stT (stepS (runS (wholeS n) (log.take k)) op) u
  · rw [if_pos c, if_neg (fun z => z.2 c.symm)]
  · rw [if_neg c, if_pos ⟨by omega, fun z => c z.symm⟩]
def fndP (n : Nat) (log : List Int) (k v : Nat) : List Ct := ((List.range v).filter fun g => !decide (stL n log (k + 1) g = stL n log k g) && decide (stL n log (k + 1) g = "lost")).map fun (g : Nat) => ((g : Int), gI (bkR n (log.take k)).de g, (k : Int))
theorem fndP_snoc (n : Nat) (log : List Int) (k v : Nat) : fndP n log k (v + 1) = fndP n log k v ++ (if ¬ stL n log (k + 1) v = stL n log k v ∧ stL n log (k + 1) v = "lost" then [((v : Int), gI (bkR n (log.take k)).de v, (k : Int))] else []) := by
  unfold fndP
  rw [List.range_succ, List.filter_append, List.map_append]
  congr 1
  by_cases c : ¬ stL n log (k + 1) v = stL n log k v ∧ stL n log (k + 1) v = "lost"
  · rw [if_pos c, List.filter_cons_of_pos (by rw [decide_eq_false c.1, decide_eq_true c.2]; rfl)] <;> rfl
  · rw [if_neg c, List.filter_cons_of_neg (by
      intro z
      rw [Bool.and_eq_true, decide_eq_true_iff, Bool.not_eq_true', decide_eq_false_iff_not] at z
      exact c z)] <;> rfl
theorem fndP_len (n : Nat) (log : List Int) (k v : Nat) : (fndP n log k v).length ≤ v := by
  unfold fndP
  rw [List.length_map]
  refine Nat.le_trans (List.length_filter_le _ _) ?_
  rw [List.length_range]
  exact Nat.le_refl _
theorem fndK_len (n : Nat) (log : List Int) : ∀ k, (fndK n log k).length ≤ k * (n + 1)
  | 0 => Nat.zero_le _
  | k + 1 => by
    rw [fndK_snoc, List.length_append]
    have a := fndK_len n log k
    have b : (fndAt n log k).length ≤ n + 1 := fndP_len n log k (n + 1)
    have : (k + 1) * (n + 1) = k * (n + 1) + (n + 1) := Nat.succ_mul _ _
    omega
end G
set_option Elab.async false
set_option linter.all false
set_option maxRecDepth 100000
set_option maxHeartbeats 4000000
/-! k48: the losses in time are the certificates of loss; the least of them. -/
namespace G
open PySem PySem.Spec PyProof.Rows L2
theorem VF.uniq {n : Nat} {log : List Int} {v w v' w' : V} (a : VF n log v w) (b : VF n log v' w') : v = v' ∧ w = w' := by
  rcases a with ⟨i, a1, a2, a3, rfl, rfl⟩ | ⟨a1, rfl, rfl⟩ <;> rcases b with ⟨j, b1, b2, b3, rfl, rfl⟩ | ⟨b1, rfl, rfl⟩
  · have : i = j := by
      rcases Nat.lt_trichotomy i j with z | z | z
      · exact absurd (b2 i z) a3
      · exact z
      · exact absurd (a2 j z) b3
    subst this
    exact ⟨rfl, rfl⟩
  · exact absurd (b1 i a1) a3
  · exact absurd (a1 j b1) b3
  · exact ⟨rfl, rfl⟩
theorem stL_lost {n : Nat} (hn : n ≤ 60) {log : List Int} (le : Leg (wholeS n) log) {g : Nat} {k : Nat} (hk : stL n log k g = "lost") : ∀ j, k ≤ j → j ≤ log.length → stL n log j g = "lost" := by
  intro j
  induction j with
  | zero => intro h _; have : k = 0 := by omega
            subst this; exact hk
  | succ j ih =>
    intro h1 h2
    by_cases e : k = j + 1
    · subst e; exact hk
    · have i := ih (by omega) (by omega)
      obtain ⟨op, hop⟩ : ∃ op, log[j]? = some op := ⟨_, List.getElem?_eq_getElem (by omega)⟩
      rw [stL_snoc hop]
      exact lost_keep (Leg.wf (Wf.whole hn) (le.take j)) (by rw [runS_n]; exact (le.isop op (List.mem_of_getElem? hop))) i
theorem de_ch {n : Nat} (hn : n ≤ 60) {log : List Int} (le : Leg (wholeS n) log) {g : Nat} (hg : g ≤ n) : ∀ i, i ≤ log.length → 1 ≤ (chL n log g i).length → gI (bkR n (log.take i)).de g = gI (chL n log g i) ((chL n log g i).length - 1) := by
  intro i
  induction i with
  | zero => intro _ h; exact absurd h (by show ¬ 1 ≤ (0 : Nat); omega)
  | succ i ih =>
    intro h1 h2
    obtain ⟨op, hop⟩ : ∃ op, log[i]? = some op := ⟨_, List.getElem?_eq_getElem (by omega)⟩
    rw [← midD_end hn le hop, midD_at hg]
    rw [chL_snoc] at h2 ⊢
    by_cases c : stL n log (i + 1) g = stL n log i g
    · rw [if_neg (fun z => z.2 c)]
      rw [if_neg (fun z => z c), List.append_nil] at h2 ⊢
      exact ih (by omega) h2
    · rw [if_pos ⟨by omega, c⟩, if_pos c, List.length_append]
      exact (gI_of (by rw [List.getElem?_append_right (by show _ ≤ _ + 1 - 1; omega)]; show ([(i : Int)])[_ + 1 - 1 - _]? = _; rw [show (chL n log g i).length + 1 - 1 - (chL n log g i).length = 0 by omega] <;> rfl)).symm
theorem ch_stay {n : Nat} (hn : n ≤ 60) {log : List Int} (le : Leg (wholeS n) log) {g k : Nat} (hl : stL n log (k + 1) g = "lost") : ∀ j, k + 1 ≤ j → j ≤ log.length → chL n log g j = chL n log g (k + 1) := by
  intro j
  induction j with
  | zero => intro h _; omega
  | succ j ih =>
    intro h1 h2
    by_cases e : k = j
    · subst e; rfl
    · rw [chL_snoc, ih (by omega) (by omega), stL_lost hn le hl (j + 1) (by omega) h2, stL_lost hn le hl j (by omega) (by omega), if_neg (fun z => z rfl), List.append_nil]
theorem fnd_cert {n : Nat} (hn : n ≤ 60) {log : List Int} (le : Leg (wholeS n) log) {g k : Nat} (hg : g ≤ n) (hk : k < log.length) (c : ¬ stL n log (k + 1) g = stL n log k g) (hl : stL n log (k + 1) g = "lost") :
    ((g : Int), gI (bkR n (log.take k)).de g, (k : Int)) = certAt n log g := by
  have st := ch_stay hn le hl log.length (by omega) (Nat.le_refl _)
  have l2 := lost_len hn le hg (stL_lost hn le hl log.length (by omega) (Nat.le_refl _))
  have sn : chL n log g (k + 1) = chL n log g k ++ [(k : Int)] := by rw [chL_snoc, if_pos c]
  have st' := st.trans sn
  rw [st', List.length_append] at l2
  have l2 : 2 ≤ (chL n log g k).length + 1 := l2
  unfold certAt
  rw [st']
  have e1 : gI (chL n log g k ++ [(k : Int)]) ((chL n log g k ++ [(k : Int)]).length - 2) = gI (bkR n (log.take k)).de g := by
    rw [de_ch hn le hg k (by omega) (by omega), List.length_append]
    show gI _ ((chL n log g k).length + 1 - 2) = _
    refine gI_of ?_
    rw [List.getElem?_append_left (by omega), show (chL n log g k).length + 1 - 2 = (chL n log g k).length - 1 by omega, gI_at (by omega)]
  have e2 : gI (chL n log g k ++ [(k : Int)]) ((chL n log g k ++ [(k : Int)]).length - 1) = (k : Int) := by
    refine gI_of ?_
    rw [List.length_append]
    show (chL n log g k ++ [(k : Int)])[(chL n log g k).length + 1 - 1]? = _
    rw [List.getElem?_append_right (by omega), show (chL n log g k).length + 1 - 1 - (chL n log g k).length = 0 by omega] <;> rfl
  rw [e1, e2]
theorem mem_fnd {n : Nat} {log : List Int} {t : Ct} : t ∈ fndL n log ↔ ∃ k g : Nat, k < log.length ∧ g ≤ n ∧ ¬ stL n log (k + 1) g = stL n log k g ∧ stL n log (k + 1) g = "lost" ∧ t = ((g : Int), gI (bkR n (log.take k)).de g, (k : Int)) := by
  unfold fndL fndK
  rw [List.mem_flatten]
  constructor
  · rintro ⟨l, hl, ht⟩
    obtain ⟨k, hk, rfl⟩ := List.mem_map.mp hl
    obtain ⟨g, hg, rfl⟩ := List.mem_map.mp ht
    obtain ⟨h1, h2⟩ := List.mem_filter.mp hg
    have := List.mem_range.mp h1
    rw [Bool.and_eq_true, decide_eq_true_iff, Bool.not_eq_true', decide_eq_false_iff_not] at h2
    exact ⟨k, g, List.mem_range.mp hk, by omega, h2.1, h2.2, rfl⟩
  · rintro ⟨k, g, hk, hg, c, hl, rfl⟩
    exact ⟨_, List.mem_map.mpr ⟨k, List.mem_range.mpr hk, rfl⟩, List.mem_map.mpr ⟨g, List.mem_filter.mpr ⟨List.mem_range.mpr (by omega), by rw [decide_eq_false c, decide_eq_true hl]; rfl⟩, rfl⟩⟩
theorem lost_when {n : Nat} {log : List Int} {g : Nat} (hg : g ≤ n) : ∀ i, stL n log i g = "lost" → ∃ k, k < i ∧ ¬ stL n log (k + 1) g = stL n log k g ∧ stL n log (k + 1) g = "lost" := by
  intro i
  induction i with
  | zero =>
    intro h
    exfalso
    unfold stL at h
    rw [List.take_zero] at h
    have := stT_joined.mpr (whole_links (n := n) hg)
    have e : stT (wholeS n) g = "lost" := h
    rw [this] at e
    exact jl e
  | succ i ih =>
    intro h
    by_cases c : stL n log (i + 1) g = stL n log i g
    · obtain ⟨k, a, b⟩ := ih (by rw [← c]; exact h)
      exact ⟨k, by omega, b⟩
    · exact ⟨i, by omega, c, h⟩
theorem fnd_in {n : Nat} (hn : n ≤ 60) {log : List Int} (le : Leg (wholeS n) log) {t : Ct} : t ∈ fndL n log ↔ ∃ g : Nat, g ≤ n ∧ stL n log log.length g = "lost" ∧ t = certAt n log g := by
  rw [mem_fnd]
  constructor
  · rintro ⟨k, g, hk, hg, c, hl, rfl⟩
    exact ⟨g, hg, stL_lost hn le hl log.length (by omega) (Nat.le_refl _), fnd_cert hn le hg hk c hl⟩
  · rintro ⟨g, hg, hl, rfl⟩
    obtain ⟨k, hk, c, hl2⟩ := lost_when hg log.length hl
    exact ⟨k, g, hk, hg, c, hl2, (fnd_cert hn le hg hk c hl2).symm⟩
theorem fil_len {p q r : Nat → Bool} : ∀ l : List Nat, (∀ x ∈ l, p x = (q x || r x) ∧ (q x && r x) = false) → (l.filter p).length = (l.filter q).length + (l.filter r).length
  | [], _ => rfl
  | x :: l, h => by
    have ih := fil_len l fun y hy => h y (List.mem_cons_of_mem _ hy)
    obtain ⟨a, b⟩ := h x (by simp)
    rw [List.filter_cons, List.filter_cons, List.filter_cons]
    cases hq : q x with
    | true =>
      have hr : r x = false := by rw [hq, Bool.true_and] at b; exact b
      rw [hq, Bool.true_or] at a
      rw [a, hr, if_pos rfl, if_pos rfl, if_neg Bool.false_ne_true, List.length_cons, List.length_cons]
      omega
    | false =>
      rw [hq, Bool.false_or] at a
      rw [a, if_neg Bool.false_ne_true]
      cases hr : r x with
      | true => rw [if_pos rfl, if_pos rfl, List.length_cons, List.length_cons]; omega
      | false => rw [if_neg Bool.false_ne_true, if_neg Bool.false_ne_true]; exact ih
theorem fndK_lost {n : Nat} (hn : n ≤ 60) {log : List Int} (le : Leg (wholeS n) log) : ∀ k, k ≤ log.length → (fndK n log k).length = ((List.range (n + 1)).filter fun g => decide (stL n log k g = "lost")).length
  | 0, _ => by
    rw [List.filter_eq_nil_iff.mpr]
    · rfl
    · intro g hg z
      have hg := List.mem_range.mp hg
      obtain ⟨k, hk, _⟩ := lost_when (n := n) (log := log) (g := g) (by omega) 0 (of_decide_eq_true z)
      omega
  | k + 1, hk => by
    rw [fndK_snoc, List.length_append, fndK_lost hn le k (by omega)]
    unfold fndAt
    rw [List.length_map]
    refine (fil_len _ fun g _ => ?_).symm
    by_cases a : stL n log k g = "lost"
    · have b := stL_lost hn le a (k + 1) (by omega) hk
      rw [decide_eq_true a, decide_eq_true b, decide_eq_true (show stL n log (k + 1) g = stL n log k g by rw [a, b])]
      exact ⟨rfl, rfl⟩
    · rw [decide_eq_false a]
      by_cases b : stL n log (k + 1) g = "lost"
      · rw [decide_eq_true b, decide_eq_false (show ¬ stL n log (k + 1) g = stL n log k g from fun z => a (by rw [← z, b]))]
        exact ⟨rfl, rfl⟩
      · rw [decide_eq_false b, Bool.and_false]
        exact ⟨rfl, rfl⟩
theorem fndL_len {n : Nat} (hn : n ≤ 60) {log : List Int} (le : Leg (wholeS n) log) : (fndL n log).length ≤ n + 1 := by
  unfold fndL
  rw [fndK_lost hn le _ (Nat.le_refl _)]
  refine Nat.le_trans (List.length_filter_le _ _) ?_
  rw [List.length_range]
  exact Nat.le_refl _
theorem cert_all {n : Nat} (hn : n ≤ 60) {log : List Int} (le : Leg (wholeS n) log) (hl : log.length ≤ 900) {g : Nat} (hg : g ≤ n) (h : stL n log log.length g = "lost") : ∀ m ∈ [(certAt n log g).1, (certAt n log g).2.1, (certAt n log g).2.2], 0 ≤ m ∧ m < 1000 := by
  have l2 := lost_len hn le hg h
  have el : ∀ i, i < (chL n log g log.length).length → 0 ≤ gI (chL n log g log.length) i ∧ gI (chL n log g log.length) i < 1000 := by
    intro i hi
    have m : gI (chL n log g log.length) i ∈ chL n log g log.length := List.mem_of_getElem? (gI_at hi)
    obtain ⟨j, hj, e⟩ := List.mem_map.mp m
    have j1 := List.mem_range.mp (List.mem_filter.mp hj).1
    rw [← e]
    omega
  intro m hm
  simp only [List.mem_cons, List.not_mem_nil, or_false] at hm
  rcases hm with rfl | rfl | rfl
  · show 0 ≤ (g : Int) ∧ (g : Int) < 1000
    omega
  · exact el _ (by omega)
  · exact el _ (by omega)
theorem code3 (x y z : Int) : TS.code 1000 [x, y, z] = x * 1000000 + (y * 1000 + z) := by
  have e2 : (1000 : Int) ^ 2 = 1000000 := by decide
  have e1 : (1000 : Int) ^ 1 = 1000 := by decide
  have e0 : (1000 : Int) ^ 0 = 1 := by decide
  show x * 1000 ^ 2 + (y * 1000 ^ 1 + (z * 1000 ^ 0 + 0)) = _
  rw [e2, e1, e0, Int.mul_one, Int.add_zero]
/-- the least of the losses, sorted, is the first certificate -/
theorem sorted_head {K : PySem.W.Frag} {H : Hp} {n : Nat} (hn : n ≤ 60) {log : List Int} (le : Leg (wholeS n) log) (hl : log.length ≤ 900) {xs ys : List V} (cp : CPs H xs (fndL n log)) {e : Ct} {es : List Ct} (ec : certs n log = e :: es)
    (pm : ys.Perm xs) (pw : ys.Pairwise fun x y => ∀ a b, TupI K H x a → TupI K H y b → TS.code 1000 a ≤ TS.code 1000 b) : ∃ (t : Addr) (r : List V), ys = .ref t :: r ∧ H t = some (.tup (ctV e)) := by
  have me : e ∈ certs n log := by rw [ec]; simp
  obtain ⟨ge, hge, ee⟩ := List.mem_map.mp me
  obtain ⟨ge1, ge2⟩ := List.mem_filter.mp hge
  have ge1 := List.mem_range.mp ge1
  have lge := of_decide_eq_true ge2
  have least : ∀ g : Nat, g ≤ n → stL n log log.length g = "lost" → ge ≤ g := by
    intro g hg h
    have mg : certAt n log g ∈ certs n log := List.mem_map.mpr ⟨g, List.mem_filter.mpr ⟨List.mem_range.mpr (by omega), decide_eq_true h⟩, rfl⟩
    have pw : (certs n log).Pairwise fun a b => a.1 < b.1 := by
      unfold certs certK
      rw [List.pairwise_map]
      exact (List.pairwise_lt_range.filter _).imp fun {a b} h => by show (a : Int) < (b : Int); omega
    rw [ec] at mg pw
    have e1 : e.1 = (ge : Int) := by rw [← ee] <;> rfl
    rcases List.mem_cons.mp mg with z | z
    · have : (certAt n log g).1 = e.1 := by rw [z]
      have : (g : Int) = e.1 := this
      omega
    · have := (List.pairwise_cons.mp pw).1 _ z
      have : e.1 < (g : Int) := this
      omega
  have fe : e ∈ fndL n log := (fnd_in hn le).mpr ⟨ge, by omega, lge, ee.symm⟩
  obtain ⟨j, hj⟩ := List.mem_iff_getElem?.mp fe
  obtain ⟨te, hx, hte⟩ := cp.2 j e hj
  have my : V.ref te ∈ ys := pm.symm.subset (List.mem_of_getElem? hx)
  match ys, pm, pw, my with
  | y :: r, pm, pw, my =>
    have yx : y ∈ xs := pm.subset (by simp)
    obtain ⟨i, hi⟩ := List.mem_iff_getElem?.mp yx
    have li := (List.getElem?_eq_some_iff.mp hi).1
    obtain ⟨t0, h0⟩ : ∃ t, (fndL n log)[i]? = some t := ⟨_, List.getElem?_eq_getElem (by rw [← cp.1]; exact li)⟩
    obtain ⟨tt, hx0, ht0⟩ := cp.2 i t0 h0
    rw [hi] at hx0
    injection hx0 with hx0
    subst hx0
    refine ⟨tt, r, rfl, ?_⟩
    obtain ⟨g0, hg0, l0, e0⟩ := (fnd_in hn le).mp (List.mem_of_getElem? h0)
    have b0 := cert_all hn le hl hg0 l0
    have be := cert_all hn le hl (show ge ≤ n by omega) lge
    rw [← e0] at b0
    rw [ee] at be
    rcases List.mem_cons.mp my with z | z
    · injection z with z
      rw [z] at hte
      exact hte
    · have c := (List.pairwise_cons.mp pw).1 _ z [t0.1, t0.2.1, t0.2.2] [e.1, e.2.1, e.2.2] ⟨tt, rfl, SqT.of ht0⟩ ⟨te, rfl, SqT.of hte⟩
      rw [code3, code3] at c
      have x1 := b0 t0.1 (by simp)
      have x2 := b0 t0.2.1 (by simp)
      have x3 := b0 t0.2.2 (by simp)
      have y1 := be e.1 (by simp)
      have y2 := be e.2.1 (by simp)
      have y3 := be e.2.2 (by simp)
      have q1 : t0.1 = (g0 : Int) := by rw [e0] <;> rfl
      have q2 : e.1 = (ge : Int) := by rw [← ee] <;> rfl
      have q3 := least g0 hg0 l0
      have : g0 = ge := by omega
      rw [e0, this, ee] at ht0
      exact ht0
end G
set_option Elab.async false
set_option linter.all false
set_option maxRecDepth 100000
set_option maxHeartbeats 4000000
/-! k48: the ends. -/
namespace G
open PySem PySem.Spec PyProof.Rows L2
theorem stL_end (n : Nat) (log : List Int) (g : Nat) : stL n log log.length g = stT (runS (wholeS n) log) g := by
  unfold stL
  rw [List.take_length]
theorem certs_lost (n : Nat) (log : List Int) : certs n log = (lostL (runS (wholeS n) log)).map fun g => certAt n log g := by
  have en : (runS (wholeS n) log).n = n := runS_n _ _
  unfold certs certK lostL
  rw [en]
  refine congrArg _ (List.filter_congr fun g _ => ?_)
  rw [stL_end]
theorem certs_nil {n : Nat} {log : List Int} (h : lostL (runS (wholeS n) log) = []) : certs n log = [] := by
  rw [certs_lost, h] <;> rfl
theorem certs_one {n : Nat} {log : List Int} {g : Nat} {gs : List Nat} (h : lostL (runS (wholeS n) log) = g :: gs) : certs n log = certAt n log g :: gs.map fun g => certAt n log g := by
  rw [certs_lost, h] <;> rfl
theorem fnd_nil {n : Nat} (hn : n ≤ 60) {log : List Int} (le : Leg (wholeS n) log) : fndL n log = [] ↔ lostL (runS (wholeS n) log) = [] := by
  have en : (runS (wholeS n) log).n = n := runS_n _ _
  constructor
  · intro h
    refine lost_nil.mpr fun g hg z => ?_
    have : certAt n log g ∈ fndL n log := (fnd_in hn le).mpr ⟨g, by omega, by rw [stL_end]; exact z, rfl⟩
    rw [h] at this
    cases this
  · intro h
    refine List.eq_nil_iff_forall_not_mem.mpr fun t ht => ?_
    obtain ⟨g, h1, h2, _⟩ := (fnd_in hn le).mp ht
    rw [stL_end] at h2
    exact lost_nil.mp h g (by omega) h2
theorem SamV.atoms {n : Nat} {H : Hp} {a b : Addr} {xs : List V} (h1 : H a = some (.tup xs)) (h2 : H b = some (.tup xs)) (hm : xs.length ≤ 1000) (h : ∀ x ∈ xs, Atom x) : SamV (n + 2) H (.ref a) (.ref b) :=
  .tup h1 h2 rfl hm fun i u v hu hv => by
    rw [hu] at hv
    injection hv with hv
    subst hv
    exact .at (h u (List.mem_of_getElem? hu))
theorem ctV_atom {e : Ct} : ∀ x ∈ ctV e, Atom x := by
  intro x hx
  have hx : x ∈ [V.int e.1, V.int e.2.1, V.int e.2.2] := hx
  simp only [List.mem_cons, List.not_mem_nil, or_false] at hx
  rcases hx with rfl | rfl | rfl <;> trivial
theorem SamV.cert {n : Nat} {H : Hp} {a b p q : Addr} {t : Str} {e : Ct} (h1 : H a = some (.tup [.str t, .ref p])) (h2 : H b = some (.tup [.str t, .ref q])) (hp : H p = some (.tup (ctV e))) (hq : H q = some (.tup (ctV e))) : SamV (n + 3) H (.ref a) (.ref b) :=
  .tup h1 h2 rfl (by show 2 ≤ 1000; omega) fun i u v hu hv => by
    match i, hu, hv with
    | 0, hu, hv => injection hu with hu; injection hv with hv; subst hu; subst hv; exact .at trivial
    | 1, hu, hv => injection hu with hu; injection hv with hv; subst hu; subst hv; exact .atoms hp hq (by show 3 ≤ 1000; omega) ctV_atom
end G
set_option Elab.async false
set_option linter.all false
set_option maxRecDepth 100000
set_option maxHeartbeats 4000000
/-! The modes: what an operation does to gaps that are another's; runs that keep every sole holder out. -/
namespace G
open PySem PySem.Spec PyProof.Rows L2
/-- an operation, gap by gap -/
structure AbS (s : Sd) (op : Int) (m l h : Nat) : Prop where
  x : op.natAbs = m + 1
  el : gI s.L (m + 1) = (l : Int)
  er : gI s.R (m + 1) = (h : Int) + 1
  lm : l ≤ m
  mh : m < h
  hn : h ≤ s.n
  a : ∀ g, gA (stepS s op) g ↔ (g = l ∧ 0 < op ∧ l = m) ∨ (g ≠ l ∧ gA s g)
  b : ∀ g, gBk (stepS s op) g ↔ (g = h ∧ 0 < op ∧ m + 1 = h) ∨ (g ≠ h ∧ gBk s g)
  o : ∀ u, gB (stepS s op).O u = if u = m + 1 then decide (op < 0) else gB s.O u
theorem ab_step {s : Sd} (w : Wf s) {op : Int} (io : IsOp s.n op) : ∃ m l h : Nat, AbS s op m l h := by
  obtain ⟨m, hm⟩ : ∃ m, op.natAbs = m + 1 := ⟨op.natAbs - 1, by have := io.1; omega⟩
  obtain ⟨l, h, e1, e2, e3, e4, e5⟩ := low_at w (v := m) (by have := io.2; omega)
  refine ⟨m, l, h, hm, e1, e2, e3, e4, e5, fun g => ?_, fun g => ?_, fun u => ?_⟩
  · unfold gA
    rw [(step_gI w io g).1, hm, e1, e2, Int.toNat_natCast]
    by_cases c : g = l
    · rw [if_pos c]
      by_cases o : op < 0
      · rw [if_pos o]; omega
      · rw [if_neg o]; omega
    · rw [if_neg c]; omega
  · unfold gBk
    rw [(step_gI w io (g + 1)).2, hm, e1, e2, show ((h : Int) + 1).toNat = h + 1 by omega]
    by_cases c : g = h
    · rw [if_pos (by omega)]
      by_cases o : op < 0
      · rw [if_pos o]; omega
      · rw [if_neg o]; omega
    · rw [if_neg (by omega)]; omega
  · rw [step_gB w io u, hm]
def svB (s : Sd) (x : Nat) : Bool := (forW s x).any fun g => !decide (stT s g.toNat = "joined")
def gdB (s : Sd) (x : Nat) : Bool := (forW s x).any fun g => !gB s.O (ltI x g).toNat
def fitB (s : Sd) (op : Int) : Bool := !(gB s.O (gI s.L op.natAbs).toNat || gB s.O (gI s.R op.natAbs).toNat) &&
  (if op < 0 then decide (gI s.R (gI s.L op.natAbs).toNat = (op.natAbs : Int)) && decide (gI s.L (gI s.R op.natAbs).toNat = (op.natAbs : Int))
  else decide (gI s.R (gI s.L op.natAbs).toNat = gI s.R op.natAbs) && decide (gI s.L (gI s.R op.natAbs).toNat = gI s.L op.natAbs))
theorem for_ab {s : Sd} {op : Int} {m l h : Nat} (t : AbS s op m l h) : forW s op.natAbs = (if l ≠ m ∧ gA s l then [(l : Int)] else []) ++ (if h ≠ m + 1 ∧ gBk s h then [(h : Int)] else []) := by
  unfold forW
  rw [t.x, t.el, t.er, Int.toNat_natCast, show ((h : Int) + 1).toNat = h + 1 by omega, show (h : Int) + 1 - 1 = (h : Int) by omega]
  congr 1
  · by_cases c : l ≠ m ∧ gA s l
    · rw [if_pos c, if_pos ⟨by have := c.1; omega, c.2⟩]
    · rw [if_neg c, if_neg (fun z => c ⟨by have := z.1; omega, z.2⟩)]
  · by_cases c : h ≠ m + 1 ∧ gBk s h
    · rw [if_pos c, if_pos ⟨by have := c.1; omega, c.2⟩]
    · rw [if_neg c, if_neg (fun z => c ⟨by have := z.1; omega, z.2⟩)]
theorem any_two {P Q : Prop} [Decidable P] [Decidable Q] {a b : Int} {f : Int → Bool} : (((if P then [a] else []) ++ (if Q then [b] else [])).any f = true) ↔ (P ∧ f a = true) ∨ (Q ∧ f b = true) := by
  by_cases c : P <;> by_cases d : Q <;> simp [c, d]
theorem sv_ab {s : Sd} {op : Int} {m l h : Nat} (t : AbS s op m l h) : svB s op.natAbs = true ↔ (l ≠ m ∧ gA s l ∧ ¬ gBk s l) ∨ (h ≠ m + 1 ∧ gBk s h ∧ ¬ gA s h) := by
  unfold svB
  rw [for_ab t, any_two, Int.toNat_natCast, Int.toNat_natCast, Bool.not_eq_true', Bool.not_eq_true', decide_eq_false_iff_not, decide_eq_false_iff_not, stT_joined, stT_joined]
  constructor
  · rintro (⟨⟨a, b⟩, c⟩ | ⟨⟨a, b⟩, c⟩)
    · exact .inl ⟨a, b, fun z => c ⟨b, z⟩⟩
    · exact .inr ⟨a, b, fun z => c ⟨z, b⟩⟩
  · rintro (⟨a, b, c⟩ | ⟨a, b, c⟩)
    · exact .inl ⟨⟨a, b⟩, fun z => c z.2⟩
    · exact .inr ⟨⟨a, b⟩, fun z => c z.1⟩
theorem gd_ab {s : Sd} {op : Int} {m l h : Nat} (t : AbS s op m l h) : gdB s op.natAbs = true ↔ (l ≠ m ∧ gA s l ∧ gB s.O (l + 1) = false) ∨ (h ≠ m + 1 ∧ gBk s h ∧ gB s.O h = false) := by
  unfold gdB
  have e1 : l ≠ m → ltI op.natAbs (l : Int) = ((l + 1 : Nat) : Int) := fun z => by
    have := t.lm
    unfold ltI
    rw [t.x, if_pos (by omega)]
    omega
  have e2 : ltI op.natAbs (h : Int) = (h : Int) := by
    have := t.mh
    unfold ltI
    rw [t.x, if_neg (by omega)]
  rw [for_ab t, any_two, e2, Int.toNat_natCast, Bool.not_eq_true', Bool.not_eq_true']
  constructor
  · rintro (⟨⟨a, b⟩, c⟩ | ⟨⟨a, b⟩, c⟩)
    · rw [e1 a, Int.toNat_natCast] at c
      exact .inl ⟨a, b, c⟩
    · exact .inr ⟨a, b, c⟩
  · rintro (⟨a, b, c⟩ | ⟨a, b, c⟩)
    · exact .inl ⟨⟨a, b⟩, by rw [e1 a, Int.toNat_natCast]; exact c⟩
    · exact .inr ⟨⟨a, b⟩, c⟩
/-- newly lost exactly if it takes a gap from its only holder -/
theorem sv_new {s : Sd} (w : Wf s) {op : Int} (io : IsOp s.n op) : (∃ g, g ≤ s.n ∧ stT s g ≠ "lost" ∧ stT (stepS s op) g = "lost") ↔ svB s op.natAbs = true := by
  obtain ⟨m, l, h, t⟩ := ab_step w io
  rw [sv_ab t]
  have tl := t.lm
  have th := t.mh
  have tn := t.hn
  have L : ∀ g, stT s g = "lost" ↔ ¬ gA s g ∧ ¬ gBk s g := fun g => stT_lost2
  have L' : ∀ g, stT (stepS s op) g = "lost" ↔ ¬ gA (stepS s op) g ∧ ¬ gBk (stepS s op) g := fun g => stT_lost2
  have om : gBk s m ↔ l = m := by unfold gBk; rw [t.el]; omega
  have oh : gA s (m + 1) ↔ h = m + 1 := by unfold gA; rw [t.er]; omega
  constructor
  · rintro ⟨g, hg, h1, h2⟩
    rw [ne_eq, L] at h1
    rw [L', t.a, t.b] at h2
    by_cases c1 : g = l
    · by_cases c2 : l = m
      · subst c2
        subst c1
        exfalso
        by_cases c3 : g = h
        · omega
        · exact h2.2 (.inr ⟨c3, om.mpr rfl⟩)
      · refine .inl ⟨c2, ?_⟩
        subst c1
        have : ¬ gBk s g := fun z => h2.2 (.inr ⟨by omega, z⟩)
        exact ⟨Classical.byContradiction fun z => h1 ⟨z, this⟩, this⟩
    · have na : ¬ gA s g := fun z => h2.1 (.inr ⟨c1, z⟩)
      by_cases c3 : g = h
      · subst c3
        have nb : gBk s g := Classical.byContradiction fun z => h1 ⟨na, z⟩
        exact .inr ⟨fun z => na (by rw [z]; exact oh.mpr z), nb, na⟩
      · exact absurd ⟨na, fun z => h2.2 (.inr ⟨c3, z⟩)⟩ h1
  · rintro (⟨a, b, c⟩ | ⟨a, b, c⟩)
    · refine ⟨l, by omega, fun z => ((L l).mp z).1 b, (L' l).mpr ⟨?_, ?_⟩⟩
      · rw [t.a]
        rintro (⟨_, _, z⟩ | ⟨z, _⟩)
        · exact a z
        · exact z rfl
      · rw [t.b]
        rintro (⟨z, _⟩ | ⟨_, z⟩)
        · omega
        · exact c z
    · refine ⟨h, by omega, fun z => ((L h).mp z).2 b, (L' h).mpr ⟨?_, ?_⟩⟩
      · rw [t.a]
        rintro (⟨z, _⟩ | ⟨_, z⟩)
        · omega
        · exact c z
      · rw [t.b]
        rintro (⟨_, _, z⟩ | ⟨z, _⟩)
        · omega
        · exact z rfl
/-- what it refuses leaves a gap to no one, or to a holder that is in -/
theorem fin_lost {s : Sd} (w : Wf s) {op : Int} (io : IsOp s.n op) (h1 : svB s op.natAbs = true) : lostL (stepS s op) ≠ [] := by
  obtain ⟨g, hg, _, h3⟩ := (sv_new w io).mpr h1
  exact fun z => lost_nil.mp z g hg h3
/-! ### the debt -/
end G
set_option Elab.async false
set_option linter.all false
set_option maxRecDepth 100000
set_option maxHeartbeats 4000000
/-! The modes: what they refuse; promises of the program's defs. -/
namespace G
open PySem PySem.Spec PyProof.Rows L2
/-- the name of the weakest mode up to the level c that refuses -/
def refS (c : Nat) (s : Sd) (op : Int) : Str := if 1 ≤ c ∧ svB s op.natAbs = true then "saving" else if 2 ≤ c ∧ gdB s op.natAbs = true then "guarded" else if 3 ≤ c ∧ fitB s op = false then "checked" else ""
def mdN : Nat → Str
  | 0 => "free"
  | 1 => "saving"
  | 2 => "guarded"
  | _ => "checked"
def mdC (K : PySem.W.Frag) : Nat → Addr
  | 0 => He.ga K "FreeMode"
  | 1 => He.ga K "SavingMode"
  | 2 => He.ga K "GuardedMode"
  | _ => He.ga K "CheckedMode"
structure MdAt (K : PySem.W.Frag) (H : Hp) (x : Addr) (c : Nat) : Prop where
  ob : ∃ dx, H x = some (.ins (mdC K c) dx [])
  c3 : c ≤ 3
theorem MdAt.kp {K : PySem.W.Frag} {H H' : Hp} {x : Addr} {c : Nat} {S : List Addr} (a : MdAt K H x c) (k : Kp S H H') (h : x ∉ S) : MdAt K H' x c := by
  obtain ⟨dx, e⟩ := a.ob
  exact ⟨⟨dx, k _ _ h e⟩, a.c3⟩
theorem MdAt.k0 {K : PySem.W.Frag} {H H' : Hp} {x : Addr} {c : Nat} (a : MdAt K H x c) (k : Kp [] H H') : MdAt K H' x c := a.kp k (by simp)
theorem MdAt.fr {K : PySem.W.Frag} {H : Hp} {x y : Addr} {c : Nat} (a : MdAt K H x c) (n : H y = none) : x ≠ y := by
  obtain ⟨dx, e⟩ := a.ob
  exact ne_of_none e n
theorem ne_md : ("saving" : Str) ≠ "" ∧ ("guarded" : Str) ≠ "" ∧ ("checked" : Str) ≠ "" := ⟨by decide +kernel, by decide +kernel, by decide +kernel⟩
theorem mdN_inj {c d : Nat} (hc : c ≤ 3) (hd : d ≤ 3) (h : mdN c = mdN d) : c = d := by
  have d01 : ("free" : Str) ≠ "saving" := by decide +kernel
  have d02 : ("free" : Str) ≠ "guarded" := by decide +kernel
  have d03 : ("free" : Str) ≠ "checked" := by decide +kernel
  have d12 : ("saving" : Str) ≠ "guarded" := by decide +kernel
  have d13 : ("saving" : Str) ≠ "checked" := by decide +kernel
  have d23 : ("guarded" : Str) ≠ "checked" := by decide +kernel
  match c, d, hc, hd with
  | 0, 0, _, _ => rfl
  | 1, 1, _, _ => rfl
  | 2, 2, _, _ => rfl
  | 3, 3, _, _ => rfl
  | 0, 1, _, _ => exact absurd h d01
  | 0, 2, _, _ => exact absurd h d02
  | 0, 3, _, _ => exact absurd h d03
  | 1, 2, _, _ => exact absurd h d12
  | 1, 3, _, _ => exact absurd h d13
  | 2, 3, _, _ => exact absurd h d23
  | 1, 0, _, _ => exact absurd h d01.symm
  | 2, 0, _, _ => exact absurd h d02.symm
  | 3, 0, _, _ => exact absurd h d03.symm
  | 2, 1, _, _ => exact absurd h d12.symm
  | 3, 1, _, _ => exact absurd h d13.symm
  | 3, 2, _, _ => exact absurd h d23.symm
theorem refS_0 (s : Sd) (op : Int) : refS 0 s op = "" := by
  unfold refS
  rw [if_neg (by omega), if_neg (by omega), if_neg (by omega)]
theorem refS_1 (s : Sd) (op : Int) : refS 1 s op = if svB s op.natAbs = true then ("saving" : Str) else "" := by
  unfold refS
  by_cases c : svB s op.natAbs = true
  · rw [if_pos ⟨by omega, c⟩, if_pos c]
  · rw [if_neg (fun z => c z.2), if_neg (by omega), if_neg (by omega), if_neg c]
theorem refS_2 (s : Sd) (op : Int) : refS 2 s op = if refS 1 s op = "" ∧ gdB s op.natAbs = true then ("guarded" : Str) else refS 1 s op := by
  rw [refS_1]
  unfold refS
  by_cases c : svB s op.natAbs = true
  · rw [if_pos ⟨by omega, c⟩, if_pos c, if_neg (fun z => ne_md.1 z.1)]
  · rw [if_neg (fun z => c z.2), if_neg c]
    by_cases d : gdB s op.natAbs = true
    · rw [if_pos ⟨by omega, d⟩, if_pos ⟨rfl, d⟩]
    · rw [if_neg (fun z => d z.2), if_neg (by omega), if_neg (fun z => d z.2)]
theorem refS_3 (s : Sd) (op : Int) : refS 3 s op = if refS 2 s op = "" ∧ fitB s op = false then ("checked" : Str) else refS 2 s op := by
  rw [refS_2, refS_1]
  unfold refS
  by_cases c : svB s op.natAbs = true
  · rw [if_pos ⟨by omega, c⟩, if_pos c, if_neg (show ¬ (("saving" : Str) = "" ∧ gdB s op.natAbs = true) from fun z => ne_md.1 z.1), if_neg (fun z => ne_md.1 z.1)]
  · rw [if_neg (fun z => c z.2), if_neg c]
    by_cases d : gdB s op.natAbs = true
    · rw [if_pos ⟨by omega, d⟩, if_pos (show ("" : Str) = "" ∧ gdB s op.natAbs = true from ⟨rfl, d⟩), if_neg (fun z => ne_md.2.1 z.1)]
    · rw [if_neg (fun z => d z.2), if_neg (show ¬ (("" : Str) = "" ∧ gdB s op.natAbs = true) from fun z => d z.2)]
      by_cases e : fitB s op = false
      · rw [if_pos ⟨by omega, e⟩, if_pos ⟨rfl, e⟩]
      · rw [if_neg (fun z => e z.2), if_neg (fun z => e z.2)]
theorem ref2_nil {s : Sd} {op : Int} : refS 2 s op = "" ↔ svB s op.natAbs = false ∧ gdB s op.natAbs = false := by
  rw [refS_2, refS_1]
  cases svB s op.natAbs <;> cases gdB s op.natAbs <;> simp [ne_md.1, ne_md.2.1]
theorem ref2_bad {s : Sd} {op : Int} : refS 2 s op ≠ "" ↔ svB s op.natAbs = true ∨ gdB s op.natAbs = true := by
  rw [ne_eq, ref2_nil]
  cases svB s op.natAbs <;> cases gdB s op.natAbs <;> simp
/-- every operation is legal and admitted in turn -/
def Adm (c : Nat) (s : Sd) (log : List Int) : Prop := ∀ i op, log[i]? = some op → OkOp (runS s (log.take i)) op ∧ refS c (runS s (log.take i)) op = ""
theorem Adm.leg {c : Nat} {s : Sd} {log : List Int} (h : Adm c s log) : Leg s log := fun i op e => (h i op e).1
theorem adm_nil (c : Nat) (s : Sd) : Adm c s [] := fun i op h => by simp at h
theorem Adm.take {c : Nat} {s : Sd} {log : List Int} (h : Adm c s log) (k : Nat) : Adm c s (log.take k) := by
  intro i op hp
  have hi : i < (log.take k).length := (List.getElem?_eq_some_iff.mp hp).1
  rw [List.length_take] at hi
  rw [List.getElem?_take_of_lt (by omega)] at hp
  rw [List.take_take, Nat.min_eq_left (by omega)]
  exact h i op hp
theorem Adm.snoc {c : Nat} {s : Sd} {log : List Int} {op : Int} (h : Adm c s log) (o : OkOp (runS s log) op) (r : refS c (runS s log) op = "") : Adm c s (log ++ [op]) := by
  intro i p hp
  by_cases hi : i < log.length
  · rw [List.getElem?_append_left hi] at hp
    rw [List.take_append_of_le_length (by omega)]
    exact h i p hp
  · rw [List.getElem?_append_right (by omega)] at hp
    have e : i = log.length := by
      have := (List.getElem?_eq_some_iff.mp hp).1
      simp at this
      omega
    subst e
    have : p = op := by simpa using hp.symm
    subst this
    rw [List.take_left' rfl]
    exact ⟨o, r⟩
theorem Adm.app {c : Nat} {s : Sd} {a : List Int} (h : Adm c s a) : ∀ {b : List Int}, Adm c (runS s a) b → Adm c s (a ++ b) := by
  intro b
  induction b using snoc_ind with
  | h0 => intro _; rw [List.append_nil]; exact h
  | h1 l x ih =>
    intro hb
    have b1 : Adm c (runS s a) l := by
      have := hb.take l.length
      rwa [List.take_left' rfl] at this
    have b2 := hb l.length x (by simp)
    rw [List.take_left' rfl, ← runS_app] at b2
    rw [← List.append_assoc]
    exact (ih b1).snoc b2.1 b2.2
/-! ### promises -/
section
variable (K : PySem.W.Frag)
/-- a method refusal of the class of level d, called on an object of a level c -/
def spRf (d : Nat) : Sp := fun vs H Q E => ∃ (x p r l o : Addr) (s : Sd) (op : Int) (c : Nat), vs = [.ref x, .ref p, .int op] ∧ MdAt K H x c ∧ d ≤ c ∧ LinksAt K H p r l o s ∧ (OkOp s op → Any H (.str (refS d s op)) Q) ∧ (¬ OkOp s op → OpE K s.n op 0 E H)
def sp_FreeMode_refusal : Sp := spRf K 0
def sp_SavingMode_refusal : Sp := spRf K 1
def sp_GuardedMode_refusal : Sp := spRf K 2
def sp_CheckedMode_refusal : Sp := spRf K 3
def sp__loses_a_gap : Sp := fun vs H Q E => ∃ (p r l o : Addr) (s : Sd) (op : Int), vs = [.ref p, .int op] ∧ LinksAt K H p r l o s ∧ OkOp s op ∧ Any H (.bl (svB s op.natAbs)) Q
def sp__leaves_a_gap_to_a_holder_that_is_in : Sp := fun vs H Q E => ∃ (p r l o : Addr) (s : Sd) (op : Int), vs = [.ref p, .int op] ∧ LinksAt K H p r l o s ∧ OkOp s op ∧ Any H (.bl (gdB s op.natAbs)) Q
def sp__has_fitting_neighbours : Sp := fun vs H Q E => ∃ (p r l o : Addr) (s : Sd) (op : Int), vs = [.ref p, .int op] ∧ LinksAt K H p r l o s ∧ OkOp s op ∧ Any H (.bl (fitB s op)) Q
def sp_all_modes : Sp := fun vs H Q E => vs = [] ∧ ∀ (q x0 x1 x2 x3 : Addr) H', H q = none → H x0 = none → H x1 = none → H x2 = none → H x3 = none → Kp [] H H' → H' q = some (.lst [.ref x0, .ref x1, .ref x2, .ref x3]) → MdAt K H' x0 0 → MdAt K H' x1 1 → MdAt K H' x2 2 → MdAt K H' x3 3 → Q (.ref q) H'
/-- the text is no mode's name -/
def NoMd (m : Str) : Prop := ∀ c, c ≤ 3 → m ≠ mdN c
def BadM (m : Str) (E : XK) (H : Hp) : Prop := NoMd m → ∀ H', Kp [] H H' → Ex K "BadMode" [("name", .str m)] E H'
def sp_mode_named : Sp := fun vs H Q E => ∃ m : Str, vs = [.str m] ∧ (∀ c, c ≤ 3 → m = mdN c → ∀ x H', H x = none → Kp [] H H' → MdAt K H' x c → Q (.ref x) H') ∧ BadM K m E H
def sp_check_admitted : Sp := fun vs H Q E => ∃ (x p r l o : Addr) (s : Sd) (op i : Int) (c : Nat), vs = [.ref p, .int op, .int i, .ref x] ∧ MdAt K H x c ∧ LinksAt K H p r l o s ∧
  (OkOp s op → refS c s op = "" → Any H .non Q) ∧ (OkOp s op → refS c s op ≠ "" → ∀ H', Kp [] H H' → Ex K "Refused" [("refusing", .str (refS c s op)), ("index", .int i), ("operation", .int op)] E H') ∧ (¬ OkOp s op → OpE K s.n op i E H)
def sp_admits : Sp := fun vs H Q E => ∃ (p r l o : Addr) (s : Sd) (op : Int) (m : Str), vs = [.ref p, .int op, .str m] ∧ LinksAt K H p r l o s ∧
  (∀ c, c ≤ 3 → m = mdN c → (OkOp s op → Any H (.bl (decide (refS c s op = ""))) Q) ∧ (¬ OkOp s op → ∀ H', Kp [] H H' → OpE K s.n op 0 E H')) ∧ BadM K m E H
/-- errors of a log that is done step by step in a mode -/
def AdmE (c : Nat) (s : Sd) (log : List Int) (E : XK) (H : Hp) : Prop := ∀ i op, log[i]? = some op → Adm c s (log.take i) →
  (¬ OkOp (runS s (log.take i)) op → ∀ H', Kp [] H H' → OpE K s.n op i E H') ∧
  (OkOp (runS s (log.take i)) op → refS c (runS s (log.take i)) op ≠ "" → ∀ H', Kp [] H H' → Ex K "Refused" [("refusing", .str (refS c (runS s (log.take i)) op)), ("index", .int (i : Int)), ("operation", .int op)] E H')
def BadZ (size : Int) (E : XK) (H : Hp) : Prop := ¬ SizeOk size → ∀ H', Kp [] H H' → Ex K "BadSize" [("size", .int size)] E H'
def sp_replay_in : Sp := fun vs H Q E => ∃ (a : Addr) (size : Int) (log : List Int) (m : Str), vs = [.int size, .ref a, .str m] ∧ SqL K H a (log.map V.int) ∧ BadZ K size E H ∧ (SizeOk size → BadM K m E H) ∧
  (SizeOk size → ∀ c, c ≤ 3 → m = mdN c → (Adm c (wholeS size.toNat) log → NewS K H (runS (wholeS size.toNat) log) Q) ∧ AdmE K c (wholeS size.toNat) log E H)
/-- the first operation that is refused -/
def FstR (c : Nat) (s : Sd) (log : List Int) (i : Nat) : Prop := ∃ op, log[i]? = some op ∧ Adm c s (log.take i) ∧ refS c (runS s (log.take i)) op ≠ ""
def sp_first_refusal : Sp := fun vs H Q E => ∃ (a : Addr) (size : Int) (log : List Int) (m : Str), vs = [.int size, .ref a, .str m] ∧ SqL K H a (log.map V.int) ∧ BadZ K size E H ∧ (SizeOk size → BadM K m E H) ∧
  (SizeOk size → ∀ c, c ≤ 3 → m = mdN c → LogE K (wholeS size.toNat) log E H ∧ (Leg (wholeS size.toNat) log → (Adm c (wholeS size.toNat) log → Any H .non Q) ∧ ∀ i, FstR c (wholeS size.toNat) log i → Any H (.int (i : Int)) Q))
end
end G
set_option Elab.async false
set_option linter.all false
set_option maxRecDepth 100000
set_option maxHeartbeats 4000000
/-! k53: promises. -/
namespace G
open PySem PySem.Spec PyProof.Rows L2
def rfI (s : Sd) (op : Int) : Int := if svB s op.natAbs = true then 1 else if gdB s op.natAbs = true then 2 else if fitB s op = false then 3 else 4
/-- what the walk noted as refused -/
def MsOk (n : Nat) (row : List Int) (e : Int × Int) : Prop := ∃ i : Nat, e.1 = (i : Int) ∧ i ≤ row.length ∧ OkOp (runS (wholeS n) (row.take i)) e.2 ∧ refS 2 (runS (wholeS n) (row.take i)) e.2 ≠ ""
theorem MsOk.app {n : Nat} {row : List Int} {e : Int × Int} (h : MsOk n row e) (b : List Int) : MsOk n (row ++ b) e := by
  obtain ⟨i, h1, h2, h3⟩ := h
  refine ⟨i, h1, by rw [List.length_append]; omega, ?_⟩
  rw [List.take_append_of_le_length h2]
  exact h3
section
def sp__law_dump (K : PySem.W.Frag) : Sp := fun vs H Q E => ∃ (w r l o : Addr) (s : Sd), vs = [.ref w] ∧ St3 H w r l o s ∧ Any H (.str (dumpS s)) Q
def sp53__law_after (K : PySem.W.Frag) : Sp := fun vs H Q E => ∃ (a : Addr) (n : Nat) (log : List Int), vs = [.int (n : Int), .ref a] ∧ n ≤ 60 ∧ H a = some (.lst (log.map V.int)) ∧ Leg (wholeS n) log ∧ ∀ w r l o H', H w = none → H r = none → H l = none → H o = none → Kp [] H H' → St3 H' w r l o (runS (wholeS n) log) → Q (.ref w) H'
def sp__law_refuser (K : PySem.W.Frag) : Sp := fun vs H Q E => ∃ (w r l o : Addr) (s : Sd) (op : Int), vs = [.ref w, .int op] ∧ St3 H w r l o s ∧ OkOp s op ∧ Any H (.int (rfI s op)) Q
end
end G
set_option Elab.async false
set_option linter.all false
set_option maxRecDepth 100000
set_option maxHeartbeats 4000000
/-! k49: once-only logs in the guarded mode: mathematics and promises. -/
namespace G
open PySem PySem.Spec PyProof.Rows L2
theorem LgO.leg {n : Nat} (hn : n ≤ 60) {log : List Int} (L : LgO n log) : Leg (wholeS n) log := leg_of hn L.ops L.alt
theorem LgO.snoc {n : Nat} (hn : n ≤ 60) {log : List Int} {op : Int} (L : LgO n log) (ok : OkOp (runS (wholeS n) log) op) (one : op < 0 → op ∉ log) (hl : log.length < 120) : LgO n (log ++ [op]) := by
  have en : (runS (wholeS n) log).n = n := runS_n _ _
  obtain ⟨io, io2⟩ := ok
  rw [en] at io
  refine ⟨fun x hx => ?_, alt_snoc' L.alt ?_, L.one.snoc one, by rw [List.length_append]; show _ + 1 ≤ _; omega⟩
  · rcases List.mem_append.mp hx with z | z
    · exact L.ops x z
    · rw [List.mem_singleton.mp z]; exact io
  · rw [← run_out hn log L.ops]
    exact io2
theorem fstR_uniq {c : Nat} {s : Sd} {log : List Int} {i j : Nat} (a : FstR c s log i) (b : FstR c s log j) : i = j := by
  obtain ⟨x, x1, x2, x3⟩ := a
  obtain ⟨y, y1, y2, y3⟩ := b
  have lt : ∀ {i j : Nat} {x : Int}, log[i]? = some x → refS c (runS s (log.take i)) x ≠ "" → Adm c s (log.take j) → ¬ i < j := by
    intro i j x h1 h2 h3 h
    have := (h3 i x (by rw [List.getElem?_take_of_lt h]; exact h1)).2
    rw [List.take_take, Nat.min_eq_left (by omega)] at this
    exact h2 this
  have := lt x1 x3 y2
  have := lt y1 y3 x2
  omega
/-! ### promises -/
end G
set_option Elab.async false
set_option linter.all false
set_option maxRecDepth 100000
set_option maxHeartbeats 4000000
/-! k47: promises and mathematics: the saving mode and losses. -/
namespace G
open PySem PySem.Spec PyProof.Rows L2
theorem rfI_le {s : Sd} {op : Int} {m : Nat} (h : m ≤ 3) : refS m s op = "" ↔ (m : Int) < rfI s op := by
  have d1 : ¬ (("saving" : Str) = "") := by decide +kernel
  have d2 : ¬ (("guarded" : Str) = "") := by decide +kernel
  have d3 : ¬ (("checked" : Str) = "") := by decide +kernel
  unfold refS rfI
  match m, h with
  | 0, _ => cases svB s op.natAbs <;> cases gdB s op.natAbs <;> cases fitB s op <;> simp
  | 1, _ => cases svB s op.natAbs <;> cases gdB s op.natAbs <;> cases fitB s op <;> simp [d1]
  | 2, _ => cases svB s op.natAbs <;> cases gdB s op.natAbs <;> cases fitB s op <;> simp [d1, d2]
  | 3, _ => cases svB s op.natAbs <;> cases gdB s op.natAbs <;> cases fitB s op <;> simp [d1, d2, d3]
theorem rfI_bd (s : Sd) (op : Int) : 1 ≤ rfI s op ∧ rfI s op ≤ 4 := by
  unfold rfI
  cases svB s op.natAbs <;> cases gdB s op.natAbs <;> cases fitB s op <;> simp
theorem rf1_sv {s : Sd} {op : Int} : refS 1 s op ≠ "" ↔ svB s op.natAbs = true := by
  rw [refS_1]
  cases svB s op.natAbs
  · simp
  · have d1 : ¬ (("saving" : Str) = "") := by decide +kernel
    simp [d1]
theorem rf1_nm {s : Sd} {op : Int} (h : refS 1 s op ≠ "") : refS 1 s op = "saving" := by
  rw [refS_1, if_pos (rf1_sv.mp h)]
theorem rf12 {s : Sd} {op : Int} (h : refS 1 s op ≠ "") : refS 2 s op ≠ "" := ref2_bad.mpr (.inl (rf1_sv.mp h))
theorem rfI_one {s : Sd} {op : Int} : rfI s op = 1 ↔ refS 1 s op ≠ "" := by
  have := rfI_le (s := s) (op := op) (m := 1) (by omega)
  have b := rfI_bd s op
  constructor
  · intro h z
    have := this.mp z
    omega
  · intro h
    have : ¬ (1 : Int) < rfI s op := fun z => h (this.mpr z)
    omega
theorem adm0 {s : Sd} {log : List Int} (h : Leg s log) : Adm 0 s log := fun i op e => ⟨h i op e, refS_0 _ _⟩
theorem FstR.app {c : Nat} {s : Sd} {log : List Int} {k : Nat} (h : FstR c s log k) (l : List Int) : FstR c s (log ++ l) k := by
  obtain ⟨op, h1, h2, h3⟩ := h
  have hk := (List.getElem?_eq_some_iff.mp h1).1
  have e : (log ++ l).take k = log.take k := List.take_append_of_le_length (by omega)
  exact ⟨op, by rw [List.getElem?_append_left hk]; exact h1, by rw [e]; exact h2, by rw [e]; exact h3⟩
theorem FstR.snoc {c : Nat} {s : Sd} {log : List Int} {op : Int} (h : Adm c s log) (r : refS c (runS s log) op ≠ "") : FstR c s (log ++ [op]) log.length :=
  ⟨op, by simp, by rw [List.take_left' rfl]; exact h, by rw [List.take_left' rfl]; exact r⟩
/-- none, or the index of the first refused operation -/
def FsV (m n : Nat) (log : List Int) (v : V) : Prop := (Adm m (wholeS n) log ∧ v = .non) ∨ ∃ k : Nat, FstR m (wholeS n) log k ∧ v = .int (k : Int)
theorem FsV.uniq {m n : Nat} {log : List Int} {v w : V} (a : FsV m n log v) (b : FsV m n log w) : v = w := by
  have no : ∀ {k : Nat}, Adm m (wholeS n) log → FstR m (wholeS n) log k → False := fun {k} ad ⟨op, h1, _, h3⟩ => h3 (ad k op h1).2
  rcases a with ⟨a1, rfl⟩ | ⟨i, a1, rfl⟩ <;> rcases b with ⟨b1, rfl⟩ | ⟨j, b1, rfl⟩
  · rfl
  · exact (no a1 b1).elim
  · exact (no b1 a1).elim
  · rw [fstR_uniq a1 b1]
theorem lost47 {s : Sd} (w : Wf s) {op : Int} (io : IsOp s.n op) : lostL (stepS s op) = [] ↔ lostL s = [] ∧ svB s op.natAbs = false := by
  have en : (stepS s op).n = s.n := stepS_n _ _
  have mem : ∀ {t : Sd} {g : Nat}, g ∈ lostL t ↔ g ≤ t.n ∧ stT t g = "lost" := fun {t g} => by
    unfold lostL
    rw [List.mem_filter, List.mem_range, decide_eq_true_iff]
    constructor <;> rintro ⟨a, b⟩ <;> exact ⟨by omega, b⟩
  constructor
  · intro h
    constructor
    · cases e : lostL s with
      | nil => rfl
      | cons g gs =>
        obtain ⟨a, b⟩ := mem.mp (show g ∈ lostL s by rw [e]; simp)
        have : g ∈ lostL (stepS s op) := mem.mpr ⟨by omega, lost_keep w io b⟩
        rw [h] at this
        cases this
    · cases e : svB s op.natAbs with
      | false => rfl
      | true => exact absurd h (fin_lost w io e)
  · rintro ⟨h1, h2⟩
    cases e : lostL (stepS s op) with
    | nil => rfl
    | cons g gs =>
      obtain ⟨a, b⟩ := mem.mp (show g ∈ lostL (stepS s op) by rw [e]; simp)
      by_cases c : stT s g = "lost"
      · have : g ∈ lostL s := mem.mpr ⟨by omega, c⟩
        rw [h1] at this
        cases this
      · have := (sv_new w io).mp ⟨g, by omega, c, b⟩
        rw [h2] at this
        cases this
theorem lost_wh (n : Nat) : lostL (wholeS n) = [] := by
  cases e : lostL (wholeS n) with
  | nil => rfl
  | cons g gs =>
    have : g ∈ lostL (wholeS n) := by rw [e]; simp
    unfold lostL at this
    rw [List.mem_filter, List.mem_range, decide_eq_true_iff] at this
    have hg : g ≤ n := by have := this.1; have : g < n + 1 := this; omega
    have w := stT_joined.mpr (whole_links (n := n) hg)
    rw [this.2] at w
    exact absurd w (by decide +kernel)
/-- a run that is done in the saving mode loses nothing, and the other way round -/
theorem adm1_iff {n : Nat} (hn : n ≤ 60) {log : List Int} (le : Leg (wholeS n) log) : ∀ k, k ≤ log.length → (Adm 1 (wholeS n) (log.take k) ↔ lostL (runS (wholeS n) (log.take k)) = []) := by
  intro k
  induction k with
  | zero =>
    intro _
    rw [List.take_zero]
    exact ⟨fun _ => lost_wh n, fun _ => adm_nil _ _⟩
  | succ k ih =>
    intro hk
    obtain ⟨op, hop⟩ : ∃ op, log[k]? = some op := ⟨_, List.getElem?_eq_getElem (by omega)⟩
    have e : log.take (k + 1) = log.take k ++ [op] := by rw [List.take_succ, hop] <;> rfl
    have ok := le k op hop
    have w := Leg.wf (Wf.whole hn) (le.take k)
    rw [e, runS_snoc, lost47 w ok.1]
    have i := ih (by omega)
    constructor
    · intro h
      have h1 : Adm 1 (wholeS n) (log.take k) := by
        have := h.take k
        rwa [List.take_append_of_le_length (by rw [List.length_take]; omega), List.take_take, Nat.min_self] at this
      refine ⟨i.mp h1, ?_⟩
      have := (h k op (by rw [List.getElem?_append_right (by rw [List.length_take]; omega), List.length_take, Nat.min_eq_left (by omega), Nat.sub_self] <;> rfl)).2
      rw [List.take_append_of_le_length (by rw [List.length_take]; omega), List.take_take, Nat.min_self] at this
      cases z : svB (runS (wholeS n) (log.take k)) op.natAbs with
      | false => rfl
      | true => exact absurd this (rf1_sv.mpr z)
    · rintro ⟨h1, h2⟩
      refine (i.mpr h1).snoc ok ?_
      rw [refS_1, h2, if_neg Bool.false_ne_true]
theorem adm1_end {n : Nat} (hn : n ≤ 60) {log : List Int} (le : Leg (wholeS n) log) : Adm 1 (wholeS n) log ↔ lostL (runS (wholeS n) log) = [] := by
  have := adm1_iff hn le log.length (Nat.le_refl _)
  rwa [List.take_length] at this
theorem fndAt_take (n : Nat) (log : List Int) (j k : Nat) (h : k < j) : fndAt n (log.take j) k = fndAt n log k := by
  unfold fndAt stL
  rw [List.take_take, List.take_take, Nat.min_eq_left (by omega), Nat.min_eq_left (by omega)]
theorem fndK_take (n : Nat) (log : List Int) (j k : Nat) (h : k ≤ j) : fndK n (log.take j) k = fndK n log k := by
  unfold fndK
  refine congrArg List.flatten (List.map_congr_left fun i hi => ?_)
  have := List.mem_range.mp hi
  exact fndAt_take n log j i (by omega)
theorem fndL_take (n : Nat) (log : List Int) {j : Nat} (h : j ≤ log.length) : fndL n (log.take j) = fndK n log j := by
  unfold fndL
  rw [List.length_take, Nat.min_eq_left h, fndK_take n log j j (Nat.le_refl _)]
theorem fndAt_k {n : Nat} {log : List Int} {k : Nat} {t : Ct} (h : t ∈ fndAt n log k) : t.2.2 = (k : Int) := by
  obtain ⟨g, _, rfl⟩ := List.mem_map.mp h
  rfl
/-- the losses up to a moment are those of the part -/
theorem fndK_fil (n : Nat) (log : List Int) (j : Nat) : ∀ k, j ≤ k → (fndK n log k).filter (fun t => decide (t.2.2 < (j : Int))) = fndK n log j := by
  intro k
  induction k with
  | zero =>
    intro h
    obtain rfl : j = 0 := by omega
    rfl
  | succ k ih =>
    intro h
    by_cases e : j = k + 1
    · subst e
      rw [List.filter_eq_self.mpr]
      intro t ht
      obtain ⟨l, hl, ht⟩ := List.mem_flatten.mp ht
      obtain ⟨i, hi, rfl⟩ := List.mem_map.mp hl
      have := List.mem_range.mp hi
      have := fndAt_k ht
      exact decide_eq_true (by omega)
    · rw [fndK_snoc, List.filter_append, ih (by omega), List.filter_eq_nil_iff.mpr, List.append_nil]
      intro t ht z
      have z := of_decide_eq_true z
      have := fndAt_k ht
      omega
theorem fndL_fil (n : Nat) (log : List Int) {k : Nat} (h : k < log.length) : (fndL n log).filter (fun t => decide (t.2.2 ≤ (k : Int))) = fndL n (log.take (k + 1)) := by
  rw [fndL_take n log (by omega), ← fndK_fil n log (k + 1) log.length (by omega)]
  unfold fndL
  refine List.filter_congr fun t _ => ?_
  refine decide_eq_decide.mpr ?_
  omega
/-- a loss that was found, in the part that ends with it -/
theorem fnd_part {n : Nat} {log : List Int} {t : Ct} (h : t ∈ fndL n log) : ∃ k : Nat, k < log.length ∧ t.2.2 = (k : Int) ∧ t ∈ fndL n (log.take (k + 1)) ∧ t ∉ fndL n (log.take k) := by
  obtain ⟨k, g, hk, hg, c, hl, e⟩ := mem_fnd.mp h
  have ek : t.2.2 = (k : Int) := by rw [e]
  refine ⟨k, hk, ek, ?_, fun z => ?_⟩
  · rw [← fndL_fil n log hk]
    exact List.mem_filter.mpr ⟨h, decide_eq_true (by omega)⟩
  · obtain ⟨j, g', hj, _, _, _, e'⟩ := mem_fnd.mp z
    rw [List.length_take] at hj
    have : t.2.2 = (j : Int) := by rw [e']
    omega
theorem fnd_mem_certs {n : Nat} (hn : n ≤ 60) {log : List Int} (le : Leg (wholeS n) log) (t : Ct) : t ∈ certs n log ↔ t ∈ fndL n log := by
  rw [fnd_in hn le]
  unfold certs certK
  rw [List.mem_map]
  constructor
  · rintro ⟨g, hg, rfl⟩
    obtain ⟨a, b⟩ := List.mem_filter.mp hg
    have := List.mem_range.mp a
    exact ⟨g, by omega, of_decide_eq_true b, rfl⟩
  · rintro ⟨g, hg, h, rfl⟩
    exact ⟨g, List.mem_filter.mpr ⟨List.mem_range.mpr (by omega), decide_eq_true h⟩, rfl⟩
/-- a certificate read the other way round is none -/
theorem cert_swap {n : Nat} (hn : n ≤ 60) {log : List Int} (le : Leg (wholeS n) log) {t : Ct} (h : t ∈ certs n log) : (t.1, t.2.2, t.2.1) ∉ certs n log := by
  intro z
  have lt : ∀ {u : Ct}, u ∈ fndL n log → u.2.1 < u.2.2 := by
    intro u hu
    obtain ⟨k, g, hk, hg, c, hl, rfl⟩ := mem_fnd.mp hu
    show gI (bkR n (log.take k)).de g < (k : Int)
    by_cases l1 : 1 ≤ (chL n log g k).length
    · rw [de_ch hn le hg k (by omega) l1]
      have m : gI (chL n log g k) ((chL n log g k).length - 1) ∈ chL n log g k := List.mem_of_getElem? (gI_at (by omega))
      obtain ⟨j, hj, e⟩ := List.mem_map.mp m
      have := List.mem_range.mp (List.mem_filter.mp hj).1
      omega
    · exfalso
      have l2 := lost_len hn le hg (stL_lost hn le hl log.length (by omega) (Nat.le_refl _))
      rw [ch_stay hn le hl log.length (by omega) (Nat.le_refl _), chL_snoc, if_pos c, List.length_append] at l2
      have l2 : 2 ≤ (chL n log g k).length + 1 := l2
      omega
  have a := lt ((fnd_mem_certs hn le _).mp h)
  have b := lt ((fnd_mem_certs hn le _).mp z)
  have b : t.2.2 < t.2.1 := b
  omega
/-- what the law noted as refused in the saving mode -/
def MsV (n : Nat) (row : List Int) (e : Int × Int) : Prop := ∃ i : Nat, e.1 = (i : Int) ∧ i ≤ row.length ∧ OkOp (runS (wholeS n) (row.take i)) e.2 ∧ refS 1 (runS (wholeS n) (row.take i)) e.2 ≠ ""
theorem MsV.app {n : Nat} {row : List Int} {e : Int × Int} (h : MsV n row e) (b : List Int) : MsV n (row ++ b) e := by
  obtain ⟨i, h1, h2, h3⟩ := h
  refine ⟨i, h1, by rw [List.length_append]; omega, ?_⟩
  rw [List.take_append_of_le_length h2]
  exact h3
section
def sp47__law_log (K : PySem.W.Frag) : Sp := fun vs H Q E => ∃ (N : Nat) (b c : Addr) (n lim : Nat), vs = [.ref b, .int (n : Int), .int (lim : Int)] ∧ lim ≤ 60 ∧ N ≤ 1000 ∧ n ≤ 60 ∧ Bx8 N H b c ∧ ∀ (ds : List Int) q c' H', Nx8 H c c' → q ≠ c' → (∀ x ∈ ds, IsOp n x) → Alt ds → ds.length ≤ 80 → H q = none → Kp [b] H H' → Bx8 (N + 300) H' b c' → H' q = some (.lst (ds.map V.int)) → Q (.ref q) H'
def sp__law_firsts (K : PySem.W.Frag) : Sp := fun vs H Q E => ∃ (a : Addr) (n : Nat) (log : List Int), vs = [.int (n : Int), .ref a] ∧ n ≤ 60 ∧ H a = some (.lst (log.map V.int)) ∧ Leg (wholeS n) log ∧ log.length ≤ 1000 ∧
  ∀ q v0 v1 v2 v3 H', H q = none → Kp [] H H' → H' q = some (.lst [v0, v1, v2, v3]) → FsV 0 n log v0 → FsV 1 n log v1 → FsV 2 n log v2 → FsV 3 n log v3 → Q (.ref q) H'
def sp__law_in_saving (K : PySem.W.Frag) : Sp := fun vs H Q E => ∃ (a : Addr) (n : Nat) (log : List Int), vs = [.int (n : Int), .ref a] ∧ n ≤ 60 ∧ SqL K H a (log.map V.int) ∧ Leg (wholeS n) log ∧
  (Adm 1 (wholeS n) log → ∀ t H', Kp [] H H' → H' t = some (.tup [.str "done", .str (dumpS (runS (wholeS n) log))]) → Q (.ref t) H') ∧
  (∀ i op, log[i]? = some op → Adm 1 (wholeS n) (log.take i) → refS 1 (runS (wholeS n) (log.take i)) op ≠ "" → ∀ t u H', Kp [] H H' → H' t = some (.tup [.str "refused", .ref u, .bl true, .bl false]) → H' u = some (.tup [.int op, .int (i : Int), .str "saving"]) → Q (.ref t) H')
def sp47__law_refusals (K : PySem.W.Frag) : Sp := fun vs H Q E => ∃ (a f : Addr) (n : Nat) (log : List Int) (xs : List V), vs = [.int (n : Int), .ref a, .ref f] ∧ n ≤ 60 ∧ H a = some (.lst (log.map V.int)) ∧ log.length ≤ 100 ∧ Leg (wholeS n) log ∧ H f = some (.lst xs) ∧ CPs H xs (fndL n log) ∧ Any H (.bl true) Q
def sp__law_bent (K : PySem.W.Frag) : Sp := fun vs H Q E => ∃ (N : Nat) (b c f : Addr) (n : Nat) (xs : List V) (es : List Ct), vs = [.ref b, .int (n : Int), .ref f] ∧ N ≤ 5000 ∧ n ≤ 60 ∧ Bx8 N H b c ∧ f ≠ b ∧ H f = some (.lst xs) ∧ CPs H xs es ∧ es.length ≤ 61 ∧
  ∀ (u : Ct) t c' H', Nx8 H c c' → Kp [b] H H' → Bx8 (N + 10) H' b c' → H' t = some (.tup (ctV u)) → Q (.ref t) H'
def sp__law_papers (K : PySem.W.Frag) : Sp := fun vs H Q E => ∃ (N : Nat) (b c a f : Addr) (n : Nat) (log : List Int) (xs : List V), vs = [.ref b, .int (n : Int), .ref a, .ref f] ∧ N ≤ 4000 ∧ n ≤ 60 ∧ Bx8 N H b c ∧ a ≠ b ∧ f ≠ b ∧ H a = some (.lst (log.map V.int)) ∧ log.length ≤ 100 ∧ Leg (wholeS n) log ∧ H f = some (.lst xs) ∧ CPs H xs (fndL n log) ∧
  ∀ c' H', Nx8 H c c' → Kp [b] H H' → Bx8 (N + 50) H' b c' → Q (.bl true) H'
def sp__law_saved (K : PySem.W.Frag) : Sp := fun vs H Q E => ∃ (a : Addr) (n : Nat) (log : List Int), vs = [.int (n : Int), .ref a] ∧ n ≤ 60 ∧ H a = some (.lst (log.map V.int)) ∧ log.length ≤ 100 ∧ (∀ x ∈ log, IsOp n x) ∧ Any H (.bl true) Q
end
end G
set_option Elab.async false
set_option linter.all false
set_option maxRecDepth 100000
set_option maxHeartbeats 4000000
namespace G
open PySem PySem.Spec PyProof.Rows L2
abbrev L_refusal (K : PySem.W.Frag) : List (Addr × Sp) := [(He.ga K "FreeMode", sp_FreeMode_refusal K), (He.ga K "SavingMode", sp_SavingMode_refusal K), (He.ga K "GuardedMode", sp_GuardedMode_refusal K), (He.ga K "CheckedMode", sp_CheckedMode_refusal K)]
def t__law_put (K : PySem.W.Frag) (E : XK) : TS :=
  tSeq (tAsg (tCB rAbsA (tCons (tVar 1) (tNil))) (gName 2)) (tSeq (tAsg (tOp (rIx K) (tOp (rIx K) (tVar 0) (tC (.int 1))) (tVar 2)) (gName 3)) (tSeq (tAsg (tOp (rIx K) (tOp (rIx K) (tVar 0) (tC (.int 0))) (tVar 2)) (gName 4)) (tSeq (tIfS (tTest (tOp rLtA (tVar 1) (tC (.int 0)))) (tSeq (tAsg (tVar 4) (gSub (tOp (rIx K) (tVar 0) (tC (.int 0))) (tVar 3) rSetL)) (tAsg (tVar 3) (gSub (tOp (rIx K) (tVar 0) (tC (.int 1))) (tVar 4) rSetL))) (tSeq (tAsg (tVar 2) (gSub (tOp (rIx K) (tVar 0) (tC (.int 0))) (tVar 3) rSetL)) (tAsg (tVar 2) (gSub (tOp (rIx K) (tVar 0) (tC (.int 1))) (tVar 4) rSetL)))) (tAsg (tOp rLtA (tVar 1) (tC (.int 0))) (gSub (tOp (rIx K) (tVar 0) (tC (.int 2))) (tVar 2) rSetL)))))
def t__law_start (K : PySem.W.Frag) (E : XK) : TS :=
  tRet (tLst (tCons (tLc (iRng1 (tCons (tOp rAddA (tVar 0) (tC (.int 1))) (tNil))) (gName 1) (tYes) (tOp rAddA (tVar 1) (tC (.int 1))) [1]) (tCons (tLc (iRng1 (tCons (tOp rAddA (tVar 0) (tC (.int 2))) (tNil))) (gName 1) (tYes) (tOp rSubA (tVar 1) (tC (.int 1))) [1]) (tCons (tOp rMulA (tLst (tCons (tC (.bl false)) (tNil))) (tOp rAddA (tVar 0) (tC (.int 2)))) (tNil)))))
def t__law_states (K : PySem.W.Frag) (E : XK) : TS :=
  tSeq (tAsg (tLst (tNil)) (gName 1)) (tSeq (tFor (iRng1 (tCons (tCB (rLenA K) (tCons (tOp (rIx K) (tVar 0) (tC (.int 0))) (tNil))) (tNil))) (gName 2) (tSeq (tAsg (tOp (rEqA K) (tOp (rIx K) (tOp (rIx K) (tVar 0) (tC (.int 0))) (tVar 2)) (tOp rAddA (tVar 2) (tC (.int 1)))) (gName 3)) (tSeq (tAsg (tOp (rEqA K) (tOp (rIx K) (tOp (rIx K) (tVar 0) (tC (.int 1))) (tOp rAddA (tVar 2) (tC (.int 1)))) (tVar 2)) (gName 4)) (tDrop (tBM K "list" rAppend (tVar 1) (tCons (tIf (tAnd (tB (tVar 3)) (tB (tVar 4))) (tC (.str "joined")) (tIf (tB (tVar 3)) (tC (.str "left")) (tIf (tB (tVar 4)) (tC (.str "right")) (tC (.str "lost"))))) (tNil))))))) (tRet (tVar 1)))
def t__law_book (K : PySem.W.Frag) (E : XK) : TS :=
  tSeq (tAsg (tCl (sp48__law_start K) (fun _ => E) (tCons (tVar 0) (tNil))) (gName 2)) (tSeq (tAsg (tOp rMulA (tLst (tCons (tUn rNegA (tC (.int 1))) (tNil))) (tOp rAddA (tVar 0) (tC (.int 1)))) (gName 3)) (tSeq (tAsg (tLst (tNil)) (gName 4)) (tSeq (tAsg (tCl (sp48__law_states K) (fun _ => E) (tCons (tVar 2) (tNil))) (gName 5)) (tSeq (tFor (iRng1 (tCons (tCB (rLenA K) (tCons (tVar 1) (tNil))) (tNil))) (gName 6) (tSeq (tDrop (tCl (sp48__law_put K) (fun _ => E) (tCons (tVar 2) (tCons (tOp (rIx K) (tVar 1) (tVar 6)) (tNil))))) (tSeq (tAsg (tCl (sp48__law_states K) (fun _ => E) (tCons (tVar 2) (tNil))) (gName 7)) (tSeq (tFor (iRng1 (tCons (tOp rAddA (tVar 0) (tC (.int 1))) (tNil))) (gName 8) (tIfS (tTest (tOp (rNeA K) (tOp (rIx K) (tVar 7) (tVar 8)) (tOp (rIx K) (tVar 5) (tVar 8)))) (tSeq (tIfS (tTest (tOp (rEqA K) (tOp (rIx K) (tVar 7) (tVar 8)) (tC (.str "lost")))) (tDrop (tBM K "list" rAppend (tVar 4) (tCons (tTup (tCons (tVar 8) (tCons (tOp (rIx K) (tVar 3) (tVar 8)) (tCons (tVar 6) (tNil))))) (tNil)))) (tNext)) (tAsg (tVar 6) (gSub (tVar 3) (tVar 8) rSetL))) (tNext))) (tAsg (tVar 7) (gName 5)))))) (tRet (tTup (tCons (tVar 2) (tCons (tVar 3) (tCons (tVar 4) (tNil))))))))))
def t__law_box (K : PySem.W.Frag) (E : XK) : TS :=
  tSeq (tAsg (tSl (rSlL K) (tVar 0) (tNoPart) (tPart (tC (.int 63)))) (gName 2)) (tSeq (tAsg (tVar 1) (gName 3)) (tSeq (tFor (iList K (tVar 2)) (gName 4) (tAsg (tOp rModA (tCB rIntA (tCons (tOp rAddA (tOp rAddA (tOp rMulA (tVar 3) (tC (.int 48271))) (tOp rModA (tCB rIntA (tCons (tVar 4) (tNil))) (tC (.int 2147483629)))) (tC (.int 97))) (tNil))) (tC (.int 2147483647))) (gName 3))) (tRet (tLst (tCons (tLc (iList K (tVar 2)) (gName 4) (tTest (tOp rGeA (tVar 4) (tOp rPowA (tC (.int 10)) (tC (.int 18))))) (tVar 4) [4]) (tCons (tC (.int 0)) (tCons (tVar 3) (tCons (tC (.int 0)) (tNil)))))))))
def t__law_draw (K : PySem.W.Frag) (E : XK) : TS :=
  tSeq (tIfS (tTr K (tOp (rIx K) (tVar 0) (tC (.int 0)))) (tSeq (tAsg (tOp (rIx K) (tOp (rIx K) (tVar 0) (tC (.int 0))) (tC (.int 0))) (gName 2)) (tSeq (tAsg (tOp rDivA (tVar 2) (tVar 1)) (gName 3)) (tSeq (tAsg (tOp rAddA (tOp (rIx K) (tVar 0) (tC (.int 1))) (tC (.int 1))) (gSub (tVar 0) (tC (.int 1)) rSetL)) (tSeq (tIfS (tOr (tTest (tOp (rEqA K) (tVar 3) (tC (.int 0)))) (tTest (tOp (rEqA K) (tOp (rIx K) (tVar 0) (tC (.int 1))) (tC (.int 60))))) (tSeq (tAsg (tSl (rSlL K) (tOp (rIx K) (tVar 0) (tC (.int 0))) (tPart (tC (.int 1))) (tNoPart)) (gSub (tVar 0) (tC (.int 0)) rSetL)) (tAsg (tC (.int 0)) (gSub (tVar 0) (tC (.int 1)) rSetL))) (tAsg (tOp rAddA (tLst (tCons (tVar 3) (tNil))) (tSl (rSlL K) (tOp (rIx K) (tVar 0) (tC (.int 0))) (tPart (tC (.int 1))) (tNoPart))) (gSub (tVar 0) (tC (.int 0)) rSetL))) (tRet (tOp rModA (tCB rIntA (tCons (tVar 2) (tNil))) (tVar 1))))))) (tNext)) (tSeq (tAsg (tOp rAddA (tOp (rIx K) (tVar 0) (tC (.int 3))) (tC (.int 1))) (gSub (tVar 0) (tC (.int 3)) rSetL)) (tSeq (tAsg (tOp rModA (tCB rIntA (tCons (tOp rAddA (tOp rAddA (tOp rMulA (tOp (rIx K) (tVar 0) (tC (.int 2))) (tC (.int 48271))) (tOp rMulA (tOp (rIx K) (tVar 0) (tC (.int 3))) (tC (.int 9973)))) (tC (.int 1))) (tNil))) (tC (.int 2147483647))) (gSub (tVar 0) (tC (.int 2)) rSetL)) (tRet (tOp rModA (tOp rDivA (tOp rModA (tCB rIntA (tCons (tOp rAddA (tOp rMulA (tOp rDivA (tOp (rIx K) (tVar 0) (tC (.int 2))) (tC (.int 16))) (tC (.int 69621))) (tOp rMulA (tOp (rIx K) (tVar 0) (tC (.int 3))) (tOp (rIx K) (tVar 0) (tC (.int 3))))) (tNil))) (tC (.int 2147483629))) (tC (.int 8))) (tVar 1)))))
def t__law_log (K : PySem.W.Frag) (E : XK) : TS :=
  tSeq (tIfS (tTest (tOp (rEqA K) (tVar 1) (tC (.int 0)))) (tRet (tLst (tNil))) (tNext)) (tSeq (tAsg (tLst (tNil)) (gName 3)) (tSeq (tAsg (tCl (sp48__law_draw K) (fun _ => E) (tCons (tVar 0) (tCons (tVar 1) (tNil)))) (gName 4)) (tSeq (tIfS (tAnd (tTest (tOp rGtA (tVar 1) (tC (.int 3)))) (tTest (tOp (rEqA K) (tCl (sp48__law_draw K) (fun _ => E) (tCons (tVar 0) (tCons (tC (.int 2)) (tNil)))) (tC (.int 0))))) (tSeq (tAsg (tCB rMin2A (tCons (tVar 4) (tCons (tOp rSubA (tVar 1) (tC (.int 4))) (tNil)))) (gName 5)) (tSeq (tAsg (tLst (tCons (tOp rSubA (tUn rNegA (tVar 5)) (tC (.int 2))) (tCons (tOp rSubA (tUn rNegA (tVar 5)) (tC (.int 3))) (tCons (tOp rAddA (tVar 5) (tC (.int 2))) (tCons (tOp rSubA (tUn rNegA (tVar 5)) (tC (.int 1))) (tCons (tOp rSubA (tUn rNegA (tVar 5)) (tC (.int 4))) (tNil))))))) (gName 3)) (tSeq (tIfS (tTest (tOp (rEqA K) (tCl (sp48__law_draw K) (fun _ => E) (tCons (tVar 0) (tCons (tC (.int 2)) (tNil)))) (tC (.int 1)))) (tAsg (tLst (tCons (tOp rSubA (tUn rNegA (tVar 5)) (tC (.int 3))) (tCons (tOp rSubA (tUn rNegA (tVar 5)) (tC (.int 2))) (tCons (tOp rAddA (tVar 5) (tC (.int 3))) (tCons (tOp rSubA (tUn rNegA (tVar 5)) (tC (.int 4))) (tCons (tOp rSubA (tUn rNegA (tVar 5)) (tC (.int 1))) (tNil))))))) (gName 3)) (tNext)) (tSeq (tAsg (tSl (rSlL K) (tVar 3) (tNoPart) (tPart (tOp rAddA (tC (.int 3)) (tCl (sp48__law_draw K) (fun _ => E) (tCons (tVar 0) (tCons (tC (.int 3)) (tNil))))))) (gName 3)) (tIfS (tAnd (tTest (tOp rGtA (tVar 1) (tC (.int 6)))) (tTest (tOp (rEqA K) (tCl (sp48__law_draw K) (fun _ => E) (tCons (tVar 0) (tCons (tC (.int 3)) (tNil)))) (tC (.int 0))))) (tSeq (tAsg (tCB rMin2A (tCons (tVar 4) (tCons (tOp rSubA (tVar 1) (tC (.int 7))) (tNil)))) (gName 5)) (tSeq (tAsg (tLst (tCons (tUn rNegA (tC (.int 2))) (tCons (tUn rNegA (tC (.int 3))) (tCons (tC (.int 2)) (tCons (tUn rNegA (tC (.int 1))) (tCons (tUn rNegA (tC (.int 6))) (tCons (tUn rNegA (tC (.int 5))) (tCons (tC (.int 6)) (tCons (tUn rNegA (tC (.int 7))) (tCons (tUn rNegA (tC (.int 4))) (tNil))))))))))) (gName 3)) (tSeq (tIfS (tTest (tOp (rEqA K) (tCl (sp48__law_draw K) (fun _ => E) (tCons (tVar 0) (tCons (tC (.int 2)) (tNil)))) (tC (.int 1)))) (tAsg (tLc (iList K (tVar 3)) (gName 7) (tYes) (tIf (tTest (tOp rGtA (tVar 7) (tC (.int 0)))) (tOp rSubA (tC (.int 8)) (tVar 7)) (tOp rSubA (tUn rNegA (tC (.int 8))) (tVar 7))) [7]) (gName 3)) (tNext)) (tAsg (tLc (iList K (tVar 3)) (gName 7) (tYes) (tIf (tTest (tOp rGtA (tVar 7) (tC (.int 0)))) (tOp rAddA (tVar 7) (tVar 5)) (tOp rSubA (tVar 7) (tVar 5))) [7]) (gName 3))))) (tNext)))))) (tNext)) (tSeq (tAsg (tOp rMulA (tLst (tCons (tC (.bl false)) (tNil))) (tOp rAddA (tVar 1) (tC (.int 1)))) (gName 6)) (tSeq (tFor (iList K (tVar 3)) (gName 7) (tAsg (tOp rLtA (tVar 7) (tC (.int 0))) (gSub (tVar 6) (tCB rAbsA (tCons (tVar 7) (tNil))) rSetL))) (tSeq (tAsg (tOp rAddA (tC (.int 1)) (tCl (sp48__law_draw K) (fun _ => E) (tCons (tVar 0) (tCons (tCB rMin2A (tCons (tVar 1) (tCons (tC (.int 7)) (tNil)))) (tNil))))) (gName 8)) (tSeq (tFor (iRng1 (tCons (tCl (sp48__law_draw K) (fun _ => E) (tCons (tVar 0) (tCons (tOp rAddA (tVar 2) (tC (.int 1))) (tNil)))) (tNil))) (gName 9) (tSeq (tAsg (tOp rAddA (tC (.int 1)) (tOp rModA (tCB rIntA (tCons (tOp rAddA (tVar 4) (tCl (sp48__law_draw K) (fun _ => E) (tCons (tVar 0) (tCons (tVar 8) (tNil))))) (tNil))) (tVar 1))) (gName 10)) (tSeq (tIfS (tTest (tOp (rEqA K) (tCl (sp48__law_draw K) (fun _ => E) (tCons (tVar 0) (tCons (tC (.int 5)) (tNil)))) (tC (.int 0)))) (tAsg (tOp rAddA (tC (.int 1)) (tCl (sp48__law_draw K) (fun _ => E) (tCons (tVar 0) (tCons (tVar 1) (tNil))))) (gName 10)) (tNext)) (tSeq (tDrop (tBM K "list" rAppend (tVar 3) (tCons (tIf (tB (tOp (rIx K) (tVar 6) (tVar 10))) (tVar 10) (tUn rNegA (tVar 10))) (tNil)))) (tAsg (tNotV (tOp (rIx K) (tVar 6) (tVar 10))) (gSub (tVar 6) (tVar 10) rSetL)))))) (tRet (tVar 3)))))))))
def t__law_bent (K : PySem.W.Frag) (E : XK) : TS :=
  tSeq (tAsg (tLst (tCons (tCl (sp48__law_draw K) (fun _ => E) (tCons (tVar 0) (tCons (tOp rAddA (tVar 1) (tC (.int 1))) (tNil)))) (tCons (tCl (sp48__law_draw K) (fun _ => E) (tCons (tVar 0) (tCons (tC (.int 9)) (tNil)))) (tCons (tCl (sp48__law_draw K) (fun _ => E) (tCons (tVar 0) (tCons (tC (.int 9)) (tNil)))) (tNil))))) (gName 3)) (tSeq (tIfS (tTr K (tVar 2)) (tAsg (tCB (rListA K) (tCons (tOp (rIx K) (tVar 2) (tCl (sp48__law_draw K) (fun _ => E) (tCons (tVar 0) (tCons (tCB (rLenA K) (tCons (tVar 2) (tNil))) (tNil))))) (tNil))) (gName 3)) (tNext)) (tSeq (tAsg (tCl (sp48__law_draw K) (fun _ => E) (tCons (tVar 0) (tCons (tC (.int 3)) (tNil)))) (gName 4)) (tSeq (tAsg (tOp rAddA (tOp (rIx K) (tVar 3) (tVar 4)) (tOp (rIx K) (tLst (tCons (tUn rNegA (tC (.int 1))) (tCons (tC (.int 1)) (tCons (tC (.int 2)) (tCons (tUn rNegA (tVar 1)) (tNil)))))) (tCl (sp48__law_draw K) (fun _ => E) (tCons (tVar 0) (tCons (tC (.int 4)) (tNil)))))) (gSub (tVar 3) (tVar 4) rSetL)) (tRet (tCB (rTupA K) (tCons (tVar 3) (tNil)))))))
def t_check_size (K : PySem.W.Frag) (E : XK) : TS :=
  tIfS (tNot (tTest (tChain rLeA rLeA (tC (.int 0)) (tVar 0) (tC (.int 60))))) (tRz (He.ga K "BadSize") ["size"] (fun cls d _ H => E cls d H) (tCons (tVar 0) (tNil))) (tNext)
def t_Links___init__ (K : PySem.W.Frag) (E : XK) : TS :=
  tSeq (tDrop (tCl (sp_check_size K) (fun _ => E) (tCons (tVar 1) (tNil)))) (tSeq (sFld K (tVar 0) (tVar 1) "size") (tSeq (sFld K (tVar 0) (tLstRg (tRg2 (tC (.int 1)) (tOp rAddA (tVar 1) (tC (.int 2))))) "_rights") (tSeq (sFld K (tVar 0) (tOp rAddA (tLst (tCons (tC (.int 0)) (tNil))) (tLstRg (tRg1 (tOp rAddA (tVar 1) (tC (.int 1)))))) "_lefts") (sFld K (tVar 0) (tOp rMulA (tLst (tCons (tC (.bl false)) (tNil))) (tOp rAddA (tVar 1) (tC (.int 2)))) "_out"))))
def t_Links_is_legal (K : PySem.W.Frag) (E : XK) : TS :=
  tRet (tOp (rEqA K) (tOp (rIx K) (tFld K (tVar 0) "_out") (tCB rAbsA (tCons (tVar 1) (tNil)))) (tOp rGtA (tVar 1) (tC (.int 0))))
def t_check_operation (K : PySem.W.Frag) (E : XK) : TS :=
  tIfS (tNot (tTest (tChain rLeA rLeA (tC (.int 1)) (tCB rAbsA (tCons (tVar 1) (tNil))) (tVar 0)))) (tRz (He.ga K "BadOperation") ["operation", "index"] (fun cls d _ H => E cls d H) (tCons (tVar 1) (tCons (tVar 2) (tNil)))) (tNext)
def t_Links_check (K : PySem.W.Frag) (E : XK) : TS :=
  tSeq (tDrop (tCl (sp_check_operation K) (fun _ => E) (tCons (tFld K (tVar 0) "size") (tCons (tVar 1) (tCons (tVar 2) (tNil)))))) (tIfS (tNot (tB (tMt (He.ga K "Links") "is_legal" (sp_Links_is_legal K) (fun _ => E) (tVar 0) (tCons (tVar 1) (tNil))))) (tRz (He.ga K "Illegal") ["operation", "index"] (fun cls d _ H => E cls d H) (tCons (tVar 1) (tCons (tVar 2) (tNil)))) (tNext))
def t_Links_apply_at (K : PySem.W.Frag) (E : XK) : TS :=
  tSeq (tDrop (tMt (He.ga K "Links") "check" (sp_Links_check K) (fun _ => E) (tVar 0) (tCons (tVar 1) (tCons (tVar 2) (tNil))))) (tSeq (tAsg (tCB rAbsA (tCons (tVar 1) (tNil))) (gName 3)) (tSeq (tAsg (tOp (rIx K) (tFld K (tVar 0) "_lefts") (tVar 3)) (gName 4)) (tSeq (tAsg (tOp (rIx K) (tFld K (tVar 0) "_rights") (tVar 3)) (gName 5)) (tSeq (tAsg (tOp rLtA (tVar 1) (tC (.int 0))) (gName 6)) (tSeq (tAsg (tIf (tB (tVar 6)) (tVar 5) (tVar 3)) (gSub (tFld K (tVar 0) "_rights") (tVar 4) rSetL)) (tSeq (tAsg (tIf (tB (tVar 6)) (tVar 4) (tVar 3)) (gSub (tFld K (tVar 0) "_lefts") (tVar 5) rSetL)) (tAsg (tVar 6) (gSub (tFld K (tVar 0) "_out") (tVar 3) rSetL))))))))
def t_Links_left (K : PySem.W.Frag) (E : XK) : TS :=
  tSeq (tIfS (tNot (tTest (tChain rLeA rLeA (tC (.int 1)) (tVar 1) (tOp rAddA (tFld K (tVar 0) "size") (tC (.int 1)))))) (tRz (He.ga K "BadNode") ["node"] (fun cls d _ H => E cls d H) (tCons (tVar 1) (tNil))) (tNext)) (tRet (tOp (rIx K) (tFld K (tVar 0) "_lefts") (tVar 1)))
def t_Links_right (K : PySem.W.Frag) (E : XK) : TS :=
  tSeq (tIfS (tNot (tTest (tChain rLeA rLeA (tC (.int 0)) (tVar 1) (tFld K (tVar 0) "size")))) (tRz (He.ga K "BadNode") ["node"] (fun cls d _ H => E cls d H) (tCons (tVar 1) (tNil))) (tNext)) (tRet (tOp (rIx K) (tFld K (tVar 0) "_rights") (tVar 1)))
def t_check_gap (K : PySem.W.Frag) (E : XK) : TS :=
  tIfS (tNot (tTest (tChain rLeA rLeA (tC (.int 0)) (tVar 1) (tVar 0)))) (tRz (He.ga K "BadGap") ["gap"] (fun cls d _ H => E cls d H) (tCons (tVar 1) (tNil))) (tNext)
def t_gap_state (K : PySem.W.Frag) (E : XK) : TS :=
  tSeq (tDrop (tCl (sp_check_gap K) (fun _ => E) (tCons (tFld K (tVar 0) "size") (tCons (tVar 1) (tNil))))) (tSeq (tAsg (tOp (rEqA K) (tMt (He.ga K "Links") "right" (sp_Links_right K) (fun _ => E) (tVar 0) (tCons (tVar 1) (tNil))) (tOp rAddA (tVar 1) (tC (.int 1)))) (gName 2)) (tSeq (tAsg (tOp (rEqA K) (tMt (He.ga K "Links") "left" (sp_Links_left K) (fun _ => E) (tVar 0) (tCons (tOp rAddA (tVar 1) (tC (.int 1))) (tNil))) (tVar 1)) (gName 3)) (tSeq (tIfS (tB (tVar 2)) (tRet (tIf (tB (tVar 3)) (tC (.str "joined")) (tC (.str "left")))) (tNext)) (tRet (tIf (tB (tVar 3)) (tC (.str "right")) (tC (.str "lost")))))))
def t_gap_states (K : PySem.W.Frag) (E : XK) : TS :=
  tRet (tLc (iRng1 (tCons (tOp rAddA (tFld K (tVar 0) "size") (tC (.int 1))) (tNil))) (gName 1) (tYes) (tCl (sp_gap_state K) (fun _ => E0) (tCons (tVar 0) (tCons (tVar 1) (tNil)))) [1])
def t__certificates (K : PySem.W.Frag) (E : XK) : TS :=
  tSeq (tAsg (tMk (He.ga K "Links") (sp_Links___init__ K) (fun _ => E) (tCons (tVar 0) (tNil))) (gName 2)) (tSeq (tAsg (tCl (sp_gap_states K) (fun _ => E) (tCons (tVar 2) (tNil))) (gName 3)) (tSeq (tAsg (tLc (iList K (tVar 3)) (gName 10) (tYes) (tLst (tNil)) [10]) (gName 4)) (tSeq (tFor (iEnum K (tCons (tVar 1) (tNil))) (gTup K 2 (gCons (gName 5) (gCons (gName 6) (gNil)))) (tSeq (tDrop (tMt (He.ga K "Links") "apply_at" (sp_Links_apply_at K) (fun _ => E) (tVar 2) (tCons (tVar 6) (tCons (tVar 5) (tNil))))) (tSeq (tAsg (tVar 3) (gName 7)) (tSeq (tAsg (tCl (sp_gap_states K) (fun _ => E) (tCons (tVar 2) (tNil))) (gName 3)) (tFor (iEnum K (tCons (tVar 3) (tNil))) (gTup K 2 (gCons (gName 8) (gCons (gName 9) (gNil)))) (tIfS (tTest (tOp (rNeA K) (tVar 9) (tOp (rIx K) (tVar 7) (tVar 8)))) (tDrop (tBM K "list" rAppend (tOp (rIx K) (tVar 4) (tVar 8)) (tCons (tVar 5) (tNil)))) (tNext))))))) (tRet (tLc (iEnum K (tCons (tVar 3) (tNil))) (gTup K 2 (gCons (gName 8) (gCons (gName 9) (gNil)))) (tTest (tOp (rEqA K) (tVar 9) (tC (.str "lost")))) (tTup (tCons (tVar 8) (tCons (tOp (rIx K) (tOp (rIx K) (tVar 4) (tVar 8)) (tUn rNegA (tC (.int 2)))) (tCons (tOp (rIx K) (tOp (rIx K) (tVar 4) (tVar 8)) (tUn rNegA (tC (.int 1)))) (tNil))))) [8, 9])))))
def t_loss_certificate (K : PySem.W.Frag) (E : XK) : TS :=
  tSeq (tAsg (tCl (sp__certificates K) (fun _ => E) (tCons (tVar 0) (tCons (tVar 1) (tNil)))) (gName 2)) (tSeq (tIfS (tNot (tTr K (tVar 2))) (tRz (He.ga K "NotLost") ["size"] (fun cls d _ H => E cls d H) (tCons (tVar 0) (tNil))) (tNext)) (tRet (tOp (rIx K) (tVar 2) (tC (.int 0)))))
def t__law_paper (K : PySem.W.Frag) (E : XK) : TS :=
  tSeq ((fun D σ H => (fun (W : WX) => tAsg (tCl (sp_loss_certificate K) (WE W) (tCons (tVar 0) (tCons (tVar 1) (tNil)))) (gName 2)) (wAs K (.ref (He.ga K "NotLost")) 3 (fun a cls d => tRet (tTup (tCons (tC (.str "refused")) (tCons (tXat K a cls d "size" (tVar 3)) (tCons (tCB (rIsX K cls d a) (tCons (tVar 3) (tCons (tC (.ref (He.ga K "LinkError"))) (tNil)))) (tCons (tCB (rIsX K cls d a) (tCons (tVar 3) (tCons (tC (.ref (He.ga K "LogError"))) (tNil)))) (tNil))))))) (fun cls d _ H => E cls d H) D) D σ H)) (tRet (tTup (tCons (tC (.str "paper")) (tCons (tVar 2) (tNil)))))
def t__law_same (K : PySem.W.Frag) (SI : Sp) (E : XK) : TS :=
  tSeq (tIfS (tTest (tOp rIsNA (tVar 1) (tC .non))) (tRet (tOp rIsNA (tVar 0) (tC .non))) (tNext)) (tSeq (tIfS (tB (tCB (rIsi K) (tCons (tVar 1) (tCons (tC (.ty "bool")) (tNil))))) (tRet (tAndV (tCB (rIsi K) (tCons (tVar 0) (tCons (tC (.ty "bool")) (tNil)))) (tOp (rEqA K) (tVar 0) (tVar 1)))) (tNext)) (tSeq (tIfS (tB (tCB (rIsi K) (tCons (tVar 1) (tCons (tC (.ty "int")) (tNil))))) (tRet (tAndV (tCB (rIsi K) (tCons (tVar 0) (tCons (tC (.ty "int")) (tNil)))) (tAndV (tNotV (tCB (rIsi K) (tCons (tVar 0) (tCons (tC (.ty "bool")) (tNil))))) (tOp (rEqA K) (tVar 0) (tVar 1))))) (tNext)) (tSeq (tIfS (tB (tCB (rIsi K) (tCons (tVar 1) (tCons (tC (.ty "str")) (tNil))))) (tRet (tAndV (tCB (rIsi K) (tCons (tVar 0) (tCons (tC (.ty "str")) (tNil)))) (tOp (rEqA K) (tVar 0) (tVar 1)))) (tNext)) (tSeq (tIfS (tAnd (tB (tCB (rIsi K) (tCons (tVar 1) (tCons (tC (.ty "list")) (tNil))))) (tNot (tB (tCB (rIsi K) (tCons (tVar 0) (tCons (tC (.ty "list")) (tNil))))))) (tRet (tC (.bl false))) (tNext)) (tSeq (tIfS (tAnd (tB (tCB (rIsi K) (tCons (tVar 1) (tCons (tC (.ty "tuple")) (tNil))))) (tNot (tB (tCB (rIsi K) (tCons (tVar 0) (tCons (tC (.ty "tuple")) (tNil))))))) (tRet (tC (.bl false))) (tNext)) (tSeq (tIfS (tTest (tOp (rNeA K) (tCB (rLenA K) (tCons (tVar 0) (tNil))) (tCB (rLenA K) (tCons (tVar 1) (tNil))))) (tRet (tC (.bl false))) (tNext)) (tSeq (tFor (iRng1 (tCons (tCB (rLenA K) (tCons (tVar 1) (tNil))) (tNil))) (gName 2) (tIfS (tNot (tB (tCl SI (fun _ => E) (tCons (tOp (rIx K) (tVar 0) (tVar 2)) (tCons (tOp (rIx K) (tVar 1) (tVar 2)) (tNil)))))) (tRet (tC (.bl false))) (tNext))) (tRet (tC (.bl true))))))))))
def t_is_plain_integer (K : PySem.W.Frag) (E : XK) : TS :=
  tRet (tAndV (tCB (rIsi K) (tCons (tVar 0) (tCons (tC (.ty "int")) (tNil)))) (tNotV (tCB (rIsi K) (tCons (tVar 0) (tCons (tC (.ty "bool")) (tNil))))))
def t_is_loss_certificate (K : PySem.W.Frag) (E : XK) : TS :=
  tSeq (tAsg (tCl (sp__certificates K) (fun _ => E) (tCons (tVar 0) (tCons (tVar 1) (tNil)))) (gName 3)) (tSeq (tIfS (tOr (tNot (tB (tCB (rIsi K) (tCons (tVar 2) (tCons (tC (.ty "tuple")) (tNil)))))) (tTest (tOp (rNeA K) (tCB (rLenA K) (tCons (tVar 2) (tNil))) (tC (.int 3))))) (tRet (tC (.bl false))) (tNext)) (tRet (tAndV (tCB (rAll K) (tCons (tLc (iTup K (tVar 2)) (gName 4) (tYes) (tCl (sp_is_plain_integer K) (fun _ => E0) (tCons (tVar 4) (tNil))) [4]) (tNil))) (tOp (rInD K) (tVar 2) (tVar 3)))))
def t__law_papers (K : PySem.W.Frag) (E : XK) : TS :=
  tSeq (tAsg (tCB (rListA K) (tCons (tVar 2) (tNil))) (gName 4)) (tSeq (tAsg (tTup (tCons (tC (.str "refused")) (tCons (tVar 1) (tCons (tC (.bl true)) (tCons (tC (.bl false)) (tNil)))))) (gName 5)) (tSeq (tIfS (tTr K (tVar 3)) (tAsg (tTup (tCons (tC (.str "paper")) (tCons (tOp (rIx K) (tCB (rSortU K 3 1000) (tCons (tVar 3) (tNil))) (tC (.int 0))) (tNil)))) (gName 5)) (tNext)) (tSeq (tIfS (tNot (tB (tCl ((sp48_same 4) K) (fun _ => E) (tCons (tCl (sp48__law_paper K) (fun _ => E) (tCons (tVar 1) (tCons (tVar 4) (tNil)))) (tCons (tVar 5) (tNil)))))) (tRet (tC (.bl false))) (tNext)) (tSeq (tFor (iList K (tSl (rSlL K) (tVar 3) (tNoPart) (tPart (tC (.int 5))))) (gName 6) (tSeq (tAsg (tSl (rSlL K) (tVar 2) (tNoPart) (tPart (tOp rAddA (tOp (rIx K) (tVar 6) (tC (.int 2))) (tC (.int 1))))) (gName 7)) (tSeq (tIfS (tNot (tB (tCl ((sp48_same 4) K) (fun _ => E) (tCons (tCl (sp_is_loss_certificate K) (fun _ => E) (tCons (tVar 1) (tCons (tVar 4) (tCons (tVar 6) (tNil))))) (tCons (tC (.bl true)) (tNil)))))) (tRet (tC (.bl false))) (tNext)) (tSeq (tIfS (tNot (tB (tCl ((sp48_same 4) K) (fun _ => E) (tCons (tCl (sp_is_loss_certificate K) (fun _ => E) (tCons (tVar 1) (tCons (tVar 7) (tCons (tVar 6) (tNil))))) (tCons (tC (.bl true)) (tNil)))))) (tRet (tC (.bl false))) (tNext)) (tSeq (tIfS (tNot (tB (tCl ((sp48_same 4) K) (fun _ => E) (tCons (tCl (sp_is_loss_certificate K) (fun _ => E) (tCons (tVar 1) (tCons (tSl (rSlL K) (tVar 2) (tNoPart) (tPart (tOp (rIx K) (tVar 6) (tC (.int 2))))) (tCons (tVar 6) (tNil))))) (tCons (tC (.bl false)) (tNil)))))) (tRet (tC (.bl false))) (tNext)) (tSeq (tAsg (tOp (rIx K) (tCB (rSortU K 3 1000) (tCons (tLc (iList K (tVar 3)) (gName 12) (tTest (tOp rLeA (tOp (rIx K) (tVar 12) (tC (.int 2))) (tOp (rIx K) (tVar 6) (tC (.int 2))))) (tVar 12) [12]) (tNil))) (tC (.int 0))) (gName 8)) (tSeq (tIfS (tNot (tB (tCl ((sp48_same 4) K) (fun _ => E) (tCons (tCl (sp48__law_paper K) (fun _ => E) (tCons (tVar 1) (tCons (tVar 7) (tNil)))) (tCons (tTup (tCons (tC (.str "paper")) (tCons (tVar 8) (tNil)))) (tNil)))))) (tRet (tC (.bl false))) (tNext)) (tFor (iList K (tLst (tCons (tCB (rListA K) (tCons (tVar 6) (tNil))) (tCons (tSl (rSlA K) (tVar 6) (tNoPart) (tPart (tC (.int 2)))) (tCons (tTup (tCons (tOp (rIx K) (tVar 6) (tC (.int 0))) (tCons (tOp (rIx K) (tVar 6) (tC (.int 2))) (tCons (tOp (rIx K) (tVar 6) (tC (.int 1))) (tNil))))) (tCons (tC .non) (tNil))))))) (gName 9) (tIfS (tNot (tB (tCl ((sp48_same 4) K) (fun _ => E) (tCons (tCl (sp_is_loss_certificate K) (fun _ => E) (tCons (tVar 1) (tCons (tVar 4) (tCons (tVar 9) (tNil))))) (tCons (tC (.bl false)) (tNil)))))) (tRet (tC (.bl false))) (tNext)))))))))) (tSeq (tFor (iRng1 (tCons (tC (.int 3)) (tNil))) (gName 10) (tSeq (tAsg (tCl (sp__law_bent K) (fun _ => E) (tCons (tVar 0) (tCons (tVar 1) (tCons (tVar 3) (tNil))))) (gName 11)) (tIfS (tNot (tB (tCl ((sp48_same 4) K) (fun _ => E) (tCons (tCl (sp_is_loss_certificate K) (fun _ => E) (tCons (tVar 1) (tCons (tVar 4) (tCons (tVar 11) (tNil))))) (tCons (tOp (rInD K) (tVar 11) (tVar 3)) (tNil)))))) (tRet (tC (.bl false))) (tNext)))) (tRet (tOp (rEqA K) (tVar 4) (tVar 2))))))))
def t__law_after (K : PySem.W.Frag) (E : XK) : TS :=
  tSeq (tAsg (tCl (sp48__law_start K) (fun _ => E) (tCons (tVar 0) (tNil))) (gName 2)) (tSeq (tFor (iList K (tVar 1)) (gName 3) (tDrop (tCl (sp48__law_put K) (fun _ => E) (tCons (tVar 2) (tCons (tVar 3) (tNil)))))) (tRet (tVar 2)))
def t__law_dump (K : PySem.W.Frag) (E : XK) : TS :=
  tSeq (tAsg (tLc (iRng2 (tCons (tC (.int 1)) (tCons (tCB (rLenA K) (tCons (tOp (rIx K) (tVar 0) (tC (.int 0))) (tNil))) (tNil)))) (gName 4) (tB (tOp (rIx K) (tOp (rIx K) (tVar 0) (tC (.int 2))) (tVar 4))) (tCB rStrA (tCons (tVar 4) (tNil))) [4]) (gName 1)) (tSeq (tAsg (tM1 (rJoin K) (tC (.str " ")) (tLc (iList K (tOp (rIx K) (tVar 0) (tC (.int 0)))) (gName 4) (tYes) (tCB rStrA (tCons (tVar 4) (tNil))) [4])) (gName 2)) (tSeq (tAsg (tM1 (rJoin K) (tC (.str " ")) (tLc (iList K (tSl (rSlL K) (tOp (rIx K) (tVar 0) (tC (.int 1))) (tPart (tC (.int 1))) (tNoPart))) (gName 4) (tYes) (tCB rStrA (tCons (tVar 4) (tNil))) [4])) (gName 3)) (tRet (tOp rAddA (tOp rAddA (tOp rAddA (tOp rAddA (tVar 2) (tC (.str " | "))) (tVar 3)) (tC (.str " | "))) (tIf (tTr K (tVar 1)) (tM1 (rJoin K) (tC (.str " ")) (tVar 1)) (tC (.str "none")))))))
def t__law_twin (K : PySem.W.Frag) (E : XK) : TS :=
  tRet (tLst (tCons (tCB (rListA K) (tCons (tOp (rIx K) (tVar 0) (tC (.int 0))) (tNil))) (tCons (tCB (rListA K) (tCons (tOp (rIx K) (tVar 0) (tC (.int 1))) (tNil))) (tCons (tCB (rListA K) (tCons (tOp (rIx K) (tVar 0) (tC (.int 2))) (tNil))) (tNil)))))
def t__law_refuser (K : PySem.W.Frag) (E : XK) : TS :=
  tSeq (tAsg (tCB rAbsA (tCons (tVar 1) (tNil))) (gName 2)) (tSeq (tAsg (tOp (rIx K) (tOp (rIx K) (tVar 0) (tC (.int 1))) (tVar 2)) (gName 3)) (tSeq (tAsg (tOp (rIx K) (tOp (rIx K) (tVar 0) (tC (.int 0))) (tVar 2)) (gName 4)) (tSeq (tAsg (tCl (sp48__law_states K) (fun _ => E) (tCons (tVar 0) (tNil))) (gName 5)) (tSeq (tAsg (tCl (sp48__law_twin K) (fun _ => E) (tCons (tVar 0) (tNil))) (gName 6)) (tSeq (tDrop (tCl (sp48__law_put K) (fun _ => E) (tCons (tVar 6) (tCons (tVar 1) (tNil))))) (tSeq (tAsg (tCl (sp48__law_states K) (fun _ => E) (tCons (tVar 6) (tNil))) (gName 7)) (tSeq (tIfS (tTest (tOp (rIn K false) (tC (.str "lost")) (tLc (iRng1 (tCons (tCB (rLenA K) (tCons (tVar 7) (tNil))) (tNil))) (gName 8) (tTest (tOp (rNeA K) (tOp (rIx K) (tVar 5) (tVar 8)) (tC (.str "lost")))) (tOp (rIx K) (tVar 7) (tVar 8)) [8]))) (tRet (tC (.int 1))) (tNext)) (tSeq (tIfS (tAnd (tTest (tOp (rNeA K) (tVar 3) (tOp rSubA (tVar 2) (tC (.int 1))))) (tAnd (tTest (tOp (rIn K false) (tOp (rIx K) (tVar 5) (tVar 3)) (tTup (tCons (tC (.str "joined")) (tCons (tC (.str "left")) (tNil)))))) (tNot (tB (tOp (rIx K) (tOp (rIx K) (tVar 0) (tC (.int 2))) (tOp rAddA (tVar 3) (tC (.int 1)))))))) (tRet (tC (.int 2))) (tNext)) (tSeq (tIfS (tAnd (tTest (tOp (rNeA K) (tVar 4) (tOp rAddA (tVar 2) (tC (.int 1))))) (tAnd (tTest (tOp (rIn K false) (tOp (rIx K) (tVar 5) (tOp rSubA (tVar 4) (tC (.int 1)))) (tTup (tCons (tC (.str "joined")) (tCons (tC (.str "right")) (tNil)))))) (tNot (tB (tOp (rIx K) (tOp (rIx K) (tVar 0) (tC (.int 2))) (tOp rSubA (tVar 4) (tC (.int 1)))))))) (tRet (tC (.int 2))) (tNext)) (tSeq (tIfS (tOr (tB (tOp (rIx K) (tOp (rIx K) (tVar 0) (tC (.int 2))) (tVar 3))) (tB (tOp (rIx K) (tOp (rIx K) (tVar 0) (tC (.int 2))) (tVar 4)))) (tRet (tC (.int 3))) (tNext)) (tSeq (tIfS (tAnd (tTest (tOp rLtA (tVar 1) (tC (.int 0)))) (tOr (tTest (tOp (rNeA K) (tOp (rIx K) (tOp (rIx K) (tVar 0) (tC (.int 0))) (tVar 3)) (tVar 2))) (tTest (tOp (rNeA K) (tOp (rIx K) (tOp (rIx K) (tVar 0) (tC (.int 1))) (tVar 4)) (tVar 2))))) (tRet (tC (.int 3))) (tNext)) (tSeq (tIfS (tAnd (tTest (tOp rGtA (tVar 1) (tC (.int 0)))) (tOr (tTest (tOp (rNeA K) (tOp (rIx K) (tOp (rIx K) (tVar 0) (tC (.int 0))) (tVar 3)) (tVar 4))) (tTest (tOp (rNeA K) (tOp (rIx K) (tOp (rIx K) (tVar 0) (tC (.int 1))) (tVar 4)) (tVar 3))))) (tRet (tC (.int 3))) (tNext)) (tRet (tC (.int 4)))))))))))))))
def t__law_firsts (K : PySem.W.Frag) (E : XK) : TS :=
  tSeq (tAsg (tCl (sp48__law_start K) (fun _ => E) (tCons (tVar 0) (tNil))) (gName 2)) (tSeq (tAsg (tLst (tCons (tC .non) (tCons (tC .non) (tCons (tC .non) (tCons (tC .non) (tNil)))))) (gName 3)) (tSeq (tFor (iRng1 (tCons (tCB (rLenA K) (tCons (tVar 1) (tNil))) (tNil))) (gName 4) (tSeq (tAsg (tCl (sp__law_refuser K) (fun _ => E) (tCons (tVar 2) (tCons (tOp (rIx K) (tVar 1) (tVar 4)) (tNil)))) (gName 5)) (tSeq (tFor (iRng2 (tCons (tVar 5) (tCons (tC (.int 4)) (tNil)))) (gName 6) (tIfS (tTest (tOp rIsNA (tOp (rIx K) (tVar 3) (tVar 6)) (tC .non))) (tAsg (tVar 4) (gSub (tVar 3) (tVar 6) rSetL)) (tNext))) (tDrop (tCl (sp48__law_put K) (fun _ => E) (tCons (tVar 2) (tCons (tOp (rIx K) (tVar 1) (tVar 4)) (tNil)))))))) (tRet (tVar 3))))
def t_Links_outs (K : PySem.W.Frag) (E : XK) : TS :=
  tRet (tLc (iRng2 (tCons (tC (.int 1)) (tCons (tOp rAddA (tFld K (tVar 0) "size") (tC (.int 1))) (tNil)))) (gName 1) (tB (tOp (rIx K) (tFld K (tVar 0) "_out") (tVar 1))) (tVar 1) [1])
def t__joined (K : PySem.W.Frag) (E : XK) : TS :=
  tRet (tM1 (rJoin K) (tC (.str " ")) (tLc (iList K (tVar 0)) (gName 1) (tYes) (tCB rStrA (tCons (tVar 1) (tNil))) [1]))
def t_dump_of (K : PySem.W.Frag) (E : XK) : TS :=
  tRet (tM1 (rJoin K) (tC (.str " | ")) (tLst (tCons (tCl (sp__joined K) (fun _ => E) (tCons (tVar 0) (tNil))) (tCons (tCl (sp__joined K) (fun _ => E) (tCons (tVar 1) (tNil))) (tCons (tIf (tTr K (tVar 2)) (tCl (sp__joined K) (fun _ => E) (tCons (tVar 2) (tNil))) (tC (.str "none"))) (tNil))))))
def t_Links_dump (K : PySem.W.Frag) (E : XK) : TS :=
  tRet (tCl (sp_dump_of K) (fun _ => E) (tCons (tFld K (tVar 0) "_rights") (tCons (tSl (rSlL K) (tFld K (tVar 0) "_lefts") (tPart (tC (.int 1))) (tNoPart)) (tCons (tMt (He.ga K "Links") "outs" (sp_Links_outs K) (fun _ => E) (tVar 0) tNil) (tNil)))))
def t_Links___str__ (K : PySem.W.Frag) (E : XK) : TS :=
  tRet (tCB rStrS (tCons (tMt (He.ga K "Links") "dump" (sp_Links_dump K) (fun _ => E) (tVar 0) tNil) (tNil)))
def t_Links_apply (K : PySem.W.Frag) (E : XK) : TS :=
  tDrop (tMt (He.ga K "Links") "apply_at" (sp_Links_apply_at K) (fun _ => E) (tVar 0) (tCons (tVar 1) (tCons (tC (.int 0)) (tNil))))
def t_Links_is_out (K : PySem.W.Frag) (E : XK) : TS :=
  tSeq (tIfS (tNot (tTest (tChain rLeA rLeA (tC (.int 0)) (tVar 1) (tOp rAddA (tFld K (tVar 0) "size") (tC (.int 1)))))) (tRz (He.ga K "BadNode") ["node"] (fun cls d _ H => E cls d H) (tCons (tVar 1) (tNil))) (tNext)) (tRet (tOp (rIx K) (tFld K (tVar 0) "_out") (tVar 1)))
def t__has_fitting_neighbours (K : PySem.W.Frag) (E : XK) : TS :=
  tSeq (tAsg (tCB rAbsA (tCons (tVar 1) (tNil))) (gName 2)) (tSeq (tAsg (tMt (He.ga K "Links") "left" (sp_Links_left K) (fun _ => E) (tVar 0) (tCons (tVar 2) (tNil))) (gName 3)) (tSeq (tAsg (tMt (He.ga K "Links") "right" (sp_Links_right K) (fun _ => E) (tVar 0) (tCons (tVar 2) (tNil))) (gName 4)) (tSeq (tIfS (tOr (tB (tMt (He.ga K "Links") "is_out" (sp03_Links_is_out K) (fun _ => E) (tVar 0) (tCons (tVar 3) (tNil)))) (tB (tMt (He.ga K "Links") "is_out" (sp03_Links_is_out K) (fun _ => E) (tVar 0) (tCons (tVar 4) (tNil))))) (tRet (tC (.bl false))) (tNext)) (tSeq (tIfS (tTest (tOp rLtA (tVar 1) (tC (.int 0)))) (tRet (tAndV (tOp (rEqA K) (tMt (He.ga K "Links") "right" (sp_Links_right K) (fun _ => E) (tVar 0) (tCons (tVar 3) (tNil))) (tVar 2)) (tOp (rEqA K) (tMt (He.ga K "Links") "left" (sp_Links_left K) (fun _ => E) (tVar 0) (tCons (tVar 4) (tNil))) (tVar 2)))) (tNext)) (tRet (tAndV (tOp (rEqA K) (tMt (He.ga K "Links") "right" (sp_Links_right K) (fun _ => E) (tVar 0) (tCons (tVar 3) (tNil))) (tVar 4)) (tOp (rEqA K) (tMt (He.ga K "Links") "left" (sp_Links_left K) (fun _ => E) (tVar 0) (tCons (tVar 4) (tNil))) (tVar 3))))))))
def t_foreign_writes (K : PySem.W.Frag) (E : XK) : TS :=
  tSeq (tDrop (tMt (He.ga K "Links") "check" (sp_Links_check K) (fun _ => E) (tVar 0) (tCons (tVar 1) (tCons (tC (.int 0)) (tNil))))) (tSeq (tAsg (tCB rAbsA (tCons (tVar 1) (tNil))) (gName 2)) (tSeq (tAsg (tMt (He.ga K "Links") "left" (sp_Links_left K) (fun _ => E) (tVar 0) (tCons (tVar 2) (tNil))) (gName 3)) (tSeq (tAsg (tMt (He.ga K "Links") "right" (sp_Links_right K) (fun _ => E) (tVar 0) (tCons (tVar 2) (tNil))) (gName 4)) (tSeq (tAsg (tLst (tNil)) (gName 5)) (tSeq (tIfS (tAnd (tTest (tOp (rNeA K) (tVar 3) (tOp rSubA (tVar 2) (tC (.int 1))))) (tTest (tOp (rEqA K) (tMt (He.ga K "Links") "right" (sp_Links_right K) (fun _ => E) (tVar 0) (tCons (tVar 3) (tNil))) (tOp rAddA (tVar 3) (tC (.int 1)))))) (tDrop (tBM K "list" rAppend (tVar 5) (tCons (tVar 3) (tNil)))) (tNext)) (tSeq (tIfS (tAnd (tTest (tOp (rNeA K) (tVar 4) (tOp rAddA (tVar 2) (tC (.int 1))))) (tTest (tOp (rEqA K) (tMt (He.ga K "Links") "left" (sp_Links_left K) (fun _ => E) (tVar 0) (tCons (tVar 4) (tNil))) (tOp rSubA (tVar 4) (tC (.int 1)))))) (tDrop (tBM K "list" rAppend (tVar 5) (tCons (tOp rSubA (tVar 4) (tC (.int 1))) (tNil)))) (tNext)) (tRet (tVar 5))))))))
def t_left_to (K : PySem.W.Frag) (E : XK) : TS :=
  tRet (tIf (tTest (tOp rLtA (tVar 1) (tCB rAbsA (tCons (tVar 0) (tNil))))) (tOp rAddA (tVar 1) (tC (.int 1))) (tVar 1))
def t__leaves_a_gap_to_a_holder_that_is_in (K : PySem.W.Frag) (E : XK) : TS :=
  tRet (tCB (rAny K) (tCons (tLc (iList K (tCl (sp_foreign_writes K) (fun _ => E) (tCons (tVar 0) (tCons (tVar 1) (tNil))))) (gName 2) (tYes) (tNotV (tMt (He.ga K "Links") "is_out" (sp03_Links_is_out K) (fun _ => E0) (tVar 0) (tCons (tCl (sp17_left_to K) (fun _ => E0) (tCons (tVar 1) (tCons (tVar 2) (tNil)))) (tNil)))) [2]) (tNil)))
def t__loses_a_gap (K : PySem.W.Frag) (E : XK) : TS :=
  tRet (tCB (rAny K) (tCons (tLc (iList K (tCl (sp_foreign_writes K) (fun _ => E) (tCons (tVar 0) (tCons (tVar 1) (tNil))))) (gName 2) (tYes) (tOp (rNeA K) (tCl (sp_gap_state K) (fun _ => E0) (tCons (tVar 0) (tCons (tVar 2) (tNil)))) (tC (.str "joined"))) [2]) (tNil)))
def t_FreeMode_refusal (K : PySem.W.Frag) (E : XK) : TS :=
  tSeq (tDrop (tMt (He.ga K "Links") "check" (sp_Links_check K) (fun _ => E) (tVar 1) (tCons (tVar 2) (tCons (tC (.int 0)) (tNil))))) (tRet (tC (.str "")))
def t_SavingMode_refusal (K : PySem.W.Frag) (E : XK) : TS :=
  tSup K (He.ga K "SavingMode") "refusal" (He.fAd K ("FreeMode", some "refusal")) (sp_FreeMode_refusal K) E 4 (tCons (tVar 1) (tCons (tVar 2) (tNil))) (tSeq (tIfS (tAnd (tTest (tOp (rEqA K) (tVar 4) (tC (.str "")))) (tB (tCl (sp__loses_a_gap K) (fun _ => E) (tCons (tVar 1) (tCons (tVar 2) (tNil)))))) (tRet (tC (.str "saving"))) (tNext)) (tRet (tVar 4)))
def t_GuardedMode_refusal (K : PySem.W.Frag) (E : XK) : TS :=
  tSup K (He.ga K "GuardedMode") "refusal" (He.fAd K ("SavingMode", some "refusal")) (sp_SavingMode_refusal K) E 4 (tCons (tVar 1) (tCons (tVar 2) (tNil))) (tSeq (tIfS (tAnd (tTest (tOp (rEqA K) (tVar 4) (tC (.str "")))) (tB (tCl (sp__leaves_a_gap_to_a_holder_that_is_in K) (fun _ => E) (tCons (tVar 1) (tCons (tVar 2) (tNil)))))) (tRet (tC (.str "guarded"))) (tNext)) (tRet (tVar 4)))
def t_CheckedMode_refusal (K : PySem.W.Frag) (E : XK) : TS :=
  tSup K (He.ga K "CheckedMode") "refusal" (He.fAd K ("GuardedMode", some "refusal")) (sp_GuardedMode_refusal K) E 4 (tCons (tVar 1) (tCons (tVar 2) (tNil))) (tSeq (tIfS (tAnd (tTest (tOp (rEqA K) (tVar 4) (tC (.str "")))) (tNot (tB (tCl (sp__has_fitting_neighbours K) (fun _ => E) (tCons (tVar 1) (tCons (tVar 2) (tNil))))))) (tRet (tC (.str "checked"))) (tNext)) (tRet (tVar 4)))
def t_check_admitted (K : PySem.W.Frag) (E : XK) : TS :=
  tSeq (tDrop (tMt (He.ga K "Links") "check" (sp_Links_check K) (fun _ => E) (tVar 0) (tCons (tVar 1) (tCons (tVar 2) (tNil))))) (tSeq (tAsg (tMtD (L_refusal K) "refusal" (fun _ => E) (tVar 3) (tCons (tVar 0) (tCons (tVar 1) (tNil)))) (gName 4)) (tIfS (tTest (tOp (rNeA K) (tVar 4) (tC (.str "")))) (tRz (He.ga K "Refused") ["operation", "index", "refusing"] (fun cls d _ H => E cls d H) (tCons (tVar 1) (tCons (tVar 2) (tCons (tVar 4) (tNil))))) (tNext)))
def t_all_modes (K : PySem.W.Frag) (E : XK) : TS :=
  tRet (tLst (tCons (tMk0 (He.ga K "FreeMode")) (tCons (tMk0 (He.ga K "SavingMode")) (tCons (tMk0 (He.ga K "GuardedMode")) (tCons (tMk0 (He.ga K "CheckedMode")) (tNil))))))
def t_mode_named (K : PySem.W.Frag) (E : XK) : TS :=
  tSeq (tFor (iList K (tCl (sp_all_modes K) (fun _ => E) tNil)) (gName 1) (tIfS (tTest (tOp (rEqA K) (tCon K (tVar 1) "NAME") (tVar 0))) (tRet (tVar 1)) (tNext))) (tRz (He.ga K "BadMode") ["name"] (fun cls d _ H => E cls d H) (tCons (tVar 0) (tNil)))
def t_replay_in (K : PySem.W.Frag) (E : XK) : TS :=
  tSeq (tAsg (tMk (He.ga K "Links") (sp_Links___init__ K) (fun _ => E) (tCons (tVar 0) (tNil))) (gName 3)) (tSeq (tAsg (tCl (sp_mode_named K) (fun _ => E) (tCons (tVar 2) (tNil))) (gName 4)) (tSeq (tFor (iEnum K (tCons (tVar 1) (tNil))) (gTup K 2 (gCons (gName 5) (gCons (gName 6) (gNil)))) (tSeq (tDrop (tCl (sp_check_admitted K) (fun _ => E) (tCons (tVar 3) (tCons (tVar 6) (tCons (tVar 5) (tCons (tVar 4) (tNil))))))) (tDrop (tMt (He.ga K "Links") "apply" (sp_Links_apply K) (fun _ => E) (tVar 3) (tCons (tVar 6) (tNil)))))) (tRet (tVar 3))))
def t__law_in_saving (K : PySem.W.Frag) (E : XK) : TS :=
  tSeq ((fun D σ H => (fun (W : WX) => tAsg (tClK 2 (["mode"] : List Str).length (sp_replay_in K) (WE W) (tCons (tVar 0) (tCons (tVar 1) (tNil))) (tCons (tC (.str "saving")) (tNil))) (gName 2)) (wAs K (.ref (He.ga K "Refused")) 3 (fun a cls d => tSeq (tAsg (tTup (tCons (tXat K a cls d "operation" (tVar 3)) (tCons (tXat K a cls d "index" (tVar 3)) (tCons (tXat K a cls d "refusing" (tVar 3)) (tNil))))) (gName 4)) (tRet (tTup (tCons (tC (.str "refused")) (tCons (tVar 4) (tCons (tCB (rIsX K cls d a) (tCons (tVar 3) (tCons (tC (.ref (He.ga K "LogError"))) (tNil)))) (tCons (tCB (rIsX K cls d a) (tCons (tVar 3) (tCons (tC (.ref (He.ga K "NotLost"))) (tNil)))) (tNil)))))))) (fun cls d _ H => E cls d H) D) D σ H)) (tRet (tTup (tCons (tC (.str "done")) (tCons (tCB (rStrO (He.ga K "Links") (sp02_Links___str__ K) E) (tCons (tVar 2) (tNil))) (tNil)))))
def t_lost_gaps (K : PySem.W.Frag) (E : XK) : TS :=
  tRet (tLc (iEnum K (tCons (tCl (sp_gap_states K) (fun _ => E) (tCons (tVar 0) (tNil))) (tNil))) (gTup K 2 (gCons (gName 1) (gCons (gName 2) (gNil)))) (tTest (tOp (rEqA K) (tVar 2) (tC (.str "lost")))) (tVar 1) [1, 2])
def t_first_loss (K : PySem.W.Frag) (E : XK) : TS :=
  tSeq (tAsg (tMk (He.ga K "Links") (sp_Links___init__ K) (fun _ => E) (tCons (tVar 0) (tNil))) (gName 2)) (tSeq (tAsg (tC .non) (gName 3)) (tSeq (tFor (iEnum K (tCons (tVar 1) (tNil))) (gTup K 2 (gCons (gName 4) (gCons (gName 5) (gNil)))) (tSeq (tDrop (tMt (He.ga K "Links") "apply_at" (sp_Links_apply_at K) (fun _ => E) (tVar 2) (tCons (tVar 5) (tCons (tVar 4) (tNil))))) (tSeq (tAsg (tIf (tTest (tOp rIsNA (tVar 3) (tC .non))) (tCl (sp_lost_gaps K) (fun _ => E) (tCons (tVar 2) (tNil))) (tLst (tNil))) (gName 6)) (tIfS (tTr K (tVar 6)) (tAsg (tTup (tCons (tVar 4) (tCons (tOp (rIx K) (tVar 6) (tC (.int 0))) (tNil)))) (gName 3)) (tNext))))) (tRet (tVar 3))))
def t_Links_copy (K : PySem.W.Frag) (E : XK) : TS :=
  tSeq (tAsg (tMk (He.ga K "Links") (sp_Links___init__ K) (fun _ => E) (tCons (tFld K (tVar 0) "size") (tNil))) (gName 1)) (tSeq (sFld K (tVar 1) (tCB (rListA K) (tCons (tFld K (tVar 0) "_rights") (tNil))) "_rights") (tSeq (sFld K (tVar 1) (tCB (rListA K) (tCons (tFld K (tVar 0) "_lefts") (tNil))) "_lefts") (tSeq (sFld K (tVar 1) (tCB (rListA K) (tCons (tFld K (tVar 0) "_out") (tNil))) "_out") (tRet (tVar 1)))))
def t_play (K : PySem.W.Frag) (E : XK) : TS :=
  tSeq (tAsg (tMt (He.ga K "Links") "copy" (sp_Links_copy K) (fun _ => E) (tVar 0) tNil) (gName 2)) (tSeq (tFor (iEnum K (tCons (tVar 1) (tNil))) (gTup K 2 (gCons (gName 3) (gCons (gName 4) (gNil)))) (tDrop (tMt (He.ga K "Links") "apply_at" (sp_Links_apply_at K) (fun _ => E) (tVar 2) (tCons (tVar 4) (tCons (tVar 3) (tNil)))))) (tRet (tVar 2)))
def t_replay (K : PySem.W.Frag) (E : XK) : TS :=
  tRet (tCl (sp_play K) (fun _ => E) (tCons (tMk (He.ga K "Links") (sp_Links___init__ K) (fun _ => E) (tCons (tVar 0) (tNil))) (tCons (tVar 1) (tNil))))
def t_first_refusal (K : PySem.W.Frag) (E : XK) : TS :=
  tSeq (tDrop (tCl (sp_check_size K) (fun _ => E) (tCons (tVar 0) (tNil)))) (tSeq (tAsg (tCl (sp_mode_named K) (fun _ => E) (tCons (tVar 2) (tNil))) (gName 3)) (tSeq (tDrop (tCl (sp_replay K) (fun _ => E) (tCons (tVar 0) (tCons (tVar 1) (tNil))))) (tSeq (tAsg (tMk (He.ga K "Links") (sp_Links___init__ K) (fun _ => E) (tCons (tVar 0) (tNil))) (gName 4)) (tSeq (tFor (iEnum K (tCons (tVar 1) (tNil))) (gTup K 2 (gCons (gName 5) (gCons (gName 6) (gNil)))) (tSeq (tIfS (tTest (tOp (rNeA K) (tMtD (L_refusal K) "refusal" (fun _ => E) (tVar 3) (tCons (tVar 4) (tCons (tVar 6) (tNil)))) (tC (.str "")))) (tRet (tVar 5)) (tNext)) (tDrop (tMt (He.ga K "Links") "apply" (sp_Links_apply K) (fun _ => E) (tVar 4) (tCons (tVar 6) (tNil)))))) (tRet (tC .non))))))
def t__law_refusals (K : PySem.W.Frag) (E : XK) : TS :=
  tSeq (tAsg (tLst (tCons (tC (.str "free")) (tCons (tC (.str "saving")) (tCons (tC (.str "guarded")) (tCons (tC (.str "checked")) (tNil)))))) (gName 3)) (tSeq (tAsg (tCB (rListA K) (tCons (tVar 1) (tNil))) (gName 4)) (tSeq (tAsg (tC .non) (gName 5)) (tSeq (tIfS (tTr K (tVar 2)) (tAsg (tTup (tCons (tOp (rIx K) (tOp (rIx K) (tVar 2) (tC (.int 0))) (tC (.int 2))) (tCons (tOp (rIx K) (tOp (rIx K) (tVar 2) (tC (.int 0))) (tC (.int 0))) (tNil)))) (gName 5)) (tNext)) (tSeq (tIfS (tNot (tB (tCl ((sp48_same 4) K) (fun _ => E) (tCons (tCl (sp_first_loss K) (fun _ => E) (tCons (tVar 0) (tCons (tVar 4) (tNil)))) (tCons (tVar 5) (tNil)))))) (tRet (tC (.bl false))) (tNext)) (tSeq (tAsg (tCl (sp__law_firsts K) (fun _ => E) (tCons (tVar 0) (tCons (tVar 1) (tNil)))) (gName 6)) (tSeq (tFor (iRng1 (tCons (tC (.int 4)) (tNil))) (gName 7) (tIfS (tNot (tB (tCl ((sp48_same 4) K) (fun _ => E) (tCons (tClK 2 (["mode"] : List Str).length (sp_first_refusal K) (fun _ => E) (tCons (tVar 0) (tCons (tVar 4) (tNil))) (tCons (tOp (rIx K) (tVar 3) (tVar 7)) (tNil))) (tCons (tOp (rIx K) (tVar 6) (tVar 7)) (tNil)))))) (tRet (tC (.bl false))) (tNext))) (tSeq (tIfS (tNot (tB (tCl ((sp48_same 4) K) (fun _ => E) (tCons (tClD 2 (sp_first_refusal K) [.str "free"] (fun _ => E) (tCons (tVar 0) (tCons (tVar 4) (tNil)))) (tCons (tC .non) (tNil)))))) (tRet (tC (.bl false))) (tNext)) (tSeq (tIfS (tNot (tTr K (tVar 2))) (tSeq (tAsg (tTup (tCons (tC (.str "done")) (tCons (tCl (sp__law_dump K) (fun _ => E) (tCons (tCl (sp53__law_after K) (fun _ => E) (tCons (tVar 0) (tCons (tVar 1) (tNil)))) (tNil))) (tNil)))) (gName 8)) (tRet (tAndV (tCl ((sp48_same 4) K) (fun _ => E) (tCons (tCl (sp__law_in_saving K) (fun _ => E) (tCons (tVar 0) (tCons (tVar 4) (tNil)))) (tCons (tVar 8) (tNil)))) (tOp (rEqA K) (tVar 4) (tVar 1))))) (tNext)) (tSeq (tAsg (tOp (rIx K) (tOp (rIx K) (tVar 2) (tC (.int 0))) (tC (.int 2))) (gName 9)) (tSeq (tIfS (tNot (tB (tCl ((sp48_same 4) K) (fun _ => E) (tCons (tCl (sp__law_in_saving K) (fun _ => E) (tCons (tVar 0) (tCons (tVar 4) (tNil)))) (tCons (tTup (tCons (tC (.str "refused")) (tCons (tTup (tCons (tOp (rIx K) (tVar 1) (tVar 9)) (tCons (tVar 9) (tCons (tC (.str "saving")) (tNil))))) (tCons (tC (.bl true)) (tCons (tC (.bl false)) (tNil)))))) (tNil)))))) (tRet (tC (.bl false))) (tNext)) (tSeq (tAsg (tTup (tCons (tC (.str "done")) (tCons (tCl (sp__law_dump K) (fun _ => E) (tCons (tCl (sp53__law_after K) (fun _ => E) (tCons (tVar 0) (tCons (tSl (rSlL K) (tVar 1) (tNoPart) (tPart (tVar 9))) (tNil)))) (tNil))) (tNil)))) (gName 10)) (tRet (tAndV (tCl ((sp48_same 4) K) (fun _ => E) (tCons (tCl (sp__law_in_saving K) (fun _ => E) (tCons (tVar 0) (tCons (tSl (rSlL K) (tVar 1) (tNoPart) (tPart (tVar 9))) (tNil)))) (tCons (tVar 10) (tNil)))) (tOp (rEqA K) (tVar 4) (tVar 1)))))))))))))))
def t_admits (K : PySem.W.Frag) (E : XK) : TS :=
  tRet (tOp (rEqA K) (tMtD (L_refusal K) "refusal" (fun _ => E) (tCl (sp_mode_named K) (fun _ => E) (tCons (tVar 2) (tNil))) (tCons (tVar 0) (tCons (tVar 1) (tNil)))) (tC (.str "")))
def t__law_saved (K : PySem.W.Frag) (E : XK) : TS :=
  tSeq (tAsg (tCl (sp48__law_start K) (fun _ => E) (tCons (tVar 0) (tNil))) (gName 2)) (tSeq (tAsg (tLst (tNil)) (gName 3)) (tSeq (tAsg (tLst (tNil)) (gName 4)) (tSeq (tFor (iList K (tVar 1)) (gName 5) (tSeq (tAsg (tCB rAbsA (tCons (tVar 5) (tNil))) (gName 6)) (tSeq (tAsg (tIf (tB (tOp (rIx K) (tOp (rIx K) (tVar 2) (tC (.int 2))) (tVar 6))) (tVar 6) (tUn rNegA (tVar 6))) (gName 7)) (tIfS (tTest (tOp (rEqA K) (tCl (sp__law_refuser K) (fun _ => E) (tCons (tVar 2) (tCons (tVar 7) (tNil)))) (tC (.int 1)))) (tDrop (tBM K "list" rAppend (tVar 4) (tCons (tTup (tCons (tCB (rLenA K) (tCons (tVar 3) (tNil))) (tCons (tVar 7) (tNil)))) (tNil)))) (tSeq (tDrop (tCl (sp48__law_put K) (fun _ => E) (tCons (tVar 2) (tCons (tVar 7) (tNil))))) (tDrop (tBM K "list" rAppend (tVar 3) (tCons (tVar 7) (tNil))))))))) (tSeq (tIfS (tNot (tB (tCl ((sp48_same 4) K) (fun _ => E) (tCons (tCl (sp_first_loss K) (fun _ => E) (tCons (tVar 0) (tCons (tCB (rListA K) (tCons (tVar 3) (tNil))) (tNil)))) (tCons (tC .non) (tNil)))))) (tRet (tC (.bl false))) (tNext)) (tSeq (tIfS (tNot (tB (tCl ((sp48_same 4) K) (fun _ => E) (tCons (tClK 2 (["mode"] : List Str).length (sp_first_refusal K) (fun _ => E) (tCons (tVar 0) (tCons (tCB (rListA K) (tCons (tVar 3) (tNil))) (tNil))) (tCons (tC (.str "saving")) (tNil))) (tCons (tC .non) (tNil)))))) (tRet (tC (.bl false))) (tNext)) (tSeq (tIfS (tNot (tB (tCl ((sp48_same 4) K) (fun _ => E) (tCons (tCl (sp48__law_paper K) (fun _ => E) (tCons (tVar 0) (tCons (tCB (rListA K) (tCons (tVar 3) (tNil))) (tNil)))) (tCons (tTup (tCons (tC (.str "refused")) (tCons (tVar 0) (tCons (tC (.bl true)) (tCons (tC (.bl false)) (tNil)))))) (tNil)))))) (tRet (tC (.bl false))) (tNext)) (tSeq (tIfS (tNot (tB (tCl ((sp48_same 4) K) (fun _ => E) (tCons (tCl (sp__law_in_saving K) (fun _ => E) (tCons (tVar 0) (tCons (tCB (rListA K) (tCons (tVar 3) (tNil))) (tNil)))) (tCons (tTup (tCons (tC (.str "done")) (tCons (tCl (sp__law_dump K) (fun _ => E) (tCons (tVar 2) (tNil))) (tNil)))) (tNil)))))) (tRet (tC (.bl false))) (tNext)) (tSeq (tFor (iList K (tSl (rSlL K) (tVar 4) (tNoPart) (tPart (tC (.int 4))))) (gTup K 2 (gCons (gName 8) (gCons (gName 7) (gNil)))) (tSeq (tAsg (tSl (rSlL K) (tVar 3) (tNoPart) (tPart (tVar 8))) (gName 9)) (tSeq (tAsg (tCl (sp_replay K) (fun _ => E) (tCons (tVar 0) (tCons (tVar 9) (tNil)))) (gName 10)) (tSeq (tAsg (tCB (rStrO (He.ga K "Links") (sp02_Links___str__ K) E) (tCons (tVar 10) (tNil))) (gName 11)) (tSeq (tAsg (tLst (tCons (tClD 2 (sp_admits K) [.str "free"] (fun _ => E) (tCons (tVar 10) (tCons (tVar 7) (tNil)))) (tCons (tClK 2 (["mode"] : List Str).length (sp_admits K) (fun _ => E) (tCons (tVar 10) (tCons (tVar 7) (tNil))) (tCons (tC (.str "saving")) (tNil))) (tCons (tClK 2 (["mode"] : List Str).length (sp_admits K) (fun _ => E) (tCons (tVar 10) (tCons (tVar 7) (tNil))) (tCons (tC (.str "guarded")) (tNil))) (tNil))))) (gName 12)) (tSeq (tIfS (tOr (tNot (tB (tCl ((sp48_same 4) K) (fun _ => E) (tCons (tVar 12) (tCons (tLst (tCons (tC (.bl true)) (tCons (tC (.bl false)) (tCons (tC (.bl false)) (tNil))))) (tNil)))))) (tNot (tB (tCl ((sp48_same 4) K) (fun _ => E) (tCons (tCB (rStrO (He.ga K "Links") (sp02_Links___str__ K) E) (tCons (tVar 10) (tNil))) (tCons (tVar 11) (tNil))))))) (tRet (tC (.bl false))) (tNext)) (tSeq (tIfS (tNot (tB (tCl ((sp48_same 4) K) (fun _ => E) (tCons (tVar 11) (tCons (tCl (sp__law_dump K) (fun _ => E) (tCons (tCl (sp53__law_after K) (fun _ => E) (tCons (tVar 0) (tCons (tVar 9) (tNil)))) (tNil))) (tNil)))))) (tRet (tC (.bl false))) (tNext)) (tSeq (tIfS (tNot (tB (tCl ((sp48_same 4) K) (fun _ => E) (tCons (tClK 2 (["mode"] : List Str).length (sp_first_refusal K) (fun _ => E) (tCons (tVar 0) (tCons (tOp rAddA (tVar 9) (tLst (tCons (tVar 7) (tNil)))) (tNil))) (tCons (tC (.str "saving")) (tNil))) (tCons (tVar 8) (tNil)))))) (tRet (tC (.bl false))) (tNext)) (tSeq (tAsg (tOp (rIx K) (tOp (rIx K) (tCl (sp48__law_book K) (fun _ => E) (tCons (tVar 0) (tCons (tOp rAddA (tVar 9) (tLst (tCons (tVar 7) (tNil)))) (tNil)))) (tC (.int 2))) (tC (.int 0))) (gName 13)) (tSeq (tIfS (tNot (tB (tCl ((sp48_same 4) K) (fun _ => E) (tCons (tCl (sp_first_loss K) (fun _ => E) (tCons (tVar 0) (tCons (tOp rAddA (tVar 9) (tLst (tCons (tVar 7) (tNil)))) (tNil)))) (tCons (tTup (tCons (tVar 8) (tCons (tOp (rIx K) (tVar 13) (tC (.int 0))) (tNil)))) (tNil)))))) (tRet (tC (.bl false))) (tNext)) (tIfS (tNot (tB (tCl ((sp48_same 4) K) (fun _ => E) (tCons (tCl (sp48__law_paper K) (fun _ => E) (tCons (tVar 0) (tCons (tOp rAddA (tVar 9) (tLst (tCons (tVar 7) (tNil)))) (tNil)))) (tCons (tTup (tCons (tC (.str "paper")) (tCons (tVar 13) (tNil)))) (tNil)))))) (tRet (tC (.bl false))) (tNext)))))))))))) (tRet (tC (.bl true)))))))))))
def t_law (K : PySem.W.Frag) (E : XK) : TS :=
  tSeq (tAsg (tCl (sp48__law_box K) (fun _ => E) (tCons (tVar 0) (tCons (tC (.int 49)) (tNil)))) (gName 1)) (tSeq (tAsg (tCl (sp48__law_draw K) (fun _ => E) (tCons (tVar 1) (tCons (tC (.int 10)) (tNil)))) (gName 2)) (tSeq (tAsg (tC (.int 24)) (gName 3)) (tSeq (tIfS (tTest (tOp (rEqA K) (tCl (sp48__law_draw K) (fun _ => E) (tCons (tVar 1) (tCons (tC (.int 8)) (tNil)))) (tC (.int 1)))) (tSeq (tAsg (tOp rAddA (tC (.int 20)) (tCl (sp48__law_draw K) (fun _ => E) (tCons (tVar 1) (tCons (tC (.int 41)) (tNil))))) (gName 2)) (tAsg (tC (.int 55)) (gName 3))) (tNext)) (tSeq (tAsg (tCl (sp47__law_log K) (fun _ => E) (tCons (tVar 1) (tCons (tVar 2) (tCons (tVar 3) (tNil))))) (gName 4)) (tSeq (tAsg (tOp (rIx K) (tCl (sp48__law_book K) (fun _ => E) (tCons (tVar 2) (tCons (tVar 4) (tNil)))) (tC (.int 2))) (gName 5)) (tSeq (tIfS (tOr (tNot (tB (tCl (sp47__law_refusals K) (fun _ => E) (tCons (tVar 2) (tCons (tVar 4) (tCons (tVar 5) (tNil))))))) (tNot (tB (tCl (sp__law_papers K) (fun _ => E) (tCons (tVar 1) (tCons (tVar 2) (tCons (tVar 4) (tCons (tVar 5) (tNil))))))))) (tRet (tC (.bl false))) (tNext)) (tRet (tAndV (tCl (sp__law_saved K) (fun _ => E) (tCons (tVar 2) (tCons (tVar 4) (tNil)))) (tCl (sp47__law_refusals K) (fun _ => E) (tCons (tVar 2) (tCons (tVar 4) (tCons (tVar 5) (tNil)))))))))))))
end G
set_option Elab.async false
set_option linter.all false
set_option maxRecDepth 100000
set_option maxHeartbeats 1000000
namespace G
--#FAM KV
open PySem PySem.Spec PyProof.Rows L2
local macro_rules
  | `(tactic| walk_at "1") => `(tactic| first
    | with_reducible refine w_seq ?_
    | with_reducible refine w_asg ?_
    | with_reducible refine w_asgS ?_
    | with_reducible refine w_asf ?_
    | with_reducible refine w_drop ?_
    | with_reducible refine w_ret ?_
    | with_reducible refine w_if ?_
    | with_reducible refine w_not ?_
    | with_reducible refine w_and ?_
    | with_reducible refine w_or ?_
    | with_reducible refine w_test ?_
    | with_reducible refine w_tb ?_
    | with_reducible refine w_chain ?_
    | with_reducible refine w_op ?_
    | with_reducible refine w_un ?_
    | with_reducible refine w_andV ?_
    | with_reducible refine w_orV ?_
    | with_reducible refine w_notV ?_
    | with_reducible refine w_ifE ?_
    | with_reducible refine w_cons ?_
    | with_reducible refine w_nil ?_
    | with_reducible refine w_cb ?_
    | with_reducible refine w_cl ?_
    | with_reducible refine w_mt ?_
    | with_reducible refine w_fld ?_
    | with_reducible refine w_tupN ?_
    | with_reducible refine w_lstN ?_
    | with_reducible refine w_bm ?_
    | with_reducible refine w_bm0 ?_
    | with_reducible refine w_for ?_
    | with_reducible refine w_lc ?_
    | with_reducible refine w_iR1 ?_
    | with_reducible refine w_iR2 ?_
    | with_reducible refine w_iL ?_
    | with_reducible refine w_iT ?_
    | with_reducible refine w_iE ?_
    | with_reducible refine w_iZ ?_
    | with_reducible refine w_var (by with_unfolding_all rfl) ?_
    | with_reducible refine w_c ?_
    | with_reducible refine w_next ?_
    | with_reducible refine w_i0 ?_
    | with_reducible refine w_u1 ?_
    | with_reducible refine w_addI ?_
    | with_reducible refine w_eqI ?_
    | with_reducible refine w_eqS ?_
    | with_reducible refine w_eqB ?_
    | with_reducible refine w_neI ?_
    | with_reducible refine w_neS ?_
    | with_reducible refine w_neB ?_
    | with_reducible refine w_abs ?_
    | with_reducible refine w_intI ?_
    | with_reducible refine w_min2 ?_
    | with_reducible refine w_max2 ?_
    | with_reducible refine w_isN0 ?_
    | with_reducible refine w_isN1 ref_ne ?_
    | with_reducible refine w_isN1 int_ne ?_
    | with_reducible refine w_notN0 ?_
    | with_reducible refine w_notN1 ref_ne ?_
    | with_reducible refine w_notN1 int_ne ?_
    | with_reducible refine w_ex1 ?_
    | with_reducible refine w_n1 ?_
    | with_reducible refine w_n2 ?_
    | with_reducible refine w_tT ?_
    | with_reducible refine w_tF ?_
    | with_reducible refine w_nT ?_
    | with_reducible refine w_nF ?_
    | with_reducible refine w_rz ?_
    | with_reducible refine w_mkN ?_
    | with_reducible refine w_lrgN ?_
    | with_reducible refine w_rg1 ?_
    | with_reducible refine w_rg2 ?_
    | with_reducible refine w_sl ?_
    | with_reducible refine w_np ?_
    | with_reducible refine w_pt ?_
    | with_reducible refine w_tr ?_
    | with_reducible refine w_gn ?_
    | with_reducible refine w_yes ?_
    | with_reducible refine w_m1 ?_
    | with_reducible refine w_asu ?_
    | with_reducible refine w_exS ?_
    | with_reducible refine w_iS ?_
    | with_reducible refine w_g1 ?_
    | with_reducible refine w_gc ?_
    | with_reducible refine w_gt (SqT.of upd_same) rfl ?_)
local macro_rules
  | `(tactic| walk_at "g") => `(tactic| repeat walk_at "1")
local macro_rules
  | `(tactic| walk_at "j1") => `(tactic| first
    | with_reducible refine w_seqI ?_
    | walk_at "1")
local macro_rules
  | `(tactic| walk_at "j") => `(tactic| repeat walk_at "j1")
section
variable {K : PySem.W.Frag} {mg : Str → Option Value}
theorem len_Links_apply_at (K : PySem.W.Frag) : ∀ vs H Q E, sp_Links_apply_at K vs H Q E → vs.length = (["self", "operation", "index"] : List Str).length := by
  rintro vs H Q E ⟨_, _, _, _, _, _, _, rfl, _⟩
  rfl
theorem rd_Links_apply_at (T : Txt K mg) (vs : List V) (H : Hp) (Q : VK) (E : XK) (h : sp_Links_apply_at K vs H Q E) : t_Links_apply_at K E { nx := fun _ H' => Q .non H', rt := Q } (start ["self", "operation", "index", "node", "low", "high", "is_unlink"] vs) H := by
  obtain ⟨p, r, l, o, s, op, i, rfl, a, h1, h2⟩ := h
  unfold t_Links_apply_at
  walk_at "g"
  refine w_me a no_m ?_
  walk_at "g"
  refine ⟨p, r, l, o, s, op, i, rfl, a, fun ok => ?_, h2⟩
  have hi := ok.1
  obtain ⟨i1, i2⟩ := hi
  have w := a.wf
  obtain ⟨r1, r2⟩ := w.rb op.natAbs (by omega)
  obtain ⟨l1, l2⟩ := w.lb op.natAbs i1 (by omega)
  obtain ⟨pr, pl, po⟩ := a.pr
  walk_at "g"
  rw [natAbs_if]
  refine w_fL T.cl_Links T.na_Links__lefts a ?_
  walk_at "g"
  refine w_ixL (SqL.of a.hl) (at_I (by omega) (by rw [w.lL]; omega)) ?_
  walk_at "g"
  refine w_fR T.cl_Links T.na_Links__rights a ?_
  walk_at "g"
  refine w_ixL (SqL.of a.hr) (at_I (by omega) (by rw [w.lR]; omega)) ?_
  walk_at "g"
  have fin : ∀ x y : Int, x = (if op < 0 then gI s.R op.natAbs else (op.natAbs : Int)) → y = (if op < 0 then gI s.L op.natAbs else (op.natAbs : Int)) →
      Q .non (upd (upd (upd H r (.lst ((s.R.map V.int).set (gI s.L op.natAbs).toNat (.int x)))) l (.lst ((s.L.map V.int).set (gI s.R op.natAbs).toNat (.int y)))) o (.lst ((s.O.map V.bl).set op.natAbs (.bl (decide (op < 0)))))) := by
    intro x y ex ey
    refine h1 ok _ ((((Kp.refl _ H).trans (Kp.put (by simp))).trans (Kp.put (by simp))).trans (Kp.put (by simp))) ?_
    obtain ⟨dx, ob⟩ := a.ob
    rw [set_I, set_I, set_B]
    refine ⟨⟨dx, ?_⟩, ?_, ?_, ?_, a.rl, a.ro, a.lo, w.step ok.1⟩
    · rw [upd_ne po, upd_ne pl, upd_ne pr]
      exact ob
    · rw [upd_ne a.ro, upd_ne a.rl, upd_same, ex] <;> rfl
    · rw [upd_ne a.lo, upd_same, ey] <;> rfl
    · rw [upd_same] <;> rfl
  obtain ⟨dx, ob⟩ := a.ob
  have e1 : (op.natAbs : Int).toNat = op.natAbs := Int.toNat_natCast _
  have il : ixN (List.map V.int s.R).length (gI s.L op.natAbs) = some (gI s.L op.natAbs).toNat := ixN_pos (by omega) (by rw [List.length_map, w.lR]; omega)
  have ir : ixN (List.map V.int s.L).length (gI s.R op.natAbs) = some (gI s.R op.natAbs).toNat := ixN_pos (by omega) (by rw [List.length_map, w.lL]; omega)
  have io : ixN (List.map V.bl s.O).length (op.natAbs : Int) = some op.natAbs := by
    rw [ixN_pos (by omega) (by rw [List.length_map, w.lO]; omega), e1]
  rw [e1]
  refine w_iteD (fun c => ?_) (fun c => ?_)
  all_goals
    walk_at "g"
    refine w_oR T.cl_Links T.na_Links__rights ob ?_
    walk_at "g"
    refine w_setL a.hr il ?_
    walk_at "g"
    first
      | refine w_iteD (fun _ => ?_) (fun z => absurd c z)
      | refine w_iteD (fun z => absurd z c) (fun _ => ?_)
    walk_at "g"
    refine w_oL T.cl_Links T.na_Links__lefts (H := upd H r _) (by rw [upd_ne pr]; exact ob) ?_
    walk_at "g"
    refine w_setL (H := upd H r _) (by rw [upd_ne (Ne.symm a.rl)]; exact a.hl) ir ?_
    walk_at "g"
    refine w_oO T.cl_Links T.na_Links__out (H := upd (upd H r _) l _) (by rw [upd_ne pl, upd_ne pr]; exact ob) ?_
    walk_at "g"
    refine w_setL (H := upd (upd H r _) l _) (by rw [upd_ne (Ne.symm a.lo), upd_ne (Ne.symm a.ro)]; exact a.ho) io ?_
    walk_at "g"
  · exact fin _ _ (if_pos c).symm (if_pos c).symm
  · exact fin _ _ (if_neg c).symm (if_neg c).symm
theorem len_Links_apply (K : PySem.W.Frag) : ∀ vs H Q E, sp_Links_apply K vs H Q E → vs.length = (["self", "operation"] : List Str).length := by
  rintro vs H Q E ⟨_, _, _, _, _, _, rfl, _⟩
  rfl
theorem rd_Links_apply (T : Txt K mg) (vs : List V) (H : Hp) (Q : VK) (E : XK) (h : sp_Links_apply K vs H Q E) : t_Links_apply K E { nx := fun _ H' => Q .non H', rt := Q } (start ["self", "operation"] vs) H := by
  obtain ⟨p, r, l, o, s, op, rfl, a, h1, h2⟩ := h
  unfold t_Links_apply
  walk_at "g"
  refine w_me a no_m ?_
  walk_at "g"
  exact ⟨p, r, l, o, s, op, 0, rfl, a, h1, h2⟩
theorem len_Links_left (K : PySem.W.Frag) : ∀ vs H Q E, sp_Links_left K vs H Q E → vs.length = (["self", "node"] : List Str).length := by
  rintro vs H Q E ⟨_, _, _, _, _, _, rfl, _⟩
  rfl
theorem rd_Links_left (T : Txt K mg) (vs : List V) (H : Hp) (Q : VK) (E : XK) (h : sp_Links_left K vs H Q E) : t_Links_left K E { nx := fun _ H' => Q .non H', rt := Q } (start ["self", "node"] vs) H := by
  obtain ⟨p, r, l, o, s, v, rfl, a, h1, h2, h3⟩ := h
  unfold t_Links_left
  walk_at "g"
  refine w_iteD (fun c1 => ?_) (fun c1 => absurd (by omega) c1)
  walk_at "g"
  refine w_fS T.cl_Links T.na_Links_size a ?_
  walk_at "g"
  refine w_iteN (fun c1 => absurd (by omega) c1) (fun c1 => ?_)
  walk_at "g"
  refine w_fL T.cl_Links T.na_Links__lefts a ?_
  walk_at "g"
  refine w_ixL (SqL.of a.hl) (at_I (by omega) (by rw [a.wf.lL]; omega)) ?_
  exact h3
theorem len_Links_right (K : PySem.W.Frag) : ∀ vs H Q E, sp_Links_right K vs H Q E → vs.length = (["self", "node"] : List Str).length := by
  rintro vs H Q E ⟨_, _, _, _, _, _, rfl, _⟩
  rfl
theorem rd_Links_right (T : Txt K mg) (vs : List V) (H : Hp) (Q : VK) (E : XK) (h : sp_Links_right K vs H Q E) : t_Links_right K E { nx := fun _ H' => Q .non H', rt := Q } (start ["self", "node"] vs) H := by
  obtain ⟨p, r, l, o, s, v, rfl, a, h2, h3⟩ := h
  unfold t_Links_right
  walk_at "g"
  refine w_iteD (fun c1 => ?_) (fun c1 => absurd (by omega) c1)
  walk_at "g"
  refine w_fS T.cl_Links T.na_Links_size a ?_
  walk_at "g"
  refine w_iteN (fun c1 => absurd (by omega) c1) (fun c1 => ?_)
  walk_at "g"
  refine w_fR T.cl_Links T.na_Links__rights a ?_
  walk_at "g"
  refine w_ixL (SqL.of a.hr) (at_I (by omega) (by rw [a.wf.lR]; omega)) ?_
  exact h3
theorem len_gap_state (K : PySem.W.Frag) : ∀ vs H Q E, sp_gap_state K vs H Q E → vs.length = (["links", "gap"] : List Str).length := by
  rintro vs H Q E ⟨_, _, _, _, _, _, rfl, _⟩
  rfl
theorem rd_gap_state (T : Txt K mg) (vs : List V) (H : Hp) (Q : VK) (E : XK) (h : sp_gap_state K vs H Q E) : t_gap_state K E { nx := fun _ H' => Q .non H', rt := Q } (start ["links", "gap", "is_held_left", "is_held_right"] vs) H := by
  obtain ⟨p, r, l, o, s, g, rfl, a, h1, h2⟩ := h
  unfold t_gap_state
  walk_at "g"
  refine w_fS T.cl_Links T.na_Links_size a ?_
  walk_at "g"
  refine ⟨s.n, g, rfl, fun c => ?_, h2⟩
  obtain ⟨v, rfl⟩ : ∃ v : Nat, g = (v : Int) := ⟨g.toNat, by omega⟩
  walk_at "g"
  refine w_me a no_m ?_
  walk_at "g"
  refine ⟨p, r, l, o, s, v, rfl, a, by omega, ?_⟩
  walk_at "g"
  refine w_me a no_m ?_
  walk_at "g"
  refine ⟨p, r, l, o, s, v + 1, rfl, a, by omega, by omega, ?_⟩
  walk_at "g"
  have k := h1 c
  rw [Int.toNat_natCast] at k
  unfold stT at k
  refine w_iteD (fun c1 => ?_) (fun c1 => ?_)
  · rw [if_pos c1] at k
    walk_at "g"
    refine w_iteD (fun c2 => ?_) (fun c2 => ?_)
    · rw [if_pos c2] at k
      walk_at "g"
      exact k
    · rw [if_neg c2] at k
      walk_at "g"
      exact k
  · rw [if_neg c1] at k
    walk_at "g"
    refine w_iteD (fun c2 => ?_) (fun c2 => ?_)
    · rw [if_pos c2] at k
      walk_at "g"
      exact k
    · rw [if_neg c2] at k
      walk_at "g"
      exact k
theorem rg_nat (n : Nat) : rgV 0 (n : Int) = (rgI 0 n).map V.int := by
  unfold rgV rgI
  rw [show ((n : Int) - 0).toNat = n by omega, List.map_map] <;> rfl
theorem rg_one (n : Nat) : rgV 1 ((n : Int) + 1) = (rgI 1 n).map V.int := by
  unfold rgV rgI
  rw [show ((n : Int) + 1 - 1).toNat = n by omega, List.map_map] <;> rfl
theorem rg_one' (n : Nat) : rgV 1 ((n : Int) + 2) = (rgI 1 (n + 1)).map V.int := by
  rw [← rg_one (n + 1)]
  congr 1
theorem rg_nat' (n : Nat) : rgV 0 ((n : Int) + 1) = (rgI 0 (n + 1)).map V.int := by
  rw [← rg_nat (n + 1)] <;> rfl
theorem rep_flat {α : Type} (n : Nat) (x : α) : (List.replicate n [x]).flatten = List.replicate n x := by
  induction n with
  | zero => rfl
  | succ n ih => rw [List.replicate_succ, List.flatten_cons, ih, List.replicate_succ] <;> rfl
theorem rep_mapB (n : Nat) (x : Bool) : (List.replicate n x).map V.bl = List.replicate n (V.bl x) := by rw [List.map_replicate]
theorem putF_len (f : Str) (v : V) : ∀ fs : List (Str × V), (putF f v fs).length ≤ fs.length + 1
  | [] => Nat.le_refl _
  | (g, w) :: fs => by
    have ih := putF_len f v fs
    unfold putF
    split
    · exact Nat.le_succ _
    · exact Nat.succ_le_succ ih
theorem pl1 (a : Str) (x : V) : (putF a x []).length < 1000 := Nat.lt_of_le_of_lt (putF_len _ _ _) (Nat.le_of_ble_eq_true rfl)
theorem pl2 (a b : Str) (x y : V) : (putF b y (putF a x [])).length < 1000 := Nat.lt_of_le_of_lt (putF_len _ _ _) (by
  have := putF_len a x []
  show (putF a x []).length + 1 < 1000
  have e : ([] : List (Str × V)).length = 0 := rfl
  omega)
theorem pl3 (a b c : Str) (x y z : V) : (putF c z (putF b y (putF a x []))).length < 1000 := Nat.lt_of_le_of_lt (putF_len _ _ _) (by
  have h1 := putF_len b y (putF a x [])
  have h2 := putF_len a x []
  have e : ([] : List (Str × V)).length = 0 := rfl
  omega)
theorem len_Links___init__ (K : PySem.W.Frag) : ∀ vs H Q E, sp_Links___init__ K vs H Q E → vs.length = (["self", "size"] : List Str).length := by
  rintro vs H Q E ⟨_, _, _, rfl, _⟩
  rfl
theorem rd_Links___init__ (T : Txt K mg) (vs : List V) (H : Hp) (Q : VK) (E : XK) (h : sp_Links___init__ K vs H Q E) : t_Links___init__ K E { nx := fun _ H' => Q .non H', rt := Q } (start ["self", "size"] vs) H := by
  obtain ⟨p, dx, size, rfl, hp, h1, h2⟩ := h
  unfold t_Links___init__
  walk_at "g"
  refine ⟨size, rfl, fun ok => ?_, h2⟩
  have h1 := h1 ok
  obtain ⟨ok1, ok2⟩ := ok
  obtain ⟨n, rfl⟩ : ∃ n : Nat, size = (n : Int) := ⟨size.toNat, by omega⟩
  rw [Int.toNat_natCast] at h1
  walk_at "g"
  refine w_sT T.cl_Links T.na_Links_size hp (by decide) fun H1 k1 p1 => ?_
  walk_at "g"
  refine ⟨.of_le (by omega) (by omega) (by omega) (by omega), nw fun r H2 nr k2 hr => ?_⟩
  walk_at "g"
  have pr : p ≠ r := ne_of_none p1 nr
  refine w_sT T.cl_Links T.na_Links__rights (k2.at0 p1) (pl1 _ _) fun H3 k3 p3 => ?_
  have hr3 := k3.at1 (Ne.symm pr) hr
  walk_at "g"
  refine ⟨sz_ok (by show 1 ≤ 1000000; omega), nw fun z H4 nz k4 hz => ?_⟩
  walk_at "g"
  refine ⟨.of_le (by omega) (by omega) (by omega) (by omega), nw fun l0 H5 nl0 k5 hl0 => ?_⟩
  walk_at "g"
  refine w_addLN (k5.at0 hz) hl0 (by rw [rgV_length]; exact sz_ok (by show 1 + _ ≤ _; omega)) fun l H6 nl k6 hl => ?_
  have k46 := (k4.trans k5).trans k6
  walk_at "g"
  have pl : p ≠ l := ne_of_none (k5.at0 (k4.at0 p3)) nl
  have rl : r ≠ l := ne_of_none (k5.at0 (k4.at0 hr3)) nl
  refine w_sT T.cl_Links T.na_Links__lefts (k46.at0 p3) (pl2 _ _ _ _) fun H7 k7 p7 => ?_
  have hr7 := k7.at1 (Ne.symm pr) (k46.at0 hr3)
  have hl7 := k7.at1 (Ne.symm pl) hl
  walk_at "g"
  refine ⟨sz_ok (by show 1 ≤ 1000000; omega), nw fun z2 H8 nz2 k8 hz2 => ?_⟩
  walk_at "g"
  refine w_mulLN hz2 (by omega) (by omega) (sz_ok (by show 1 * _ ≤ _; omega)) fun o H9 no k9 ho => ?_
  walk_at "g"
  have po : p ≠ o := ne_of_none (k8.at0 p7) no
  have ro : r ≠ o := ne_of_none (k8.at0 hr7) no
  have lo : l ≠ o := ne_of_none (k8.at0 hl7) no
  have k89 := k8.trans k9
  refine w_sT T.cl_Links T.na_Links__out (k89.at0 p7) (pl3 _ _ _ _ _ _) fun Hx kx px => ?_
  have k03 : Kp [p] H H3 := k1.trans (k2.all.trans k3)
  have k07 : Kp [p] H H7 := k03.trans (k46.all.trans k7)
  have k0x : Kp [p] H Hx := k07.trans (k89.all.trans kx)
  have mp : ∀ b, H b = none → H3 b = none → True := fun _ _ _ => trivial
  refine h1 r l o Hx (k1.free (by simpa using Ne.symm pr) nr) ?_ ?_ k0x ⟨⟨dx, px⟩, ?_, ?_, ?_, rl, ro, lo, .whole (by omega)⟩
  · exact (k03.trans (k4.trans k5).all).free (by simpa using Ne.symm pl) nl
  · exact (k07.trans k8.all).free (by simpa using Ne.symm po) no
  · rw [kx.at1 (Ne.symm pr) (k89.at0 hr7), rg_one'] <;> rfl
  · rw [kx.at1 (Ne.symm pl) (k89.at0 hl7), rg_nat'] <;> rfl
  · rw [kx.at1 (Ne.symm po) ho, show ((n : Int) + 2).toNat = n + 2 by omega, rep_flat, ← rep_mapB] <;> rfl
theorem Kp.cut {S S' : List Addr} {H H' : Hp} (k : Kp S H H') (h : ∀ b ∈ S, b ∈ S' ∨ H b = none) : Kp S' H H' := fun b o n e => k b o (fun z => by
  rcases h b z with q | q
  · exact n q
  · rw [q] at e
    cases e) e
theorem Kp.cut1 {H H' : Hp} {p : Addr} (k : Kp [p] H H') (h : H p = none) : Kp [] H H' := k.cut (by simp [h])
theorem at_map {α : Type} {f : α → V} {l : List α} {i : Nat} {x : V} (h : (l.map f)[i]? = some x) : ∃ y, l[i]? = some y ∧ f y = x := by
  rw [List.getElem?_map] at h
  cases e : l[i]? with
  | none => rw [e] at h; cases h
  | some y => rw [e] at h; exact ⟨y, rfl, by injection h⟩
theorem take_snoc {α : Type} {l : List α} {i : Nat} {x : α} (h : l[i]? = some x) : l.take (i + 1) = l.take i ++ [x] := by
  rw [List.take_succ, h] <;> rfl
theorem len_gap_states (K : PySem.W.Frag) : ∀ vs H Q E, sp_gap_states K vs H Q E → vs.length = (["links"] : List Str).length := by
  rintro vs H Q E ⟨_, _, _, _, _, rfl, _⟩
  rfl
theorem rd_gap_states (T : Txt K mg) (vs : List V) (H : Hp) (Q : VK) (E : XK) (h : sp_gap_states K vs H Q E) : t_gap_states K E { nx := fun _ H' => Q .non H', rt := Q } (start ["links", "gap"] vs) H := by
  obtain ⟨p, r, l, o, s, rfl, a, g⟩ := h
  unfold t_gap_states
  walk_at "g"
  refine w_fS T.cl_Links T.na_Links_size a ?_
  walk_at "g"
  have n60 := a.wf.n60
  refine w_r1 (by omega) ?_
  rw [show ((s.n : Int) + 1).toNat = s.n + 1 by omega]
  refine cp_rng (fun i => (List.range i).map fun (v : Nat) => V.str (stT s v)) (fun i hi => sz_lt (by rw [List.length_map, List.length_range]; omega)) rfl ?_ (fun D H' n k h => g D H' n k h)
  intro i H' S N hi k y nn
  walk_at "g"
  refine ⟨rfl, ?_⟩
  walk_at "g"
  rw [Int.zero_add]
  refine ⟨p, r, l, o, s, (i : Int), rfl, a.k0 k, fun _ => ?_, fun bad => absurd ⟨by omega, by omega⟩ bad⟩
  refine y _ _ (Kp.refl _ _) ?_
  rw [List.range_succ, List.map_append, Int.toNat_natCast] <;> rfl
theorem len_lost_gaps (K : PySem.W.Frag) : ∀ vs H Q E, sp_lost_gaps K vs H Q E → vs.length = (["links"] : List Str).length := by
  rintro vs H Q E ⟨_, _, _, _, _, rfl, _⟩
  rfl
theorem rd_lost_gaps (T : Txt K mg) (vs : List V) (H : Hp) (Q : VK) (E : XK) (h : sp_lost_gaps K vs H Q E) : t_lost_gaps K E { nx := fun _ H' => Q .non H', rt := Q } (start ["links", "gap", "state"] vs) H := by
  obtain ⟨p, r, l, o, s, rfl, a, g⟩ := h
  unfold t_lost_gaps
  walk_at "g"
  refine ⟨p, r, l, o, s, rfl, a, fun q H1 nq k1 hq => ?_⟩
  walk_at "g"
  have n60 := a.wf.n60
  have lenq : ((List.range (s.n + 1)).map fun (v : Nat) => V.str (stT s v)).length = s.n + 1 := by rw [List.length_map, List.length_range]
  refine ⟨q, _, rfl, SqL.of hq, cp_enum (SqL.of hq) (fun i => ((List.range i).filter fun v => decide (stT s v = "lost")).map fun (v : Nat) => V.int (v : Int)) (fun i hi => ?_) rfl ?_ ?_⟩
  · rw [lenq] at hi
    refine sz_lt ?_
    rw [List.length_map]
    have := List.length_filter_le (fun v => decide (stT s v = "lost")) (List.range i)
    rw [List.length_range] at this
    omega
  · intro i x Tq H' S N hx k nT yes no
    obtain ⟨v, hv, rfl⟩ := at_map hx
    have hv' : i = v := by
      have := (List.getElem?_eq_some_iff.mp hv).2
      simpa using this
    subst hv'
    have kT : Kp [] H' (upd H' Tq (.tup [.int (i : Int), .str (stT s i)])) := Kp.new nT
    walk_at "g"
    refine ⟨rfl, ?_⟩
    walk_at "g"
    refine w_iteD (fun c => ?_) (fun c => ?_)
    · walk_at "g"
      refine yes _ _ kT ?_
      rw [List.range_succ, List.filter_append, List.map_append, List.filter_cons_of_pos (by rw [decide_eq_true c])] <;> rfl
    · refine no _ kT ?_
      rw [List.range_succ, List.filter_append, List.map_append, List.filter_cons_of_neg (by rw [decide_eq_false c]; exact Bool.false_ne_true), List.filter_nil, List.map_nil, List.append_nil]
  · intro D H' nD k hD
    rw [lenq] at hD
    exact g D H' (k1.free0 nD) (k1.trans k) hD
theorem w_isx {H : Hp} {Q : VK} {D dd a : Addr} {fs : List (Str × V)} {c : V} {u : Value} {r : Bool} (hd : H dd = some (.xd fs)) (ex : ExK K D) (k : ClsV c u) (q : PySem.W.kitOne K (.ref D) u = some r) (g : Q (.bl r) H) : rIsX K (.ref D) (some dd) a [.ref a, c] H Q := ⟨D, dd, fs, c, u, r, rfl, rfl, hd, ex, rfl, k, q, g⟩
theorem w_xat {σ : L2.St} {H : Hp} {Q : VK} {D dd a : Addr} {fs : List (Str × V)} {v : V} {f : Str} {te : TE} (hv : ∀ Q, Q (.ref a) H → te σ H Q) (hd : H dd = some (.xd fs)) (ex : ExK K D) (hf : PySem.W.findIn K (.ref D) f = some none) (hl : fs.lookup f = some v) (g : Q v H) : tXat K a (.ref D) (some dd) f te σ H Q := hv _ ⟨D, dd, fs, v, rfl, rfl, hd, ex, rfl, hf, hl, g⟩
theorem lk1 (f : Str) (v : V) (r : List (Str × V)) : ((f, v) :: r).lookup f = some v := by
  simp [List.lookup]
theorem inS2 (x a b : Str) : inV (.str x) [.str a, .str b] = (decide (x = a) || decide (x = b)) := by
  show ((eqV (.str a) (.str x)) || ((eqV (.str b) (.str x)) || false)) = _
  have e : ∀ a b : Str, eqV (.str a) (.str b) = decide (b = a) := fun a b => by
    show (a == b) = _
    rw [Bool.eq_iff_iff, beq_iff_eq, decide_eq_true_iff]
    exact eq_comm
  rw [e, e, Bool.or_false]
theorem len_Links_outs (K : PySem.W.Frag) : ∀ vs H Q E, sp_Links_outs K vs H Q E → vs.length = (["self"] : List Str).length := by
  rintro vs H Q E ⟨_, _, _, _, _, rfl, _⟩
  rfl
theorem rd_Links_outs (T : Txt K mg) (vs : List V) (H : Hp) (Q : VK) (E : XK) (h : sp_Links_outs K vs H Q E) : t_Links_outs K E { nx := fun _ H' => Q .non H', rt := Q } (start ["self", "node"] vs) H := by
  obtain ⟨p, r, l, o, s, rfl, a, g⟩ := h
  unfold t_Links_outs
  have n60 := a.wf.n60
  walk_at "g"
  refine w_fS T.cl_Links T.na_Links_size a ?_
  walk_at "g"
  refine w_r2 (by omega) ?_
  rw [show ((s.n : Int) + 1 - 1).toNat = s.n by omega]
  refine cp_rng (fun i => (outN i s.O).map V.int) (fun i hi => sz_lt (by
    rw [List.length_map]
    have := outN_len i s.O
    omega)) rfl (fun i H' S N hi k y no => ?_) (fun D H' nD k hD => g D H' nD k hD)
  walk_at "g"
  refine ⟨rfl, ?_⟩
  walk_at "g"
  refine w_fO T.cl_Links T.na_Links__out (a.k0 k) ?_
  walk_at "g"
  refine w_ixL (SqL.of (k.at0 a.ho)) (at_B (by omega) (by rw [a.wf.lO]; omega)) ?_
  walk_at "g"
  rw [show ((1 : Int) + (i : Int)).toNat = i + 1 by omega]
  refine w_iteB (fun c1 => ?_) (fun c1 => ?_)
  · walk_at "g"
    refine y _ _ (Kp.refl _ _) ?_
    unfold outN
    rw [List.range_succ, List.map_append, List.filter_append, List.map_append, List.map_append]
    congr 1
    show (([i + 1].filter fun v => gB s.O v).map _).map _ = _
    rw [List.filter_cons_of_pos c1]
    show [V.int ((i + 1 : Nat) : Int)] = [V.int (1 + (i : Int))]
    rw [Int.add_comm] <;> rfl
  · refine no _ (Kp.refl _ _) ?_
    unfold outN
    rw [List.range_succ, List.map_append, List.filter_append, List.map_append, List.map_append]
    show _ ++ (([i + 1].filter fun v => gB s.O v).map _).map _ = _
    rw [List.filter_cons_of_neg (by rw [c1]; exact Bool.false_ne_true)]
    exact List.append_nil _
theorem num9_of {l : List Int} (h : ∀ v, v < l.length → 0 ≤ gI l v ∧ gI l v ≤ 100) : Num9 l := by
  intro i hi
  obtain ⟨j, hj⟩ := List.getElem?_of_mem hi
  have := h j (List.getElem?_eq_some_iff.mp hj).1
  rw [gI_of hj] at this
  omega
theorem outN_9 {n : Nat} (h : n ≤ 60) (O : List Bool) : Num9 (outN n O) := fun i hi => by
  have := outN_bd hi
  omega
theorem log_ok {i : Int} (h : 0 ≤ i) (h2 : i < 1000000000) : i.natAbs.log2 < 1920 := by
  by_cases z : i.natAbs = 0
  · rw [z]
    decide
  · rw [Nat.log2_lt z]
    exact Nat.lt_of_lt_of_le (show i.natAbs < 2 ^ 30 by omega) (Nat.pow_le_pow_right (by decide) (by decide))
theorem len__joined (K : PySem.W.Frag) : ∀ vs H Q E, sp__joined K vs H Q E → vs.length = (["numbers"] : List Str).length := by
  rintro vs H Q E ⟨_, _, rfl, _⟩
  rfl
theorem rd__joined (T : Txt K mg) (vs : List V) (H : Hp) (Q : VK) (E : XK) (h : sp__joined K vs H Q E) : t__joined K E { nx := fun _ H' => Q .non H', rt := Q } (start ["numbers", "number"] vs) H := by
  obtain ⟨a, l, rfl, ha, h9, hl, g⟩ := h
  unfold t__joined
  walk_at "g"
  refine w_l1 ha ?_
  refine cp_lst ha (fun j => (l.take j).map fun i => V.str (numI i)) (fun j hj => sz_lt (by rw [List.length_map, List.length_take]; omega)) rfl (fun j x H' S N hx k y _ => ?_) (fun D H1 nD k1 hD => ?_)
  · obtain ⟨v, hv, rfl⟩ := at_map hx
    have b := h9 v (List.mem_of_getElem? hv)
    walk_at "g"
    refine ⟨rfl, ?_⟩
    walk_at "g"
    refine w_str (log_ok b.1 b.2) ?_
    exact y _ _ (Kp.refl _ _) (map_snoc (f := fun i => V.str (numI i)) hv)
  · rw [List.length_map, List.take_length] at hD
    have e : (l.map fun i => V.str (numI i)) = (l.map numI).map V.str := by rw [List.map_map] <;> rfl
    rw [e] at hD
    exact w_joinL (SqL.of hD) (join_cost h9 (by omega)) (g H1 k1)
theorem outsT_len {l : List Int} (h : Num9 l) : (outsT l).length ≤ 10 * l.length + 4 := by
  unfold outsT
  split
  · have : noneS.length = 4 := by decide +kernel
    omega
  · have := joinI_len h
    omega
theorem len_dump_of (K : PySem.W.Frag) : ∀ vs H Q E, sp_dump_of K vs H Q E → vs.length = (["rights", "lefts", "outs"] : List Str).length := by
  rintro vs H Q E ⟨_, _, _, _, _, _, rfl, _⟩
  rfl
theorem rd_dump_of (T : Txt K mg) (vs : List V) (H : Hp) (Q : VK) (E : XK) (h : sp_dump_of K vs H Q E) : t_dump_of K E { nx := fun _ H' => Q .non H', rt := Q } (start ["rights", "lefts", "outs"] vs) H := by
  obtain ⟨r, l, o, R, L, O, rfl, hr, hl, ho, ⟨R9, Rl⟩, ⟨L9, Ll⟩, ⟨O9, Ol⟩, g⟩ := h
  unfold t_dump_of
  walk_at "g"
  refine ⟨r, R, rfl, hr, R9, Rl, fun H1 k1 => ?_⟩
  walk_at "g"
  refine ⟨l, L, rfl, k1.sql (by simp) hl, L9, Ll, fun H2 k2 => ?_⟩
  walk_at "g"
  have ho2 := (k1.trans k2).sql (by simp) ho
  refine w_truL ho2 ?_
  have R10 := joinI_len R9
  have L10 := joinI_len L9
  have O10 := outsT_len O9
  have cost : ([joinI R, joinI L, outsT O].map (·.length)).sum + [joinI R, joinI L, outsT O].length * (" | " : Str).length ≤ 16777216 := by
    have e : (" | " : Str).length = 3 := by decide +kernel
    rw [e]
    show (joinI R).length + ((joinI L).length + ((outsT O).length + 0)) + 3 * 3 ≤ _
    omega
  cases O with
  | nil =>
    have eo : outsT [] = ("none" : Str) := if_pos rfl
    refine w_tF (A := _) ?_
    walk_at "g"
    refine ⟨sz_ok (by show 3 ≤ 1000000; omega), nw fun q H4 nq k4 hq => ?_⟩
    rw [eo] at g cost
    exact w_joinL (ss := [joinI R, joinI L, ("none" : Str)]) (SqL.of hq) cost (g H4 ((k1.trans k2).trans k4))
  | cons a t =>
    have eo : outsT (a :: t) = joinI (a :: t) := if_neg (by simp)
    refine w_tT (B := _) ?_
    walk_at "g"
    refine ⟨o, a :: t, rfl, ho2, O9, Ol, fun H3 k3 => ?_⟩
    walk_at "g"
    refine ⟨sz_ok (by show 3 ≤ 1000000; omega), nw fun q H4 nq k4 hq => ?_⟩
    rw [eo] at g cost
    exact w_joinL (ss := [joinI R, joinI L, joinI (a :: t)]) (SqL.of hq) cost (g H4 (((k1.trans k2).trans k3).trans k4))
theorem Wf.R9 {s : Sd} (w : Wf s) : Num9 s.R ∧ s.R.length ≤ 100 := by
  have n60 := w.n60
  have lR := w.lR
  refine ⟨num9_of fun v hv => ?_, by omega⟩
  have := w.rb v (by omega)
  omega
theorem Wf.L9 {s : Sd} (w : Wf s) : Num9 (s.L.drop 1) ∧ (s.L.drop 1).length ≤ 100 := by
  have n60 := w.n60
  have lL := w.lL
  have ll : (s.L.drop 1).length = s.n + 1 := by rw [List.length_drop]; omega
  refine ⟨num9_of fun v hv => ?_, by omega⟩
  have e : gI (s.L.drop 1) v = gI s.L (v + 1) := by
    unfold gI
    rw [List.getD_eq_getElem?_getD, List.getD_eq_getElem?_getD, List.getElem?_drop, Nat.add_comm]
  have := w.lb (v + 1) (by omega) (by omega)
  rw [e]
  omega
theorem len_Links_dump (K : PySem.W.Frag) : ∀ vs H Q E, sp_Links_dump K vs H Q E → vs.length = (["self"] : List Str).length := by
  rintro vs H Q E ⟨_, _, _, _, _, rfl, _⟩
  rfl
theorem rd_Links_dump (T : Txt K mg) (vs : List V) (H : Hp) (Q : VK) (E : XK) (h : sp_Links_dump K vs H Q E) : t_Links_dump K E { nx := fun _ H' => Q .non H', rt := Q } (start ["self"] vs) H := by
  obtain ⟨p, r, l, o, s, rfl, a, g⟩ := h
  unfold t_Links_dump
  have n60 := a.wf.n60
  have lL := a.wf.lL
  walk_at "g"
  refine w_fR T.cl_Links T.na_Links__rights a ?_
  walk_at "g"
  refine w_fL T.cl_Links T.na_Links__lefts a ?_
  walk_at "g"
  refine w_slL (SqL.of a.hl) fun q H1 nq k1 hq => ?_
  have e1 : cutV (s.L.map V.int) (some 1) none = (s.L.map V.int).drop 1 := cut_drop _ 1 (by rw [List.length_map]; omega)
  rw [e1, ← List.map_drop] at hq
  walk_at "g"
  have a1 := a.k0 k1
  refine w_me a1 no_m ?_
  walk_at "g"
  refine ⟨p, r, l, o, s, rfl, a1, fun u H2 nu k2 hu => ?_⟩
  walk_at "g"
  exact ⟨r, q, u, s.R, _, _, rfl, SqL.of (k2.at0 a1.hr), SqL.of (k2.at0 hq), SqL.of hu, a.wf.R9, a.wf.L9, ⟨outN_9 n60 s.O, by have := outN_len s.n s.O; omega⟩, fun H3 k3 => g H3 ((k1.trans k2).trans k3)⟩
theorem w_isiTu {b : Addr} {H : Hp} {Q : VK} {x : V} {d : PyData} (h : Vl b H x d) (g : Q (.bl (isTu d)) H) : rIsi K [x, .ty "tuple"] H Q := by
  cases h with
  | non => exact ⟨_, _, _, _, false, rfl, .ty _, .base .non, kit_ty (by decide +kernel), g⟩
  | bl k => exact ⟨_, _, _, _, false, rfl, .ty _, .base (.bl k), kit_ty (by decide +kernel), g⟩
  | int i => exact ⟨_, _, _, _, false, rfl, .ty _, .base (.int i), kit_ty (by decide +kernel), g⟩
  | str s => exact ⟨_, _, _, _, false, rfl, .ty _, .base (.str s), kit_ty (by decide +kernel), g⟩
  | lst ne hs ha => exact ⟨_, _, _, _, false, rfl, .ty _, .base (.lst hs), kit_ty (by decide +kernel), g⟩
  | tup ne hs ha => exact ⟨_, _, _, _, true, rfl, .ty _, .base (.tup hs), kit_ty (by decide +kernel), g⟩
def isBo : PyData → Bool
  | .bool _ => true
  | _ => false
def isIB : PyData → Bool
  | .bool _ => true
  | .int _ => true
  | _ => false
theorem w_isiIn {b : Addr} {H : Hp} {Q : VK} {x : V} {d : PyData} (h : Vl b H x d) (g : Q (.bl (isIB d)) H) : rIsi K [x, .ty "int"] H Q := by
  cases h with
  | non => exact ⟨_, _, _, _, false, rfl, .ty _, .base .non, kit_ty (by decide +kernel), g⟩
  | bl k => exact ⟨_, _, _, _, true, rfl, .ty _, .base (.bl k), kit_ty (by decide +kernel), g⟩
  | int i => exact ⟨_, _, _, _, true, rfl, .ty _, .base (.int i), kit_ty (by decide +kernel), g⟩
  | str s => exact ⟨_, _, _, _, false, rfl, .ty _, .base (.str s), kit_ty (by decide +kernel), g⟩
  | lst ne hs ha => exact ⟨_, _, _, _, false, rfl, .ty _, .base (.lst hs), kit_ty (by decide +kernel), g⟩
  | tup ne hs ha => exact ⟨_, _, _, _, false, rfl, .ty _, .base (.tup hs), kit_ty (by decide +kernel), g⟩
theorem w_isiBo {b : Addr} {H : Hp} {Q : VK} {x : V} {d : PyData} (h : Vl b H x d) (g : Q (.bl (isBo d)) H) : rIsi K [x, .ty "bool"] H Q := by
  cases h with
  | non => exact ⟨_, _, _, _, false, rfl, .ty _, .base .non, kit_ty (by decide +kernel), g⟩
  | bl k => exact ⟨_, _, _, _, true, rfl, .ty _, .base (.bl k), kit_ty (by decide +kernel), g⟩
  | int i => exact ⟨_, _, _, _, false, rfl, .ty _, .base (.int i), kit_ty (by decide +kernel), g⟩
  | str s => exact ⟨_, _, _, _, false, rfl, .ty _, .base (.str s), kit_ty (by decide +kernel), g⟩
  | lst ne hs ha => exact ⟨_, _, _, _, false, rfl, .ty _, .base (.lst hs), kit_ty (by decide +kernel), g⟩
  | tup ne hs ha => exact ⟨_, _, _, _, false, rfl, .ty _, .base (.tup hs), kit_ty (by decide +kernel), g⟩
theorem tsn {l : List Int} {i : Nat} {x : Int} (h : l[i]? = some x) : l.take (i + 1) = l.take i ++ [x] := by
  rw [List.take_succ, h] <;> rfl
theorem dpI {H : Hp} : ∀ xs : List Int, DpAll K H (xs.map V.int) (xs.map PyData.int)
  | [] => .nil
  | x :: xs => .cons (.int x) (dpI xs)
theorem layI : ∀ xs : List Int, PyData.canLayAll0 (xs.map PyData.int) = true
  | [] => by simp [PyData.canLayAll0]
  | x :: xs => by
    show PyData.canLayAll0 (PyData.int x :: xs.map PyData.int) = true
    rw [PyData.canLayAll0, layI xs]
    simp [PyData.canLay0]
theorem depI : ∀ xs : List Int, PyData.depthAll (xs.map PyData.int) ≤ 1
  | [] => by simp [PyData.depthAll]
  | x :: xs => by
    have := depI xs
    show PyData.depthAll (PyData.int x :: xs.map PyData.int) ≤ 1
    rw [PyData.depthAll]
    simp [PyData.depth]
    omega
theorem shI (xs : List Int) : SeqAt.shaped (.list (xs.map PyData.int)) = true := by
  unfold SeqAt.shaped
  rw [PyData.canLay0, layI, PyData.depth]
  have := depI xs
  simp
  omega
theorem w_eqL {H : Hp} {Q : VK} {p q : Addr} {xs : List Int} (h1 : SqL K H p (xs.map V.int)) (h2 : SqL K H q (xs.map V.int)) (g : Q (.bl true) H) : rEqA K (.ref p) (.ref q) H Q :=
  w_eqD (.lst h1 (dpI xs)) (.lst h2 (dpI xs)) (shI xs) (shI xs) (by
    rw [SeqAt.eqv_refl _ (SeqAt.canLay_of_shaped (shI xs))]
    exact g)
theorem w_isiL {H : Hp} {Q : VK} {a : Addr} {xs : List V} {t : String} {r : Bool} (e : H a = some (.lst xs)) (h : kitB "list" t = some r) (g : Q (.bl r) H) : rIsi K [.ref a, .ty t] H Q := ⟨_, _, _, _, r, rfl, .ty t, .base (.lst e), kit_ty h, g⟩
theorem ok_nat {size : Int} (h : SizeOk size) : ∃ n : Nat, size = (n : Int) ∧ n ≤ 60 := ⟨size.toNat, by obtain ⟨a, b⟩ := h; omega, by obtain ⟨a, b⟩ := h; omega⟩
theorem len_Links_is_out (K : PySem.W.Frag) : ∀ vs H Q E, sp03_Links_is_out K vs H Q E → vs.length = (["self", "node"] : List Str).length := by
  rintro vs H Q E ⟨_, _, _, _, _, _, rfl, _⟩
  rfl
theorem rd_Links_is_out (T : Txt K mg) (vs : List V) (H : Hp) (Q : VK) (E : XK) (h : sp03_Links_is_out K vs H Q E) : t_Links_is_out K E { nx := fun _ H' => Q .non H', rt := Q } (start ["self", "node"] vs) H := by
  obtain ⟨p, r, l, o, s, v, rfl, a, h2, h3⟩ := h
  unfold t_Links_is_out
  walk_at "g"
  refine w_iteD (fun c1 => ?_) (fun c1 => absurd (by omega) c1)
  walk_at "g"
  refine w_fS T.cl_Links T.na_Links_size a ?_
  walk_at "g"
  refine w_iteN (fun c1 => absurd (by omega) c1) (fun c1 => ?_)
  walk_at "g"
  refine w_fO T.cl_Links T.na_Links__out a ?_
  walk_at "g"
  refine w_ixL (SqL.of a.ho) (at_B (by omega) (by rw [a.wf.lO]; omega)) ?_
  exact h3
theorem cut_takeI (l : List Int) (k : Nat) (h : k ≤ l.length) : cutV (l.map V.int) none (some (k : Int)) = (l.take k).map V.int := by
  rw [cut_take _ _ (by rw [List.length_map]; exact h), List.map_take]
theorem len_foreign_writes (K : PySem.W.Frag) : ∀ vs H Q E, sp_foreign_writes K vs H Q E → vs.length = (["links", "operation"] : List Str).length := by
  rintro vs H Q E ⟨_, _, _, _, _, _, rfl, _⟩
  rfl
theorem rd_foreign_writes (T : Txt K mg) (vs : List V) (H : Hp) (Q : VK) (E : XK) (h : sp_foreign_writes K vs H Q E) : t_foreign_writes K E { nx := fun _ H' => Q .non H', rt := Q } (start ["links", "operation", "node", "low", "high", "written"] vs) H := by
  obtain ⟨p, r, l, o, s, op, rfl, a, g, bad⟩ := h
  unfold t_foreign_writes
  walk_at "g"
  refine w_me a no_m ?_
  walk_at "g"
  refine ⟨p, r, l, o, s, op, 0, rfl, a, fun ok => ?_, bad⟩
  have g := g ok
  have wf := a.wf
  have n60 := wf.n60
  obtain ⟨v1, v2⟩ := ok.1
  generalize ev : op.natAbs = v at v1 v2 g
  obtain ⟨r1, r2⟩ := wf.rb v (by omega)
  obtain ⟨l1, l2⟩ := wf.lb v (by omega) (by omega)
  obtain ⟨lo, elo⟩ : ∃ lo : Nat, gI s.L v = (lo : Int) := ⟨(gI s.L v).toNat, by omega⟩
  obtain ⟨hi, ehi⟩ : ∃ hi : Nat, gI s.R v = (hi : Int) := ⟨(gI s.R v).toNat, by omega⟩
  walk_at "g"
  rw [natAbs_if, ev]
  refine w_me a no_m ?_
  walk_at "g"
  refine ⟨p, r, l, o, s, v, rfl, a, v1, by omega, ?_⟩
  walk_at "g"
  rw [elo]
  refine w_me a no_m ?_
  walk_at "g"
  refine ⟨p, r, l, o, s, v, rfl, a, v2, ?_⟩
  rw [ehi]
  walk_at "j"
  refine ⟨sz_ok (Nat.zero_le _), nw fun q H1 nq k1 hq => ?_⟩
  walk_at "j"
  unfold forW at g
  rw [elo, ehi, Int.toNat_natCast, Int.toNat_natCast] at g
  generalize e1 : (if (lo : Int) ≠ (v : Int) - 1 ∧ gI s.R lo = (lo : Int) + 1 then [(lo : Int)] else []) = g1 at g
  generalize e2 : (if (hi : Int) ≠ (v : Int) + 1 ∧ gI s.L hi = (hi : Int) - 1 then [(hi : Int) - 1] else []) = g2 at g
  have l1' : g1.length ≤ 1 := by rw [← e1]; split <;> simp
  have fin : ∀ H', Kp [q] H1 H' → H' q = some (.lst ((g1 ++ g2).map V.int)) → Q (.ref q) H' := fun H' k h => g q H' nq (k1.all.trans k |>.cut1 nq) h
  have pq : p ≠ q := by
    obtain ⟨dx, ob⟩ := a.ob
    exact ne_of_none ob nq
  have a1 := a.k0 k1
  refine w_ifK (fun H' => Kp [q] H1 H' ∧ H' q = some (.lst (g1.map V.int))) (fun N hN => ?_) (fun H2 ⟨k2, hq2⟩ => ?_)
  · walk_at "g"
    refine w_iteN (fun c1 => ?_) (fun c1 => ?_)
    · walk_at "g"
      refine w_me a1 no_m ?_
      walk_at "g"
      refine ⟨p, r, l, o, s, lo, rfl, a1, by omega, ?_⟩
      walk_at "g"
      refine w_iteD (fun c2 => ?_) (fun c2 => ?_)
      · walk_at "g"
        refine ⟨w_ty (SqL.of hq), ?_⟩
        walk_at "g"
        refine w_apT hq (sz_lt (by show 0 < 1000000; omega)) fun H2 k2 hq2 => ?_
        refine hN _ ⟨k2, ?_⟩
        rw [if_pos ⟨c1, c2⟩] at e1
        rw [hq2, ← e1] <;> rfl
      · walk_at "g"
        refine hN _ ⟨Kp.refl _ _, ?_⟩
        rw [if_neg (fun z => c2 z.2)] at e1
        rw [hq, ← e1] <;> rfl
    · walk_at "g"
      refine hN _ ⟨Kp.refl _ _, ?_⟩
      rw [if_neg (fun z => z.1 c1)] at e1
      rw [hq, ← e1] <;> rfl
  walk_at "j"
  have a2 : LinksAt K H2 p r l o s := a1.kp k2 (by simpa using pq) (by simpa using ne_of_none a.hr nq) (by simpa using ne_of_none a.hl nq) (by simpa using ne_of_none a.ho nq)
  refine w_ifK (fun H' => Kp [q] H1 H' ∧ H' q = some (.lst ((g1 ++ g2).map V.int))) (fun N hN => ?_) (fun H3 ⟨k3, hq3⟩ => ?_)
  · walk_at "g"
    refine w_iteN (fun c1 => ?_) (fun c1 => ?_)
    · walk_at "g"
      refine w_me a2 no_m ?_
      walk_at "g"
      refine ⟨p, r, l, o, s, hi, rfl, a2, by omega, by omega, ?_⟩
      walk_at "g"
      refine w_iteD (fun c2 => ?_) (fun c2 => ?_)
      · walk_at "g"
        refine ⟨w_ty (SqL.of hq2), ?_⟩
        walk_at "g"
        refine w_apT hq2 (sz_lt (by rw [List.length_map]; omega)) fun H3 k3 hq3 => ?_
        refine hN _ ⟨k2.trans k3, ?_⟩
        rw [if_pos ⟨c1, c2⟩] at e2
        rw [hq3, ← e2, List.map_append] <;> rfl
      · walk_at "g"
        refine hN _ ⟨k2, ?_⟩
        rw [if_neg (fun z => c2 z.2)] at e2
        rw [hq2, ← e2, List.append_nil]
    · walk_at "g"
      refine hN _ ⟨k2, ?_⟩
      rw [if_neg (fun z => z.1 c1)] at e2
      rw [hq2, ← e2, List.append_nil]
  walk_at "g"
  exact fin H3 k3 hq3
theorem PrsAt.kp {S : List Addr} {H H' : Hp} {xs : List V} {es : List (Nat × Str)} (h : PrsAt H xs es) (k : Kp S H H') (hS : ∀ b ∈ S, ∀ ys, H b ≠ some (.tup ys)) : PrsAt H' xs es := by
  refine ⟨h.1, fun i t e => ?_⟩
  obtain ⟨a, h1, h2⟩ := h.2 i t e
  exact ⟨a, h1, k _ _ (fun z => hS a z _ h2) h2⟩
theorem PrsAt.k0 {H H' : Hp} {xs : List V} {es : List (Nat × Str)} (h : PrsAt H xs es) (k : Kp [] H H') : PrsAt H' xs es := h.kp k (by simp)
theorem PrsAt.snoc {H : Hp} {xs : List V} {ts : List (Nat × Str)} {a : Addr} {t : Nat × Str} (h : PrsAt H xs ts) (ha : H a = some (.tup [.int (t.1 : Int), .str t.2])) : PrsAt H (xs ++ [.ref a]) (ts ++ [t]) := by
  refine ⟨by rw [List.length_append, List.length_append, h.1] <;> rfl, fun i u e => ?_⟩
  by_cases c : i < ts.length
  · rw [List.getElem?_append_left c] at e
    obtain ⟨b, h1, h2⟩ := h.2 i u e
    exact ⟨b, by rw [List.getElem?_append_left (by rw [h.1]; exact c)]; exact h1, h2⟩
  · have hl := (List.getElem?_eq_some_iff.mp e).1
    rw [List.length_append] at hl
    have ei : i = ts.length := by simp at hl; omega
    subst ei
    rw [List.getElem?_append_right (Nat.le_refl _), Nat.sub_self] at e
    have eu : t = u := by simpa using e
    subst eu
    exact ⟨a, by rw [List.getElem?_append_right (by rw [h.1]; exact Nat.le_refl _), h.1, Nat.sub_self] <;> rfl, ha⟩
theorem PrsAt.nil {H : Hp} : PrsAt H [] [] := ⟨rfl, fun i t e => by simp at e⟩
theorem len_Links_copy (K : PySem.W.Frag) : ∀ vs H Q E, sp_Links_copy K vs H Q E → vs.length = (["self"] : List Str).length := by
  rintro vs H Q E ⟨_, _, _, _, _, rfl, _⟩
  rfl
theorem rd_Links_copy (T : Txt K mg) (vs : List V) (H : Hp) (Q : VK) (E : XK) (h : sp_Links_copy K vs H Q E) : t_Links_copy K E { nx := fun _ H' => Q .non H', rt := Q } (start ["self", "twin"] vs) H := by
  obtain ⟨p, r, l, o, s, rfl, a, g⟩ := h
  unfold t_Links_copy
  walk_at "g"
  refine w_fS T.cl_Links T.na_Links_size a ?_
  walk_at "g"
  refine mk fun q dx H1 nq hq k1 => ?_
  refine ⟨q, dx, s.n, rfl, hq, fun ok r1 l1 o1 H2 nr1 nl1 no1 k2 b => ⟨rfl, ?_⟩, fun z => absurd ⟨by omega, by have := a.wf.n60; omega⟩ z⟩
  have a1 := a.k0 k1
  obtain ⟨dx1, ob1⟩ := a1.ob
  have qp : p ≠ q := by
    obtain ⟨dx0, ob⟩ := a.ob
    exact ne_of_none ob nq
  have qr : r ≠ q := ne_of_none a.hr nq
  have ql : l ≠ q := ne_of_none a.hl nq
  have qo : o ≠ q := ne_of_none a.ho nq
  have a2 := a1.kp k2 (by simpa using qp) (by simpa using qr) (by simpa using ql) (by simpa using qo)
  walk_at "g"
  refine w_fR T.cl_Links T.na_Links__rights a2 ?_
  walk_at "g"
  refine w_listLN (SqL.of a2.hr) fun r3 H3 nr3 k3 hr3 => ?_
  walk_at "g"
  have b3 := b.k0 k3
  obtain ⟨dx3, ob3⟩ := b3.ob
  refine w_sT T.cl_Links T.na_Links__rights ob3 (fl_len _ _ _ _) fun H4 k4 p4 => ?_
  rw [fl_putR] at p4
  have a4 := (a2.k0 k3).kp k4 (by simpa using qp) (by simpa using qr) (by simpa using ql) (by simpa using qo)
  walk_at "g"
  refine w_fL T.cl_Links T.na_Links__lefts a4 ?_
  walk_at "g"
  refine w_listLN (SqL.of a4.hl) fun l5 H5 nl5 k5 hl5 => ?_
  walk_at "g"
  refine w_sT T.cl_Links T.na_Links__lefts (k5.at0 p4) (fl_len _ _ _ _) fun H6 k6 p6 => ?_
  rw [fl_putL] at p6
  have a6 := (a4.k0 k5).kp k6 (by simpa using qp) (by simpa using qr) (by simpa using ql) (by simpa using qo)
  walk_at "g"
  refine w_fO T.cl_Links T.na_Links__out a6 ?_
  walk_at "g"
  refine w_listLN (SqL.of a6.ho) fun o7 H7 no7 k7 ho7 => ?_
  walk_at "g"
  refine w_sT T.cl_Links T.na_Links__out (k7.at0 p6) (fl_len _ _ _ _) fun H8 k8 p8 => ?_
  rw [fl_putO] at p8
  walk_at "g"
  have rq : r3 ≠ q := (ne_of_none b.ob.choose_spec nr3).symm
  have lq : l5 ≠ q := (ne_of_none p4 nl5).symm
  have oq : o7 ≠ q := (ne_of_none p6 no7).symm
  have hr4 := k4.at1 rq hr3
  have hr6 := k6.at1 rq (k5.at0 hr4)
  have hl6 := k6.at1 lq hl5
  have k02 : Kp [q] H H2 := k1.all.trans k2
  have k04 : Kp [q] H H4 := k02.trans (k3.all.trans k4)
  have k06 : Kp [q] H H6 := k04.trans (k5.all.trans k6)
  have k08 : Kp [q] H H8 := k06.trans (k7.all.trans k8)
  refine g q r3 l5 o7 H8 nq (k02.free (by simpa using rq) nr3) (k04.free (by simpa using lq) nl5) (k06.free (by simpa using oq) no7) (k08.cut1 nq) ⟨⟨dx3, p8⟩, k8.at1 rq (k7.at0 hr6), k8.at1 lq (k7.at0 hl6), k8.at1 oq ho7, ?_, ?_, ?_, a.wf⟩
  · exact ne_of_none hr4 nl5
  · exact ne_of_none hr6 no7
  · exact ne_of_none hl6 no7
theorem len_play (K : PySem.W.Frag) : ∀ vs H Q E, sp_play K vs H Q E → vs.length = (["links", "log"] : List Str).length := by
  rintro vs H Q E ⟨_, _, _, _, _, _, _, rfl, _⟩
  rfl
theorem rd_play (T : Txt K mg) (vs : List V) (H : Hp) (Q : VK) (E : XK) (h : sp_play K vs H Q E) : t_play K E { nx := fun _ H' => Q .non H', rt := Q } (start ["links", "log", "after", "index", "operation"] vs) H := by
  obtain ⟨p, r, l, o, c, s, log, rfl, a, hs, g1, g2⟩ := h
  unfold t_play
  walk_at "g"
  refine w_me a no_m ?_
  walk_at "g"
  refine ⟨p, r, l, o, s, rfl, a, fun q r1 l1 o1 H1 nq nr nl no k1 b => ?_⟩
  walk_at "g"
  have hs1 := k1.sql (by simp) hs
  refine ⟨c, _, rfl, hs1, lp_enum (xs := log.map V.int) (fun i σ H' => (∃ u v, σ = [some (.ref p), some (.ref c), some (.ref q), u, v]) ∧ Leg s (log.take i) ∧ Kp [] H H' ∧ LinksAt K H' q r1 l1 o1 (runS s (log.take i))) ⟨⟨_, _, rfl⟩, ?_, k1, b⟩ ?_ ?_ ?_⟩
  · intro i op h
    simp at h
  · rintro i σ' H' hi ⟨_, _, k, _⟩
    exact k.sql (by simp) hs
  · rintro i x T σ' H' hx ⟨⟨u, v, rfl⟩, le, k, ls⟩ nT
    obtain ⟨op, hop, rfl⟩ := at_map hx
    have kT : Kp [] H' (upd H' T (.tup [.int (i : Int), .int op])) := Kp.new nT
    walk_at "g"
    have ls1 := ls.k0 kT
    refine w_me ls1 no_m ?_
    walk_at "g"
    refine ⟨q, r1, l1, o1, _, op, i, rfl, ls1, fun ok H2 k2 ls2 => ?_, fun bad => ?_⟩
    · walk_at "g"
      have e : log.take (i + 1) = log.take i ++ [op] := take_snoc hop
      refine ⟨⟨_, _, rfl⟩, ?_, ?_, ?_⟩
      · rw [e]
        exact le.snoc ok
      · exact ((k.trans kT).all.trans k2).cut (by simp [nr, nl, no])
      · rw [e, runS_snoc]
        exact ls2
    · rw [runS_n]
      exact g2 i op hop le bad _ (k.trans kT)
  · rintro σ' H' ⟨⟨u, v, rfl⟩, le, k, ls⟩
    rw [List.length_map, List.take_length] at le ls
    walk_at "g"
    exact g1 le q r1 l1 o1 H' nq nr nl no k ls
end
end G
set_option Elab.async false
set_option linter.all false
set_option maxRecDepth 100000
set_option maxHeartbeats 1000000
namespace G
--#FAM KV
open PySem PySem.Spec PyProof.Rows L2
local macro_rules
  | `(tactic| walk_at "1") => `(tactic| first
    | with_reducible refine w_seq ?_
    | with_reducible refine w_asg ?_
    | with_reducible refine w_asgS ?_
    | with_reducible refine w_asf ?_
    | with_reducible refine w_drop ?_
    | with_reducible refine w_ret ?_
    | with_reducible refine w_if ?_
    | with_reducible refine w_not ?_
    | with_reducible refine w_and ?_
    | with_reducible refine w_or ?_
    | with_reducible refine w_test ?_
    | with_reducible refine w_tb ?_
    | with_reducible refine w_chain ?_
    | with_reducible refine w_op ?_
    | with_reducible refine w_un ?_
    | with_reducible refine w_andV ?_
    | with_reducible refine w_orV ?_
    | with_reducible refine w_notV ?_
    | with_reducible refine w_ifE ?_
    | with_reducible refine w_cons ?_
    | with_reducible refine w_nil ?_
    | with_reducible refine w_cb ?_
    | with_reducible refine w_cl ?_
    | with_reducible refine w_mt ?_
    | with_reducible refine w_fld ?_
    | with_reducible refine w_tupN ?_
    | with_reducible refine w_lstN ?_
    | with_reducible refine w_bm ?_
    | with_reducible refine w_bm0 ?_
    | with_reducible refine w_for ?_
    | with_reducible refine w_lc ?_
    | with_reducible refine w_iR1 ?_
    | with_reducible refine w_iR2 ?_
    | with_reducible refine w_iL ?_
    | with_reducible refine w_iT ?_
    | with_reducible refine w_iE ?_
    | with_reducible refine w_iZ ?_
    | with_reducible refine w_var (by with_unfolding_all rfl) ?_
    | with_reducible refine w_c ?_
    | with_reducible refine w_next ?_
    | with_reducible refine w_i0 ?_
    | with_reducible refine w_u1 ?_
    | with_reducible refine w_addI ?_
    | with_reducible refine w_eqI ?_
    | with_reducible refine w_eqS ?_
    | with_reducible refine w_eqB ?_
    | with_reducible refine w_neI ?_
    | with_reducible refine w_neS ?_
    | with_reducible refine w_neB ?_
    | with_reducible refine w_abs ?_
    | with_reducible refine w_intI ?_
    | with_reducible refine w_min2 ?_
    | with_reducible refine w_max2 ?_
    | with_reducible refine w_isN0 ?_
    | with_reducible refine w_isN1 ref_ne ?_
    | with_reducible refine w_isN1 int_ne ?_
    | with_reducible refine w_notN0 ?_
    | with_reducible refine w_notN1 ref_ne ?_
    | with_reducible refine w_notN1 int_ne ?_
    | with_reducible refine w_ex1 ?_
    | with_reducible refine w_n1 ?_
    | with_reducible refine w_n2 ?_
    | with_reducible refine w_tT ?_
    | with_reducible refine w_tF ?_
    | with_reducible refine w_nT ?_
    | with_reducible refine w_nF ?_
    | with_reducible refine w_rz ?_
    | with_reducible refine w_mkN ?_
    | with_reducible refine w_lrgN ?_
    | with_reducible refine w_rg1 ?_
    | with_reducible refine w_rg2 ?_
    | with_reducible refine w_sl ?_
    | with_reducible refine w_np ?_
    | with_reducible refine w_pt ?_
    | with_reducible refine w_tr ?_
    | with_reducible refine w_gn ?_
    | with_reducible refine w_yes ?_
    | with_reducible refine w_m1 ?_
    | with_reducible refine w_asu ?_
    | with_reducible refine w_exS ?_
    | with_reducible refine w_iS ?_
    | with_reducible refine w_g1 ?_
    | with_reducible refine w_gc ?_
    | with_reducible refine w_gt (SqT.of upd_same) rfl ?_)
local macro_rules
  | `(tactic| walk_at "g") => `(tactic| repeat walk_at "1")
local macro_rules
  | `(tactic| walk_at "j1") => `(tactic| first
    | with_reducible refine w_seqI ?_
    | walk_at "1")
local macro_rules
  | `(tactic| walk_at "j") => `(tactic| repeat walk_at "j1")
section
variable {K : PySem.W.Frag} {mg : Str → Option Value}
theorem w_anyN {H : Hp} {Q : VK} {p : Addr} {bs : List Bool} (h : H p = some (.lst (bs.map V.bl))) (g : Q (.bl (bs.any id)) H) : rAny K [.ref p] H Q := ⟨p, bs, rfl, SqL.of h, g⟩
theorem len_replay (K : PySem.W.Frag) : ∀ vs H Q E, sp_replay K vs H Q E → vs.length = (["size", "log"] : List Str).length := by
  rintro vs H Q E ⟨_, _, _, rfl, _⟩
  rfl
theorem rd_replay (T : Txt K mg) (vs : List V) (H : Hp) (Q : VK) (E : XK) (h : sp_replay K vs H Q E) : t_replay K E { nx := fun _ H' => Q .non H', rt := Q } (start ["size", "log"] vs) H := by
  obtain ⟨c, size, log, rfl, hs, g1, g2, g3⟩ := h
  unfold t_replay
  walk_at "g"
  refine mk fun q dx H1 nq hq k1 => ?_
  refine ⟨q, dx, size, rfl, hq, fun ok r l o H2 nr nl no k2 b => ⟨rfl, ?_⟩, fun bad => g3 bad _ k1⟩
  have k02 : Kp [] H H2 := (k1.all.trans k2).cut1 nq
  walk_at "g"
  refine ⟨q, r, l, o, c, _, log, rfl, b, k02.sql (by simp) hs, fun le => ?_, ?_⟩
  · intro p' r' l' o' H3 n1 n2 n3 n4 k3 b3
    exact g1 ok le p' r' l' o' H3 (k02.free0 n1) (k02.free0 n2) (k02.free0 n3) (k02.free0 n4) (k02.trans k3) b3
  · intro i op hi le bad H3 k3
    exact g2 ok i op hi le bad H3 (k02.trans k3)
theorem forW_in {s : Sd} (w : Wf s) {v : Nat} (h1 : 1 ≤ v) (h2 : v ≤ s.n) : ∀ x ∈ forW s v, 0 ≤ x ∧ x ≤ s.n := by
  have a1 := w.lb v h1 (by omega)
  have a2 := w.rb v h2
  intro x hx
  unfold forW at hx
  rcases List.mem_append.mp hx with z | z
  · split at z
    · rw [List.mem_singleton.mp z]
      omega
    · cases z
  · split at z
    · rw [List.mem_singleton.mp z]
      omega
    · cases z
theorem len_left_to (K : PySem.W.Frag) : ∀ vs H Q E, sp17_left_to K vs H Q E → vs.length = (["operation", "gap"] : List Str).length := by
  rintro vs H Q E ⟨_, _, rfl, _⟩
  rfl
theorem rd_left_to (T : Txt K mg) (vs : List V) (H : Hp) (Q : VK) (E : XK) (h : sp17_left_to K vs H Q E) : t_left_to K E { nx := fun _ H' => Q .non H', rt := Q } (start ["operation", "gap"] vs) H := by
  obtain ⟨op, gp, rfl, g⟩ := h
  unfold t_left_to
  walk_at "g"
  rw [natAbs_if]
  unfold ltI at g
  refine w_iteD (fun c => ?_) (fun c => ?_)
  · walk_at "g"
    rw [if_pos c] at g
    exact g
  · walk_at "g"
    rw [if_neg c] at g
    exact g
theorem at_r {α : Type} {xs : List α} {i : Nat} {x : α} (h : xs[i]? = some x) : i < xs.length := (List.getElem?_eq_some_iff.mp h).1
theorem lsS_some (s s' : Sd) (k g : Nat) (x : Nat × Nat) : lsS s s' k g (some x) = some x := by
  unfold lsS
  rw [if_neg (fun z => by cases z.1)]
theorem lost_whole (n : Nat) : lostL (wholeS n) = [] := by
  cases e : lostL (wholeS n) with
  | nil => rfl
  | cons g r =>
    obtain ⟨g1, g2, _⟩ := lost_head e
    have g1 : g ≤ n := g1
    have r1 : gI (wholeS n).R g = (g : Int) + 1 := by
      show gI (rgI 1 (n + 1)) g = _
      rw [gI_range (by omega)]
      omega
    have l1 : gI (wholeS n).L (g + 1) = (g : Int) := by
      show gI (0 :: rgI 0 (n + 1)) (g + 1) = _
      show gI (rgI 0 (n + 1)) g = _
      rw [gI_range (by omega)]
      omega
    unfold stT at g2
    rw [if_pos r1, if_pos l1] at g2
    exact absurd g2 (by decide +kernel)
theorem Leg.init {s : Sd} {l : List Int} {x : Int} (h : Leg s (l ++ [x])) : Leg s l ∧ OkOp (runS s l) x := by
  constructor
  · have := h.take l.length
    rwa [List.take_left' rfl] at this
  · have := h l.length x (by simp)
    rwa [List.take_left' rfl] at this
theorem ls_none {n : Nat} (hn : n ≤ 60) : ∀ {log : List Int}, Leg (wholeS n) log → (bkR n log).ls = none → lostL (runS (wholeS n) log) = [] := by
  intro log
  induction log using snoc_ind with
  | h0 => exact fun _ _ => lost_whole n
  | h1 l x ih =>
    intro h e
    obtain ⟨hl, ok⟩ := h.init
    have w := hl.wf (.whole hn)
    have wS := w.step ok.1
    rw [bkR_snoc] at e
    have e : lsS (bkR n l).s (stepS (bkR n l).s x) (bkR n l).k (hiN (bkR n l).s x) (lsS (bkR n l).s (stepS (bkR n l).s x) (bkR n l).k (lowN (bkR n l).s x) (bkR n l).ls) = none := e
    cases e0 : (bkR n l).ls with
    | some y =>
      rw [e0, lsS_some, lsS_some] at e
      cases e
    | none =>
      rw [e0, bkR_s, ls_step w ok.1 _ (ih hl e0)] at e
      rw [runS_snoc]
      cases e1 : lostL (stepS (runS (wholeS n) l) x) with
      | nil => rfl
      | cons g r => rw [e1] at e; cases e
theorem ls_snoc {n : Nat} (hn : n ≤ 60) {l : List Int} {x : Int} (h : Leg (wholeS n) l) (ok : OkOp (runS (wholeS n) l) x) : (bkR n (l ++ [x])).ls = match (bkR n l).ls with
    | some y => some y
    | none => (lostL (stepS (runS (wholeS n) l) x)).head?.map fun g => (l.length, g) := by
  have w := h.wf (.whole hn)
  rw [bkR_snoc]
  show lsS (bkR n l).s (stepS (bkR n l).s x) (bkR n l).k (hiN (bkR n l).s x) (lsS (bkR n l).s (stepS (bkR n l).s x) (bkR n l).k (lowN (bkR n l).s x) (bkR n l).ls) = _
  cases e0 : (bkR n l).ls with
  | some y => rw [lsS_some, lsS_some]
  | none => rw [bkR_s, ls_step w ok.1 _ (ls_none hn h e0), bkR_k]
theorem OptP.kp {H H' : Hp} {v : V} {p : Option (Nat × Nat)} (h : OptP H v p) (k : Kp [] H H') : OptP H' v p := by
  cases p with
  | none => exact h
  | some x =>
    obtain ⟨t, e, ht⟩ := h
    exact ⟨t, e, k.at0 ht⟩
/-- rows of numbers, each at its own place -/
structure RowsAt8 (H0 H : Hp) (rs : List Addr) (f : Nat → List Int) : Prop where
  nd : rs.Nodup
  at_ : ∀ g a, rs[g]? = some a → H a = some (.lst ((f g).map V.int))
  fr : ∀ a ∈ rs, H0 a = none
theorem RowsAt8.congr {H0 H : Hp} {rs : List Addr} {f f' : Nat → List Int} (r : RowsAt8 H0 H rs f) (e : ∀ g, g < rs.length → f' g = f g) : RowsAt8 H0 H rs f' := ⟨r.nd, fun g a h => by rw [e g (List.getElem?_eq_some_iff.mp h).1]; exact r.at_ g a h, r.fr⟩
theorem RowsAt8.kp {H0 H H' : Hp} {S : List Addr} {rs : List Addr} {f : Nat → List Int} (r : RowsAt8 H0 H rs f) (k : Kp S H H') (h : ∀ a ∈ rs, a ∉ S) : RowsAt8 H0 H' rs f := ⟨r.nd, fun g a e => k _ _ (h a (List.mem_of_getElem? e)) (r.at_ g a e), r.fr⟩
theorem RowsAt8.k0 {H0 H H' : Hp} {rs : List Addr} {f : Nat → List Int} (r : RowsAt8 H0 H rs f) (k : Kp [] H H') : RowsAt8 H0 H' rs f := r.kp k (fun _ _ => by simp)
theorem RowsAt8.put {H0 H H' : Hp} {rs : List Addr} {f f' : Nat → List Int} {g : Nat} {a : Addr} (r : RowsAt8 H0 H rs f) (hg : rs[g]? = some a) (k : Kp [a] H H') (h : H' a = some (.lst ((f' g).map V.int))) (e : ∀ j, j ≠ g → f' j = f j) : RowsAt8 H0 H' rs f' := by
  refine ⟨r.nd, fun j b hb => ?_, r.fr⟩
  by_cases c : j = g
  · subst c
    rw [hg] at hb
    injection hb with hb
    rw [← hb]
    exact h
  · rw [e j c]
    refine k.at1 ?_ (r.at_ j b hb)
    rintro rfl
    obtain ⟨l1, e1⟩ := List.getElem?_eq_some_iff.mp hb
    obtain ⟨l2, e2⟩ := List.getElem?_eq_some_iff.mp hg
    have nd := List.pairwise_iff_getElem.mp r.nd
    rcases Nat.lt_trichotomy j g with z | z | z
    · exact nd j g l1 l2 z (e1.trans e2.symm)
    · exact c z
    · exact nd g j l2 l1 z (e2.trans e1.symm)
theorem nodup_snoc {rs : List Addr} {x : Addr} (nd : rs.Nodup) (h : x ∉ rs) : (rs ++ [x]).Nodup := by
  rw [List.nodup_append]
  refine ⟨nd, by simp, fun a ha b hb => ?_⟩
  rw [List.mem_singleton] at hb
  rintro rfl
  exact h (hb ▸ ha)
theorem at_neg8 {l : List Int} {j : Nat} (h1 : 1 ≤ j) (h : j ≤ l.length) : atI (l.map V.int) (-(j : Int)) = some (.int (gI l (l.length - j))) := by
  unfold atI ixN
  rw [List.length_map, if_neg (by omega), if_pos (by omega)]
  show (l.map V.int)[(-(j : Int) + (l.length : Int)).toNat]? = _
  rw [show (-(j : Int) + (l.length : Int)).toNat = l.length - j by omega, List.getElem?_map, gI_at (by omega)] <;> rfl
theorem at_r8 {m k : Nat} {f : Nat → V} (h : k < m) : atI ((List.range m).map f) (k : Int) = some (f k) := by
  rw [atI_pos (by omega) (by rw [List.length_map, List.length_range]; omega), Int.toNat_natCast, List.getElem?_map, List.getElem?_range h] <;> rfl
theorem at_rs {rs : List Addr} {k : Nat} {a : Addr} (h : rs[k]? = some a) : atI (rs.map V.ref) (k : Int) = some (.ref a) := by
  have l := (List.getElem?_eq_some_iff.mp h).1
  rw [atI_pos (by omega) (by rw [List.length_map]; omega), Int.toNat_natCast, List.getElem?_map, h] <;> rfl
theorem CPs.put {H H' : Hp} {D : Addr} {acc : List V} {es : List Ct} {xs : List V} (h : CPs H acc es) (hD : H D = some (.lst xs)) (k : Kp [D] H H') : CPs H' acc es := h.kp k fun b hb ys e => by
  rw [List.mem_singleton] at hb
  subst hb
  rw [hD] at e
  cases e
def mixC (n : Nat) (log : List Int) (i k g : Nat) : List Int := if g < k then chL n log g (i + 1) else chL n log g i
theorem mixC_self (n : Nat) (log : List Int) (i k : Nat) : mixC n log i k k = chL n log k i := if_neg (by omega)
theorem mixC_next (n : Nat) (log : List Int) (i k : Nat) : mixC n log i (k + 1) k = chL n log k (i + 1) := if_pos (by omega)
theorem mixC_ne (n : Nat) (log : List Int) (i k : Nat) {j : Nat} (h : j ≠ k) : mixC n log i (k + 1) j = mixC n log i k j := by
  unfold mixC
  by_cases c : j < k
  · rw [if_pos c, if_pos (by omega)]
  · rw [if_neg c, if_neg (by omega)]
theorem cp_mutE {σ : L2.St} {H : Hp} {Q : VK} {te : TE} {tt : TT} {g : TG} {vs : List Nat} {a : Addr} {xs : List V} (Pv : Addr → Nat → List V → Hp → Prop) (hn : xs.length < sizeLine)
    (h0 : ∀ D H', H D = none → Kp [] H H' → H' D = some (.lst []) → Pv D 0 [] H')
    (hl : ∀ D i acc H', H D = none → Pv D i acc H' → SqL K H' a xs)
    (hs : ∀ (D : Addr) (i : Nat) (x : V) (acc : List V) (T : Addr) (H' : Hp) (S : V → Hp → Prop) (N : Hp → Prop), H D = none → xs[i]? = some x → H' D = some (.lst acc) → Pv D i acc H' → H' T = none →
      (∀ y H4, H4 D = some (.lst acc) → (∀ H5, Kp [D] H4 H5 → H5 D = some (.lst (acc ++ [y])) → Pv D (i + 1) (acc ++ [y]) H5) → S y H4) → (∀ H4, H4 D = some (.lst acc) → Pv D (i + 1) acc H4 → N H4) →
      g (.ref T) (wipe σ vs) (upd H' T (.tup [.int (i : Int), x])) fun σ2 H2 => wipe σ2 vs = wipe σ vs ∧ tt σ2 H2 fun b H3 => if b = true then te σ2 H3 S else N H3)
    (hd : ∀ D acc H', H D = none → H' D = some (.lst acc) → acc.length ≤ xs.length → Pv D xs.length acc H' → Q (.ref D) H') : CompG (Ite K a) g tt te vs σ Q H := by
  intro D nD
  refine ⟨fun i m H' => m = xs.length - i ∧ i ≤ xs.length ∧ ∃ acc, acc.length ≤ i ∧ H' D = some (.lst acc) ∧ Pv D i acc H', ⟨xs.length, by simp, Nat.zero_le _, [], Nat.le_refl _, upd_same, h0 D _ nD (Kp.new nD) upd_same⟩, ?_⟩
  rintro i m H' ⟨rfl, hi, acc, la, e, p⟩
  have q := hl D i acc H' nD p
  by_cases lt : i < xs.length
  · refine .inr ⟨⟨xs, xs[i], q, by simp [lt]⟩, fun H'' => ∃ acc, acc.length ≤ i + 1 ∧ H'' D = some (.lst acc) ∧ Pv D (i + 1) acc H'', fun H'' p => ⟨xs.length - (i + 1), by omega, rfl, lt, p⟩, fun v H'' y => ?_⟩
    obtain ⟨T, x, rfl, nT, rfl, hx⟩ := y
    refine hs D i x acc T _ _ _ nD (hx xs q) e p nT (fun y H4 h4 k4 => ⟨acc, h4, by omega, acc ++ [y], by rw [List.length_append]; show acc.length + 1 ≤ _; omega, upd_same, k4 _ (Kp.put (by simp)) upd_same⟩) (fun H4 h4 k4 => ⟨acc, by omega, h4, k4⟩)
  · have ei : i = xs.length := by omega
    subst ei
    exact .inl ⟨⟨xs, q, Nat.le_refl _⟩, hd D acc H' nD e la p⟩
theorem cerD_tu {d : PyData} (h : isTu d = false) (es : List Ct) : cerD d es = false := by
  cases d with
  | tuple ds => cases h
  | _ => rfl
theorem tripD_len {ds : List PyData} (h : ¬ ds.length = 3) : tripD (.tuple ds) = false := by
  match ds, h with
  | [], _ => rfl
  | [_], _ => rfl
  | [_, _], _ => rfl
  | [_, _, _], h => exact absurd rfl h
  | _ :: _ :: _ :: _ :: _, _ => rfl
theorem VlA.len {b : Addr} {H : Hp} : ∀ {xs : List V} {ds : List PyData}, VlA b H xs ds → xs.length = ds.length
  | _, _, .nil => rfl
  | _, _, .cons h1 h2 => by rw [List.length_cons, List.length_cons, VlA.len h2]
theorem all3 (a b c : Bool) : [a, b, c].all id = (a && (b && c)) := by
  cases a <;> cases b <;> cases c <;> rfl
theorem LB.wf {H : Hp} {w l r g : Addr} {n : Nat} {log : List Int} (a : LB H w l r g n log) : Wf (runS (wholeS n) log) := Leg.wf (.whole a.n60) a.le
theorem w_isiT {H : Hp} {Q : VK} {a : Addr} {xs : List V} {t : String} {r : Bool} (e : H a = some (.tup xs)) (h : kitB "tuple" t = some r) (g : Q (.bl r) H) : rIsi K [.ref a, .ty t] H Q := ⟨_, _, _, _, r, rfl, .ty t, .base (.tup e), kit_ty h, g⟩
theorem eqvI : ∀ xs ys : List Int, PyData.eqvAll (xs.map PyData.int) (ys.map PyData.int) = decide (xs = ys)
  | [], [] => by simp [PyData.eqvAll]
  | [], y :: ys => by simp [PyData.eqvAll]
  | x :: xs, [] => by simp [PyData.eqvAll]
  | x :: xs, y :: ys => by
    show PyData.eqvAll (PyData.int x :: xs.map PyData.int) (PyData.int y :: ys.map PyData.int) = _
    rw [PyData.eqvAll, eqvI xs ys, PyData.eqv]
    by_cases h : x = y <;> by_cases h2 : xs = ys <;> simp [h, h2]
theorem len_Links___str__ (K : PySem.W.Frag) : ∀ vs H Q E, sp02_Links___str__ K vs H Q E → vs.length = (["self"] : List Str).length := by
  rintro vs H Q E ⟨_, _, _, _, _, rfl, _⟩
  rfl
theorem rd_Links___str__ (T : Txt K mg) (vs : List V) (H : Hp) (Q : VK) (E : XK) (h : sp02_Links___str__ K vs H Q E) : t_Links___str__ K E { nx := fun _ H' => Q .non H', rt := Q } (start ["self"] vs) H := by
  obtain ⟨p, r, l, o, s, rfl, a, g⟩ := h
  unfold t_Links___str__
  walk_at "g"
  refine w_me a no_m ?_
  refine ⟨p, r, l, o, s, rfl, a, fun H1 k1 => ?_⟩
  exact w_strS (g H1 k1)
end
end G
set_option Elab.async false
set_option linter.all false
set_option maxRecDepth 100000
set_option maxHeartbeats 1000000
namespace G
--#FAM KV
open PySem PySem.Spec PyProof.Rows L2
local macro_rules
  | `(tactic| walk_at "1") => `(tactic| first
    | with_reducible refine w_seq ?_
    | with_reducible refine w_asg ?_
    | with_reducible refine w_asgS ?_
    | with_reducible refine w_asf ?_
    | with_reducible refine w_drop ?_
    | with_reducible refine w_ret ?_
    | with_reducible refine w_if ?_
    | with_reducible refine w_not ?_
    | with_reducible refine w_and ?_
    | with_reducible refine w_or ?_
    | with_reducible refine w_test ?_
    | with_reducible refine w_tb ?_
    | with_reducible refine w_chain ?_
    | with_reducible refine w_op ?_
    | with_reducible refine w_un ?_
    | with_reducible refine w_andV ?_
    | with_reducible refine w_orV ?_
    | with_reducible refine w_notV ?_
    | with_reducible refine w_ifE ?_
    | with_reducible refine w_cons ?_
    | with_reducible refine w_nil ?_
    | with_reducible refine w_cb ?_
    | with_reducible refine w_cl ?_
    | with_reducible refine w_mt ?_
    | with_reducible refine w_fld ?_
    | with_reducible refine w_tupN ?_
    | with_reducible refine w_lstN ?_
    | with_reducible refine w_bm ?_
    | with_reducible refine w_bm0 ?_
    | with_reducible refine w_for ?_
    | with_reducible refine w_lc ?_
    | with_reducible refine w_iR1 ?_
    | with_reducible refine w_iR2 ?_
    | with_reducible refine w_iL ?_
    | with_reducible refine w_iT ?_
    | with_reducible refine w_iE ?_
    | with_reducible refine w_iZ ?_
    | with_reducible refine w_var (by with_unfolding_all rfl) ?_
    | with_reducible refine w_c ?_
    | with_reducible refine w_next ?_
    | with_reducible refine w_i0 ?_
    | with_reducible refine w_u1 ?_
    | with_reducible refine w_addI ?_
    | with_reducible refine w_eqI ?_
    | with_reducible refine w_eqS ?_
    | with_reducible refine w_eqB ?_
    | with_reducible refine w_neI ?_
    | with_reducible refine w_neS ?_
    | with_reducible refine w_neB ?_
    | with_reducible refine w_abs ?_
    | with_reducible refine w_intI ?_
    | with_reducible refine w_min2 ?_
    | with_reducible refine w_max2 ?_
    | with_reducible refine w_isN0 ?_
    | with_reducible refine w_isN1 ref_ne ?_
    | with_reducible refine w_isN1 int_ne ?_
    | with_reducible refine w_notN0 ?_
    | with_reducible refine w_notN1 ref_ne ?_
    | with_reducible refine w_notN1 int_ne ?_
    | with_reducible refine w_ex1 ?_
    | with_reducible refine w_n1 ?_
    | with_reducible refine w_n2 ?_
    | with_reducible refine w_tT ?_
    | with_reducible refine w_tF ?_
    | with_reducible refine w_nT ?_
    | with_reducible refine w_nF ?_
    | with_reducible refine w_rz ?_
    | with_reducible refine w_mkN ?_
    | with_reducible refine w_lrgN ?_
    | with_reducible refine w_rg1 ?_
    | with_reducible refine w_rg2 ?_
    | with_reducible refine w_sl ?_
    | with_reducible refine w_np ?_
    | with_reducible refine w_pt ?_
    | with_reducible refine w_tr ?_
    | with_reducible refine w_gn ?_
    | with_reducible refine w_yes ?_
    | with_reducible refine w_m1 ?_
    | with_reducible refine w_asu ?_
    | with_reducible refine w_exS ?_
    | with_reducible refine w_iS ?_
    | with_reducible refine w_g1 ?_
    | with_reducible refine w_gc ?_
    | with_reducible refine w_gt (SqT.of upd_same) rfl ?_)
local macro_rules
  | `(tactic| walk_at "g") => `(tactic| repeat walk_at "1")
local macro_rules
  | `(tactic| walk_at "j1") => `(tactic| first
    | with_reducible refine w_seqI ?_
    | walk_at "1")
local macro_rules
  | `(tactic| walk_at "j") => `(tactic| repeat walk_at "j1")
section
variable {K : PySem.W.Frag} {mg : Str → Option Value}
theorem cmulR8 {i j : Int} (h1 : -(2 ^ 64) < j) (h2 : j < 2 ^ 64) : CMul i j := .inr ⟨h1, h2⟩
theorem at_B8 {l : List Bool} {i : Int} (h0 : 0 ≤ i) (h1 : i < (l.length : Int)) : atI (l.map V.bl) i = some (.bl (gB l i.toNat)) := by
  rw [atI_pos h0 (by rw [List.length_map]; exact h1), List.getElem?_map, gB_at (by omega)] <;> rfl
theorem at_S8 {f : Nat → Str} {m : Nat} {i : Int} (h0 : 0 ≤ i) (h1 : i < (m : Int)) : atI ((List.range m).map fun (v : Nat) => V.str (f v)) i = some (.str (f i.toNat)) := by
  rw [atI_pos h0 (by rw [List.length_map, List.length_range]; exact h1), List.getElem?_map, List.getElem?_range (by omega)] <;> rfl
theorem len__law_box (K : PySem.W.Frag) : ∀ vs H Q E, sp48__law_box K vs H Q E → vs.length = (["script", "start"] : List Str).length := by
  rintro vs H Q E ⟨_, _, _, rfl, _⟩
  rfl
theorem rd__law_box (T : Txt K mg) (vs : List V) (H : Hp) (Q : VK) (E : XK) (h : sp48__law_box K vs H Q E) : t__law_box K E { nx := fun _ H' => Q .non H', rt := Q } (start ["script", "start", "cells", "seed", "cell"] vs) H := by
  obtain ⟨a, st, ns, rfl, hs, hl, g⟩ := h
  unfold t__law_box
  have e63 : cutV (ns.map V.int) none (some 63) = ns.map V.int := by
    unfold cutV
    have : HT.sIx (ns.map V.int).length (ns.map V.int).length (some 63) = (ns.map V.int).length := by
      rw [show (63 : Int) = ((63 : Nat) : Int) from rfl, HT.sIx_nat]
      rw [List.length_map]
      omega
    rw [this, HT.sIx_none, List.drop_zero, Nat.sub_zero, List.take_length]
  walk_at "g"
  refine w_slL hs fun q H1 nq k1 hq => ?_
  rw [e63] at hq
  walk_at "g"
  refine w_l1 (SqL.of hq) ?_
  refine lp_lst (xs := ns.map V.int) (fun i σ H' => H' = H1 ∧ ∃ (s : Int) (x : Option V), σ = [some (.ref a), some (.int st), some (.ref q), some (.int s), x]) ⟨rfl, _, _, rfl⟩ ?_ ?_ ?_
  · rintro i σ' H' hi ⟨rfl, _⟩
    exact SqL.of hq
  · rintro i x σ' H' hx ⟨rfl, s, x2, rfl⟩
    obtain ⟨c, hc, rfl⟩ := at_map hx
    walk_at "g"
    refine w_mulI (cmulR8 (by omega) (by omega)) ?_
    walk_at "g"
    refine w_ic (by omega) ?_
    walk_at "g"
    refine w_ic (by omega) ?_
    walk_at "g"
    exact ⟨rfl, _, _, rfl⟩
  · rintro σ' H' ⟨eH, s, x2, rfl⟩
    obtain rfl : H1 = H' := eH.symm
    walk_at "g"
    refine w_l1 (SqL.of hq) ?_
    refine cp_lst (SqL.of hq) (fun j => ((ns.take j).filter fun x => decide ((10 : Int) ^ (18 : Int).toNat ≤ x)).map V.int) (fun j hj => sz_lt (by
      rw [List.length_map]
      have := List.length_filter_le (fun x => decide ((10 : Int) ^ (18 : Int).toNat ≤ x)) (ns.take j)
      rw [List.length_take] at this
      omega)) rfl (fun j x H' S N hx kk yes no => ?_) (fun c H2 nc k2 hc => ?_)
    · obtain ⟨v, hv, rfl⟩ := at_map hx
      walk_at "g"
      refine ⟨rfl, ?_⟩
      walk_at "g"
      refine w_ic ⟨by omega, by omega, by decide⟩ ?_
      walk_at "g"
      refine w_iteD (fun cc => ?_) (fun cc => ?_)
      · walk_at "g"
        refine yes _ _ (Kp.refl _ _) ?_
        rw [take_snoc hv, List.filter_append, List.filter_cons_of_pos (by exact decide_eq_true cc), List.map_append] <;> rfl
      · refine no _ (Kp.refl _ _) ?_
        rw [take_snoc hv, List.filter_append, List.filter_cons_of_neg (by rw [decide_eq_false cc]; exact Bool.false_ne_true), List.filter_nil, List.append_nil]
    rw [List.length_map, List.take_length] at hc
    walk_at "g"
    refine ⟨sz_ok (by show 4 ≤ 1000000; omega), G.nw fun b H3 nb k3 hb => ?_⟩
    refine g b c H3 ((k1.trans k2).free0 nb) (k1.free0 nc) ((k1.trans k2).trans k3) ⟨_, _, _, _, hb, k3.at0 hc, ?_, Int.le_refl _, by omega⟩
    exact Nat.le_trans (List.length_filter_le _ _) hl
theorem len__law_draw (K : PySem.W.Frag) : ∀ vs H Q E, sp48__law_draw K vs H Q E → vs.length = (["box", "many"] : List Str).length := by
  rintro vs H Q E ⟨_, _, _, _, rfl, _⟩
  rfl
theorem rd__law_draw (T : Txt K mg) (vs : List V) (H : Hp) (Q : VK) (E : XK) (h : sp48__law_draw K vs H Q E) : t__law_draw K E { nx := fun _ H' => Q .non H', rt := Q } (start ["box", "many", "cell", "rest"] vs) H := by
  obtain ⟨N, b, c, many, rfl, hN, hm, hm2, bx, g⟩ := h
  unfold t__law_draw
  have bc := bx.ne
  obtain ⟨x, y, z, ns, hb, hc, lns, z0, z1⟩ := bx.ob
  walk_at "g"
  refine w_ixL (SqL.of hb) at_0 ?_
  walk_at "g"
  refine w_truL (SqL.of hc) ?_
  match ns, hc, lns with
  | [], hc, lns =>
    refine w_nF ?_
    walk_at "g"
    refine w_ixL (SqL.of hb) (i := 3) (v := .int z) rfl ?_
    walk_at "g"
    refine w_seT hb (n := 3) rfl fun H1 k1 h1 => ?_
    walk_at "g"
    refine w_ixL (SqL.of h1) (i := 2) (v := .int y) rfl ?_
    walk_at "g"
    refine w_mulI (cmulR8 (by omega) (by omega)) ?_
    walk_at "g"
    refine w_ixL (SqL.of h1) (i := 3) (v := .int (z + 1)) rfl ?_
    walk_at "g"
    refine w_mulI (cmulR8 (by omega) (by omega)) ?_
    walk_at "g"
    refine w_ic (by omega) ?_
    walk_at "g"
    refine w_seT h1 (n := 2) rfl fun H2 k2 h2 => ?_
    generalize (y * 48271 + (z + 1) * 9973 + 1) % 2147483647 = y' at h2
    walk_at "g"
    refine w_ixL (SqL.of h2) (i := 2) (v := .int y') rfl ?_
    walk_at "g"
    refine w_ic ⟨by omega, by omega⟩ ?_
    walk_at "g"
    refine w_mulI (cmulR8 (by omega) (by omega)) ?_
    walk_at "g"
    refine w_ixL (SqL.of h2) (i := 3) (v := .int (z + 1)) rfl ?_
    walk_at "g"
    refine w_ixL (SqL.of h2) (i := 3) (v := .int (z + 1)) rfl ?_
    walk_at "g"
    refine w_mulI (cmulR8 (by omega) (by omega)) ?_
    walk_at "g"
    refine w_ic (by omega) ?_
    walk_at "g"
    refine w_ic ⟨by omega, by omega⟩ ?_
    walk_at "g"
    refine w_ic hm ?_
    exact g _ c H2 (Int.emod_nonneg _ (by omega)) (Int.emod_lt_of_pos _ hm) (.inl rfl) (k1.trans k2) ⟨x, y', z + 1, [], h2, k2.at1 (Ne.symm bc) (k1.at1 (Ne.symm bc) hc), Nat.zero_le _, by omega, by omega⟩
  | cell :: more, hc, lns =>
    rw [List.length_cons] at lns
    refine w_nT ?_
    walk_at "g"
    refine w_ixL (SqL.of hb) at_0 ?_
    walk_at "g"
    refine w_ixL (SqL.of hc) at_0 ?_
    walk_at "g"
    refine w_ic ⟨hm, by omega⟩ ?_
    generalize cell / many = rest
    walk_at "g"
    refine w_ixL (SqL.of hb) (i := 1) (v := .int x) rfl ?_
    walk_at "g"
    refine w_seT hb (n := 1) rfl fun H1 k1 h1 => ?_
    have hc1 := k1.at1 (Ne.symm bc) hc
    walk_at "j"
    have fin : ∀ (x' : Int) (ms : List Int) (c' : Addr) (H2 : Hp), Nx8 H c c' → Kp [b] H H2 → H2 b = some (.lst [.ref c', .int x', .int y, .int z]) → H2 c' = some (.lst (ms.map V.int)) → ms.length ≤ 63 →
        Q (.int (cell % many)) H2 := fun x' ms c' H2 nx k2 h2 hc2 lm =>
      g _ c' H2 (Int.emod_nonneg _ (by omega)) (Int.emod_lt_of_pos _ hm) nx k2 ⟨x', y, z, ms, h2, hc2, lm, z0, by omega⟩
    have cutm : cutV ((cell :: more).map V.int) (some 1) none = more.map V.int := by
      unfold cutV
      rw [HT.sIx_none, show (1 : Int) = ((1 : Nat) : Int) from rfl, HT.sIx_nat]
      have : min 1 ((cell :: more).map V.int).length = 1 := by
        rw [List.length_map, List.length_cons]
        omega
      rw [this]
      show ((more.map V.int).take _) = _
      rw [List.take_of_length_le (by rw [List.length_map, List.length_map, List.length_cons]; omega)]
    refine w_ifJ (fun σ' H' => σ' = [some (.ref b), some (.int many), some (.int cell), some (.int rest)] ∧ Kp [b] H H' ∧ ∃ (x' : Int) (ms : List Int) (c' : Addr), Nx8 H c c' ∧ H' b = some (.lst [.ref c', .int x', .int y, .int z]) ∧ H' c' = some (.lst (ms.map V.int)) ∧ ms.length ≤ 63) (fun N hN => ?_) (fun σ' H2 ⟨es, k2, x', ms, c', nx, h2, hc2, lm⟩ => ?_)
    · have cutit : ∀ D2 : Ends, D2.nx = N → tSeq (tAsg (tSl (rSlL K) (tOp (rIx K) (tVar 0) (tC (.int 0))) (tPart (tC (.int 1))) (tNoPart)) (gSub (tVar 0) (tC (.int 0)) rSetL)) (tAsg (tC (.int 0)) (gSub (tVar 0) (tC (.int 1)) rSetL)) D2 [some (.ref b), some (.int many), some (.int cell), some (.int rest)] H1 := by
        intro D2 eD
        walk_at "g"
        refine w_ixL (SqL.of h1) at_0 ?_
        walk_at "g"
        refine w_slL (SqL.of hc1) fun q H2 nq k2 hq => ?_
        rw [cutm] at hq
        have bq : b ≠ q := ne_of_none h1 nq
        walk_at "g"
        refine w_seT (k2.at0 h1) (n := 0) rfl fun H3 k3 h3 => ?_
        walk_at "g"
        refine w_seT h3 (n := 1) rfl fun H4 k4 h4 => ?_
        rw [eD]
        exact hN _ _ ⟨rfl, k1.trans (k2.all.trans (k3.trans k4)), 0, more, q, .inr (k1.free (by simpa using Ne.symm bq) nq), h4, k4.at1 (Ne.symm bq) (k3.at1 (Ne.symm bq) hq), by omega⟩
      walk_at "g"
      refine w_iteD (fun c1 => ?_) (fun c1 => ?_)
      · exact cutit _ rfl
      · walk_at "g"
        refine w_ixL (SqL.of h1) (i := 1) (v := .int (x + 1)) rfl ?_
        walk_at "g"
        refine w_iteD (fun c2 => ?_) (fun c2 => ?_)
        · exact cutit _ rfl
        · walk_at "g"
          refine ⟨sz_ok (by show 1 ≤ 1000000; omega), G.nw fun p H2 np k2 hp => ?_⟩
          have hp' : H2 p = some (.lst ([rest].map V.int)) := hp
          walk_at "g"
          refine w_ixL (SqL.of (k2.at0 h1)) at_0 ?_
          walk_at "g"
          refine w_slL (SqL.of (k2.at0 hc1)) fun q H3 nq k3 hq => ?_
          rw [cutm] at hq
          walk_at "g"
          refine w_addLN (k3.at0 hp') hq (sz_ok (by rw [List.length_map, List.length_map]; show 1 + _ ≤ _; omega)) fun u H4 nu k4 hu => ?_
          rw [← List.map_append] at hu
          have h4 := k4.at0 (k3.at0 (k2.at0 h1))
          have bu : b ≠ u := ne_of_none (k3.at0 (k2.at0 h1)) nu
          walk_at "g"
          refine w_seT h4 (n := 0) rfl fun H5 k5 h5 => ?_
          exact hN _ _ ⟨rfl, k1.trans (k2.all.trans (k3.all.trans (k4.all.trans k5))), x + 1, [rest] ++ more, u, .inr (k1.free (by simpa using Ne.symm bu) ((k2.trans k3).free0 nu)), h5, k5.at1 (Ne.symm bu) hu, by show (rest :: more).length ≤ 63; rw [List.length_cons]; omega⟩
    subst es
    walk_at "g"
    refine w_ic hm ?_
    exact fin x' ms c' H2 nx k2 h2 hc2 lm
theorem never__law_same {K : PySem.W.Frag} {vs : List V} {H : Hp} {Q : VK} {E : XK} (h : sp48_same 0 K vs H Q E) : False := by
  obtain ⟨_, _, _, h, _⟩ := h
  exact h
theorem isi_at {H : Hp} {Q : VK} {x : V} {k t : String} {r : Bool} (hx : (x = .non ∧ k = "NoneType") ∨ (∃ b, x = .bl b ∧ k = "bool") ∨ (∃ i, x = .int i ∧ k = "int") ∨ (∃ s, x = .str s ∧ k = "str")) (h : kitB k t = some r) (g : Q (.bl r) H) : rIsi K [x, .ty t] H Q := by
  rcases hx with ⟨rfl, rfl⟩ | ⟨b, rfl, rfl⟩ | ⟨i, rfl, rfl⟩ | ⟨s, rfl, rfl⟩
  · exact ⟨_, _, _, _, r, rfl, .ty t, .base .non, kit_ty h, g⟩
  · exact ⟨_, _, _, _, r, rfl, .ty t, .base (.bl b), kit_ty h, g⟩
  · exact ⟨_, _, _, _, r, rfl, .ty t, .base (.int i), kit_ty h, g⟩
  · exact ⟨_, _, _, _, r, rfl, .ty t, .base (.str s), kit_ty h, g⟩
theorem rg_snoc8 (a : Int) (i : Nat) : (rgI a (i + 1)).map V.int = (rgI a i).map V.int ++ [V.int (a + (i : Int))] := by
  unfold rgI
  rw [List.range_succ, List.map_append, List.map_append] <;> rfl
theorem whole_L8 (n : Nat) : (-1 : Int) :: (wholeS n).L.tail = rgI (-1) (n + 2) := by
  show (-1 : Int) :: rgI 0 (n + 1) = _
  refine List.ext_getElem? fun i => ?_
  cases i with
  | zero =>
    rw [List.getElem?_cons_zero]
    unfold rgI
    rw [List.getElem?_map, List.getElem?_range (by omega)] <;> rfl
  | succ i =>
    rw [List.getElem?_cons_succ]
    unfold rgI
    rw [List.getElem?_map, List.getElem?_map]
    by_cases c : i < n + 1
    · rw [List.getElem?_range c, List.getElem?_range (by omega)]
      show some ((0 : Int) + (i : Int)) = some (-1 + ((i + 1 : Nat) : Int))
      congr 1
      omega
    · rw [List.getElem?_eq_none (by rw [List.length_range]; omega), List.getElem?_eq_none (by rw [List.length_range]; omega)] <;> rfl
theorem set_B8 {l : List Bool} {i : Nat} {b : Bool} : (l.map V.bl).set i (V.bl b) = (l.set i b).map V.bl := (List.map_set (f := V.bl)).symm
theorem set_I8 {l : List Int} {i : Nat} {b : Int} : (l.map V.int).set i (V.int b) = (l.set i b).map V.int := (List.map_set (f := V.int)).symm
theorem len__law_start (K : PySem.W.Frag) : ∀ vs H Q E, sp48__law_start K vs H Q E → vs.length = (["many"] : List Str).length := by
  rintro vs H Q E ⟨_, rfl, _⟩
  rfl
theorem rd__law_start (T : Txt K mg) (vs : List V) (H : Hp) (Q : VK) (E : XK) (h : sp48__law_start K vs H Q E) : t__law_start K E { nx := fun _ H' => Q .non H', rt := Q } (start ["many", "v"] vs) H := by
  obtain ⟨n, rfl, hn, g⟩ := h
  unfold t__law_start
  walk_at "g"
  refine w_r1 (by omega) ?_
  refine cp_rng (fun i => (rgI 1 i).map V.int) (fun i hi => sz_lt (by rw [List.length_map, rgI_len]; omega)) rfl (fun i H' S N hi k y _ => ?_) (fun r H1 nr k1 hr => ?_)
  · walk_at "g"
    refine ⟨rfl, ?_⟩
    walk_at "g"
    refine y _ _ (Kp.refl _ _) ?_
    rw [rg_snoc8, show (0 : Int) + (i : Int) + 1 = 1 + (i : Int) by omega]
  rw [show ((n : Int) + 1).toNat = n + 1 by omega] at hr
  walk_at "g"
  refine w_r1 (by omega) ?_
  refine cp_rng (fun i => (rgI (-1) i).map V.int) (fun i hi => sz_lt (by rw [List.length_map, rgI_len]; omega)) rfl (fun i H' S N hi k y _ => ?_) (fun l H2 nl k2 hl => ?_)
  · walk_at "g"
    refine ⟨rfl, ?_⟩
    walk_at "g"
    refine y _ _ (Kp.refl _ _) ?_
    rw [rg_snoc8, show (0 : Int) + (i : Int) - 1 = -1 + (i : Int) by omega]
  rw [show ((n : Int) + 2).toNat = n + 2 by omega] at hl
  walk_at "g"
  refine ⟨sz_ok (by show 1 ≤ 1000000; omega), G.nw fun z H3 nz k3 hz => ?_⟩
  walk_at "g"
  refine w_mulLN hz (by omega) (by omega) (sz_ok (by show 1 * _ ≤ _; omega)) fun o H4 no k4 ho => ?_
  walk_at "g"
  have ho' : H4 o = some (.lst ((wholeS n).O.map V.bl)) := by
    rw [ho, show ((n : Int) + 2).toNat = n + 2 by omega, rep_flat]
    show _ = some (HO.lst ((List.replicate (n + 2) false).map V.bl))
    rw [List.map_replicate]
  refine ⟨sz_ok (by show 3 ≤ 1000000; omega), G.nw fun w H5 nw k5 hw => ?_⟩
  have k24 := k3.trans k4
  have hl4 := k24.at0 hl
  have hr4 := (k2.trans k24).at0 hr
  refine g w r l o H5 ((k1.trans (k2.trans k24)).free0 nw) nr (k1.free0 nl) ((k1.trans (k2.trans k3)).free0 no) ((k1.trans (k2.trans k24)).trans k5)
    ⟨hw, k5.at0 hr4, by rw [whole_L8]; exact k5.at0 hl4, k5.at0 ho', ⟨ne_of_none hr nl, ne_of_none ((k2.trans k3).at0 hr) no, ne_of_none (k3.at0 hl) no, (ne_of_none hr4 nw).symm, (ne_of_none hl4 nw).symm, (ne_of_none ho' nw).symm⟩, Wf.whole hn, wholeS_snd n⟩
theorem len__law_put (K : PySem.W.Frag) : ∀ vs H Q E, sp48__law_put K vs H Q E → vs.length = (["state", "deed"] : List Str).length := by
  rintro vs H Q E ⟨_, _, _, _, _, _, rfl, _⟩
  rfl
theorem rd__law_put (T : Txt K mg) (vs : List V) (H : Hp) (Q : VK) (E : XK) (h : sp48__law_put K vs H Q E) : t__law_put K E { nx := fun _ H' => Q .non H', rt := Q } (start ["state", "deed", "node", "low", "high"] vs) H := by
  obtain ⟨w, r, l, o, s, op, rfl, st, io, g⟩ := h
  unfold t__law_put
  obtain ⟨n1, n2, n3, n4, n5, n6⟩ := st.ne
  have wf := st.wf
  have sn := st.sn
  have lenR : s.R.length = s.n + 1 := wf.lR
  have lenL := len_tail wf sn (-1)
  have lenO : s.O.length = s.n + 2 := wf.lO
  obtain ⟨o1, o2⟩ := io
  obtain ⟨b1, b2⟩ := wf.lb op.natAbs o1 (by omega)
  obtain ⟨b3, b4⟩ := wf.rb op.natAbs o2
  obtain ⟨lo, elo⟩ : ∃ lo : Nat, gI s.L op.natAbs = (lo : Int) := ⟨(gI s.L op.natAbs).toNat, by omega⟩
  obtain ⟨hi, ehi⟩ : ∃ hi : Nat, gI s.R op.natAbs = (hi : Int) := ⟨(gI s.R op.natAbs).toNat, by omega⟩
  have stp : ∀ (x y : Int), (x = if op < 0 then (hi : Int) else (op.natAbs : Int)) → (y = if op < 0 then (lo : Int) else (op.natAbs : Int)) → ∀ H', H' w = some (.lst [.ref r, .ref l, .ref o]) → H' r = some (.lst ((s.R.map V.int).set lo (V.int x))) → H' l = some (.lst ((((-1 : Int) :: s.L.tail).map V.int).set hi (V.int y))) → H' o = some (.lst ((s.O.map V.bl).set op.natAbs (V.bl (decide (op < 0))))) → St3 H' w r l o (stepS s op) := by
    intro x y ex ey H' h1 h2 h3 h4
    refine ⟨h1, ?_, ?_, ?_, st.ne, wf.step ⟨o1, o2⟩, stepS_snd wf sn ⟨o1, o2⟩⟩
    · rw [h2, set_I8, ex]
      show _ = some (HO.lst ((s.R.set (gI s.L op.natAbs).toNat _).map V.int))
      rw [elo, ehi, Int.toNat_natCast]
    · rw [h3, set_I8, ey]
      show _ = some (HO.lst (((-1 : Int) :: (s.L.set (gI s.R op.natAbs).toNat _).tail).map V.int))
      obtain ⟨t, e⟩ := sn.l0
      obtain ⟨u, rfl⟩ : ∃ u, hi = u + 1 := ⟨hi - 1, by omega⟩
      rw [elo, ehi, Int.toNat_natCast, e] <;> rfl
    · rw [h4, set_B8] <;> rfl
  walk_at "g"
  rw [natAbs_if]
  refine w_ixL (SqL.of st.ob) (i := 1) (v := .ref l) rfl ?_
  walk_at "g"
  refine w_ixL (SqL.of st.hl) (at_I (by omega) (by rw [lenL]; omega)) ?_
  rw [Int.toNat_natCast, gI_tail sn (-1) o1, elo]
  walk_at "g"
  refine w_ixL (SqL.of st.ob) at_0 ?_
  walk_at "g"
  refine w_ixL (SqL.of st.hr) (at_I (by omega) (by rw [lenR]; omega)) ?_
  rw [Int.toNat_natCast, ehi]
  walk_at "j"
  refine w_ifJ (fun σ' H' => σ' = [some (.ref w), some (.int op), some (.int (op.natAbs : Int)), some (.int (lo : Int)), some (.int (hi : Int))] ∧ Kp [r, l] H H' ∧ ∃ x y : Int, (x = if op < 0 then (hi : Int) else (op.natAbs : Int)) ∧ (y = if op < 0 then (lo : Int) else (op.natAbs : Int)) ∧ H' r = some (.lst ((s.R.map V.int).set lo (V.int x))) ∧ H' l = some (.lst ((((-1 : Int) :: s.L.tail).map V.int).set hi (V.int y)))) (fun N hN => ?_) (fun σ' H2 ⟨es, k2, x, y, ex, ey, hr2, hl2⟩ => ?_)
  · have two : ∀ (x y : Int) (D2 : Ends) (ta tb : TE) , D2.nx = N → True := fun _ _ _ _ _ _ => trivial
    walk_at "g"
    refine w_iteD (fun c => ?_) (fun c => ?_)
    · walk_at "g"
      refine w_ixL (SqL.of st.ob) at_0 ?_
      walk_at "g"
      refine w_seT st.hr (n := lo) (by rw [ixN_pos (by omega) (by rw [List.length_map, lenR]; omega), Int.toNat_natCast]) fun H1 k1 h1 => ?_
      walk_at "g"
      refine w_ixL (SqL.of (k1.at1 n4 st.ob)) (i := 1) (v := .ref l) rfl ?_
      walk_at "g"
      refine w_seT (k1.at1 (Ne.symm n1) st.hl) (n := hi) (by rw [ixN_pos (by omega) (by rw [List.length_map, lenL]; omega), Int.toNat_natCast]) fun H2 k2 h2 => ?_
      exact hN _ _ ⟨rfl, (k1.mono (by simp)).trans (k2.mono (by simp)), _, _, by rw [if_pos c], by rw [if_pos c], k2.at1 n1 h1, h2⟩
    · walk_at "g"
      refine w_ixL (SqL.of st.ob) at_0 ?_
      walk_at "g"
      refine w_seT st.hr (n := lo) (by rw [ixN_pos (by omega) (by rw [List.length_map, lenR]; omega), Int.toNat_natCast]) fun H1 k1 h1 => ?_
      walk_at "g"
      refine w_ixL (SqL.of (k1.at1 n4 st.ob)) (i := 1) (v := .ref l) rfl ?_
      walk_at "g"
      refine w_seT (k1.at1 (Ne.symm n1) st.hl) (n := hi) (by rw [ixN_pos (by omega) (by rw [List.length_map, lenL]; omega), Int.toNat_natCast]) fun H2 k2 h2 => ?_
      exact hN _ _ ⟨rfl, (k1.mono (by simp)).trans (k2.mono (by simp)), _, _, by rw [if_neg c], by rw [if_neg c], k2.at1 n1 h1, h2⟩
  subst es
  have ob2 := k2 _ _ (by simp [n4, n5]) st.ob
  have ho2 := k2 _ _ (by simp [Ne.symm n2, Ne.symm n3]) st.ho
  walk_at "g"
  refine w_ixL (SqL.of ob2) (i := 2) (v := .ref o) rfl ?_
  walk_at "g"
  refine w_seT ho2 (n := op.natAbs) (by rw [ixN_pos (by omega) (by rw [List.length_map, lenO]; omega), Int.toNat_natCast]) fun H3 k3 h3 => ?_
  walk_at "g"
  exact g H3 ((k2.mono (by simp)).trans (k3.mono (by simp))) (stp x y ex ey H3 (k3.at1 n6 ob2) (k3.at1 n2 hr2) (k3.at1 n3 hl2) h3)
theorem len__law_twin (K : PySem.W.Frag) : ∀ vs H Q E, sp48__law_twin K vs H Q E → vs.length = (["state"] : List Str).length := by
  rintro vs H Q E ⟨_, _, _, _, _, rfl, _⟩
  rfl
theorem rd__law_twin (T : Txt K mg) (vs : List V) (H : Hp) (Q : VK) (E : XK) (h : sp48__law_twin K vs H Q E) : t__law_twin K E { nx := fun _ H' => Q .non H', rt := Q } (start ["state"] vs) H := by
  obtain ⟨w, r, l, o, s, rfl, st, g⟩ := h
  unfold t__law_twin
  walk_at "g"
  refine w_ixL (SqL.of st.ob) at_0 ?_
  walk_at "g"
  refine w_listLN (SqL.of st.hr) fun r' H1 nr k1 hr => ?_
  walk_at "g"
  refine w_ixL (SqL.of (k1.at0 st.ob)) (i := 1) (v := .ref l) rfl ?_
  walk_at "g"
  refine w_listLN (SqL.of (k1.at0 st.hl)) fun l' H2 nl k2 hl => ?_
  walk_at "g"
  refine w_ixL (SqL.of (k2.at0 (k1.at0 st.ob))) (i := 2) (v := .ref o) rfl ?_
  walk_at "g"
  refine w_listLN (SqL.of (k2.at0 (k1.at0 st.ho))) fun o' H3 no k3 ho => ?_
  walk_at "g"
  refine ⟨sz_ok (by show 3 ≤ 1000000; omega), G.nw fun w' H4 nw k4 hw => ?_⟩
  have hr3 := k3.at0 (k2.at0 hr)
  have hl3 := k3.at0 hl
  exact g w' r' l' o' H4 (((k1.trans k2).trans k3).free0 nw) nr (k1.free0 nl) ((k1.trans k2).free0 no) (((k1.trans k2).trans k3).trans k4)
    ⟨hw, k4.at0 hr3, k4.at0 hl3, k4.at0 ho, ⟨ne_of_none hr nl, ne_of_none (k2.at0 hr) no, ne_of_none hl no, (ne_of_none hr3 nw).symm, (ne_of_none hl3 nw).symm, (ne_of_none ho nw).symm⟩, st.wf, st.sn⟩
theorem outN_snoc8 (O : List Bool) (i : Nat) : outN (i + 1) O = outN i O ++ (if gB O (i + 1) = true then [((i + 1 : Nat) : Int)] else []) := by
  unfold outN
  rw [List.range_succ, List.map_append, List.filter_append, List.map_append]
  congr 1
  show (([i + 1].filter fun v => gB O v).map _) = _
  by_cases c : gB O (i + 1) = true
  · rw [if_pos c, List.filter_cons_of_pos c] <;> rfl
  · rw [if_neg c, List.filter_cons_of_neg c] <;> rfl
theorem len__law_states (K : PySem.W.Frag) : ∀ vs H Q E, sp48__law_states K vs H Q E → vs.length = (["state"] : List Str).length := by
  rintro vs H Q E ⟨_, _, _, _, _, rfl, _⟩
  rfl
theorem rd__law_states (T : Txt K mg) (vs : List V) (H : Hp) (Q : VK) (E : XK) (h : sp48__law_states K vs H Q E) : t__law_states K E { nx := fun _ H' => Q .non H', rt := Q } (start ["state", "rows", "v", "near", "far"] vs) H := by
  obtain ⟨w, r, l, o, s, rfl, st, gq⟩ := h
  unfold t__law_states
  have lenR : s.R.length = s.n + 1 := st.wf.lR
  have lenL := len_tail st.wf st.sn (-1)
  have n60 := st.wf.n60
  walk_at "g"
  refine ⟨sz_ok (Nat.zero_le _), G.nw fun u H1 nu k1 hu => ?_⟩
  have st1 := st.k0 k1
  walk_at "g"
  refine w_ixL (SqL.of st1.ob) at_0 ?_
  walk_at "g"
  refine w_lenL (SqL.of st1.hr) ?_
  walk_at "g"
  rw [List.length_map, lenR]
  refine w_r1 (by omega) ?_
  obtain ⟨uw, ur, ul, uo⟩ := st.fr nu
  refine lp_rng0 (fun i σ H' => (∃ x3 x4 x5, σ = [some (.ref w), some (.ref u), x3, x4, x5]) ∧ Kp [u] H1 H' ∧ H' u = some (.lst ((List.range i).map fun (v : Nat) => V.str (stT s v)))) ⟨⟨_, _, _, rfl⟩, Kp.refl _ _, hu⟩ ?_ ?_
  · rintro i σ' H3 hi ⟨⟨x3, x4, x5, rfl⟩, k3, hu3⟩
    have st3 := st1.kp k3 (by simpa using uw) (by simpa using ur) (by simpa using ul) (by simpa using uo)
    walk_at "g"
    refine w_ixL (SqL.of st3.ob) at_0 ?_
    walk_at "g"
    refine w_ixL (SqL.of st3.hr) (at_I (by omega) (by omega)) ?_
    rw [Int.toNat_natCast]
    walk_at "g"
    refine w_ixL (SqL.of st3.ob) (i := 1) (v := .ref l) rfl ?_
    walk_at "g"
    refine w_ixL (SqL.of st3.hl) (at_I (by omega) (by omega)) ?_
    rw [show ((i : Int) + 1).toNat = i + 1 by omega, gI_tail st.sn (-1) (by omega)]
    walk_at "g"
    refine ⟨w_ty (SqL.of hu3), ?_⟩
    have sn : ∀ t : Str, stT s i = t → ((List.range (i + 1)).map fun (v : Nat) => V.str (stT s v)) = ((List.range i).map fun (v : Nat) => V.str (stT s v)) ++ [V.str t] := fun t e => by rw [List.range_succ, List.map_append, ← e] <;> rfl
    rcases st_cases s i with ⟨c1, c2, e⟩ | ⟨c1, c2, e⟩ | ⟨c1, c2, e⟩ | ⟨c1, c2, e⟩
    · rw [decide_eq_true c1, decide_eq_true c2]
      walk_at "g"
      refine w_apT hu3 (sz_lt (by rw [List.length_map, List.length_range]; omega)) fun H4 k4 h4 => ?_
      walk_at "g"
      exact ⟨⟨_, _, _, rfl⟩, k3.trans k4, by rw [h4, sn _ e]⟩
    · rw [decide_eq_true c1, decide_eq_false c2]
      walk_at "g"
      refine w_apT hu3 (sz_lt (by rw [List.length_map, List.length_range]; omega)) fun H4 k4 h4 => ?_
      walk_at "g"
      exact ⟨⟨_, _, _, rfl⟩, k3.trans k4, by rw [h4, sn _ e]⟩
    · rw [decide_eq_false c1, decide_eq_true c2]
      walk_at "g"
      refine w_apT hu3 (sz_lt (by rw [List.length_map, List.length_range]; omega)) fun H4 k4 h4 => ?_
      walk_at "g"
      exact ⟨⟨_, _, _, rfl⟩, k3.trans k4, by rw [h4, sn _ e]⟩
    · rw [decide_eq_false c1, decide_eq_false c2]
      walk_at "g"
      refine w_apT hu3 (sz_lt (by rw [List.length_map, List.length_range]; omega)) fun H4 k4 h4 => ?_
      walk_at "g"
      exact ⟨⟨_, _, _, rfl⟩, k3.trans k4, by rw [h4, sn _ e]⟩
  · rintro σ' H3 ⟨⟨x3, x4, x5, rfl⟩, k3, hu3⟩
    rw [Int.toNat_natCast] at hu3
    walk_at "g"
    exact gq u H3 nu ((k1.all.trans k3).cut (by simp [nu])) hu3
theorem len__certificates (K : PySem.W.Frag) : ∀ vs H Q E, sp__certificates K vs H Q E → vs.length = (["size", "log"] : List Str).length := by
  rintro vs H Q E ⟨_, _, _, rfl, _⟩
  rfl
theorem rd__certificates (T : Txt K mg) (vs : List V) (H : Hp) (Q : VK) (E : XK) (h : sp__certificates K vs H Q E) : t__certificates K E { nx := fun _ H' => Q .non H', rt := Q } (start ["size", "log", "links", "states", "changes", "index", "operation", "before", "gap", "state", "_"] vs) H := by
  obtain ⟨a, size, log, rfl, hs, hlen, re, g⟩ := h
  unfold t__certificates
  walk_at "g"
  refine mk fun p dx H1 np hp k1 => ?_
  refine ⟨p, dx, size, rfl, hp, fun ok r l o H2 nr nl no k2 b => ⟨rfl, ?_⟩, fun bad => re.sz bad _ k1⟩
  have k02 : Kp [] H H2 := (k1.all.trans k2).cut1 np
  obtain ⟨n, rfl, hn⟩ : ∃ n : Nat, size = (n : Int) ∧ n ≤ 60 := ⟨size.toNat, by have := ok.1; omega, by have := ok.2; omega⟩
  rw [Int.toNat_natCast] at g b
  have fr : H r = none := k1.free0 nr
  have fl_ : H l = none := k1.free0 nl
  have fo : H o = none := k1.free0 no
  walk_at "g"
  refine ⟨p, r, l, o, _, rfl, b, fun st H3 ns k3 hst => ?_⟩
  have hst : H3 st = some (.lst ((List.range (n + 1)).map fun (v : Nat) => V.str (stT (wholeS n) v))) := hst
  have k03 := k02.trans k3
  have b3 := b.k0 k3
  walk_at "g"
  refine w_l1 (SqL.of hst) ?_
  refine cp_mutL (fun D i acc H' => Kp [] H3 H' ∧ ∃ rs : List Addr, acc = rs.map V.ref ∧ rs.length = i ∧ rs.Nodup ∧ ∀ x ∈ rs, H' x = some (.lst []) ∧ H3 x = none ∧ x ≠ D) (sz_lt (by rw [List.length_map, List.length_range]; omega)) (fun D H' nD k hD => ⟨k, [], rfl, rfl, List.nodup_nil, fun x h => by cases h⟩) (fun D i acc H' nD h => SqL.of (h.1.at0 hst)) ?_ ?_
  · intro D i x acc H' S N nD hi hD ⟨kk, rs, ea, lr, nd, hrs⟩ yes no
    walk_at "g"
    refine ⟨rfl, ?_⟩
    walk_at "g"
    refine ⟨sz_ok (Nat.zero_le _), G.nw fun x H2 nx k2 hx => ?_⟩
    have xD : x ≠ D := (ne_of_none hD nx).symm
    refine yes _ H2 (k2.at0 hD) fun H3 k3 h3 => ⟨((kk.trans k2).all.trans k3).cut1 nD, rs ++ [x], by rw [ea, List.map_append] <;> rfl, by rw [List.length_append, lr] <;> rfl, nodup_snoc nd fun z => ?_, fun y hy => ?_⟩
    · have := (hrs x z).1
      rw [nx] at this
      cases this
    · rcases List.mem_append.mp hy with hy | hy
      · obtain ⟨y1, y2, y3⟩ := hrs y hy
        exact ⟨k3.at1 y3 (k2.at0 y1), y2, y3⟩
      · rw [List.mem_singleton] at hy
        subst hy
        exact ⟨k3.at1 xD hx, kk.free0 nx, xD⟩
  intro q acc H4 nq hq lacc ⟨k4, rs, ea, lr, nd, hrs⟩
  rw [ea] at hq
  rw [List.length_map, List.length_range] at lr
  have k04 := k03.trans k4
  have b4 := b3.k0 k4
  have ra4 : RowsAt8 H H4 rs (fun g => chL n log g 0) := ⟨nd, fun g x hx => (hrs x (List.mem_of_getElem? hx)).1, fun x hx => k03.free0 (hrs x hx).2.1⟩
  have fq : H q = none := k03.free0 nq
  have hst4 : H4 st = some (.lst ((List.range (n + 1)).map fun g => V.str (stL n log 0 g))) := by
    rw [k4.at0 hst]
    unfold stL
    rw [List.take_zero] <;> rfl
  have fnew : ∀ x, H3 x = none → x ≠ p ∧ x ≠ r ∧ x ≠ l ∧ x ≠ o ∧ x ≠ st := by
    intro x nx
    obtain ⟨dx, ob⟩ := b3.ob
    exact ⟨(ne_of_none ob nx).symm, (ne_of_none b3.hr nx).symm, (ne_of_none b3.hl nx).symm, (ne_of_none b3.ho nx).symm, (ne_of_none hst nx).symm⟩
  have dis : ∀ x ∈ rs, x ≠ p ∧ x ≠ r ∧ x ≠ l ∧ x ≠ o ∧ x ≠ q := by
    intro x hx
    obtain ⟨x1, x2, x3⟩ := hrs x hx
    obtain ⟨y1, y2, y3, y4, y5⟩ := fnew x x2
    exact ⟨y1, y2, y3, y4, x3⟩
  obtain ⟨qp, qr, ql, qo, _⟩ := fnew q nq
  have hs4 := k04.sql (by simp) hs
  walk_at "g"
  refine ⟨a, _, rfl, hs4, lp_enum (xs := log.map V.int) (fun i σ H' => (∃ (st : Addr) (x5 x6 x7 x8 x9 x10 : Option V), σ = [some (.int n), some (.ref a), some (.ref p), some (.ref st), some (.ref q), x5, x6, x7, x8, x9, x10] ∧ H' st = some (.lst ((List.range (n + 1)).map fun g => V.str (stL n log i g))) ∧ ∀ x ∈ rs, x ≠ st) ∧ Kp [] H H' ∧ LinksAt K H' p r l o (runS (wholeS n) (log.take i)) ∧ RowsAt8 H H' rs (fun g => chL n log g i) ∧ H' q = some (.lst (rs.map V.ref)) ∧ Leg (wholeS n) (log.take i))
    ⟨⟨st, _, _, _, _, _, _, rfl, hst4, fun x hx => (fnew x (hrs x hx).2.1).2.2.2.2⟩, k04, by rw [List.take_zero]; exact b4, ra4, hq, fun i op h => by simp at h⟩ ?_ ?_ ?_⟩
  · rintro i σ' H' hi ⟨_, k, _⟩
    exact k.sql (by simp) hs
  · rintro i x T1 σ' H5 hx ⟨⟨st5, x5, x6, x7, x8, x9, x10, rfl, hst5, rst⟩, k5, la5, ra5, hq5, lg5⟩ nT
    obtain ⟨op, hop, rfl⟩ := at_map hx
    have li : i < log.length := (List.getElem?_eq_some_iff.mp hop).1
    have kT : Kp [] H5 (upd H5 T1 (.tup [.int (i : Int), .int op])) := Kp.new nT
    have hT : (upd H5 T1 (.tup [.int (i : Int), .int op])) T1 = some (.tup [.int (i : Int), .int op]) := upd_same
    generalize upd H5 T1 (.tup [.int (i : Int), .int op]) = HT at kT hT ⊢
    have laT := la5.k0 kT
    have sn : (runS (wholeS n) (log.take i)).n = n := by rw [runS_n] <;> rfl
    refine w_gt (SqT.of hT) rfl ?_
    walk_at "g"
    refine w_me laT no_m ?_
    walk_at "g"
    refine ⟨p, r, l, o, _, op, (i : Int), rfl, laT, fun ok H6 k6 la6 => ?_, fun bad => ?_⟩
    · have dl : ∀ x ∈ rs, x ∉ [r, l, o] := fun x hx => by
        obtain ⟨_, y2, y3, y4, _⟩ := dis x hx
        simp [y2, y3, y4]
      rw [← runS_snoc, ← tsn hop] at la6
      have ra6 := (ra5.k0 kT).kp k6 dl
      have hq6 := k6 _ _ (by simp [qr, ql, qo]) (kT.at0 hq5)
      have k06 : Kp [] H H6 := ((k5.trans kT).all.trans k6).cut (by simp [fr, fl_, fo])
      have s5 : st5 ∉ [r, l, o] := by
        obtain ⟨hr5, hl5, ho5⟩ : (∃ zs : List Int, H5 r = some (.lst (zs.map V.int))) ∧ (∃ zs : List Int, H5 l = some (.lst (zs.map V.int))) ∧ (∃ zs : List Bool, H5 o = some (.lst (zs.map V.bl))) := ⟨⟨_, la5.hr⟩, ⟨_, la5.hl⟩, ⟨_, la5.ho⟩⟩
        have hd5 : ∃ y ys, H5 st5 = some (.lst (V.str y :: ys)) := by
          rw [List.range_succ_eq_map, List.map_cons] at hst5
          exact ⟨_, _, hst5⟩
        obtain ⟨y, ys, hy⟩ := hd5
        intro z
        simp only [List.mem_cons, List.not_mem_nil, or_false] at z
        rcases z with rfl | rfl | rfl
        · obtain ⟨zs, hz⟩ := hr5
          rw [hy] at hz
          cases zs with
          | nil => cases hz
          | cons z zs => cases hz
        · obtain ⟨zs, hz⟩ := hl5
          rw [hy] at hz
          cases zs with
          | nil => cases hz
          | cons z zs => cases hz
        · obtain ⟨zs, hz⟩ := ho5
          rw [hy] at hz
          cases zs with
          | nil => cases hz
          | cons z zs => cases hz
      have hst6 := k6 _ _ s5 (kT.at0 hst5)
      have lg6 : Leg (wholeS n) (log.take (i + 1)) := by
        rw [tsn hop]
        exact lg5.snoc ok
      walk_at "g"
      refine ⟨p, r, l, o, _, rfl, la6, fun st7 H7 n7 k7 hst7 => ?_⟩
      have hst7 : H7 st7 = some (.lst ((List.range (n + 1)).map fun (v : Nat) => V.str (stL n log (i + 1) v))) := by
        rw [hst7, show (runS (wholeS n) (log.take (i + 1))).n = n by rw [runS_n] <;> rfl] <;> rfl
      have la7 := la6.k0 k7
      have d7 : ∀ x ∈ rs, x ≠ st7 := by
        intro x hx
        obtain ⟨j, hj⟩ := List.mem_iff_getElem?.mp hx
        exact ne_of_none (ra6.at_ j x hj) n7
      walk_at "g"
      refine ⟨st7, _, rfl, SqL.of hst7, lp_enum (xs := (List.range (n + 1)).map fun (v : Nat) => V.str (stL n log (i + 1) v)) (fun k σ H' => (∃ x8 x9 x10 : Option V, σ = [some (.int n), some (.ref a), some (.ref p), some (.ref st7), some (.ref q), some (.int (i : Int)), some (.int op), some (.ref st5), x8, x9, x10]) ∧ Kp [] H H' ∧ LinksAt K H' p r l o (runS (wholeS n) (log.take (i + 1))) ∧ RowsAt8 H H' rs (mixC n log i k) ∧ H' q = some (.lst (rs.map V.ref)) ∧ H' st7 = some (.lst ((List.range (n + 1)).map fun (v : Nat) => V.str (stL n log (i + 1) v))) ∧ H' st5 = some (.lst ((List.range (n + 1)).map fun (v : Nat) => V.str (stL n log i v))))
        ⟨⟨_, _, _, rfl⟩, k06.trans k7, la7, (ra6.k0 k7).congr fun g _ => if_neg (by omega), k7.at0 hq6, hst7, k7.at0 hst6⟩ ?_ ?_ ?_⟩
      · rintro k σ' H' hi ⟨_, _, _, _, _, h, _⟩
        exact SqL.of h
      · rintro k x T2 σ' H8 hx ⟨⟨x8, x9, x10, rfl⟩, k8, la8, ra8, hq8, h7, h5⟩ nT2
        have lk : k < n + 1 := by
          have := (List.getElem?_eq_some_iff.mp hx).1
          rw [List.length_map, List.length_range] at this
          exact this
        have ex : x = V.str (stL n log (i + 1) k) := by
          rw [List.getElem?_map, List.getElem?_range lk] at hx
          injection hx with hx
          exact hx.symm
        subst ex
        have kT2 : Kp [] H8 (upd H8 T2 (.tup [.int (k : Int), V.str (stL n log (i + 1) k)])) := Kp.new nT2
        have hT2 : (upd H8 T2 (.tup [.int (k : Int), V.str (stL n log (i + 1) k)])) T2 = some (.tup [.int (k : Int), V.str (stL n log (i + 1) k)]) := upd_same
        generalize upd H8 T2 (.tup [.int (k : Int), V.str (stL n log (i + 1) k)]) = H9 at kT2 hT2 ⊢
        obtain ⟨row, hrow⟩ : ∃ row, rs[k]? = some row := ⟨_, List.getElem?_eq_getElem (by omega)⟩
        obtain ⟨d1, d2, d3, d4, d5⟩ := dis row (List.mem_of_getElem? hrow)
        have rk := kT2.at0 (ra8.at_ k row hrow)
        rw [mixC_self] at rk
        have sn2 := chL_snoc n log k i
        refine w_gt (SqT.of hT2) rfl ?_
        walk_at "g"
        refine w_ixL (SqL.of (kT2.at0 h5)) (at_r8 lk) ?_
        walk_at "g"
        refine w_iteN (fun c => ?_) (fun c => ?_)
        · rw [if_pos c] at sn2
          walk_at "g"
          refine w_ixL (SqL.of (kT2.at0 hq8)) (at_rs hrow) ?_
          refine ⟨w_ty (SqL.of rk), ?_⟩
          walk_at "g"
          have cl := chL_len n log k i
          refine w_apT rk (sz_lt (by rw [List.length_map]; omega)) fun Ha ka ha => ?_
          walk_at "g"
          have dr := d7 row (List.mem_of_getElem? hrow)
          have ds := rst row (List.mem_of_getElem? hrow)
          refine ⟨⟨_, _, _, rfl⟩, ((k8.trans kT2).all.trans ka).cut1 (ra8.fr row (List.mem_of_getElem? hrow)), (la8.k0 kT2).kp ka (by simpa using Ne.symm d1) (by simpa using Ne.symm d2) (by simpa using Ne.symm d3) (by simpa using Ne.symm d4), (ra8.k0 kT2).put hrow ka (by rw [ha, mixC_next, sn2, List.map_append] <;> rfl) (fun j hj => mixC_ne n log i k hj), ka.at1 (Ne.symm d5) (kT2.at0 hq8), ka.at1 (Ne.symm dr) (kT2.at0 h7), ka.at1 (Ne.symm ds) (kT2.at0 h5)⟩
        · have c : stL n log (i + 1) k = stL n log i k := c
          rw [if_neg (fun z => z c), List.append_nil] at sn2
          walk_at "g"
          refine ⟨⟨_, _, _, rfl⟩, k8.trans kT2, la8.k0 kT2, (ra8.k0 kT2).congr fun j _ => ?_, kT2.at0 hq8, kT2.at0 h7, kT2.at0 h5⟩
          by_cases e : j = k
          · subst e
            rw [mixC_next, mixC_self, sn2]
          · exact mixC_ne n log i k e
      · rintro σ' H8 ⟨⟨x8, x9, x10, rfl⟩, k8, la8, ra8, hq8, h7, h5⟩
        rw [List.length_map, List.length_range] at ra8
        walk_at "g"
        exact ⟨⟨st7, _, _, _, _, _, _, rfl, h7, d7⟩, k8, la8, ra8.congr fun j hj => (if_pos (by omega)).symm, hq8, lg6⟩
    · have := re.op ⟨by omega, by omega⟩ i op hop (by rw [Int.toNat_natCast]; exact lg5) (by rw [Int.toNat_natCast]; exact bad) HT (k5.trans kT)
      rw [sn]
      exact this
  · rintro σ' H5 ⟨⟨st5, x5, x6, x7, x8, x9, x10, rfl, hst5, rst⟩, k5, la5, ra5, hq5, lg5⟩
    rw [List.length_map] at lg5 hst5 ra5
    rw [List.take_length] at lg5
    walk_at "g"
    refine ⟨st5, _, rfl, SqL.of hst5, cp_mutE (xs := (List.range (n + 1)).map fun (v : Nat) => V.str (stL n log log.length v)) (fun D i acc H' => Kp [] H5 H' ∧ CPs H' acc (certK n log i)) (sz_lt (by rw [List.length_map, List.length_range]; omega)) (fun D H' nD k hD => ⟨k, CPs.nil⟩) (fun D i acc H' nD h => SqL.of (h.1.at0 hst5)) ?_ ?_⟩
    · intro D k x acc T2 H8 S N nD hx hD ⟨kk, cp⟩ nT2 yes no
      have lk : k < n + 1 := by
        have := (List.getElem?_eq_some_iff.mp hx).1
        rw [List.length_map, List.length_range] at this
        exact this
      have ex : x = V.str (stL n log log.length k) := by
        rw [List.getElem?_map, List.getElem?_range lk] at hx
        injection hx with hx
        exact hx.symm
      subst ex
      have kT2 : Kp [] H8 (upd H8 T2 (.tup [.int (k : Int), V.str (stL n log log.length k)])) := Kp.new nT2
      have hT2 : (upd H8 T2 (.tup [.int (k : Int), V.str (stL n log log.length k)])) T2 = some (.tup [.int (k : Int), V.str (stL n log log.length k)]) := upd_same
      generalize upd H8 T2 (.tup [.int (k : Int), V.str (stL n log log.length k)]) = H9 at kT2 hT2 ⊢
      obtain ⟨row, hrow⟩ : ∃ row, rs[k]? = some row := ⟨_, List.getElem?_eq_getElem (by omega)⟩
      have k59 := kk.trans kT2
      have rk := k59.at0 (ra5.at_ k row hrow)
      have sn2 := certK_snoc n log k
      refine w_gt (SqT.of hT2) rfl ?_
      walk_at "g"
      refine ⟨rfl, ?_⟩
      walk_at "g"
      refine w_iteD (fun c => ?_) (fun c => ?_)
      · rw [if_pos c] at sn2
        have l2 := lost_len hn lg5 (by omega) c
        walk_at "g"
        refine w_ixL (SqL.of (k59.at0 hq5)) (at_rs hrow) ?_
        walk_at "g"
        refine w_ixL (SqL.of rk) (at_neg8 (j := 2) (by omega) l2) ?_
        walk_at "g"
        refine w_ixL (SqL.of (k59.at0 hq5)) (at_rs hrow) ?_
        walk_at "g"
        refine w_ixL (SqL.of rk) (at_neg8 (j := 1) (by omega) (by omega)) ?_
        walk_at "g"
        refine ⟨sz_ok (by show 3 ≤ 1000000; omega), G.nw fun t H5 nt k5 ht => ?_⟩
        refine yes _ H5 (k5.at0 (kT2.at0 hD)) fun H6 k6 h6 => ⟨((k59.trans k5).all.trans k6).cut1 nD, ?_⟩
        rw [sn2]
        exact (((cp.k0 kT2).k0 k5).app (CPs.one (t := certAt n log k) ht)).put (k5.at0 (kT2.at0 hD)) k6
      · rw [if_neg c, List.append_nil] at sn2
        refine no H9 (kT2.at0 hD) ⟨k59, ?_⟩
        rw [sn2]
        exact cp.k0 kT2
    · intro D acc H6 nD hD _ ⟨kk, cp⟩
      rw [List.length_map, List.length_range] at cp
      exact g ⟨by omega, by omega⟩ lg5 acc D H6 (k5.free0 nD) (k5.trans kk) hD cp
theorem len_loss_certificate (K : PySem.W.Frag) : ∀ vs H Q E, sp_loss_certificate K vs H Q E → vs.length = (["size", "log"] : List Str).length := by
  rintro vs H Q E ⟨_, _, _, rfl, _⟩
  rfl
theorem rd_loss_certificate (T : Txt K mg) (vs : List V) (H : Hp) (Q : VK) (E : XK) (h : sp_loss_certificate K vs H Q E) : t_loss_certificate K E { nx := fun _ H' => Q .non H', rt := Q } (start ["size", "log", "certificates"] vs) H := by
  obtain ⟨a, size, log, rfl, hs, hlen, re, g1, g2⟩ := h
  unfold t_loss_certificate
  walk_at "g"
  refine ⟨a, size, log, rfl, hs, hlen, re, fun ok le xs q H1 nq k1 hq cp => ?_⟩
  have g1 := g1 ok le
  have g2 := g2 ok le
  generalize certs size.toNat log = es at g1 g2 cp
  have le_ := cp.1
  walk_at "g"
  refine w_truL (SqL.of hq) ?_
  cases es with
  | nil =>
    have e : xs = [] := List.length_eq_zero_iff.mp le_
    subst e
    rw [if_pos (show (!!([] : List V).isEmpty) = true from rfl)]
    walk_at "g"
    exact ⟨rfl, by show 1 ≤ 1000; omega, g1 rfl H1 k1⟩
  | cons e es =>
    obtain ⟨t, h1, h2⟩ := cp.2 0 e rfl
    cases xs with
    | nil => cases h1
    | cons x xs =>
      have ex : x = .ref t := by simpa using h1
      subst ex
      rw [if_neg (show ¬ (!!(V.ref t :: xs).isEmpty) = true from Bool.false_ne_true)]
      walk_at "g"
      refine w_ixL (SqL.of hq) at_0 ?_
      exact g2 e es rfl t H1 k1 h2
theorem len__law_book (K : PySem.W.Frag) : ∀ vs H Q E, sp48__law_book K vs H Q E → vs.length = (["many", "row"] : List Str).length := by
  rintro vs H Q E ⟨_, _, _, rfl, _⟩
  rfl
theorem rd__law_book (T : Txt K mg) (vs : List V) (H : Hp) (Q : VK) (E : XK) (h : sp48__law_book K vs H Q E) : t__law_book K E { nx := fun _ H' => Q .non H', rt := Q } (start ["many", "row", "state", "since", "found", "before", "k", "after", "v"] vs) H := by
  obtain ⟨a, n, log, rfl, hn, hs, hl, le, g⟩ := h
  unfold t__law_book
  walk_at "g"
  refine ⟨n, rfl, hn, fun w r l o H1 nw nr nl no k1 st1 => ?_⟩
  walk_at "g"
  refine ⟨sz_ok (by show 1 ≤ 1000000; omega), G.nw fun z H2 nz k2 hz => ?_⟩
  walk_at "g"
  refine w_mulLN hz (by omega) (by omega) (sz_ok (by show 1 * _ ≤ _; omega)) fun sc H3 nsc k3 hsc => ?_
  have hsc' : H3 sc = some (.lst ((bkR n (log.take 0)).de.map V.int)) := by
    rw [hsc, show ((n : Int) + 1).toNat = n + 1 by omega, rep_flat, List.take_zero]
    show _ = some (HO.lst ((List.replicate (n + 1) (-1 : Int)).map V.int))
    rw [List.map_replicate]
  walk_at "g"
  refine ⟨sz_ok (Nat.zero_le _), G.nw fun fd H4 nfd k4 hfd => ?_⟩
  have st3 := (st1.k0 k2).k0 k3
  have st4 := st3.k0 k4
  walk_at "g"
  refine ⟨w, r, l, o, wholeS n, rfl, st4, fun bf H5 nbf k5 hbf => ?_⟩
  have hsc4 := k4.at0 hsc'
  have k05 : Kp [] H H5 := (((k1.trans k2).trans k3).trans k4).trans k5
  have hs5 := k05.sql (by simp) hs
  obtain ⟨a1, a2, a3, a4⟩ := (st1.k0 k2).fr nsc
  obtain ⟨b1, b2, b3, b4⟩ := st3.fr nfd
  obtain ⟨c1, c2, c3, c4⟩ := st4.fr nbf
  have scfd : sc ≠ fd := ne_of_none hsc' nfd
  have scbf : sc ≠ bf := ne_of_none hsc4 nbf
  have fdbf : fd ≠ bf := ne_of_none hfd nbf
  have fsc : H sc = none := (k1.trans k2).free0 nsc
  have ffd : H fd = none := ((k1.trans k2).trans k3).free0 nfd
  walk_at "g"
  refine w_lenL hs5 ?_
  walk_at "g"
  rw [List.length_map]
  refine w_r1 (by omega) ?_
  refine lp_rng0 (fun k σ H' => ∃ (bf : Addr) (x6 x7 x8 : Option V) (xs : List V), σ = [some (.int (n : Int)), some (.ref a), some (.ref w), some (.ref sc), some (.ref fd), some (.ref bf), x6, x7, x8] ∧ Kp [] H H' ∧ St3 H' w r l o (runS (wholeS n) (log.take k)) ∧ H' sc = some (.lst ((bkR n (log.take k)).de.map V.int)) ∧ H' fd = some (.lst xs) ∧ CPs H' xs (fndK n log k) ∧
      H' bf = some (.lst ((List.range (n + 1)).map fun (v : Nat) => V.str (stL n log k v))) ∧ bf ∉ [r, l, o, sc, fd])
    ⟨bf, _, _, _, [], rfl, k05, by rw [List.take_zero]; exact st4.k0 k5, k5.at0 hsc4, k5.at0 hfd, .nil, by rw [hbf]; unfold stL; rw [List.take_zero] <;> rfl, by simp [Ne.symm c2, Ne.symm c3, Ne.symm c4, Ne.symm scbf, Ne.symm fdbf]⟩ ?_ ?_
  · rintro k σ' H6 hk ⟨bf, x6, x7, x8, xs, rfl, k6, st6, hsc6, hfd6, cp6, hbf6, dbf⟩
    have lk : k < log.length := by omega
    obtain ⟨op, hop⟩ : ∃ op, log[k]? = some op := ⟨_, List.getElem?_eq_getElem lk⟩
    have eop : gI log k = op := gI_of hop
    have en : (runS (wholeS n) (log.take k)).n = n := runS_n _ _
    have io := (le k op hop).1
    have tk : log.take (k + 1) = log.take k ++ [op] := take_snoc hop
    simp only [List.mem_cons, List.not_mem_nil, or_false, not_or] at dbf
    obtain ⟨f1, f2, f3, f4, f5⟩ := dbf
    walk_at "g"
    refine w_ixL (k6.sql (by simp) hs) (at_I (by omega) (by omega)) ?_
    rw [Int.toNat_natCast, eop]
    walk_at "g"
    refine ⟨w, r, l, o, _, op, rfl, st6, io, fun H7 k7 st7 => ?_⟩
    rw [← runS_snoc, ← tk] at st7
    have hsc7 := k7 _ _ (by simp [Ne.symm a2, Ne.symm a3, Ne.symm a4]) hsc6
    have hfd7 := k7 _ _ (by simp [Ne.symm b2, Ne.symm b3, Ne.symm b4]) hfd6
    have hbf7 := k7 _ _ (by simp [f1, f2, f3]) hbf6
    have cp7 : CPs H7 xs (fndK n log k) := cp6.kp k7 fun b hb ys e => by
      simp only [List.mem_cons, List.not_mem_nil, or_false] at hb
      rcases hb with rfl | rfl | rfl
      · rw [st6.hr] at e; cases e
      · rw [st6.hl] at e; cases e
      · rw [st6.ho] at e; cases e
    walk_at "g"
    refine ⟨w, r, l, o, _, rfl, st7, fun af H8 naf k8 haf => ?_⟩
    have en2 : (runS (wholeS n) (log.take (k + 1))).n = n := runS_n _ _
    rw [en2] at haf
    have haf : H8 af = some (.lst ((List.range (n + 1)).map fun (v : Nat) => V.str (stL n log (k + 1) v))) := haf
    have hsc8 := k8.at0 hsc7
    have hfd8 := k8.at0 hfd7
    have hbf8 := k8.at0 hbf7
    have afsc : sc ≠ af := ne_of_none hsc7 naf
    have affd : fd ≠ af := ne_of_none hfd7 naf
    obtain ⟨g1, g2, g3, g4⟩ := st7.fr naf
    walk_at "g"
    refine w_r1 (by omega) ?_
    refine lp_rng0 (fun v σ H' => ∃ (x8 : Option V) (xs : List V), σ = [some (.int (n : Int)), some (.ref a), some (.ref w), some (.ref sc), some (.ref fd), some (.ref bf), some (.int (k : Int)), some (.ref af), x8] ∧ Kp [sc, fd] H8 H' ∧ H' sc = some (.lst ((midD n log k v).map V.int)) ∧ H' fd = some (.lst xs) ∧ CPs H' xs (fndK n log k ++ fndP n log k v))
      ⟨_, xs, rfl, Kp.refl _ _, by rw [midD_zero]; exact hsc8, hfd8, by show CPs H8 xs (fndK n log k ++ []); rw [List.append_nil]; exact cp7.k0 k8⟩ ?_ ?_
    · rintro v σ' H9 hv ⟨x8, xs, rfl, k9, hsc9, hfd9, cp9⟩
      have hv : v ≤ n := by omega
      have haf9 := k9 _ _ (by simp [Ne.symm afsc, Ne.symm affd]) haf
      have hbf9 := k9 _ _ (by simp [f4, f5]) hbf8
      have lxs : xs.length < 1000000 := by
        rw [cp9.1, List.length_append]
        have := fndK_len n log k
        have := fndP_len n log k v
        have : k * (n + 1) ≤ 500 * 61 := Nat.mul_le_mul (by omega) (by omega)
        omega
      walk_at "g"
      refine w_ixL (SqL.of haf9) (at_S8 (by omega) (by omega)) ?_
      rw [Int.toNat_natCast]
      walk_at "g"
      refine w_ixL (SqL.of hbf9) (at_S8 (by omega) (by omega)) ?_
      rw [Int.toNat_natCast]
      walk_at "g"
      refine w_iteN (fun c => ?_) (fun c => ?_)
      · have setit : ∀ (D2 : Ends) (H' : Hp) (ys : List V), Kp [sc, fd] H8 H' → H' sc = some (.lst ((midD n log k v).map V.int)) → H' fd = some (.lst ys) → CPs H' ys (fndK n log k ++ fndP n log k (v + 1)) →
            (∀ H'', Kp [sc, fd] H8 H'' → H'' sc = some (.lst ((midD n log k (v + 1)).map V.int)) → H'' fd = some (.lst ys) → CPs H'' ys (fndK n log k ++ fndP n log k (v + 1)) → D2.nx [some (.int (n : Int)), some (.ref a), some (.ref w), some (.ref sc), some (.ref fd), some (.ref bf), some (.int (k : Int)), some (.ref af), some (.int (v : Int))] H'') →
            tAsg (tVar 6) (gSub (tVar 3) (tVar 8) rSetL) D2 [some (.int (n : Int)), some (.ref a), some (.ref w), some (.ref sc), some (.ref fd), some (.ref bf), some (.int (k : Int)), some (.ref af), some (.int (v : Int))] H' := by
          intro D2 H' ys kk h1 h2 cc fin
          walk_at "g"
          refine w_seT h1 (n := v) (by rw [ixN_pos (by omega) (by rw [List.length_map, midD_len]; omega), Int.toNat_natCast]) fun H'' k' h' => ?_
          rw [set_I8, midD_yes hv c] at h'
          exact fin H'' (kk.trans (k'.mono (by simp))) h' (k'.at1 (Ne.symm scfd) h2) (cc.put h1 k')
        walk_at "j"
        refine w_ifJ (fun σ' H' => σ' = [some (.int (n : Int)), some (.ref a), some (.ref w), some (.ref sc), some (.ref fd), some (.ref bf), some (.int (k : Int)), some (.ref af), some (.int (v : Int))] ∧ ∃ ys : List V, Kp [sc, fd] H8 H' ∧ H' sc = some (.lst ((midD n log k v).map V.int)) ∧ H' fd = some (.lst ys) ∧ CPs H' ys (fndK n log k ++ fndP n log k (v + 1))) (fun N hN => ?_) (fun σ' H' ⟨es, ys, kk, h1, h2, cc⟩ => ?_)
        · walk_at "g"
          refine w_ixL (SqL.of haf9) (at_S8 (by omega) (by omega)) ?_
          rw [Int.toNat_natCast]
          walk_at "g"
          refine w_iteD (fun c2 => ?_) (fun c2 => ?_)
          · walk_at "g"
            refine ⟨w_ty (SqL.of hfd9), ?_⟩
            walk_at "g"
            refine w_ixL (SqL.of hsc9) (at_I (by omega) (by rw [midD_len]; omega)) ?_
            rw [Int.toNat_natCast, midD_at hv, if_neg (fun z => by omega)]
            walk_at "g"
            refine ⟨sz_ok (by show 3 ≤ 1000000; omega), G.nw fun t HA nt kA ht => ?_⟩
            have hfdA := kA.at0 hfd9
            walk_at "g"
            refine w_apT hfdA (sz_lt lxs) fun HB kB hB => ?_
            refine hN _ _ ⟨rfl, _, k9.trans (kA.all.trans (kB.mono (by simp))), kB.at1 scfd (kA.at0 hsc9), hB, ?_⟩
            rw [fndP_snoc, if_pos ⟨c, c2⟩, ← List.append_assoc]
            exact ((cp9.k0 kA).app (CPs.one (t := ((v : Int), gI (bkR n (log.take k)).de v, (k : Int))) ht)).put hfdA kB
          · walk_at "g"
            refine hN _ _ ⟨rfl, xs, k9, hsc9, hfd9, ?_⟩
            rw [fndP_snoc, if_neg (fun z => c2 z.2), List.append_nil]
            exact cp9
        subst es
        refine setit _ H' ys kk h1 h2 cc fun H'' kk2 h1' h2' cc' => ?_
        exact ⟨_, ys, rfl, kk2, h1', h2', cc'⟩
      · walk_at "g"
        refine ⟨_, xs, rfl, k9, by rw [← midD_no hv c]; exact hsc9, hfd9, ?_⟩
        rw [fndP_snoc, if_neg (fun z => z.1 c), List.append_nil]
        exact cp9
    · rintro σ' H9 ⟨x8, xs, rfl, k9, hsc9, hfd9, cp9⟩
      rw [show ((n : Int) + 1).toNat = n + 1 by omega] at hsc9 cp9
      rw [midD_end hn le hop] at hsc9
      have cp9 : CPs H9 xs (fndK n log (k + 1)) := by rw [fndK_snoc]; exact cp9
      walk_at "g"
      refine ⟨af, _, _, _, xs, rfl, ?_, (st7.k0 k8).kp k9 (by simp [a1, b1]) (by simp [a2, b2]) (by simp [a3, b3]) (by simp [a4, b4]), hsc9, hfd9, cp9, k9 _ _ (by simp [Ne.symm afsc, Ne.symm affd]) haf, by simp [Ne.symm g2, Ne.symm g3, Ne.symm g4, Ne.symm afsc, Ne.symm affd]⟩
      exact (k6.all.trans ((k7.mono (S' := [r, l, o, sc, fd]) (by simp)).trans (k8.all.trans (k9.mono (by simp))))).cut (by simp [nr, nl, no, fsc, ffd])
  · rintro σ' H6 ⟨bf, x6, x7, x8, xs, rfl, k6, st6, hsc6, hfd6, cp6, hbf6, dbf⟩
    rw [Int.toNat_natCast, List.take_length] at st6 hsc6
    rw [Int.toNat_natCast] at cp6
    walk_at "g"
    refine ⟨sz_ok (by show 3 ≤ 1000000; omega), G.nw fun t H7 nt k7 ht => ?_⟩
    exact g t w r l o sc fd xs H7 nw nr nl no (k6.trans k7) ht (st6.k0 k7) (k7.at0 hsc6) (k7.at0 hfd6) (cp6.k0 k7)
end
end G
set_option Elab.async false
set_option linter.all false
set_option maxRecDepth 100000
set_option maxHeartbeats 1000000
namespace G
--#FAM KV
open PySem PySem.Spec PyProof.Rows L2
local macro_rules
  | `(tactic| walk_at "1") => `(tactic| first
    | with_reducible refine w_seq ?_
    | with_reducible refine w_asg ?_
    | with_reducible refine w_asgS ?_
    | with_reducible refine w_asf ?_
    | with_reducible refine w_drop ?_
    | with_reducible refine w_ret ?_
    | with_reducible refine w_if ?_
    | with_reducible refine w_not ?_
    | with_reducible refine w_and ?_
    | with_reducible refine w_or ?_
    | with_reducible refine w_test ?_
    | with_reducible refine w_tb ?_
    | with_reducible refine w_chain ?_
    | with_reducible refine w_op ?_
    | with_reducible refine w_un ?_
    | with_reducible refine w_andV ?_
    | with_reducible refine w_orV ?_
    | with_reducible refine w_notV ?_
    | with_reducible refine w_ifE ?_
    | with_reducible refine w_cons ?_
    | with_reducible refine w_nil ?_
    | with_reducible refine w_cb ?_
    | with_reducible refine w_cl ?_
    | with_reducible refine w_mt ?_
    | with_reducible refine w_fld ?_
    | with_reducible refine w_tupN ?_
    | with_reducible refine w_lstN ?_
    | with_reducible refine w_bm ?_
    | with_reducible refine w_bm0 ?_
    | with_reducible refine w_for ?_
    | with_reducible refine w_lc ?_
    | with_reducible refine w_iR1 ?_
    | with_reducible refine w_iR2 ?_
    | with_reducible refine w_iL ?_
    | with_reducible refine w_iT ?_
    | with_reducible refine w_iE ?_
    | with_reducible refine w_iZ ?_
    | with_reducible refine w_var (by with_unfolding_all rfl) ?_
    | with_reducible refine w_c ?_
    | with_reducible refine w_next ?_
    | with_reducible refine w_i0 ?_
    | with_reducible refine w_u1 ?_
    | with_reducible refine w_addI ?_
    | with_reducible refine w_eqI ?_
    | with_reducible refine w_eqS ?_
    | with_reducible refine w_eqB ?_
    | with_reducible refine w_neI ?_
    | with_reducible refine w_neS ?_
    | with_reducible refine w_neB ?_
    | with_reducible refine w_abs ?_
    | with_reducible refine w_intI ?_
    | with_reducible refine w_min2 ?_
    | with_reducible refine w_max2 ?_
    | with_reducible refine w_isN0 ?_
    | with_reducible refine w_isN1 ref_ne ?_
    | with_reducible refine w_isN1 int_ne ?_
    | with_reducible refine w_notN0 ?_
    | with_reducible refine w_notN1 ref_ne ?_
    | with_reducible refine w_notN1 int_ne ?_
    | with_reducible refine w_ex1 ?_
    | with_reducible refine w_n1 ?_
    | with_reducible refine w_n2 ?_
    | with_reducible refine w_tT ?_
    | with_reducible refine w_tF ?_
    | with_reducible refine w_nT ?_
    | with_reducible refine w_nF ?_
    | with_reducible refine w_rz ?_
    | with_reducible refine w_mkN ?_
    | with_reducible refine w_lrgN ?_
    | with_reducible refine w_rg1 ?_
    | with_reducible refine w_rg2 ?_
    | with_reducible refine w_sl ?_
    | with_reducible refine w_np ?_
    | with_reducible refine w_pt ?_
    | with_reducible refine w_tr ?_
    | with_reducible refine w_gn ?_
    | with_reducible refine w_yes ?_
    | with_reducible refine w_m1 ?_
    | with_reducible refine w_asu ?_
    | with_reducible refine w_exS ?_
    | with_reducible refine w_iS ?_
    | with_reducible refine w_g1 ?_
    | with_reducible refine w_gc ?_
    | with_reducible refine w_gt (SqT.of upd_same) rfl ?_)
local macro_rules
  | `(tactic| walk_at "g") => `(tactic| repeat walk_at "1")
local macro_rules
  | `(tactic| walk_at "j1") => `(tactic| first
    | with_reducible refine w_seqI ?_
    | walk_at "1")
local macro_rules
  | `(tactic| walk_at "j") => `(tactic| repeat walk_at "j1")
section
variable {K : PySem.W.Frag} {mg : Str → Option Value}
theorem len_is_plain_integer (K : PySem.W.Frag) : ∀ vs H Q E, sp_is_plain_integer K vs H Q E → vs.length = (["value"] : List Str).length := by
  rintro vs H Q E ⟨_, _, _, rfl, _⟩
  rfl
theorem rd_is_plain_integer (T : Txt K mg) (vs : List V) (H : Hp) (Q : VK) (E : XK) (h : sp_is_plain_integer K vs H Q E) : t_is_plain_integer K E { nx := fun _ H' => Q .non H', rt := Q } (start ["value"] vs) H := by
  obtain ⟨b, x, d, rfl, hv, g⟩ := h
  unfold t_is_plain_integer
  walk_at "g"
  refine w_isiIn hv ?_
  have e : isI d = (isIB d && !isBo d) := by cases d <;> rfl
  rw [e] at g
  cases c : isIB d with
  | false =>
    rw [c] at g
    walk_at "g"
    exact g
  | true =>
    rw [c, Bool.true_and] at g
    walk_at "g"
    refine w_isiBo hv ?_
    walk_at "g"
    exact g
theorem len_is_loss_certificate (K : PySem.W.Frag) : ∀ vs H Q E, sp_is_loss_certificate K vs H Q E → vs.length = (["size", "log", "value"] : List Str).length := by
  rintro vs H Q E ⟨_, _, _, _, _, _, rfl, _⟩
  rfl
theorem rd_is_loss_certificate (T : Txt K mg) (vs : List V) (H : Hp) (Q : VK) (E : XK) (h : sp_is_loss_certificate K vs H Q E) : t_is_loss_certificate K E { nx := fun _ H' => Q .non H', rt := Q } (start ["size", "log", "value", "certificates", "member"] vs) H := by
  obtain ⟨a, b, size, log, x, d, rfl, hs, hlen, hv, hd, re, g⟩ := h
  unfold t_is_loss_certificate
  walk_at "g"
  refine ⟨a, size, log, rfl, hs, hlen, re, fun ok le xs q H1 nq k1 hq cp => ?_⟩
  have g := g ok le
  have hv1 := hv.k0 k1
  generalize certs size.toNat log = es at g cp
  walk_at "g"
  refine w_isiTu hv1 ?_
  cases ct : isTu d with
  | false =>
    walk_at "g"
    rw [cerD_tu ct] at g
    exact g H1 k1
  | true =>
    walk_at "g"
    have hv2 := hv1
    obtain ⟨ds, rfl⟩ : ∃ ds, d = .tuple ds := by
      cases d with
      | tuple ds => exact ⟨ds, rfl⟩
      | _ => cases ct
    cases hv1 with
    | @tup ax xs' ds ne hx ha =>
      refine w_lenT (SqT.of hx) ?_
      have lx := ha.len
      walk_at "g"
      by_cases l3 : ds.length = 3
      · match ds, l3 with
        | [da, db, dc], _ =>
          cases ha with
          | @cons va _ _ _ h1 ha =>
            cases ha with
            | @cons vb _ _ _ h2 ha =>
              cases ha with
              | @cons vc _ _ _ h3 ha =>
                cases ha
                refine w_iteN (fun cc => absurd rfl cc) (fun _ => ?_)
                walk_at "g"
                refine ⟨ax, rfl, ⟨_, SqT.of hx⟩, ?_⟩
                refine cp_tup (SqT.of hx) (fun i => ([isI da, isI db, isI dc].take i).map V.bl) (fun i hi => sz_lt (by rw [List.length_map, List.length_take]; show min _ 3 < _; omega)) rfl (fun i x H' S N hi k y _ => ?_) (fun D H2 nD k2 hD => ?_)
                · walk_at "g"
                  refine ⟨rfl, ?_⟩
                  walk_at "g"
                  match i, hi with
                  | 0, hi =>
                    have e : va = x := by simpa using hi
                    subst e
                    exact ⟨b, va, da, rfl, h1.k0 k, y _ _ (Kp.refl _ _) rfl⟩
                  | 1, hi =>
                    have e : vb = x := by simpa using hi
                    subst e
                    exact ⟨b, vb, db, rfl, h2.k0 k, y _ _ (Kp.refl _ _) rfl⟩
                  | 2, hi =>
                    have e : vc = x := by simpa using hi
                    subst e
                    exact ⟨b, vc, dc, rfl, h3.k0 k, y _ _ (Kp.refl _ _) rfl⟩
                  | i + 3, hi => simp at hi
                have hD : H2 D = some (.lst ([isI da, isI db, isI dc].map V.bl)) := hD
                walk_at "g"
                refine ⟨D, [isI da, isI db, isI dc], rfl, SqL.of hD, ?_⟩
                have g : Any H (.bl ((isI da && (isI db && isI dc)) && inD (.tuple [da, db, dc]) es)) Q := g
                rw [all3]
                cases ei : (isI da && (isI db && isI dc)) with
                | false =>
                  rw [ei] at g
                  walk_at "g"
                  exact g H2 (k1.trans k2)
                | true =>
                  rw [ei] at g
                  walk_at "g"
                  exact ⟨_, _, Vl.dp _ _ (hv2.k0 k2), .lst (SqL.of (k2.at0 hq)) (cp.k0 k2).dp, hd, shCt es, g H2 (k1.trans k2)⟩
      · refine w_iteN (fun cc => ?_) (fun cc => absurd (by omega) l3)
        walk_at "g"
        have e : cerD (.tuple ds) es = false := by
          show (tripD (.tuple ds) && _) = false
          rw [tripD_len l3] <;> rfl
        rw [e] at g
        exact g H1 k1
theorem len_first_loss (K : PySem.W.Frag) : ∀ vs H Q E, sp_first_loss K vs H Q E → vs.length = (["size", "log"] : List Str).length := by
  rintro vs H Q E ⟨_, _, _, rfl, _⟩
  rfl
theorem rd_first_loss (T : Txt K mg) (vs : List V) (H : Hp) (Q : VK) (E : XK) (h : sp_first_loss K vs H Q E) : t_first_loss K E { nx := fun _ H' => Q .non H', rt := Q } (start ["size", "log", "links", "loss", "index", "operation", "lost"] vs) H := by
  obtain ⟨c, size, log, rfl, hs, re, gk⟩ := h
  unfold t_first_loss
  walk_at "g"
  refine mk fun q dx H1 nq hq k1 => ?_
  refine ⟨q, dx, size, rfl, hq, fun ok r l o H2 nr nl no k2 b => ⟨rfl, ?_⟩, fun bad => re.sz bad _ k1⟩
  have gk := gk ok
  have k02 : Kp [] H H2 := (k1.all.trans k2).cut1 nq
  obtain ⟨n, rfl, n60⟩ := ok_nat ok
  rw [Int.toNat_natCast] at b gk
  have re' : LogE K (wholeS n) log E H := by
    have := re.op ok
    rwa [Int.toNat_natCast] at this
  walk_at "g"
  have hs2 := k02.sql (by simp) hs
  refine ⟨c, _, rfl, hs2, lp_enum (xs := log.map V.int) (fun i σ H' => (∃ x3 x4 x5 x6, σ = [some (.int n), some (.ref c), some (.ref q), some x3, x4, x5, x6] ∧ OptP H' x3 (bkR n (log.take i)).ls) ∧ Leg (wholeS n) (log.take i) ∧ Kp [] H H' ∧
    LinksAt K H' q r l o (runS (wholeS n) (log.take i))) ⟨⟨_, _, _, _, rfl, rfl⟩, ?_, k02, b⟩ ?_ ?_ ?_⟩
  · intro i op h
    simp at h
  · rintro i σ' H' hi ⟨_, _, k, _⟩
    exact k.sql (by simp) hs
  · rintro i x T1 σ' H' hx ⟨⟨x3, x4, x5, x6, rfl, op3⟩, le, k, ls⟩ nT
    obtain ⟨op, hop, rfl⟩ := at_map hx
    have kT : Kp [] H' (upd H' T1 (.tup [.int (i : Int), .int op])) := Kp.new nT
    have e : log.take (i + 1) = log.take i ++ [op] := take_snoc hop
    have lti : (log.take i).length = i := by
      have := at_r hop
      rw [List.length_take]
      omega
    walk_at "g"
    have ls1 := ls.k0 kT
    refine w_me ls1 no_m ?_
    walk_at "g"
    refine ⟨q, r, l, o, _, op, i, rfl, ls1, fun ok4 H4 k4 ls4 => ?_, fun bad => ?_⟩
    · walk_at "g"
      have kk : Kp [] H H4 := ((k.trans kT).all.trans k4).cut (by simp [k1.free0 nr, k1.free0 nl, k1.free0 no])
      have sn := ls_snoc n60 le ok4
      rw [lti] at sn
      rw [e]
      have le2 := le.snoc ok4
      have es := runS_snoc (wholeS n) (log.take i) op
      cases e0 : (bkR n (log.take i)).ls with
      | some y =>
        obtain ⟨ky, gy⟩ := y
        rw [e0] at op3 sn
        obtain ⟨t, rfl, ht⟩ := op3
        have ht4 : H4 t = _ := k4 _ _ (by
          simp only [List.mem_cons, List.not_mem_nil, or_false, not_or]
          exact ⟨ne_of ht ls.hr (by intro z; cases z), ne_of ht ls.hl (by intro z; cases z), ne_of ht ls.ho (by intro z; cases z)⟩) (kT.at0 ht)
        walk_at "g"
        refine ⟨sz_ok (Nat.zero_le _), nw fun z H5 nz k5 hz => ?_⟩
        walk_at "g"
        refine w_truL (SqL.of hz) ?_
        refine iteF ?_
        walk_at "g"
        rw [sn, es]
        exact ⟨⟨_, _, _, _, rfl, t, rfl, k5.at0 ht4⟩, le2, kk.trans k5, ls4.k0 k5⟩
      | none =>
        rw [e0] at op3 sn
        have e3 : x3 = .non := op3
        subst e3
        walk_at "g"
        refine ⟨q, r, l, o, _, rfl, ls4, fun z H5 nz k5 hz => ?_⟩
        walk_at "g"
        refine w_truL (SqL.of hz) ?_
        cases eL : lostL (stepS (runS (wholeS n) (log.take i)) op) with
        | nil =>
          rw [eL] at sn
          refine iteF ?_
          walk_at "g"
          rw [sn, es]
          exact ⟨⟨_, _, _, _, rfl, rfl⟩, le2, kk.trans k5, ls4.k0 k5⟩
        | cons g rs =>
          rw [eL] at sn hz
          refine iteT ?_
          walk_at "g"
          refine w_ixL (SqL.of hz) (v := .int (g : Int)) at_0 ?_
          walk_at "g"
          refine ⟨sz_ok (by show 2 ≤ 1000000; omega), nw fun t H6 nt k6 ht => ?_⟩
          walk_at "g"
          rw [sn, es]
          exact ⟨⟨_, _, _, _, rfl, t, rfl, ht⟩, le2, (kk.trans k5).trans k6, (ls4.k0 k5).k0 k6⟩
    · rw [runS_n]
      exact re' i op hop le bad _ (k.trans kT)
  · rintro σ' H' ⟨⟨x3, x4, x5, x6, rfl, op3⟩, le, k, ls⟩
    rw [List.length_map, List.take_length] at le ls op3
    walk_at "g"
    exact gk le _ H' k op3
end
end G
set_option Elab.async false
set_option linter.all false
set_option maxRecDepth 100000
set_option maxHeartbeats 1000000
namespace G
--#FAM KV
open PySem PySem.Spec PyProof.Rows L2
local macro_rules
  | `(tactic| walk_at "1") => `(tactic| first
    | with_reducible refine w_seq ?_
    | with_reducible refine w_asg ?_
    | with_reducible refine w_asgS ?_
    | with_reducible refine w_asf ?_
    | with_reducible refine w_drop ?_
    | with_reducible refine w_ret ?_
    | with_reducible refine w_if ?_
    | with_reducible refine w_not ?_
    | with_reducible refine w_and ?_
    | with_reducible refine w_or ?_
    | with_reducible refine w_test ?_
    | with_reducible refine w_tb ?_
    | with_reducible refine w_chain ?_
    | with_reducible refine w_op ?_
    | with_reducible refine w_un ?_
    | with_reducible refine w_andV ?_
    | with_reducible refine w_orV ?_
    | with_reducible refine w_notV ?_
    | with_reducible refine w_ifE ?_
    | with_reducible refine w_cons ?_
    | with_reducible refine w_nil ?_
    | with_reducible refine w_cb ?_
    | with_reducible refine w_cl ?_
    | with_reducible refine w_mt ?_
    | with_reducible refine w_fld ?_
    | with_reducible refine w_tupN ?_
    | with_reducible refine w_lstN ?_
    | with_reducible refine w_bm ?_
    | with_reducible refine w_bm0 ?_
    | with_reducible refine w_for ?_
    | with_reducible refine w_lc ?_
    | with_reducible refine w_iR1 ?_
    | with_reducible refine w_iR2 ?_
    | with_reducible refine w_iL ?_
    | with_reducible refine w_iT ?_
    | with_reducible refine w_iE ?_
    | with_reducible refine w_iZ ?_
    | with_reducible refine w_var (by with_unfolding_all rfl) ?_
    | with_reducible refine w_c ?_
    | with_reducible refine w_next ?_
    | with_reducible refine w_i0 ?_
    | with_reducible refine w_u1 ?_
    | with_reducible refine w_addI ?_
    | with_reducible refine w_eqI ?_
    | with_reducible refine w_eqS ?_
    | with_reducible refine w_eqB ?_
    | with_reducible refine w_neI ?_
    | with_reducible refine w_neS ?_
    | with_reducible refine w_neB ?_
    | with_reducible refine w_abs ?_
    | with_reducible refine w_intI ?_
    | with_reducible refine w_min2 ?_
    | with_reducible refine w_max2 ?_
    | with_reducible refine w_isN0 ?_
    | with_reducible refine w_isN1 ref_ne ?_
    | with_reducible refine w_isN1 int_ne ?_
    | with_reducible refine w_notN0 ?_
    | with_reducible refine w_notN1 ref_ne ?_
    | with_reducible refine w_notN1 int_ne ?_
    | with_reducible refine w_ex1 ?_
    | with_reducible refine w_n1 ?_
    | with_reducible refine w_n2 ?_
    | with_reducible refine w_tT ?_
    | with_reducible refine w_tF ?_
    | with_reducible refine w_nT ?_
    | with_reducible refine w_nF ?_
    | with_reducible refine w_rz ?_
    | with_reducible refine w_mkN ?_
    | with_reducible refine w_lrgN ?_
    | with_reducible refine w_rg1 ?_
    | with_reducible refine w_rg2 ?_
    | with_reducible refine w_sl ?_
    | with_reducible refine w_np ?_
    | with_reducible refine w_pt ?_
    | with_reducible refine w_tr ?_
    | with_reducible refine w_gn ?_
    | with_reducible refine w_yes ?_
    | with_reducible refine w_m1 ?_
    | with_reducible refine w_asu ?_
    | with_reducible refine w_exS ?_
    | with_reducible refine w_iS ?_
    | with_reducible refine w_g1 ?_
    | with_reducible refine w_gc ?_
    | with_reducible refine w_gt (SqT.of upd_same) rfl ?_)
local macro_rules
  | `(tactic| walk_at "g") => `(tactic| repeat walk_at "1")
local macro_rules
  | `(tactic| walk_at "j1") => `(tactic| first
    | with_reducible refine w_seqI ?_
    | walk_at "1")
local macro_rules
  | `(tactic| walk_at "j") => `(tactic| repeat walk_at "j1")
section
variable {K : PySem.W.Frag} {mg : Str → Option Value}
theorem flat_S8 (f : Nat → Str) (l : List Nat) : (l.map fun (v : Nat) => V.str (f v)).all flatV = true := by
  rw [List.all_map]
  exact List.all_eq_true.mpr fun _ _ => rfl
theorem Leg.rep8 {H : Hp} {n : Nat} {log : List Int} {E : XK} (hn : n ≤ 60) (le : Leg (wholeS n) log) : RepE K H (n : Int) log E :=
  ⟨fun ok i op hi l b H' k => by rw [Int.toNat_natCast] at b; exact absurd (le i op hi) b, fun b => absurd ⟨by omega, by omega⟩ b⟩
theorem any_id {α : Type} (f : α → Bool) (l : List α) : (l.map f).any id = l.any f := by
  rw [List.any_map]
  rfl
theorem gap_nat {x : Int} (h : 0 ≤ x) : ∃ g : Nat, x = (g : Int) := ⟨x.toNat, by omega⟩
theorem len__loses_a_gap (K : PySem.W.Frag) : ∀ vs H Q E, sp__loses_a_gap K vs H Q E → vs.length = (["links", "operation"] : List Str).length := by
  rintro vs H Q E ⟨_, _, _, _, _, _, rfl, _⟩
  rfl
theorem rd__loses_a_gap (T : Txt K mg) (vs : List V) (H : Hp) (Q : VK) (E : XK) (h : sp__loses_a_gap K vs H Q E) : t__loses_a_gap K E { nx := fun _ H' => Q .non H', rt := Q } (start ["links", "operation", "gap"] vs) H := by
  obtain ⟨p, r, l, o, s, op, rfl, la, ok, g⟩ := h
  unfold t__loses_a_gap
  have wf := la.wf
  walk_at "g"
  refine ⟨p, r, l, o, s, op, rfl, la, fun _ => (fun q H1 nq k1 hq => ?_), fun z => absurd ok z⟩
  have fl := forW_len s op.natAbs
  have fb : ∀ x ∈ forW s op.natAbs, 0 ≤ x ∧ x ≤ s.n := forW_in wf ok.1.1 ok.1.2
  unfold svB at g
  generalize forW s op.natAbs = F at g hq fl fb
  refine w_l1 (SqL.of hq) ?_
  refine cp_lst (SqL.of hq) (fun i => ((F.take i).map fun g => !decide (stT s g.toNat = "joined")).map V.bl) (fun i hi => sz_lt (by rw [List.length_map, List.length_map, List.length_take]; rw [List.length_map] at hi; omega)) rfl (fun i x H' S N hx k y _ => ?_) (fun t H3 nt k3 ht => ?_)
  · obtain ⟨v, hv, rfl⟩ := at_map hx
    have vb := fb v (List.mem_of_getElem? hv)
    have k01 := k1.trans k
    walk_at "g"
    refine ⟨rfl, ?_⟩
    walk_at "g"
    refine ⟨p, r, l, o, s, v, rfl, la.k0 k01, fun _ => ?_, fun z => absurd vb z⟩
    walk_at "g"
    refine y _ H' (Kp.refl _ _) ?_
    rw [take_snoc hv, List.map_append, List.map_append] <;> rfl
  · rw [List.length_map, List.take_length] at ht
    walk_at "g"
    refine w_anyN ht ?_
    rw [any_id]
    exact g H3 (k1.trans k3)
theorem len__leaves_a_gap_to_a_holder_that_is_in (K : PySem.W.Frag) : ∀ vs H Q E, sp__leaves_a_gap_to_a_holder_that_is_in K vs H Q E → vs.length = (["links", "operation"] : List Str).length := by
  rintro vs H Q E ⟨_, _, _, _, _, _, rfl, _⟩
  rfl
theorem rd__leaves_a_gap_to_a_holder_that_is_in (T : Txt K mg) (vs : List V) (H : Hp) (Q : VK) (E : XK) (h : sp__leaves_a_gap_to_a_holder_that_is_in K vs H Q E) : t__leaves_a_gap_to_a_holder_that_is_in K E { nx := fun _ H' => Q .non H', rt := Q } (start ["links", "operation", "gap"] vs) H := by
  obtain ⟨p, r, l, o, s, op, rfl, la, ok, g⟩ := h
  unfold t__leaves_a_gap_to_a_holder_that_is_in
  have wf := la.wf
  walk_at "g"
  refine ⟨p, r, l, o, s, op, rfl, la, fun _ => (fun q H1 nq k1 hq => ?_), fun z => absurd ok z⟩
  have fl := forW_len s op.natAbs
  have fb : ∀ x ∈ forW s op.natAbs, 0 ≤ x ∧ x ≤ s.n := forW_in wf ok.1.1 ok.1.2
  unfold gdB at g
  generalize forW s op.natAbs = F at g hq fl fb
  refine w_l1 (SqL.of hq) ?_
  refine cp_lst (SqL.of hq) (fun i => ((F.take i).map fun g => !gB s.O (ltI op.natAbs g).toNat).map V.bl) (fun i hi => sz_lt (by rw [List.length_map, List.length_map, List.length_take]; rw [List.length_map] at hi; omega)) rfl (fun i x H' S N hx k y _ => ?_) (fun t H3 nt k3 ht => ?_)
  · obtain ⟨v, hv, rfl⟩ := at_map hx
    have vb := fb v (List.mem_of_getElem? hv)
    have k01 := k1.trans k
    obtain ⟨m, em⟩ : ∃ m : Nat, ltI op.natAbs v = (m : Int) := ⟨(ltI op.natAbs v).toNat, by unfold ltI; split <;> omega⟩
    have em2 : m ≤ s.n + 1 := by unfold ltI at em; split at em <;> omega
    walk_at "g"
    refine ⟨rfl, ?_⟩
    walk_at "g"
    refine w_me (la.k0 k01) no_m ?_
    walk_at "g"
    refine ⟨op, v, rfl, ?_⟩
    walk_at "g"
    rw [em]
    refine ⟨p, r, l, o, s, m, rfl, la.k0 k01, em2, ?_⟩
    refine ⟨_, rfl, ?_⟩
    refine y _ H' (Kp.refl _ _) ?_
    rw [take_snoc hv, List.map_append, List.map_append]
    show _ ++ [V.bl (!gB s.O (ltI op.natAbs v).toNat)] = _
    rw [em, Int.toNat_natCast]
  · rw [List.length_map, List.take_length] at ht
    walk_at "g"
    refine w_anyN ht ?_
    rw [any_id]
    exact g H3 (k1.trans k3)
theorem len__has_fitting_neighbours (K : PySem.W.Frag) : ∀ vs H Q E, sp__has_fitting_neighbours K vs H Q E → vs.length = (["links", "operation"] : List Str).length := by
  rintro vs H Q E ⟨_, _, _, _, _, _, rfl, _⟩
  rfl
theorem rd__has_fitting_neighbours (T : Txt K mg) (vs : List V) (H : Hp) (Q : VK) (E : XK) (h : sp__has_fitting_neighbours K vs H Q E) : t__has_fitting_neighbours K E { nx := fun _ H' => Q .non H', rt := Q } (start ["links", "operation", "node", "low", "high"] vs) H := by
  obtain ⟨p, r, l, o, s, op, rfl, la, ok, g⟩ := h
  unfold t__has_fitting_neighbours
  have wf := la.wf
  obtain ⟨⟨i1, i2⟩, io2⟩ := ok
  obtain ⟨r1, r2⟩ := wf.rb op.natAbs (by omega)
  obtain ⟨l1, l2⟩ := wf.lb op.natAbs (by omega) (by omega)
  obtain ⟨lo, elo⟩ := gap_nat l1
  obtain ⟨hi, ehi⟩ := gap_nat (x := gI s.R op.natAbs) (by omega)
  unfold fitB at g
  rw [elo, ehi, Int.toNat_natCast, Int.toNat_natCast] at g
  walk_at "g"
  rw [natAbs_if]
  refine w_me la no_m ?_
  walk_at "g"
  refine ⟨p, r, l, o, s, op.natAbs, rfl, la, by omega, by omega, ?_⟩
  rw [elo]
  walk_at "g"
  refine w_me la no_m ?_
  walk_at "g"
  refine ⟨p, r, l, o, s, op.natAbs, rfl, la, by omega, ?_⟩
  rw [ehi]
  walk_at "g"
  refine w_me la no_m ?_
  walk_at "g"
  refine ⟨p, r, l, o, s, lo, rfl, la, by omega, ?_⟩
  refine ⟨_, rfl, ?_⟩
  refine w_iteB (fun c1 => ?_) (fun c1 => ?_)
  · rw [c1] at g
    walk_at "g"
    exact g H (Kp.refl _ _)
  · walk_at "g"
    refine w_me la no_m ?_
    walk_at "g"
    refine ⟨p, r, l, o, s, hi, rfl, la, by omega, ?_⟩
    refine ⟨_, rfl, ?_⟩
    refine w_iteB (fun c2 => ?_) (fun c2 => ?_)
    · rw [c1, c2] at g
      walk_at "g"
      exact g H (Kp.refl _ _)
    · rw [c1, c2, Bool.or_false, Bool.not_false, Bool.true_and] at g
      walk_at "g"
      refine w_iteD (fun c3 => ?_) (fun c3 => ?_)
      · rw [if_pos c3] at g
        walk_at "g"
        refine w_me la no_m ?_
        walk_at "g"
        refine ⟨p, r, l, o, s, lo, rfl, la, by omega, ?_⟩
        walk_at "g"
        refine w_iteD (fun c4 => ?_) (fun c4 => ?_)
        · rw [decide_eq_true c4, Bool.true_and] at g
          walk_at "g"
          refine w_me la no_m ?_
          walk_at "g"
          refine ⟨p, r, l, o, s, hi, rfl, la, by omega, by omega, ?_⟩
          walk_at "g"
          exact g H (Kp.refl _ _)
        · rw [decide_eq_false c4, Bool.false_and] at g
          exact g H (Kp.refl _ _)
      · rw [if_neg c3] at g
        walk_at "g"
        refine w_me la no_m ?_
        walk_at "g"
        refine ⟨p, r, l, o, s, lo, rfl, la, by omega, ?_⟩
        walk_at "g"
        refine w_iteD (fun c4 => ?_) (fun c4 => ?_)
        · rw [decide_eq_true c4, Bool.true_and] at g
          walk_at "g"
          refine w_me la no_m ?_
          walk_at "g"
          refine ⟨p, r, l, o, s, hi, rfl, la, by omega, by omega, ?_⟩
          walk_at "g"
          exact g H (Kp.refl _ _)
        · rw [decide_eq_false c4, Bool.false_and] at g
          exact g H (Kp.refl _ _)
theorem len_FreeMode_refusal (K : PySem.W.Frag) : ∀ vs H Q E, sp_FreeMode_refusal K vs H Q E → vs.length = (["self", "links", "operation"] : List Str).length := by
  rintro vs H Q E ⟨_, _, _, _, _, _, _, _, rfl, _⟩
  rfl
theorem rd_FreeMode_refusal (T : Txt K mg) (vs : List V) (H : Hp) (Q : VK) (E : XK) (h : sp_FreeMode_refusal K vs H Q E) : t_FreeMode_refusal K E { nx := fun _ H' => Q .non H', rt := Q } (start ["self", "links", "operation"] vs) H := by
  obtain ⟨x, p, r, l, o, s, op, c, rfl, md, dc, la, g1, g2⟩ := h
  unfold t_FreeMode_refusal
  walk_at "g"
  refine w_me la no_m ?_
  walk_at "g"
  refine ⟨p, r, l, o, s, op, 0, rfl, la, fun ok => ?_, g2⟩
  walk_at "g"
  have := g1 ok H (Kp.refl _ _)
  rwa [refS_0] at this
theorem len_SavingMode_refusal (K : PySem.W.Frag) : ∀ vs H Q E, sp_SavingMode_refusal K vs H Q E → vs.length = (["self", "links", "operation"] : List Str).length := by
  rintro vs H Q E ⟨_, _, _, _, _, _, _, _, rfl, _⟩
  rfl
theorem rd_SavingMode_refusal (T : Txt K mg) (vs : List V) (H : Hp) (Q : VK) (E : XK) (h : sp_SavingMode_refusal K vs H Q E) : t_SavingMode_refusal K E { nx := fun _ H' => Q .non H', rt := Q } (NdefX.startF ["self", "links", "operation", "__class__", "refusing"] vs [some (.ref (He.ga K "SavingMode"))]) H := by
  obtain ⟨x, p, r, l, o, s, op, c, rfl, md, dc, la, g1, g2⟩ := h
  obtain ⟨dx, hx⟩ := md.ob
  have c3 := md.c3
  unfold t_SavingMode_refusal
  refine ⟨x, mdC K c, dx, [], rfl, hx, ?_, ?_⟩
  · match c, dc, c3 with
    | 1, _, _ => exact T.sup_SavingMode_SavingMode_refusal
    | 2, _, _ => exact T.sup_GuardedMode_SavingMode_refusal
    | 3, _, _ => exact T.sup_CheckedMode_SavingMode_refusal
  walk_at "g"
  refine ⟨x, p, r, l, o, s, op, c, rfl, md, by omega, la, fun ok => fun H1 k1 => ?_, g2⟩
  have g1 := g1 ok
  have la1 := la.k0 k1
  rw [refS_0]
  rw [refS_1] at g1
  walk_at "g"
  rw [decide_eq_true rfl]
  walk_at "g"
  refine ⟨p, r, l, o, s, op, rfl, la1, ok, fun H2 k2 => ?_⟩
  refine ⟨_, rfl, ?_⟩
  refine w_iteB (fun c1 => ?_) (fun c1 => ?_)
  · walk_at "g"
    have := g1 H2 (k1.trans k2)
    rwa [if_pos c1] at this
  · walk_at "g"
    have := g1 H2 (k1.trans k2)
    rwa [if_neg (by rw [c1]; exact Bool.false_ne_true)] at this
theorem len_GuardedMode_refusal (K : PySem.W.Frag) : ∀ vs H Q E, sp_GuardedMode_refusal K vs H Q E → vs.length = (["self", "links", "operation"] : List Str).length := by
  rintro vs H Q E ⟨_, _, _, _, _, _, _, _, rfl, _⟩
  rfl
theorem rd_GuardedMode_refusal (T : Txt K mg) (vs : List V) (H : Hp) (Q : VK) (E : XK) (h : sp_GuardedMode_refusal K vs H Q E) : t_GuardedMode_refusal K E { nx := fun _ H' => Q .non H', rt := Q } (NdefX.startF ["self", "links", "operation", "__class__", "refusing"] vs [some (.ref (He.ga K "GuardedMode"))]) H := by
  obtain ⟨x, p, r, l, o, s, op, c, rfl, md, dc, la, g1, g2⟩ := h
  obtain ⟨dx, hx⟩ := md.ob
  have c3 := md.c3
  unfold t_GuardedMode_refusal
  refine ⟨x, mdC K c, dx, [], rfl, hx, ?_, ?_⟩
  · match c, dc, c3 with
    | 2, _, _ => exact T.sup_GuardedMode_GuardedMode_refusal
    | 3, _, _ => exact T.sup_CheckedMode_GuardedMode_refusal
  walk_at "g"
  refine ⟨x, p, r, l, o, s, op, c, rfl, md, by omega, la, fun ok => fun H1 k1 => ?_, g2⟩
  have g1 := g1 ok
  have la1 := la.k0 k1
  rw [refS_2] at g1
  walk_at "g"
  refine w_iteD (fun e => ?_) (fun e => ?_)
  · walk_at "g"
    refine ⟨p, r, l, o, s, op, rfl, la1, ok, fun H2 k2 => ?_⟩
    refine ⟨_, rfl, ?_⟩
    refine w_iteB (fun c1 => ?_) (fun c1 => ?_)
    · walk_at "g"
      have := g1 H2 (k1.trans k2)
      rwa [if_pos ⟨e, c1⟩] at this
    · walk_at "g"
      have := g1 H2 (k1.trans k2)
      rwa [if_neg (fun z => by rw [c1] at z; cases z.2)] at this
  · walk_at "g"
    have := g1 H1 k1
    rwa [if_neg (fun z => e z.1)] at this
theorem len_CheckedMode_refusal (K : PySem.W.Frag) : ∀ vs H Q E, sp_CheckedMode_refusal K vs H Q E → vs.length = (["self", "links", "operation"] : List Str).length := by
  rintro vs H Q E ⟨_, _, _, _, _, _, _, _, rfl, _⟩
  rfl
theorem rd_CheckedMode_refusal (T : Txt K mg) (vs : List V) (H : Hp) (Q : VK) (E : XK) (h : sp_CheckedMode_refusal K vs H Q E) : t_CheckedMode_refusal K E { nx := fun _ H' => Q .non H', rt := Q } (NdefX.startF ["self", "links", "operation", "__class__", "refusing"] vs [some (.ref (He.ga K "CheckedMode"))]) H := by
  obtain ⟨x, p, r, l, o, s, op, c, rfl, md, dc, la, g1, g2⟩ := h
  obtain ⟨dx, hx⟩ := md.ob
  have c3 := md.c3
  unfold t_CheckedMode_refusal
  refine ⟨x, mdC K c, dx, [], rfl, hx, ?_, ?_⟩
  · match c, dc, c3 with
    | 3, _, _ => exact T.sup_CheckedMode_CheckedMode_refusal
  walk_at "g"
  refine ⟨x, p, r, l, o, s, op, c, rfl, md, by omega, la, fun ok => fun H1 k1 => ?_, g2⟩
  have g1 := g1 ok
  have la1 := la.k0 k1
  rw [refS_3] at g1
  walk_at "g"
  refine w_iteD (fun e => ?_) (fun e => ?_)
  · walk_at "g"
    refine ⟨p, r, l, o, s, op, rfl, la1, ok, fun H2 k2 => ?_⟩
    refine ⟨_, rfl, ?_⟩
    refine w_iteB (fun c1 => ?_) (fun c1 => ?_)
    · walk_at "g"
      have := g1 H2 (k1.trans k2)
      rwa [if_pos ⟨e, by simpa using c1⟩] at this
    · walk_at "g"
      have := g1 H2 (k1.trans k2)
      rwa [if_neg (fun z => by rw [z.2] at c1; cases c1)] at this
  · walk_at "g"
    have := g1 H1 k1
    rwa [if_neg (fun z => e z.1)] at this
theorem w_mk0 {C : Addr} {σ : L2.St} {H : Hp} {Q : VK} (g : ∀ x dx H', H x = none → Kp [] H H' → H' x = some (.ins C dx []) → Q (.ref x) H') : tMk0 C σ H Q :=
  fun x dx n1 n2 ne => g x dx _ n1 ((Kp.new n2).trans (Kp.new (by rw [upd_ne (Ne.symm ne)]; exact n1))) upd_same
theorem w_mtD {L : List (Addr × Sp)} {m : Str} {E : L2.St → XK} {ta : TE} {t : TA} {σ : L2.St} {H : Hp} {Q : VK} (h : ta σ H fun x H1 => ∃ C sp, (C, sp) ∈ L ∧ ∃ a dx fs, x = .ref a ∧ H1 a = some (.ins C dx fs) ∧ fs.lookup m = none ∧ t σ H1 fun vs H2 => sp (x :: vs) H2 Q (E σ)) : tMtD L m E ta t σ H Q := h
theorem w_rf {H : Hp} {x : Addr} {c : Nat} {P : Sp → Prop} (md : MdAt K H x c) (g : P (spRf K c)) : ∃ C sp, (C, sp) ∈ L_refusal K ∧ ∃ a dx fs, V.ref x = .ref a ∧ H a = some (.ins C dx fs) ∧ (fs : List (Str × V)).lookup ("refusal" : Str) = none ∧ P sp := by
  obtain ⟨dx, hx⟩ := md.ob
  have c3 := md.c3
  match c, c3 with
  | 0, _ => exact ⟨_, _, List.mem_cons_self, x, dx, [], rfl, hx, rfl, g⟩
  | 1, _ => exact ⟨_, _, List.mem_cons_of_mem _ List.mem_cons_self, x, dx, [], rfl, hx, rfl, g⟩
  | 2, _ => exact ⟨_, _, List.mem_cons_of_mem _ (List.mem_cons_of_mem _ List.mem_cons_self), x, dx, [], rfl, hx, rfl, g⟩
  | 3, _ => exact ⟨_, _, List.mem_cons_of_mem _ (List.mem_cons_of_mem _ (List.mem_cons_of_mem _ List.mem_cons_self)), x, dx, [], rfl, hx, rfl, g⟩
theorem w_con {H : Hp} {x : Addr} {c : Nat} {R : V → Prop} (T : Txt K mg) (md : MdAt K H x c) (g : R (.str (mdN c))) : ∃ a C dx fs v u, V.ref x = .ref a ∧ H a = some (.ins C dx fs) ∧ Cls K C ∧ Con K C "NAME" v u ∧ (fs : List (Str × V)).lookup ("NAME" : Str) = none ∧ R v := by
  obtain ⟨dx, hx⟩ := md.ob
  have c3 := md.c3
  match c, c3 with
  | 0, _ => obtain ⟨u, h⟩ := T.con_FreeMode_NAME; exact ⟨x, _, dx, [], _, u, rfl, hx, T.cl_FreeMode, h, rfl, g⟩
  | 1, _ => obtain ⟨u, h⟩ := T.con_SavingMode_NAME; exact ⟨x, _, dx, [], _, u, rfl, hx, T.cl_SavingMode, h, rfl, g⟩
  | 2, _ => obtain ⟨u, h⟩ := T.con_GuardedMode_NAME; exact ⟨x, _, dx, [], _, u, rfl, hx, T.cl_GuardedMode, h, rfl, g⟩
  | 3, _ => obtain ⟨u, h⟩ := T.con_CheckedMode_NAME; exact ⟨x, _, dx, [], _, u, rfl, hx, T.cl_CheckedMode, h, rfl, g⟩
theorem w_tcon {ta : TE} {f : Str} {σ : L2.St} {H : Hp} {Q : VK} (h : ta σ H fun x H1 => ∃ a C dx fs v u, x = .ref a ∧ H1 a = some (.ins C dx fs) ∧ Cls K C ∧ Con K C f v u ∧ fs.lookup f = none ∧ Q v H1) : tCon K ta f σ H Q := h
theorem len_check_admitted (K : PySem.W.Frag) : ∀ vs H Q E, sp_check_admitted K vs H Q E → vs.length = (["links", "operation", "index", "judge"] : List Str).length := by
  rintro vs H Q E ⟨_, _, _, _, _, _, _, _, _, rfl, _⟩
  rfl
theorem rd_check_admitted (T : Txt K mg) (vs : List V) (H : Hp) (Q : VK) (E : XK) (h : sp_check_admitted K vs H Q E) : t_check_admitted K E { nx := fun _ H' => Q .non H', rt := Q } (start ["links", "operation", "index", "judge", "refusing"] vs) H := by
  obtain ⟨x, p, r, l, o, s, op, i, c, rfl, md, la, g1, g2, g3⟩ := h
  unfold t_check_admitted
  walk_at "g"
  refine w_me la no_m ?_
  walk_at "g"
  refine ⟨p, r, l, o, s, op, i, rfl, la, fun ok => ?_, g3⟩
  walk_at "g"
  refine w_mtD ?_
  walk_at "g"
  refine w_rf (P := fun sp => (tCons (tVar 0) (tCons (tVar 1) tNil)) _ _ fun vs H2 => sp (V.ref x :: vs) H2 _ _) md ?_
  walk_at "g"
  refine ⟨x, p, r, l, o, s, op, c, rfl, md, Nat.le_refl _, la, fun _ => fun H1 k1 => ?_, fun z => absurd ok z⟩
  walk_at "g"
  refine w_iteN (fun e => ?_) (fun e => ?_)
  · walk_at "g"
    exact ⟨rfl, Nat.le_of_ble_eq_true rfl, g2 ok e H1 k1⟩
  · walk_at "g"
    exact g1 ok e H1 k1
theorem len_all_modes (K : PySem.W.Frag) : ∀ vs H Q E, sp_all_modes K vs H Q E → vs.length = ([] : List Str).length := by
  rintro vs H Q E ⟨rfl, _⟩
  rfl
theorem rd_all_modes (T : Txt K mg) (vs : List V) (H : Hp) (Q : VK) (E : XK) (h : sp_all_modes K vs H Q E) : t_all_modes K E { nx := fun _ H' => Q .non H', rt := Q } (start [] vs) H := by
  obtain ⟨rfl, g⟩ := h
  unfold t_all_modes
  walk_at "g"
  refine w_mk0 fun x0 d0 H0 n0 k0 h0 => ?_
  walk_at "g"
  refine w_mk0 fun x1 d1 H1 n1 k1 h1 => ?_
  walk_at "g"
  refine w_mk0 fun x2 d2 H2 n2 k2 h2 => ?_
  walk_at "g"
  refine w_mk0 fun x3 d3 H3 n3 k3 h3 => ?_
  walk_at "g"
  refine ⟨sz_ok (by show 4 ≤ 1000000; omega), G.nw fun q H4 nq k4 hq => ?_⟩
  have k34 := k3.trans k4
  have k24 := k2.trans k34
  have k14 := k1.trans k24
  exact g q x0 x1 x2 x3 H4 (k0.free0 (k1.free0 (k2.free0 (k3.free0 nq)))) n0 (k0.free0 n1) (k0.free0 (k1.free0 n2)) (k0.free0 (k1.free0 (k2.free0 n3))) (k0.trans k14) hq
    ⟨⟨d0, k14.at0 h0⟩, by omega⟩ ⟨⟨d1, k24.at0 h1⟩, by omega⟩ ⟨⟨d2, k34.at0 h2⟩, by omega⟩ ⟨⟨d3, k4.at0 h3⟩, by omega⟩
theorem len_mode_named (K : PySem.W.Frag) : ∀ vs H Q E, sp_mode_named K vs H Q E → vs.length = (["mode"] : List Str).length := by
  rintro vs H Q E ⟨_, rfl, _⟩
  rfl
theorem rd_mode_named (T : Txt K mg) (vs : List V) (H : Hp) (Q : VK) (E : XK) (h : sp_mode_named K vs H Q E) : t_mode_named K E { nx := fun _ H' => Q .non H', rt := Q } (start ["mode", "known"] vs) H := by
  obtain ⟨m, rfl, g1, g2⟩ := h
  unfold t_mode_named
  walk_at "g"
  refine ⟨rfl, fun q x0 x1 x2 x3 H1 nq n0 n1 n2 n3 k1 hq m0 m1 m2 m3 => ?_⟩
  have key : ∀ (i : Nat) (x : V), [V.ref x0, V.ref x1, V.ref x2, V.ref x3][i]? = some x → ∃ y, x = .ref y ∧ H y = none ∧ MdAt K H1 y i := by
    intro i x hx
    match i, hx with
    | 0, hx => injection hx with hx; exact ⟨x0, hx.symm, n0, m0⟩
    | 1, hx => injection hx with hx; exact ⟨x1, hx.symm, n1, m1⟩
    | 2, hx => injection hx with hx; exact ⟨x2, hx.symm, n2, m2⟩
    | 3, hx => injection hx with hx; exact ⟨x3, hx.symm, n3, m3⟩
  refine w_l1 (SqL.of hq) ?_
  refine lp_lst (xs := [V.ref x0, V.ref x1, V.ref x2, V.ref x3]) (fun i σ H' => (∃ u, σ = [some (.str m), u]) ∧ Kp [] H1 H' ∧ ∀ d, d < i → m ≠ mdN d) ⟨⟨_, rfl⟩, Kp.refl _ _, fun d hd => by omega⟩ ?_ ?_ ?_
  · rintro i σ' H' hi ⟨_, k, _⟩
    exact SqL.of (k.at0 hq)
  · rintro i x σ' H' hx ⟨⟨u, rfl⟩, k, al⟩
    obtain ⟨y, rfl, ny, md⟩ := key i x hx
    walk_at "g"
    refine w_tcon ?_
    walk_at "g"
    refine w_con T (md.k0 k) ?_
    walk_at "g"
    refine w_iteD (fun e => ?_) (fun e => ?_)
    · walk_at "g"
      exact g1 i md.c3 e.symm y H' ny (k1.trans k) (md.k0 k)
    · walk_at "g"
      refine ⟨⟨_, rfl⟩, k, fun d hd => ?_⟩
      by_cases z : d = i
      · rw [z]; exact fun w => e w.symm
      · exact al d (by omega)
  · rintro σ' H' ⟨⟨u, rfl⟩, k, al⟩
    walk_at "g"
    exact ⟨rfl, Nat.le_of_ble_eq_true rfl, g2 (fun c hc => al c (by show c < 4; omega)) H' (k1.trans k)⟩
theorem len_admits (K : PySem.W.Frag) : ∀ vs H Q E, sp_admits K vs H Q E → vs.length = (["links", "operation", "mode"] : List Str).length := by
  rintro vs H Q E ⟨_, _, _, _, _, _, _, rfl, _⟩
  rfl
theorem rd_admits (T : Txt K mg) (vs : List V) (H : Hp) (Q : VK) (E : XK) (h : sp_admits K vs H Q E) : t_admits K E { nx := fun _ H' => Q .non H', rt := Q } (start ["links", "operation", "mode"] vs) H := by
  obtain ⟨p, r, l, o, s, op, m, rfl, la, g, bm⟩ := h
  unfold t_admits
  walk_at "g"
  refine w_mtD ?_
  walk_at "g"
  refine ⟨m, rfl, fun c c3 em x H1 nx k1 md => ?_, bm⟩
  obtain ⟨g1, g2⟩ := g c c3 em
  refine w_rf (P := fun sp => (tCons (tVar 0) (tCons (tVar 1) tNil)) _ _ fun vs H2 => sp (V.ref x :: vs) H2 _ _) md ?_
  walk_at "g"
  refine ⟨x, p, r, l, o, s, op, c, rfl, md, Nat.le_refl _, la.k0 k1, fun ok => fun H2 k2 => ?_, fun z => g2 z H1 k1⟩
  walk_at "g"
  exact g1 ok H2 (k1.trans k2)
theorem len_replay_in (K : PySem.W.Frag) : ∀ vs H Q E, sp_replay_in K vs H Q E → vs.length = (["size", "log", "mode"] : List Str).length := by
  rintro vs H Q E ⟨_, _, _, _, rfl, _⟩
  rfl
theorem rd_replay_in (T : Txt K mg) (vs : List V) (H : Hp) (Q : VK) (E : XK) (h : sp_replay_in K vs H Q E) : t_replay_in K E { nx := fun _ H' => Q .non H', rt := Q } (start ["size", "log", "mode", "links", "judge", "index", "operation"] vs) H := by
  obtain ⟨a, size, log, m, rfl, hs, bz, bm, g⟩ := h
  unfold t_replay_in
  walk_at "g"
  refine mk fun q dx H1 nq hq k1 => ?_
  refine ⟨q, dx, size, rfl, hq, fun ok r l o H2 nr nl no k2 b => ⟨rfl, ?_⟩, fun bad => bz bad _ k1⟩
  have k02 : Kp [] H H2 := (k1.all.trans k2).cut1 nq
  walk_at "g"
  refine ⟨m, rfl, fun c c3 em x H3 nx k3 md => ?_, fun nm H3 k3 => bm ok nm H3 (k02.trans k3)⟩
  obtain ⟨g1, g2⟩ := g ok c c3 em
  have k03 := k02.trans k3
  have b3 := b.k0 k3
  obtain ⟨f1, f2, f3⟩ : x ≠ r ∧ x ≠ l ∧ x ≠ o := ⟨fun z => ne_of_none b.hr nx z.symm, fun z => ne_of_none b.hl nx z.symm, fun z => ne_of_none b.ho nx z.symm⟩
  have hs3 := k03.sql (by simp) hs
  walk_at "g"
  refine ⟨a, _, rfl, hs3, lp_enum (xs := log.map V.int) (fun i σ H' => (∃ u v, σ = [some (.int size), some (.ref a), some (.str m), some (.ref q), some (.ref x), u, v]) ∧ Adm c (wholeS size.toNat) (log.take i) ∧ Kp [] H H' ∧ LinksAt K H' q r l o (runS (wholeS size.toNat) (log.take i)) ∧ MdAt K H' x c) ⟨⟨_, _, rfl⟩, adm_nil _ _, k03, b3, md⟩ ?_ ?_ ?_⟩
  · rintro i σ' H' hi ⟨_, _, k, _⟩
    exact k.sql (by simp) hs
  · rintro i y T0 σ' H' hx ⟨⟨u, v, rfl⟩, ad, k, ls, md'⟩ nT
    obtain ⟨op, hop, rfl⟩ := at_map hx
    have kT : Kp [] H' (upd H' T0 (.tup [.int (i : Int), .int op])) := Kp.new nT
    have kk := k.trans kT
    have ls1 := ls.k0 kT
    have md1 := md'.k0 kT
    have e := take_snoc hop
    walk_at "g"
    refine ⟨x, q, r, l, o, _, op, i, c, rfl, md1, ls1, fun ok2 er => fun H4 k4 => ?_, fun ok2 er H4 k4 => (g2 i op hop ad).2 ok2 er H4 (kk.trans k4), fun bad => ?_⟩
    · have ls4 := ls1.k0 k4
      have md4 := md1.k0 k4
      walk_at "g"
      refine w_me ls4 no_m ?_
      walk_at "g"
      refine ⟨q, r, l, o, _, op, rfl, ls4, fun ok3 H5 k5 ls5 => ?_, fun bad => absurd ok2 bad⟩
      walk_at "g"
      refine ⟨⟨_, _, rfl⟩, ?_, ?_, ?_, ?_⟩
      · rw [e]
        exact ad.snoc ok2 er
      · exact ((kk.trans k4).all.trans k5).cut (by simp [k1.free0 nr, k1.free0 nl, k1.free0 no])
      · rw [e, runS_snoc]
        exact ls5
      · exact md4.kp k5 (by simp [f1, f2, f3])
    · rw [runS_n]
      exact (g2 i op hop ad).1 bad _ kk
  · rintro σ' H' ⟨⟨u, v, rfl⟩, ad, k, ls, _⟩
    rw [List.length_map, List.take_length] at ad ls
    walk_at "g"
    exact g1 ad q r l o H' nq (k1.free0 nr) (k1.free0 nl) (k1.free0 no) k ls
theorem len_first_refusal (K : PySem.W.Frag) : ∀ vs H Q E, sp_first_refusal K vs H Q E → vs.length = (["size", "log", "mode"] : List Str).length := by
  rintro vs H Q E ⟨_, _, _, _, rfl, _⟩
  rfl
theorem rd_first_refusal (T : Txt K mg) (vs : List V) (H : Hp) (Q : VK) (E : XK) (h : sp_first_refusal K vs H Q E) : t_first_refusal K E { nx := fun _ H' => Q .non H', rt := Q } (start ["size", "log", "mode", "judge", "links", "index", "operation"] vs) H := by
  obtain ⟨a, size, log, m, rfl, hs, bz, bm, g⟩ := h
  unfold t_first_refusal
  walk_at "g"
  refine ⟨size, rfl, fun ok => ?_, fun bad => bz bad H (Kp.refl _ _)⟩
  walk_at "g"
  refine ⟨m, rfl, fun c c3 em x H1 nx k1 md => ?_, fun nm H3 k3 => bm ok nm H3 k3⟩
  obtain ⟨g1, g2⟩ := g ok c c3 em
  walk_at "g"
  refine ⟨a, size, log, rfl, k1.sql (by simp) hs, fun _ le => ?_, fun _ => ?_, fun z => absurd ok z⟩
  · intro p0 r0 l0 o0 H2 np0 nr0 nl0 no0 k2 la0
    obtain ⟨g3, g4⟩ := g2 le
    have k02 := k1.trans k2
    have md2 := md.k0 k2
    obtain ⟨dx2, hx2⟩ := md2.ob
    walk_at "g"
    refine mk fun q dx H3 nq hq k3 => ?_
    refine ⟨q, dx, size, rfl, hq, fun ok r l o H4 nr nl no k4 b => ⟨rfl, ?_⟩, fun bad => absurd ok bad⟩
    have k24 : Kp [] H2 H4 := (k3.all.trans k4).cut1 nq
    have k04 := k02.trans k24
    have hx4 := k24.at0 hx2
    have md4 := md2.k0 k24
    have fr : H r = none ∧ H l = none ∧ H o = none := ⟨k02.free0 (k3.free0 nr), k02.free0 (k3.free0 nl), k02.free0 (k3.free0 no)⟩
    obtain ⟨f1, f2, f3⟩ : x ≠ r ∧ x ≠ l ∧ x ≠ o := ⟨ne_of_none (k3.at0 hx2) nr, ne_of_none (k3.at0 hx2) nl, ne_of_none (k3.at0 hx2) no⟩
    have hs4 := k04.sql (by simp) hs
    walk_at "g"
    refine ⟨a, _, rfl, hs4, lp_enum (xs := log.map V.int) (fun i σ H' => (∃ u v, σ = [some (.int size), some (.ref a), some (.str m), some (.ref x), some (.ref q), u, v]) ∧ Adm c (wholeS size.toNat) (log.take i) ∧ Kp [] H H' ∧ LinksAt K H' q r l o (runS (wholeS size.toNat) (log.take i)) ∧ MdAt K H' x c) ⟨⟨_, _, rfl⟩, adm_nil _ _, k04, b, md4⟩ ?_ ?_ ?_⟩
    · rintro i σ' H' hi ⟨_, _, k, _⟩
      exact k.sql (by simp) hs
    · rintro i y T0 σ' H' hx ⟨⟨u, v, rfl⟩, ad, k, ls, md'⟩ nT
      obtain ⟨op, hop, rfl⟩ := at_map hx
      have kT : Kp [] H' (upd H' T0 (.tup [.int (i : Int), .int op])) := Kp.new nT
      have kk := k.trans kT
      have ls1 := ls.k0 kT
      have md1 := md'.k0 kT
      have e := take_snoc hop
      have okop := le i op hop
      walk_at "g"
      refine w_mtD ?_
      walk_at "g"
      refine w_rf (P := fun sp => (tCons (tVar 4) (tCons (tVar 6) tNil)) _ _ fun vs H2 => sp (V.ref x :: vs) H2 _ _) md1 ?_
      walk_at "g"
      refine ⟨x, q, r, l, o, _, op, c, rfl, md1, Nat.le_refl _, ls1, fun _ => fun H5 k5 => ?_, fun bad => absurd okop bad⟩
      have ls5 := ls1.k0 k5
      have md5 := md1.k0 k5
      walk_at "g"
      refine w_iteN (fun er => ?_) (fun er => ?_)
      · walk_at "g"
        exact g4 i ⟨op, hop, ad, er⟩ H5 (kk.trans k5)
      · walk_at "g"
        refine w_me ls5 no_m ?_
        walk_at "g"
        refine ⟨q, r, l, o, _, op, rfl, ls5, fun ok3 H6 k6 ls6 => ?_, fun bad => absurd okop bad⟩
        walk_at "g"
        refine ⟨⟨_, _, rfl⟩, ?_, ?_, ?_, ?_⟩
        · rw [e]
          exact ad.snoc okop er
        · exact ((kk.trans k5).all.trans k6).cut (by simp [fr.1, fr.2.1, fr.2.2])
        · rw [e, runS_snoc]
          exact ls6
        · exact md5.kp k6 (by simp [f1, f2, f3])
    · rintro σ' H' ⟨⟨u, v, rfl⟩, ad, k, ls, _⟩
      rw [List.length_map, List.take_length] at ad
      walk_at "g"
      exact g3 ad H' k
  · intro i op hi le bad H2 k2
    exact g1 i op hi le bad H2 (k1.trans k2)
theorem str_glue (a b c : Str) : a ++ (" | " : Str) ++ b ++ (" | " : Str) ++ c = Txt.join barS [a, b, c] := by
  rw [TL.join_eq]
  refine TL.ext_tl ?_
  rw [TL.tl_join]
  show TL.tl (a ++ barS ++ b ++ barS ++ c) = TL.tl a ++ (TL.tl barS ++ (TL.tl b ++ (TL.tl barS ++ TL.tl c)))
  simp only [TL.tl_append, List.append_assoc]
theorem lkR (a b c : V) : ([(("refusing" : Str), a), ("index", b), ("operation", c)] : List (Str × V)).lookup ("operation" : Str) = some c ∧ ([(("refusing" : Str), a), ("index", b), ("operation", c)] : List (Str × V)).lookup ("index" : Str) = some b := by
  have h1 : (("operation" : Str) == ("refusing" : Str)) = false := by decide +kernel
  have h2 : (("operation" : Str) == ("index" : Str)) = false := by decide +kernel
  have h3 : (("index" : Str) == ("refusing" : Str)) = false := by decide +kernel
  constructor
  · rw [List.lookup_cons, h1, List.lookup_cons, h2]
    exact lk1 _ _ _
  · rw [List.lookup_cons, h3]
    exact lk1 _ _ _
theorem len__law_after (K : PySem.W.Frag) : ∀ vs H Q E, sp53__law_after K vs H Q E → vs.length = (["many", "row"] : List Str).length := by
  rintro vs H Q E ⟨_, _, _, rfl, _⟩
  rfl
theorem rd__law_after (T : Txt K mg) (vs : List V) (H : Hp) (Q : VK) (E : XK) (h : sp53__law_after K vs H Q E) : t__law_after K E { nx := fun _ H' => Q .non H', rt := Q } (start ["many", "row", "state", "deed"] vs) H := by
  obtain ⟨a, n, log, rfl, hn, ha, le, g⟩ := h
  unfold t__law_after
  walk_at "g"
  refine ⟨n, rfl, hn, fun w r l o H1 nw nr nl no k1 st => ?_⟩
  have ha1 := k1.at0 ha
  have aw : a ≠ w ∧ a ≠ r ∧ a ≠ l ∧ a ≠ o := ⟨ne_of_none ha nw, ne_of_none ha nr, ne_of_none ha nl, ne_of_none ha no⟩
  walk_at "g"
  refine w_l1 (SqL.of ha1) ?_
  refine lp_lst (xs := log.map V.int) (fun i σ H' => (∃ u, σ = [some (.int (n : Int)), some (.ref a), some (.ref w), u]) ∧ Kp [] H H' ∧ St3 H' w r l o (runS (wholeS n) (log.take i))) ⟨⟨_, rfl⟩, k1, st⟩ ?_ ?_ ?_
  · rintro i σ' H' hi ⟨_, k, _⟩
    exact SqL.of (k.at0 ha)
  · rintro i x σ' H' hx ⟨⟨u, rfl⟩, k, st'⟩
    obtain ⟨op, hop, rfl⟩ := at_map hx
    walk_at "g"
    refine ⟨w, r, l, o, _, op, rfl, st', (le i op hop).1, fun H2 k2 st2 => ?_⟩
    walk_at "g"
    refine ⟨⟨_, rfl⟩, (k.all.trans k2).cut (by simp [nr, nl, no]), ?_⟩
    rw [take_snoc hop, runS_snoc]
    exact st2
  · rintro σ' H' ⟨⟨u, rfl⟩, k, st'⟩
    rw [List.length_map, List.take_length] at st'
    walk_at "g"
    exact g w r l o H' nw nr nl no k st'
theorem len__law_dump (K : PySem.W.Frag) : ∀ vs H Q E, sp__law_dump K vs H Q E → vs.length = (["state"] : List Str).length := by
  rintro vs H Q E ⟨_, _, _, _, _, rfl, _⟩
  rfl
theorem rd__law_dump (T : Txt K mg) (vs : List V) (H : Hp) (Q : VK) (E : XK) (h : sp__law_dump K vs H Q E) : t__law_dump K E { nx := fun _ H' => Q .non H', rt := Q } (start ["state", "outs", "rights", "lefts", "v"] vs) H := by
  obtain ⟨w, r, l, o, s, rfl, a, g⟩ := h
  unfold t__law_dump
  have wf := a.wf
  have sn := a.sn
  have n60 := wf.n60
  have lR := wf.lR
  have lL := wf.lL
  have lO := wf.lO
  have lT := len_tail wf sn (-1)
  obtain ⟨R9, Rl⟩ := wf.R9
  obtain ⟨L9, Ll⟩ := wf.L9
  have o9 := outN_9 n60 s.O
  have ol := outN_len s.n s.O
  walk_at "g"
  refine w_ixL (SqL.of a.ob) at_0 ?_
  walk_at "g"
  refine w_lenL (SqL.of a.hr) ?_
  walk_at "g"
  rw [List.length_map, lR]
  refine w_r2 (by omega) ?_
  rw [show (((s.n + 1 : Nat) : Int) - 1).toNat = s.n by omega]
  refine cp_rng (fun i => (outN i s.O).map fun i => V.str (numI i)) (fun i hi => sz_lt (by
    rw [List.length_map]
    have := outN_len i s.O
    omega)) rfl (fun i H' S N hi k y no => ?_) (fun D1 H1 nD1 k1 hD1 => ?_)
  · walk_at "g"
    refine ⟨rfl, ?_⟩
    walk_at "g"
    refine w_ixL (SqL.of (k.at0 a.ob)) (i := 2) (v := .ref o) rfl ?_
    walk_at "g"
    refine w_ixL (SqL.of (k.at0 a.ho)) (at_B8 (by omega) (by omega)) ?_
    rw [show ((1 : Int) + (i : Int)).toNat = i + 1 by omega]
    walk_at "g"
    refine w_iteB (fun c1 => ?_) (fun c1 => ?_)
    · walk_at "g"
      refine w_str (log_ok (by omega) (by omega)) ?_
      refine y _ _ (Kp.refl _ _) ?_
      rw [outN_snoc8, if_pos c1, List.map_append, show (1 : Int) + (i : Int) = ((i + 1 : Nat) : Int) by omega] <;> rfl
    · refine no _ (Kp.refl _ _) ?_
      rw [outN_snoc8, if_neg (by rw [c1]; exact Bool.false_ne_true), List.append_nil]
  have e1 : ((outN s.n s.O).map fun i => V.str (numI i)) = ((outN s.n s.O).map numI).map V.str := by rw [List.map_map] <;> rfl
  rw [e1] at hD1
  have a1 := a.k0 k1
  walk_at "g"
  refine w_ixL (SqL.of a1.ob) at_0 ?_
  refine w_l1 (SqL.of a1.hr) ?_
  refine cp_lst (SqL.of a1.hr) (fun j => (s.R.take j).map fun i => V.str (numI i)) (fun j hj => sz_lt (by rw [List.length_map, List.length_take]; rw [List.length_map] at hj; omega)) rfl (fun j x H' S N hx k y _ => ?_) (fun D2 H2 nD2 k2 hD2 => ?_)
  · obtain ⟨v, hv, rfl⟩ := at_map hx
    have b := R9 v (List.mem_of_getElem? hv)
    walk_at "g"
    refine ⟨rfl, ?_⟩
    walk_at "g"
    refine w_str (log_ok b.1 b.2) ?_
    exact y _ _ (Kp.refl _ _) (map_snoc (f := fun i => V.str (numI i)) hv)
  rw [List.length_map, List.take_length] at hD2
  have e2 : (s.R.map fun i => V.str (numI i)) = (s.R.map numI).map V.str := by rw [List.map_map] <;> rfl
  rw [e2] at hD2
  refine w_joinL (SqL.of hD2) (join_cost R9 (by omega)) ?_
  have a2 := a1.k0 k2
  walk_at "g"
  refine w_ixL (SqL.of a2.ob) (i := 1) (v := .ref l) rfl ?_
  walk_at "g"
  refine w_slL (SqL.of a2.hl) fun q3 H3 nq3 k3 hq3 => ?_
  have ec : cutV (((-1 : Int) :: s.L.tail).map V.int) (some 1) none = (((-1 : Int) :: s.L.tail).map V.int).drop 1 := cut_drop _ 1 (by rw [List.length_map]; omega)
  rw [ec, ← List.map_drop, show ((-1 : Int) :: s.L.tail).drop 1 = s.L.drop 1 by rw [List.drop_one, List.drop_one]; rfl] at hq3
  walk_at "g"
  refine w_l1 (SqL.of hq3) ?_
  refine cp_lst (SqL.of hq3) (fun j => ((s.L.drop 1).take j).map fun i => V.str (numI i)) (fun j hj => sz_lt (by rw [List.length_map, List.length_take]; omega)) rfl (fun j x H' S N hx k y _ => ?_) (fun D4 H4 nD4 k4 hD4 => ?_)
  · obtain ⟨v, hv, rfl⟩ := at_map hx
    have b := L9 v (List.mem_of_getElem? hv)
    walk_at "g"
    refine ⟨rfl, ?_⟩
    walk_at "g"
    refine w_str (log_ok b.1 b.2) ?_
    exact y _ _ (Kp.refl _ _) (map_snoc (f := fun i => V.str (numI i)) hv)
  rw [List.length_map, List.take_length] at hD4
  have e4 : ((s.L.drop 1).map fun i => V.str (numI i)) = ((s.L.drop 1).map numI).map V.str := by rw [List.map_map] <;> rfl
  rw [e4] at hD4
  refine w_joinL (SqL.of hD4) (join_cost L9 (by omega)) ?_
  have k24 := k2.trans (k3.trans k4)
  have k14 := k1.trans k24
  have hD1' := k24.at0 hD1
  have lr := joinI_len R9
  have ll := joinI_len L9
  have lo := outsT_len o9
  have lb : (" | " : Str).length = 3 := by decide +kernel
  have la : ∀ a b : Str, (a ++ b).length = a.length + b.length := fun a b => by
    rw [TL.len_tl, TL.tl_append, List.length_append, ← TL.len_tl, ← TL.len_tl]
  have fin := str_glue (joinI s.R) (joinI (s.L.drop 1)) (outsT (outN s.n s.O))
  have gg := g H4 k14
  unfold dumpS at gg
  rw [← fin] at gg
  walk_at "g"
  refine w_addS (sz_ok (by show (joinI s.R).length + _ ≤ _; omega)) ?_
  walk_at "g"
  refine w_addS (sz_ok (by show ((joinI s.R) ++ _).length + (joinI (s.L.drop 1)).length ≤ _; rw [la]; omega)) ?_
  walk_at "g"
  refine w_addS (sz_ok (by show ((joinI s.R) ++ _ ++ (joinI (s.L.drop 1))).length + _ ≤ _; rw [la, la]; omega)) ?_
  walk_at "g"
  refine w_truL (SqL.of hD1') ?_
  have ei : ((outN s.n s.O).map numI |>.map V.str).isEmpty = decide (outN s.n s.O = []) := by
    cases outN s.n s.O <;> rfl
  rw [ei]
  refine w_iteN (fun c => ?_) (fun c => ?_)
  · walk_at "g"
    refine w_joinL (SqL.of hD1') (join_cost o9 (by omega)) ?_
    refine w_addS (sz_ok (by show ((joinI s.R) ++ _ ++ (joinI (s.L.drop 1)) ++ _).length + (joinI (outN s.n s.O)).length ≤ _; unfold outsT at lo; rw [if_neg c] at lo; rw [la, la, la]; omega)) ?_
    unfold outsT at gg
    rw [if_neg c] at gg
    exact gg
  · walk_at "g"
    refine w_addS (sz_ok (by show ((joinI s.R) ++ _ ++ (joinI (s.L.drop 1)) ++ _).length + ("none" : Str).length ≤ _; unfold outsT at lo; rw [if_pos c] at lo; rw [la, la, la]; have : (noneS : Str).length = ("none" : Str).length := rfl; omega)) ?_
    unfold outsT at gg
    rw [if_pos c] at gg
    exact gg
theorem SamV.bools {n : Nat} {H : Hp} {a b : Addr} {xs : List V} (h1 : H a = some (.lst xs)) (h2 : H b = some (.lst xs)) (hm : xs.length ≤ 1000) (h : ∀ x ∈ xs, Atom x) : SamV (n + 2) H (.ref a) (.ref b) :=
  .inr ⟨a, b, xs, xs, rfl, rfl, .inl ⟨h1, h2⟩, rfl, hm, fun i u v hu hv => by
    rw [hu] at hv
    injection hv with hv
    subst hv
    exact .at (h u (List.mem_of_getElem? hu))⟩
theorem new_any {s : Sd} (w : Wf s) {op : Int} (io : IsOp s.n op) : (((List.range (s.n + 1)).filter fun v => !decide (stT s v = "lost")).any fun v => decide (stT (stepS s op) v = "lost")) = svB s op.natAbs := by
  rw [Bool.eq_iff_iff, ← sv_new w io, List.any_eq_true]
  constructor
  · rintro ⟨g, hg, e⟩
    obtain ⟨h1, h2⟩ := List.mem_filter.mp hg
    exact ⟨g, by have := List.mem_range.mp h1; omega, by simpa using h2, of_decide_eq_true e⟩
  · rintro ⟨g, h1, h2, h3⟩
    exact ⟨g, List.mem_filter.mpr ⟨List.mem_range.mpr (by omega), by simpa using h2⟩, decide_eq_true h3⟩
theorem gA_st {s : Sd} {g : Nat} : (decide (stT s g = "joined") || decide (stT s g = "left")) = true ↔ gA s g := by
  rw [Bool.or_eq_true, decide_eq_true_iff, decide_eq_true_iff, stT_joined, stT_left]
  show (gA s g ∧ gBk s g) ∨ (gA s g ∧ ¬ gBk s g) ↔ gA s g
  constructor
  · rintro (h | h) <;> exact h.1
  · intro h
    by_cases c : gBk s g
    · exact .inl ⟨h, c⟩
    · exact .inr ⟨h, c⟩
theorem gB_st {s : Sd} {g : Nat} : (decide (stT s g = "joined") || decide (stT s g = "right")) = true ↔ gBk s g := by
  rw [Bool.or_eq_true, decide_eq_true_iff, decide_eq_true_iff, stT_joined, stT_right]
  show (gA s g ∧ gBk s g) ∨ (¬ gA s g ∧ gBk s g) ↔ gBk s g
  constructor
  · rintro (h | h) <;> exact h.2
  · intro h
    by_cases c : gA s g
    · exact .inl ⟨c, h⟩
    · exact .inr ⟨c, h⟩
theorem w_tup2 {H : Hp} {Q : VK} {x a b : Str} {t : Addr} (ht : H t = some (.tup [.str a, .str b])) (g : Q (.bl (decide (x = a) || decide (x = b))) H) : rIn K false (.str x) (.ref t) H Q := by
  refine w_inT (SqT.of ht) rfl rfl ?_
  rw [inS2]
  exact g
theorem len__law_refuser (K : PySem.W.Frag) : ∀ vs H Q E, sp__law_refuser K vs H Q E → vs.length = (["state", "deed"] : List Str).length := by
  rintro vs H Q E ⟨_, _, _, _, _, _, rfl, _⟩
  rfl
theorem rd__law_refuser (T : Txt K mg) (vs : List V) (H : Hp) (Q : VK) (E : XK) (h : sp__law_refuser K vs H Q E) : t__law_refuser K E { nx := fun _ H' => Q .non H', rt := Q } (start ["state", "deed", "node", "low", "high", "before", "then", "after", "v"] vs) H := by
  obtain ⟨w, r, l, o, s, op, rfl, st, ok, g⟩ := h
  unfold t__law_refuser
  have wf := st.wf
  have sn := st.sn
  have n60 := wf.n60
  have io := ok.1
  obtain ⟨m, lo, hi, t⟩ := ab_step wf io
  have lenR : s.R.length = s.n + 1 := wf.lR
  have lenL := len_tail wf sn (-1)
  have lenO : s.O.length = s.n + 2 := wf.lO
  have tx := t.x
  have tl := t.lm
  have th := t.mh
  have tn := t.hn
  have sv := new_any wf io
  have gd := gd_ab t
  have eL : gI s.L op.natAbs = (lo : Int) := by rw [tx]; exact t.el
  have eR : gI s.R op.natAbs = (hi : Int) + 1 := by rw [tx]; exact t.er
  have q1 : svB s op.natAbs = true → ∀ H', Kp [] H H' → Q (.int 1) H' := fun a H' k => by
    have := g H' k
    unfold rfI at this
    rwa [if_pos a] at this
  have q2 : svB s op.natAbs = false → gdB s op.natAbs = true → ∀ H', Kp [] H H' → Q (.int 2) H' := fun a b H' k => by
    have := g H' k
    unfold rfI at this
    rwa [if_neg (by rw [a]; exact Bool.false_ne_true), if_pos b] at this
  have q34 : ∀ F, fitB s op = F → svB s op.natAbs = false → gdB s op.natAbs = false → ∀ H', Kp [] H H' → Q (.int (if F = false then 3 else 4)) H' := fun F e a b H' k => by
    have := g H' k
    unfold rfI at this
    rwa [if_neg (by rw [a]; exact Bool.false_ne_true), if_neg (by rw [b]; exact Bool.false_ne_true), e] at this
  clear g
  walk_at "g"
  rw [natAbs_if]
  refine w_ixL (SqL.of st.ob) (i := 1) (v := .ref l) rfl ?_
  walk_at "g"
  refine w_ixL (SqL.of st.hl) (at_I (by omega) (by rw [lenL]; omega)) ?_
  rw [Int.toNat_natCast, gI_tail sn (-1) (by omega), eL]
  walk_at "g"
  refine w_ixL (SqL.of st.ob) at_0 ?_
  walk_at "g"
  refine w_ixL (SqL.of st.hr) (at_I (by omega) (by rw [lenR]; omega)) ?_
  rw [Int.toNat_natCast, eR]
  walk_at "g"
  refine ⟨w, r, l, o, s, rfl, st, fun b1 H1 nb1 k1 hb1 => ?_⟩
  have st1 := st.k0 k1
  walk_at "g"
  refine ⟨w, r, l, o, s, rfl, st1, fun w2 r2 l2 o2 H2 nw2 nr2 nl2 no2 k2 st2 => ?_⟩
  walk_at "g"
  refine ⟨w2, r2, l2, o2, s, op, rfl, st2, io, fun H3 k3 st3 => ?_⟩
  have k13 : Kp [] H1 H3 := (k2.all.trans k3).cut (by simp [nr2, nl2, no2])
  walk_at "g"
  refine ⟨w2, r2, l2, o2, _, rfl, st3, fun b4 H4 nb4 k4 hb4 => ?_⟩
  have k14 := k13.trans k4
  have hb14 := k14.at0 hb1
  have st4 := st1.k0 k14
  have hb4 : H4 b4 = some (.lst ((List.range (s.n + 1)).map fun (v : Nat) => V.str (stT (stepS s op) v))) := hb4
  have k04 := k1.trans k14
  walk_at "j"
  refine w_ifK (fun H' => Kp [] H4 H' ∧ svB s op.natAbs = false) (fun N hN => ?_) (fun H5 ⟨k5, c1⟩ => ?_)
  · walk_at "g"
    refine w_lenL (SqL.of hb4) ?_
    walk_at "g"
    rw [List.length_map, List.length_range]
    refine w_r1 (by omega) ?_
    rw [Int.toNat_natCast]
    refine cp_rng (fun i => ((List.range i).filter fun v => !decide (stT s v = "lost")).map fun (v : Nat) => V.str (stT (stepS s op) v)) (fun i hi => sz_lt (by
      rw [List.length_map]
      refine Nat.lt_of_le_of_lt (List.length_filter_le _ _) ?_
      rw [List.length_range]
      omega)) rfl (fun i H' S N hi k y no => ?_) (fun D5 H5 nD5 k5 hD5 => ?_)
    · walk_at "g"
      refine ⟨rfl, ?_⟩
      walk_at "g"
      refine w_ixL (SqL.of (k.at0 hb14)) (at_S8 (by omega) (by omega)) ?_
      rw [show ((0 : Int) + (i : Int)).toNat = i by omega]
      walk_at "g"
      refine w_iteN (fun c => ?_) (fun c => ?_)
      · walk_at "g"
        refine w_ixL (SqL.of (k.at0 hb4)) (at_S8 (by omega) (by omega)) ?_
        rw [show ((0 : Int) + (i : Int)).toNat = i by omega]
        refine y _ _ (Kp.refl _ _) ?_
        rw [List.range_succ, List.filter_append, List.map_append, List.filter_cons_of_pos (by rw [decide_eq_false c]; rfl)] <;> rfl
      · refine no _ (Kp.refl _ _) ?_
        rw [List.range_succ, List.filter_append, List.map_append, List.filter_cons_of_neg (by rw [decide_eq_true c]; exact Bool.false_ne_true)] <;> simp
    · refine w_inL (x := V.str "lost") (SqL.of hD5) rfl (flat_S8 _ _) ?_
      rw [inV_S8, sv]
      walk_at "g"
      refine w_iteB (fun c => ?_) (fun c => ?_)
      · have c : svB s op.natAbs = true := c
        walk_at "g"
        exact q1 c H5 (k04.trans k5)
      · have c : svB s op.natAbs = false := c
        walk_at "g"
        exact hN H5 ⟨k5, c⟩
  have q2 := q2 c1
  have k05 := k04.trans k5
  have st5 := st4.k0 k5
  have hb15 := k5.at0 hb14
  walk_at "j"
  refine w_ifK (fun H' => Kp [] H5 H' ∧ ¬ (lo ≠ m ∧ gA s lo ∧ gB s.O (lo + 1) = false)) (fun N hN => ?_) (fun H6 ⟨k6, c2⟩ => ?_)
  · walk_at "g"
    refine w_iteN (fun c => ?_) (fun c => ?_)
    · walk_at "g"
      refine w_ixL (SqL.of hb15) (at_S8 (by omega) (by omega)) ?_
      rw [Int.toNat_natCast]
      walk_at "g"
      refine ⟨sz_ok (by show 2 ≤ 1000000; omega), G.nw fun tp H6 ntp k6 htp => ?_⟩
      refine w_tup2 htp ?_
      walk_at "g"
      refine w_iteB (fun ca => ?_) (fun ca => ?_)
      · have ca := gA_st.mp ca
        walk_at "g"
        refine w_ixL (SqL.of (k6.at0 st5.ob)) (i := 2) (v := .ref o) rfl ?_
        walk_at "g"
        refine w_ixL (SqL.of (k6.at0 st5.ho)) (at_B8 (by omega) (by omega)) ?_
        rw [show ((lo : Int) + 1).toNat = lo + 1 by omega]
        walk_at "g"
        refine w_iteBN (fun cb => ?_) (fun cb => ?_)
        · walk_at "g"
          exact q2 (gd.mpr (.inl ⟨by omega, ca, cb⟩)) H6 (k05.trans k6)
        · walk_at "g"
          exact hN H6 ⟨k6, fun z => by rw [cb] at z; cases z.2.2⟩
      · walk_at "g"
        exact hN H6 ⟨k6, fun z => by rw [gA_st.mpr z.2.1] at ca; cases ca⟩
    · walk_at "g"
      exact hN H5 ⟨Kp.refl _ _, fun z => z.1 (by omega)⟩
  have k06 := k05.trans k6
  have st6 := st5.k0 k6
  have hb16 := k6.at0 hb15
  walk_at "j"
  refine w_ifK (fun H' => Kp [] H6 H' ∧ ¬ (hi ≠ m + 1 ∧ gBk s hi ∧ gB s.O hi = false)) (fun N hN => ?_) (fun H7 ⟨k7, c3⟩ => ?_)
  · walk_at "g"
    refine w_iteN (fun c => ?_) (fun c => ?_)
    · walk_at "g"
      refine w_ixL (SqL.of hb16) (at_S8 (by omega) (by omega)) ?_
      rw [show ((hi : Int) + 1 - 1).toNat = hi by omega]
      walk_at "g"
      refine ⟨sz_ok (by show 2 ≤ 1000000; omega), G.nw fun tp H7 ntp k7 htp => ?_⟩
      refine w_tup2 htp ?_
      walk_at "g"
      refine w_iteB (fun ca => ?_) (fun ca => ?_)
      · have ca := gB_st.mp ca
        walk_at "g"
        refine w_ixL (SqL.of (k7.at0 st6.ob)) (i := 2) (v := .ref o) rfl ?_
        walk_at "g"
        refine w_ixL (SqL.of (k7.at0 st6.ho)) (at_B8 (by omega) (by omega)) ?_
        rw [show ((hi : Int) + 1 - 1).toNat = hi by omega]
        walk_at "g"
        refine w_iteBN (fun cb => ?_) (fun cb => ?_)
        · walk_at "g"
          exact q2 (gd.mpr (.inr ⟨by omega, ca, cb⟩)) H7 (k06.trans k7)
        · walk_at "g"
          exact hN H7 ⟨k7, fun z => by rw [cb] at z; cases z.2.2⟩
      · walk_at "g"
        exact hN H7 ⟨k7, fun z => by rw [gB_st.mpr z.2.1] at ca; cases ca⟩
    · walk_at "g"
      exact hN H6 ⟨Kp.refl _ _, fun z => z.1 (by omega)⟩
  have k07 := k06.trans k7
  have st7 := st6.k0 k7
  have gf : gdB s op.natAbs = false := by
    cases e : gdB s op.natAbs with
    | false => rfl
    | true =>
      rcases gd.mp e with z | z
      · exact absurd z c2
      · exact absurd z c3
  have ef : fitB s op = (!(gB s.O lo || gB s.O (hi + 1)) && (if op < 0 then decide (gI s.R lo = (op.natAbs : Int)) && decide (gI s.L (hi + 1) = (op.natAbs : Int)) else decide (gI s.R lo = (hi : Int) + 1) && decide (gI s.L (hi + 1) = (lo : Int)))) := by
    unfold fitB
    rw [eL, eR, Int.toNat_natCast, show ((hi : Int) + 1).toNat = hi + 1 by omega]
  have q34 := q34 _ ef c1 gf
  clear q1 q2 sv gd
  have eLh : gI ((-1 : Int) :: s.L.tail) (hi + 1) = gI s.L (hi + 1) := gI_tail sn (-1) (by omega)
  walk_at "j"
  refine w_ifK (fun H' => H' = H7 ∧ gB s.O lo = false ∧ gB s.O (hi + 1) = false) (fun N hN => ?_) (fun H8 ⟨e8, c4, c5⟩ => ?_)
  · walk_at "g"
    refine w_ixL (SqL.of st7.ob) (i := 2) (v := .ref o) rfl ?_
    walk_at "g"
    refine w_ixL (SqL.of st7.ho) (at_B8 (by omega) (by omega)) ?_
    rw [Int.toNat_natCast]
    walk_at "g"
    refine w_iteB (fun ca => ?_) (fun ca => ?_)
    · walk_at "g"
      have := q34 H7 k07
      rwa [ca, Bool.true_or, Bool.not_true, Bool.false_and, if_pos rfl] at this
    · walk_at "g"
      refine w_ixL (SqL.of st7.ob) (i := 2) (v := .ref o) rfl ?_
      walk_at "g"
      refine w_ixL (SqL.of st7.ho) (at_B8 (by omega) (by omega)) ?_
      rw [show ((hi : Int) + 1).toNat = hi + 1 by omega]
      walk_at "g"
      refine w_iteB (fun cb => ?_) (fun cb => ?_)
      · walk_at "g"
        have := q34 H7 k07
        rwa [cb, Bool.or_true, Bool.not_true, Bool.false_and, if_pos rfl] at this
      · walk_at "g"
        exact hN H7 ⟨rfl, ca, cb⟩
  subst e8
  rw [c4, c5, Bool.or_false, Bool.not_false, Bool.true_and] at q34
  have at0 : ∀ {R : V → Hp → Prop}, R (.int (gI s.R lo)) H8 → R (.int (gI s.R lo)) H8 := fun h => h
  walk_at "j"
  refine w_ifK (fun H' => H' = H8 ∧ (op < 0 → gI s.R lo = (op.natAbs : Int) ∧ gI s.L (hi + 1) = (op.natAbs : Int))) (fun N hN => ?_) (fun H9 ⟨e9, c6⟩ => ?_)
  · walk_at "g"
    refine w_iteD (fun ca => ?_) (fun ca => ?_)
    · rw [if_pos ca] at q34
      walk_at "g"
      refine w_ixL (SqL.of st7.ob) at_0 ?_
      walk_at "g"
      refine w_ixL (SqL.of st7.hr) (at_I (by omega) (by rw [lenR]; omega)) ?_
      rw [Int.toNat_natCast]
      walk_at "g"
      refine w_iteN (fun cb => ?_) (fun cb => ?_)
      · walk_at "g"
        have := q34 H8 k07
        rwa [decide_eq_false cb, Bool.false_and, if_pos rfl] at this
      · walk_at "g"
        refine w_ixL (SqL.of st7.ob) (i := 1) (v := .ref l) rfl ?_
        walk_at "g"
        refine w_ixL (SqL.of st7.hl) (at_I (by omega) (by rw [lenL]; omega)) ?_
        rw [show ((hi : Int) + 1).toNat = hi + 1 by omega, eLh]
        walk_at "g"
        refine w_iteN (fun cc => ?_) (fun cc => ?_)
        · walk_at "g"
          have := q34 H8 k07
          rwa [decide_eq_true cb, decide_eq_false cc, Bool.and_false, if_pos rfl] at this
        · walk_at "g"
          exact hN H8 ⟨rfl, fun _ => ⟨cb, cc⟩⟩
    · walk_at "g"
      exact hN H8 ⟨rfl, fun z => absurd z ca⟩
  subst e9
  walk_at "j"
  refine w_ifK (fun H' => H' = H9 ∧ (0 < op → gI s.R lo = (hi : Int) + 1 ∧ gI s.L (hi + 1) = (lo : Int))) (fun N hN => ?_) (fun HA ⟨eA, c7⟩ => ?_)
  · walk_at "g"
    refine w_iteD (fun ca => ?_) (fun ca => ?_)
    · rw [if_neg (show ¬ op < 0 by omega)] at q34
      walk_at "g"
      refine w_ixL (SqL.of st7.ob) at_0 ?_
      walk_at "g"
      refine w_ixL (SqL.of st7.hr) (at_I (by omega) (by rw [lenR]; omega)) ?_
      rw [Int.toNat_natCast]
      walk_at "g"
      refine w_iteN (fun cb => ?_) (fun cb => ?_)
      · walk_at "g"
        have := q34 H9 k07
        rwa [decide_eq_false cb, Bool.false_and, if_pos rfl] at this
      · walk_at "g"
        refine w_ixL (SqL.of st7.ob) (i := 1) (v := .ref l) rfl ?_
        walk_at "g"
        refine w_ixL (SqL.of st7.hl) (at_I (by omega) (by rw [lenL]; omega)) ?_
        rw [show ((hi : Int) + 1).toNat = hi + 1 by omega, eLh]
        walk_at "g"
        refine w_iteN (fun cc => ?_) (fun cc => ?_)
        · walk_at "g"
          have := q34 H9 k07
          rwa [decide_eq_true cb, decide_eq_false cc, Bool.and_false, if_pos rfl] at this
        · walk_at "g"
          exact hN H9 ⟨rfl, fun _ => ⟨cb, cc⟩⟩
    · walk_at "g"
      exact hN H9 ⟨rfl, fun z => absurd z ca⟩
  subst eA
  walk_at "g"
  have := q34 HA k07
  by_cases cs : op < 0
  · obtain ⟨x1, x2⟩ := c6 cs
    rwa [if_pos cs, decide_eq_true x1, decide_eq_true x2, Bool.true_and, if_neg (by decide)] at this
  · obtain ⟨x1, x2⟩ := c7 (by have := io.1; omega)
    rwa [if_neg cs, decide_eq_true x1, decide_eq_true x2, Bool.true_and, if_neg (by decide)] at this
end
end G
set_option Elab.async false
set_option linter.all false
set_option maxRecDepth 100000
set_option maxHeartbeats 2000000
namespace G
--#FAM KV
open PySem PySem.Spec PyProof.Rows L2
local macro_rules
  | `(tactic| walk_at "1") => `(tactic| first
    | with_reducible refine w_seq ?_
    | with_reducible refine w_asg ?_
    | with_reducible refine w_asgS ?_
    | with_reducible refine w_asf ?_
    | with_reducible refine w_drop ?_
    | with_reducible refine w_ret ?_
    | with_reducible refine w_if ?_
    | with_reducible refine w_not ?_
    | with_reducible refine w_and ?_
    | with_reducible refine w_or ?_
    | with_reducible refine w_test ?_
    | with_reducible refine w_tb ?_
    | with_reducible refine w_chain ?_
    | with_reducible refine w_op ?_
    | with_reducible refine w_un ?_
    | with_reducible refine w_andV ?_
    | with_reducible refine w_orV ?_
    | with_reducible refine w_notV ?_
    | with_reducible refine w_ifE ?_
    | with_reducible refine w_cons ?_
    | with_reducible refine w_nil ?_
    | with_reducible refine w_cb ?_
    | with_reducible refine w_cl ?_
    | with_reducible refine w_mt ?_
    | with_reducible refine w_fld ?_
    | with_reducible refine w_tupN ?_
    | with_reducible refine w_lstN ?_
    | with_reducible refine w_bm ?_
    | with_reducible refine w_bm0 ?_
    | with_reducible refine w_for ?_
    | with_reducible refine w_lc ?_
    | with_reducible refine w_iR1 ?_
    | with_reducible refine w_iR2 ?_
    | with_reducible refine w_iL ?_
    | with_reducible refine w_iT ?_
    | with_reducible refine w_iE ?_
    | with_reducible refine w_iZ ?_
    | with_reducible refine w_var (by with_unfolding_all rfl) ?_
    | with_reducible refine w_c ?_
    | with_reducible refine w_next ?_
    | with_reducible refine w_i0 ?_
    | with_reducible refine w_u1 ?_
    | with_reducible refine w_addI ?_
    | with_reducible refine w_eqI ?_
    | with_reducible refine w_eqS ?_
    | with_reducible refine w_eqB ?_
    | with_reducible refine w_neI ?_
    | with_reducible refine w_neS ?_
    | with_reducible refine w_neB ?_
    | with_reducible refine w_abs ?_
    | with_reducible refine w_intI ?_
    | with_reducible refine w_min2 ?_
    | with_reducible refine w_max2 ?_
    | with_reducible refine w_isN0 ?_
    | with_reducible refine w_isN1 ref_ne ?_
    | with_reducible refine w_isN1 int_ne ?_
    | with_reducible refine w_notN0 ?_
    | with_reducible refine w_notN1 ref_ne ?_
    | with_reducible refine w_notN1 int_ne ?_
    | with_reducible refine w_ex1 ?_
    | with_reducible refine w_n1 ?_
    | with_reducible refine w_n2 ?_
    | with_reducible refine w_tT ?_
    | with_reducible refine w_tF ?_
    | with_reducible refine w_nT ?_
    | with_reducible refine w_nF ?_
    | with_reducible refine w_rz ?_
    | with_reducible refine w_mkN ?_
    | with_reducible refine w_lrgN ?_
    | with_reducible refine w_rg1 ?_
    | with_reducible refine w_rg2 ?_
    | with_reducible refine w_sl ?_
    | with_reducible refine w_np ?_
    | with_reducible refine w_pt ?_
    | with_reducible refine w_tr ?_
    | with_reducible refine w_gn ?_
    | with_reducible refine w_yes ?_
    | with_reducible refine w_m1 ?_
    | with_reducible refine w_asu ?_
    | with_reducible refine w_exS ?_
    | with_reducible refine w_iS ?_
    | with_reducible refine w_g1 ?_
    | with_reducible refine w_gc ?_
    | with_reducible refine w_gt (SqT.of upd_same) rfl ?_)
local macro_rules
  | `(tactic| walk_at "g") => `(tactic| repeat walk_at "1")
local macro_rules
  | `(tactic| walk_at "j1") => `(tactic| first
    | with_reducible refine w_seqI ?_
    | walk_at "1")
local macro_rules
  | `(tactic| walk_at "j") => `(tactic| repeat walk_at "j1")
section
variable {K : PySem.W.Frag} {mg : Str → Option Value}
theorem plan5 {a : Int} (h0 : 0 ≤ a) : Alt [-a - 2, -a - 3, a + 2, -a - 1, -a - 4] ∧ Alt [-a - 3, -a - 2, a + 3, -a - 4, -a - 1] := by
  have f : ∀ {x : Int}, x < 0 → outF [] x.natAbs = decide (0 < x) := fun {x} h => by rw [outF_nil, decide_eq_false (by omega)]
  constructor
  · have h1 : Alt ([] ++ [-a - 2]) := alt_snoc' alt_nil' (f (by omega))
    have h2 : Alt ([] ++ [-a - 2] ++ [-a - 3]) := alt_snoc' h1 (by rw [outF_snoc, if_neg (by omega)]; exact f (by omega))
    have h3 : Alt ([] ++ [-a - 2] ++ [-a - 3] ++ [a + 2]) := alt_snoc' h2 (by rw [outF_snoc, if_neg (by omega), outF_snoc, if_pos (by omega)]; exact decide_eq_decide.mpr (by omega))
    have h4 : Alt ([] ++ [-a - 2] ++ [-a - 3] ++ [a + 2] ++ [-a - 1]) := alt_snoc' h3 (by rw [outF_snoc, if_neg (by omega), outF_snoc, if_neg (by omega), outF_snoc, if_neg (by omega)]; exact f (by omega))
    exact alt_snoc' h4 (by rw [outF_snoc, if_neg (by omega), outF_snoc, if_neg (by omega), outF_snoc, if_neg (by omega), outF_snoc, if_neg (by omega)]; exact f (by omega))
  · have h1 : Alt ([] ++ [-a - 3]) := alt_snoc' alt_nil' (f (by omega))
    have h2 : Alt ([] ++ [-a - 3] ++ [-a - 2]) := alt_snoc' h1 (by rw [outF_snoc, if_neg (by omega)]; exact f (by omega))
    have h3 : Alt ([] ++ [-a - 3] ++ [-a - 2] ++ [a + 3]) := alt_snoc' h2 (by rw [outF_snoc, if_neg (by omega), outF_snoc, if_pos (by omega)]; exact decide_eq_decide.mpr (by omega))
    have h4 : Alt ([] ++ [-a - 3] ++ [-a - 2] ++ [a + 3] ++ [-a - 4]) := alt_snoc' h3 (by rw [outF_snoc, if_neg (by omega), outF_snoc, if_neg (by omega), outF_snoc, if_neg (by omega)]; exact f (by omega))
    exact alt_snoc' h4 (by rw [outF_snoc, if_neg (by omega), outF_snoc, if_neg (by omega), outF_snoc, if_neg (by omega), outF_snoc, if_neg (by omega)]; exact f (by omega))
theorem Alt.take8 {log : List Int} (h : Alt log) (k : Nat) : Alt (log.take k) := by
  intro i op hi
  have hk : i < (log.take k).length := (List.getElem?_eq_some_iff.mp hi).1
  rw [List.length_take] at hk
  rw [List.getElem?_take_of_lt (by omega)] at hi
  rw [List.take_take, Nat.min_eq_left (by omega)]
  exact h i op hi
theorem nx_off {H : Hp} {c c' q : Addr} {o : HO} (x : Nx8 H c c') (hq : H q = some o) (hc : q ≠ c) : q ≠ c' := by
  rcases x with rfl | x
  · exact hc
  · exact ne_of_none hq x
theorem gB_set8 {l : List Bool} {i j : Nat} {v : Bool} (h : i < l.length) : gB (l.set i v) j = if j = i then v else gB l j := by
  unfold gB
  rw [List.getD_eq_getElem?_getD, List.getD_eq_getElem?_getD]
  by_cases e : j = i
  · rw [if_pos e, e, List.getElem?_set_self h] <;> rfl
  · rw [if_neg e, List.getElem?_set_ne (Ne.symm e)]
/-- the plan of nine deeds, or its mirror -/
def pl9 (m : Bool) : List Int := if m = true then ([-2, -3, 2, -1, -6, -5, 6, -7, -4] : List Int).map fun x : Int => if x > 0 then 8 - x else -8 - x else [-2, -3, 2, -1, -6, -5, 6, -7, -4]
def shf (a : Int) (x : Int) : Int := if x > 0 then x + a else x - a
theorem shf_na {a x : Int} (h0 : 0 ≤ a) (h : x ≠ 0) : ((shf a x).natAbs : Int) = (x.natAbs : Int) + a ∧ (0 < shf a x ↔ 0 < x) := by
  unfold shf
  by_cases c : x > 0
  · rw [if_pos c]; omega
  · rw [if_neg c]; omega
theorem out_shf {a : Int} (h0 : 0 ≤ a) (l : List Int) (h : ∀ x ∈ l, x ≠ 0) (x : Int) (hx : x ≠ 0) : outF (l.map (shf a)) (shf a x).natAbs = outF l x.natAbs := by
  induction l using snoc_ind with
  | h0 => rfl
  | h1 l y ih =>
    have hy := h y (by simp)
    rw [List.map_append]
    show outF (l.map (shf a) ++ [shf a y]) _ = _
    rw [outF_snoc, outF_snoc, ih fun z hz => h z (by simp [hz])]
    obtain ⟨a1, a2⟩ := shf_na h0 hx
    obtain ⟨b1, b2⟩ := shf_na h0 hy
    by_cases e : y.natAbs = x.natAbs
    · rw [if_pos e, if_pos (by omega)]
      exact decide_eq_decide.mpr (by omega)
    · rw [if_neg e, if_neg (by omega)]
theorem alt_shf {a : Int} (h0 : 0 ≤ a) {l : List Int} (h : ∀ x ∈ l, x ≠ 0) (al : Alt l) : Alt (l.map (shf a)) := by
  intro i op hi
  rw [List.getElem?_map] at hi
  cases e : l[i]? with
  | none => rw [e] at hi; cases hi
  | some x =>
    rw [e] at hi
    injection hi with hi
    subst hi
    have hx := h x (List.mem_of_getElem? e)
    rw [← List.map_take, out_shf h0 _ (fun z hz => h z (List.mem_of_mem_take hz)) x hx, al i x e]
    exact decide_eq_decide.mpr (shf_na h0 hx).2.symm
theorem pl9_0 (m : Bool) : Alt (pl9 m) := by
  have f : ∀ i, i < 9 → ∀ op, (pl9 m)[i]? = some op → outF ((pl9 m).take i) op.natAbs = decide (0 < op) := by
    cases m <;> decide +kernel
  intro i op h
  have hi := (List.getElem?_eq_some_iff.mp h).1
  have : (pl9 m).length = 9 := by cases m <;> rfl
  exact f i (by omega) op h
theorem pl9_mem (m : Bool) : ∀ x ∈ pl9 m, 1 ≤ x.natAbs ∧ x.natAbs ≤ 7 := by cases m <;> decide +kernel
theorem pl9_alt (m : Bool) {a : Int} (h0 : 0 ≤ a) : Alt ((pl9 m).map (shf a)) := alt_shf h0 (fun x hx => by have := (pl9_mem m x hx).1; omega) (pl9_0 m)
theorem pl9_op (m : Bool) {n : Nat} {a : Int} (h0 : 0 ≤ a) (h7 : a + 7 ≤ n) : ∀ x ∈ (pl9 m).map (shf a), IsOp n x := by
  intro x hx
  obtain ⟨y, hy, rfl⟩ := List.mem_map.mp hx
  obtain ⟨y1, y7⟩ := pl9_mem m y hy
  obtain ⟨e, _⟩ := shf_na h0 (show y ≠ 0 by omega)
  exact ⟨by omega, by omega⟩
theorem len__law_log (K : PySem.W.Frag) : ∀ vs H Q E, sp47__law_log K vs H Q E → vs.length = (["box", "many", "limit"] : List Str).length := by
  rintro vs H Q E ⟨_, _, _, _, _, rfl, _⟩
  rfl
theorem rd__law_log (T : Txt K mg) (vs : List V) (H : Hp) (Q : VK) (E : XK) (h : sp47__law_log K vs H Q E) : t__law_log K E { nx := fun _ H' => Q .non H', rt := Q } (start ["box", "many", "limit", "row", "low", "at", "outs", "deed", "wide", "k", "node"] vs) H := by
  obtain ⟨N, b, c, n, lim, rfl, hlim, hN, hn, bx, g⟩ := h
  unfold t__law_log
  walk_at "g"
  refine w_iteD (fun c0 => ?_) (fun c0 => ?_)
  · walk_at "g"
    refine ⟨sz_ok (Nat.zero_le _), G.nw fun q H1 nq k1 hq => ?_⟩
    obtain ⟨q1, q2⟩ := bx.fr nq
    exact g [] q c H1 (.inl rfl) q2 (fun x h => by cases h) alt_nil' (Nat.zero_le _) nq k1.all ((bx.k0 k1).mono (by omega)) hq
  walk_at "g"
  refine ⟨sz_ok (Nat.zero_le _), G.nw fun p0 H1 np0 k1 hp0 => ?_⟩
  obtain ⟨p1, p2⟩ := bx.fr np0
  walk_at "g"
  refine ⟨N, b, c, n, rfl, by omega, by omega, by omega, bx.k0 k1, fun low c2 H2 lo1 lo2 nx2 k2 b2 => ?_⟩
  have k02 : Kp [b] H H2 := k1.all.trans k2
  have nx02 : Nx8 H c c2 := Nx8.trans (b := b) (.inl rfl) nx2 k1.all (bx.k0 k1)
  have hp2 : H2 p0 = some (.lst (([] : List Int).map V.int)) := k2.at1 p1 hp0
  have p2c : p0 ≠ c2 := nx_off nx2 hp0 p2
  walk_at "j"
  refine w_ifJ (fun σ' H' => ∃ (q c' : Addr) (ds : List Int) (x5 : Option V), σ' = [some (.ref b), some (.int (n : Int)), some (.int (lim : Int)), some (.ref q), some (.int low), x5, none, none, none, none, none] ∧ Kp [b] H H' ∧ Nx8 H c c' ∧ Bx8 (N + 6) H' b c' ∧ H' q = some (.lst (ds.map V.int)) ∧ H q = none ∧ q ≠ b ∧ q ≠ c' ∧ (∀ x ∈ ds, IsOp n x) ∧ Alt ds ∧ ds.length ≤ 9)
    (fun N0 hN0 => ?_) (fun σ' H3 ⟨q, c3, ds, x5, es, k3, nx3, b3, hq3, fq, qb, qc, iops, alt, lds⟩ => ?_)
  · walk_at "g"
    refine w_iteD (fun c1 => ?_) (fun c1 => ?_)
    · walk_at "g"
      refine ⟨N + 1, b, c2, 2, rfl, by omega, by omega, by omega, b2, fun d1 c3 H3 _ _ nx3 k3 b3 => ?_⟩
      have k03 := k02.trans k3
      have nx03 := nx02.trans nx3 k02 b2
      walk_at "g"
      refine w_iteD (fun c2' => ?_) (fun c2' => ?_)
      · walk_at "g"
        have hat : ∃ at_ : Int, (if (n : Int) - 4 < low then (n : Int) - 4 else low) = at_ ∧ 0 ≤ at_ ∧ at_ + 4 ≤ n := ⟨_, rfl, by split <;> omega, by split <;> omega⟩
        obtain ⟨at_, eat, at0, at4⟩ := hat
        rw [eat]
        obtain ⟨pl1, pl2⟩ := plan5 at0
        refine ⟨sz_ok (by show 5 ≤ 1000000; omega), G.nw fun q1 H4 nq1 k4 hq1 => ?_⟩
        have hq1' : H4 q1 = some (.lst (([-at_ - 2, -at_ - 3, at_ + 2, -at_ - 1, -at_ - 4] : List Int).map V.int)) := hq1
        obtain ⟨q1b, q1c⟩ := b3.fr nq1
        walk_at "j"
        refine w_ifJ (fun σ' H' => ∃ (q c' : Addr) (ds : List Int), σ' = [some (.ref b), some (.int (n : Int)), some (.int (lim : Int)), some (.ref q), some (.int low), some (.int at_), none, none, none, none, none] ∧ Kp [b] H H' ∧ Nx8 H c c' ∧ Bx8 (N + 3) H' b c' ∧ H' q = some (.lst (ds.map V.int)) ∧ (∀ x ∈ ds, IsOp n x) ∧ Alt ds ∧ ds.length = 5)
          (fun N1 hN1 => ?_) (fun σ' H5 ⟨q, c5, ds, es, k5, nx5, b5, hq5, io5, al5, l5⟩ => ?_)
        · walk_at "g"
          refine ⟨N + 2, b, c3, 2, rfl, by omega, by omega, by omega, b3.k0 k4, fun d2 c4 H5 _ _ nx4 k5 b5 => ?_⟩
          have k05 := k03.trans (k4.all.trans k5)
          have nx05 := nx03.trans (Nx8.trans (b := b) (.inl rfl) nx4 k4.all (b3.k0 k4)) k03 b3
          walk_at "g"
          refine w_iteD (fun c4' => ?_) (fun c4' => ?_)
          · walk_at "g"
            refine ⟨sz_ok (by show 5 ≤ 1000000; omega), G.nw fun q2 H6 nq2 k6 hq2 => ?_⟩
            have hq2' : H6 q2 = some (.lst (([-at_ - 3, -at_ - 2, at_ + 3, -at_ - 4, -at_ - 1] : List Int).map V.int)) := hq2
            walk_at "g"
            exact hN1 _ _ ⟨q2, c4, _, rfl, k05.trans k6.all, nx05, b5.k0 k6, hq2', fun x hx => by
              simp only [List.mem_cons, List.not_mem_nil, or_false] at hx
              rcases hx with rfl | rfl | rfl | rfl | rfl <;> exact ⟨by omega, by omega⟩, pl2, rfl⟩
          · walk_at "g"
            exact hN1 _ _ ⟨q1, c4, _, rfl, k05, nx05, b5, k5.at1 q1b hq1', fun x hx => by
              simp only [List.mem_cons, List.not_mem_nil, or_false] at hx
              rcases hx with rfl | rfl | rfl | rfl | rfl <;> exact ⟨by omega, by omega⟩, pl1, rfl⟩
        subst es
        walk_at "g"
        refine ⟨N + 3, b, c5, 3, rfl, by omega, by omega, by omega, b5, fun d3 c6 H6 d31 d32 nx6 k6 b6 => ?_⟩
        obtain ⟨dd, ed⟩ : ∃ dd : Nat, 3 + d3 = (dd : Int) := ⟨(3 + d3).toNat, by omega⟩
        have qb5 : q ≠ b := by
          rintro rfl
          obtain ⟨_, _, _, _, h1, _⟩ := b5.ob
          rw [h1] at hq5
          injection hq5 with hq5
          injection hq5 with hq5
          match ds, l5, hq5 with
          | u :: _, _, hq5 => injection hq5 with hq5; cases hq5
        have hq6 := k6.at1 qb5 hq5
        walk_at "g"
        refine w_slL (SqL.of hq6) fun q7 H7 nq7 k7 hq7 => ?_
        rw [ed, cut_takeI ds dd (by omega)] at hq7
        obtain ⟨q7b, q7c⟩ := b6.fr nq7
        have k07 := (k5.trans k6).trans k7.all
        have nx07 := nx5.trans nx6 k5 b5
        have b7 := b6.k0 k7
        have fq7 : H q7 = none := (k5.trans k6).free (by simpa using q7b) nq7
        have io7 : ∀ x ∈ ds.take dd, IsOp n x := fun x hx => io5 x (List.mem_of_mem_take hx)
        have al7 := al5.take8 dd
        have l7 : (ds.take dd).length ≤ 9 := by rw [List.length_take]; omega
        walk_at "g"
        refine w_iteD (fun c6' => ?_) (fun c6' => ?_)
        · walk_at "g"
          refine ⟨N + 4, b, c6, 3, rfl, by omega, by omega, by omega, b7, fun d4 c8 H8 _ _ nx8 k8 b8 => ?_⟩
          have k08 := k07.trans k8
          have nx08 := nx07.trans nx8 k07 b7
          walk_at "g"
          refine w_iteD (fun c7' => ?_) (fun c7' => ?_)
          · walk_at "g"
            have hat2 : ∃ av : Int, (if (n : Int) - 7 < low then (n : Int) - 7 else low) = av ∧ 0 ≤ av ∧ av + 7 ≤ n := ⟨_, rfl, by split <;> omega, by split <;> omega⟩
            obtain ⟨av, eav, av0, av7⟩ := hat2
            rw [eav]
            refine ⟨sz_ok (by show 9 ≤ 1000000; omega), G.nw fun q9 H9 nq9 k9 hq9 => ?_⟩
            have hq9' : H9 q9 = some (.lst ((pl9 false).map V.int)) := hq9
            obtain ⟨q9b, q9c⟩ := b8.fr nq9
            walk_at "j"
            refine w_ifJ (fun σ' H' => ∃ (q c' : Addr) (fl : Bool), σ' = [some (.ref b), some (.int (n : Int)), some (.int (lim : Int)), some (.ref q), some (.int low), some (.int av), none, none, none, none, none] ∧ Kp [b] H H' ∧ Nx8 H c c' ∧ Bx8 (N + 6) H' b c' ∧ H' q = some (.lst ((pl9 fl).map V.int)))
              (fun N3 hN3 => ?_) (fun σ' HA ⟨qa, ca, fl, es, ka, nxa, ba, hqa⟩ => ?_)
            · walk_at "g"
              refine ⟨N + 5, b, c8, 2, rfl, by omega, by omega, by omega, b8.k0 k9, fun d5 cA HA _ _ nxA kA bA => ?_⟩
              have k0A := (k08.trans k9.all).trans kA
              have nx0A := nx08.trans (Nx8.trans (b := b) (.inl rfl) nxA k9.all (b8.k0 k9)) k08 b8
              have hqA := kA.at1 q9b hq9'
              walk_at "g"
              refine w_iteD (fun c8' => ?_) (fun c8' => ?_)
              · walk_at "g"
                refine w_l1 (SqL.of hqA) ?_
                refine cp_lst (SqL.of hqA) (fun i => (((pl9 false).take i).map fun x : Int => if x > 0 then 8 - x else -8 - x).map V.int) (fun i hi => sz_lt (by rw [List.length_map, List.length_map, List.length_take]; show min _ 9 < _; omega)) rfl (fun i x H' S N' hx k y _ => ?_) (fun D HB nD kB hD => ?_)
                · obtain ⟨op, hop, rfl⟩ := at_map hx
                  walk_at "g"
                  refine ⟨rfl, ?_⟩
                  walk_at "g"
                  have ey := take_snoc hop
                  refine w_iteD (fun cc => ?_) (fun cc => ?_)
                  · walk_at "g"
                    refine y _ _ (Kp.refl _ _) ?_
                    rw [ey, List.map_append, List.map_append]
                    show _ ++ [V.int (if op > 0 then 8 - op else -8 - op)] = _
                    rw [if_pos (by omega)] <;> rfl
                  · walk_at "g"
                    refine y _ _ (Kp.refl _ _) ?_
                    rw [ey, List.map_append, List.map_append]
                    show _ ++ [V.int (if op > 0 then 8 - op else -8 - op)] = _
                    rw [if_neg (by omega)] <;> rfl
                · walk_at "g"
                  exact hN3 _ _ ⟨D, cA, true, rfl, k0A.trans kB.all, nx0A, bA.k0 kB, hD⟩
              · walk_at "g"
                exact hN3 _ _ ⟨q9, cA, false, rfl, k0A, nx0A, bA, hqA⟩
            subst es
            walk_at "g"
            refine w_l1 (SqL.of hqa) ?_
            have l9 : (pl9 fl).length = 9 := by cases fl <;> rfl
            refine cp_lst (SqL.of hqa) (fun i => (((pl9 fl).take i).map (shf av)).map V.int) (fun i hi => sz_lt (by rw [List.length_map, List.length_map, List.length_take]; omega)) rfl (fun i x H' S N' hx k y _ => ?_) (fun D HB nD kB hD => ?_)
            · obtain ⟨op, hop, rfl⟩ := at_map hx
              walk_at "g"
              refine ⟨rfl, ?_⟩
              walk_at "g"
              have ey := take_snoc hop
              refine w_iteD (fun cc => ?_) (fun cc => ?_)
              · walk_at "g"
                refine y _ _ (Kp.refl _ _) ?_
                rw [ey, List.map_append, List.map_append]
                show _ ++ [V.int (if op > 0 then op + av else op - av)] = _
                rw [if_pos (by omega)] <;> rfl
              · walk_at "g"
                refine y _ _ (Kp.refl _ _) ?_
                rw [ey, List.map_append, List.map_append]
                show _ ++ [V.int (if op > 0 then op + av else op - av)] = _
                rw [if_neg (by omega)] <;> rfl
            · rw [List.length_map, List.take_length] at hD
              obtain ⟨Db, Dc⟩ := ba.fr nD
              walk_at "g"
              exact hN0 _ _ ⟨D, ca, (pl9 fl).map (shf av), _, rfl, ka.trans kB.all, nxa, ba.k0 kB, hD, ka.free (by simpa using Db) nD, Db, Dc, pl9_op fl av0 av7, pl9_alt fl av0, by rw [List.length_map, l9]; omega⟩
          · have hq8 := k8.at1 q7b hq7
            walk_at "g"
            exact hN0 _ _ ⟨q7, c8, ds.take dd, _, rfl, k08, nx08, b8.mono (by omega), hq8, fq7, q7b, nx_off nx8 hq7 q7c, io7, al7, l7⟩
        · walk_at "g"
          exact hN0 _ _ ⟨q7, c6, ds.take dd, _, rfl, k07, nx07, b7.mono (by omega), hq7, fq7, q7b, q7c, io7, al7, l7⟩
      · walk_at "g"
        exact hN0 _ _ ⟨p0, c3, [], _, rfl, k03, nx03, b3.mono (by omega), k3.at1 p1 hp2, np0, p1, nx_off nx3 hp2 p2c, fun x h => (by cases h), alt_nil', Nat.zero_le _⟩
    · walk_at "g"
      exact hN0 _ _ ⟨p0, c2, [], _, rfl, k02, nx02, b2.mono (by omega), hp2, np0, p1, p2c, fun x h => (by cases h), alt_nil', Nat.zero_le _⟩
  subst es
  walk_at "g"
  refine ⟨sz_ok (by show 1 ≤ 1000000; omega), G.nw fun z H4 nz k4 hz => ?_⟩
  walk_at "g"
  refine w_mulLN hz (by omega) (by omega) (sz_ok (by show 1 * _ ≤ _; omega)) fun fo H5 nfo k5 hfo => ?_
  have hfo' : H5 fo = some (.lst ((List.replicate (n + 1) false).map V.bl)) := by
    rw [hfo, show ((n : Int) + 1).toNat = n + 1 by omega, rep_flat, List.map_replicate]
  have k05 : Kp [b] H H5 := k3.trans (k4.trans k5).all
  have b5 := (b3.k0 k4).k0 k5
  have hq5 := k5.at0 (k4.at0 hq3)
  obtain ⟨fob, foc⟩ := (b3.k0 k4).fr nfo
  have foq : q ≠ fo := ne_of_none (k4.at0 hq3) nfo
  have ffo : H fo = none := (k3.trans k4.all).free (by simpa using fob) nfo
  walk_at "g"
  refine w_l1 (SqL.of hq5) ?_
  refine lp_lst (xs := ds.map V.int) (fun i σ H' => ∃ (x7 : Option V) (fl : List Bool), σ = [some (.ref b), some (.int (n : Int)), some (.int (lim : Int)), some (.ref q), some (.int low), x5, some (.ref fo), x7, none, none, none] ∧ Kp [fo] H5 H' ∧ H' fo = some (.lst (fl.map V.bl)) ∧ fl.length = n + 1 ∧ ∀ v, v ≤ n → gB fl v = outF (ds.take i) v) ⟨_, _, rfl, Kp.refl _ _, hfo', List.length_replicate, fun v _ => by rw [gB_rep, List.take_zero] <;> rfl⟩ ?_ ?_ ?_
  · rintro i σ' H' hi ⟨_, _, _, k, _⟩
    exact SqL.of (k.at1 foq hq5)
  · rintro i x σ' H6 hx ⟨x7, fl, rfl, k6, hf6, lf, ef⟩
    obtain ⟨op, hop, rfl⟩ := at_map hx
    have io := iops op (List.mem_of_getElem? hop)
    have h1 := io.1
    have h2 := io.2
    walk_at "g"
    rw [natAbs_if]
    refine w_seT hf6 (n := op.natAbs) (by rw [ixN_pos (by omega) (by rw [List.length_map]; omega), Int.toNat_natCast]) fun H7 k7 h7 => ?_
    rw [set_B8] at h7
    walk_at "g"
    refine ⟨_, _, rfl, k6.trans k7, h7, by rw [List.length_set]; exact lf, fun v hv => ?_⟩
    rw [gB_set8 (by omega), take_snoc hop, outF_snoc]
    by_cases e : v = op.natAbs
    · rw [if_pos e, if_pos e.symm]
    · rw [if_neg e, if_neg (Ne.symm e)]
      exact ef v hv
  · rintro σ' H6 ⟨x7, fl, rfl, k6, hf6, lf, ef⟩
    rw [List.length_map, List.take_length] at ef
    have b6 : Bx8 (N + 6) H6 b c3 := b5.kp k6 (by simpa using Ne.symm fob) (by simpa using Ne.symm foc)
    have hq6 := k6.at1 foq hq5
    have k06 : Kp [b] H H6 := (k05.mono (S' := [b, fo]) (by simp)).trans (k6.mono (by simp)) |>.cut (by simp [ffo])
    walk_at "g"
    have mn : ∃ mn : Int, (if (7 : Int) < (n : Int) then 7 else (n : Int)) = mn ∧ 0 < mn ∧ mn ≤ 7 := ⟨_, rfl, by split <;> omega, by split <;> omega⟩
    obtain ⟨mn, emn, mn0, mn7⟩ := mn
    rw [emn]
    refine ⟨N + 6, b, c3, mn, rfl, by omega, mn0, by omega, b6, fun wd c7 H7 wd0 wd1 nx7 k7 b7 => ?_⟩
    have hq7 := k7.at1 qb hq6
    have hf7 := k7.at1 fob hf6
    have qc7 : q ≠ c7 := nx_off nx7 hq6 qc
    have fc7 : fo ≠ c7 := nx_off nx7 hf6 foc
    have k07 := k06.trans k7
    have nx07 := nx3.trans (Nx8.trans (b := b) (.inl rfl) nx7 (Kp.refl _ _) b6) k06 b6
    walk_at "g"
    refine ⟨N + 7, b, c7, (lim : Int) + 1, rfl, by omega, by omega, by omega, b7, fun m c8 H8 m0 m1 nx8 k8 b8 => ?_⟩
    have hq8 := k8.at1 qb hq7
    have hf8 := k8.at1 fob hf7
    have qc8 : q ≠ c8 := nx_off nx8 hq7 qc7
    have fc8 : fo ≠ c8 := nx_off nx8 hf7 fc7
    have k08 := k07.trans k8
    have nx08 := nx07.trans nx8 k07 b7
    obtain ⟨m', rfl⟩ : ∃ m' : Nat, m = (m' : Int) := ⟨m.toNat, by omega⟩
    walk_at "g"
    refine w_r1 (by omega) ?_
    refine lp_rng0 (fun k σ H' => ∃ (c' : Addr) (ds : List Int) (fl : List Bool) (x9 x10 : Option V), σ = [some (.ref b), some (.int (n : Int)), some (.int (lim : Int)), some (.ref q), some (.int low), x5, some (.ref fo), x7, some (.int (1 + wd)), x9, x10] ∧ Kp [b] H H' ∧ Nx8 H c c' ∧ Bx8 (N + 8 + 3 * k) H' b c' ∧ H' q = some (.lst (ds.map V.int)) ∧ q ≠ c' ∧ fo ≠ c' ∧ (∀ x ∈ ds, IsOp n x) ∧ Alt ds ∧ ds.length ≤ 9 + k ∧ H' fo = some (.lst (fl.map V.bl)) ∧ fl.length = n + 1 ∧ ∀ v, v ≤ n → gB fl v = outF ds v)
      ⟨c8, ds, fl, _, _, rfl, k08, nx08, b8, hq8, qc8, fc8, iops, alt, by omega, hf8, lf, ef⟩ ?_ ?_
    · rintro k σ' H9 hk ⟨c9, ds, fl, x9, x10, rfl, k9, nx9, b9, hq9, qc9, fc9, iops, alt, lds, hf9, lf, ef⟩
      walk_at "g"
      refine ⟨N + 8 + 3 * k, b, c9, 1 + wd, rfl, by omega, by omega, by omega, b9, fun d1 cA HA d11 d12 nxA kA bA => ?_⟩
      have hqA := kA.at1 qb hq9
      have hfA := kA.at1 fob hf9
      have k0A := k9.trans kA
      have nx0A := nx9.trans nxA k9 b9
      have qcA : q ≠ cA := nx_off nxA hq9 qc9
      have fcA : fo ≠ cA := nx_off nxA hf9 fc9
      walk_at "g"
      refine w_ic (by omega) ?_
      have r1 := Int.emod_nonneg (low + d1) (show (n : Int) ≠ 0 by omega)
      have r2 := Int.emod_lt_of_pos (low + d1) (show (0 : Int) < n by omega)
      generalize (low + d1) % (n : Int) = nd0 at r1 r2
      walk_at "j"
      refine w_ifJ (fun σ' H' => ∃ (cB : Addr) (nd : Nat), σ' = [some (.ref b), some (.int (n : Int)), some (.int (lim : Int)), some (.ref q), some (.int low), x5, some (.ref fo), x7, some (.int (1 + wd)), some (.int (k : Int)), some (.int (nd : Int))] ∧ 1 ≤ nd ∧ nd ≤ n ∧ Kp [b] HA H' ∧ Nx8 HA cA cB ∧ Bx8 (N + 11 + 3 * k) H' b cB) (fun N2 hN2 => ?_) (fun σ' HB ⟨cB, nd, es, nd1, nd2, kB, nxB, bB⟩ => ?_)
      · walk_at "g"
        refine ⟨N + 9 + 3 * k, b, cA, 5, rfl, by omega, by omega, by omega, bA.mono (by omega), fun d2 cB HB _ _ nxB kB bB => ?_⟩
        walk_at "g"
        refine w_iteD (fun c1 => ?_) (fun c1 => ?_)
        · walk_at "g"
          refine ⟨N + 10 + 3 * k, b, cB, n, rfl, by omega, by omega, by omega, bB.mono (by omega), fun d3 cC HC d31 d32 nxC kC bC => ?_⟩
          obtain ⟨nd, end_⟩ : ∃ nd : Nat, 1 + d3 = (nd : Int) := ⟨(1 + d3).toNat, by omega⟩
          walk_at "g"
          rw [end_]
          exact hN2 _ _ ⟨cC, nd, rfl, by omega, by omega, kB.trans kC, nxB.trans nxC kB bB, bC.mono (by omega)⟩
        · obtain ⟨nd, end_⟩ : ∃ nd : Nat, 1 + nd0 = (nd : Int) := ⟨(1 + nd0).toNat, by omega⟩
          walk_at "g"
          rw [end_]
          exact hN2 _ _ ⟨cB, nd, rfl, by omega, by omega, kB, nxB, bB.mono (by omega)⟩
      subst es
      have hqB := kB.at1 qb hqA
      have hfB := kB.at1 fob hfA
      have k0B := k0A.trans kB
      have nx0B := nx0A.trans nxB k0A bA
      have qcB : q ≠ cB := nx_off nxB hqA qcA
      have fcB : fo ≠ cB := nx_off nxB hfA fcA
      have eo := ef nd nd2
      have cont : ∀ (op : Int) (HC HD : Hp), op.natAbs = nd → outF ds nd = decide (0 < op) → Kp [q] HB HC → HC q = some (.lst ((ds ++ [op]).map V.int)) → Kp [fo] HC HD → HD fo = some (.lst ((fl.set nd (!gB fl nd)).map V.bl)) →
          ∃ (c' : Addr) (ds : List Int) (fl : List Bool) (x9 x10 : Option V), [some (V.ref b), some (.int (n : Int)), some (.int (lim : Int)), some (.ref q), some (.int low), x5, some (.ref fo), x7, some (.int (1 + wd)), some (.int (k : Int)), some (.int (nd : Int))] = [some (.ref b), some (.int (n : Int)), some (.int (lim : Int)), some (.ref q), some (.int low), x5, some (.ref fo), x7, some (.int (1 + wd)), x9, x10] ∧ Kp [b] H HD ∧ Nx8 H c c' ∧ Bx8 (N + 8 + 3 * (k + 1)) HD b c' ∧ HD q = some (.lst (ds.map V.int)) ∧ q ≠ c' ∧ fo ≠ c' ∧ (∀ x ∈ ds, IsOp n x) ∧ Alt ds ∧ ds.length ≤ 9 + (k + 1) ∧ HD fo = some (.lst (fl.map V.bl)) ∧ fl.length = n + 1 ∧ ∀ v, v ≤ n → gB fl v = outF ds v := by
        intro op HC HD na oo kC hC kD hD
        refine ⟨cB, ds ++ [op], fl.set nd (!gB fl nd), _, _, rfl, ?_, nx0B, (bB.kp kC (by simpa using Ne.symm qb) (by simpa using Ne.symm qcB)).kp kD (by simpa using Ne.symm fob) (by simpa using Ne.symm fcB) |>.mono (by omega), kD.at1 foq hC, qcB, fcB, fun x hx => ?_, alt_snoc' alt (by rw [na]; exact oo), by rw [List.length_append]; show _ + 1 ≤ _; omega, hD, by rw [List.length_set]; exact lf, fun v hv => ?_⟩
        · exact ((k0B.mono (S' := [b, q, fo]) (by simp)).trans ((kC.mono (by simp)).trans (kD.mono (by simp)))).cut (by simp [fq, ffo])
        · rcases List.mem_append.mp hx with hx | hx
          · exact iops x hx
          · rw [List.mem_singleton.mp hx]
            exact ⟨by omega, by omega⟩
        · rw [gB_set8 (by omega), outF_snoc, na]
          by_cases e : v = nd
          · rw [if_pos e, if_pos e.symm, eo, oo]
            by_cases z : 0 < op
            · rw [decide_eq_true z, decide_eq_false (by omega)] <;> rfl
            · rw [decide_eq_false z, decide_eq_true (by omega)] <;> rfl
          · rw [if_neg e, if_neg (Ne.symm e)]
            exact ef v hv
      walk_at "g"
      refine ⟨w_ty (SqL.of hqB), ?_⟩
      walk_at "g"
      refine w_ixL (SqL.of hfB) (at_B8 (by omega) (by omega)) ?_
      rw [Int.toNat_natCast]
      walk_at "g"
      refine w_iteB (fun c1 => ?_) (fun c1 => ?_)
      · walk_at "g"
        refine w_apT hqB (sz_lt (by rw [List.length_map]; omega)) fun HC kC hC => ?_
        have hfC := kC.at1 (Ne.symm foq) hfB
        have hC' : HC q = some (.lst ((ds ++ [(nd : Int)]).map V.int)) := by rw [hC, List.map_append] <;> rfl
        walk_at "g"
        refine w_ixL (SqL.of hfC) (at_B8 (by omega) (by omega)) ?_
        rw [Int.toNat_natCast]
        walk_at "g"
        refine w_seT hfC (n := nd) (by rw [ixN_pos (by omega) (by rw [List.length_map]; omega), Int.toNat_natCast]) fun HD kD hD => ?_
        rw [set_B8] at hD
        walk_at "g"
        exact cont _ HC HD (by omega) (by rw [← eo, c1, decide_eq_true (by omega)]) kC hC' kD hD
      · walk_at "g"
        refine w_apT hqB (sz_lt (by rw [List.length_map]; omega)) fun HC kC hC => ?_
        have hfC := kC.at1 (Ne.symm foq) hfB
        have hC' : HC q = some (.lst ((ds ++ [-(nd : Int)]).map V.int)) := by rw [hC, List.map_append] <;> rfl
        walk_at "g"
        refine w_ixL (SqL.of hfC) (at_B8 (by omega) (by omega)) ?_
        rw [Int.toNat_natCast]
        walk_at "g"
        refine w_seT hfC (n := nd) (by rw [ixN_pos (by omega) (by rw [List.length_map]; omega), Int.toNat_natCast]) fun HD kD hD => ?_
        rw [set_B8] at hD
        walk_at "g"
        exact cont _ HC HD (by omega) (by rw [← eo, c1, decide_eq_false (by omega)]) kC hC' kD hD
    · rintro σ' H9 ⟨c9, ds, fl, x9, x10, rfl, k9, nx9, b9, hq9, qc9, fc9, iops, alt, lds, hf9, lf, ef⟩
      walk_at "g"
      exact g ds q c9 H9 nx9 qc9 iops alt (by omega) fq k9 (b9.mono (by omega)) hq9
end
end G
set_option Elab.async false
set_option linter.all false
set_option maxRecDepth 100000
set_option maxHeartbeats 2000000
namespace G
--#FAM KV
open PySem PySem.Spec PyProof.Rows L2
local macro_rules
  | `(tactic| walk_at "1") => `(tactic| first
    | with_reducible refine w_seq ?_
    | with_reducible refine w_asg ?_
    | with_reducible refine w_asgS ?_
    | with_reducible refine w_asf ?_
    | with_reducible refine w_drop ?_
    | with_reducible refine w_ret ?_
    | with_reducible refine w_if ?_
    | with_reducible refine w_not ?_
    | with_reducible refine w_and ?_
    | with_reducible refine w_or ?_
    | with_reducible refine w_test ?_
    | with_reducible refine w_tb ?_
    | with_reducible refine w_chain ?_
    | with_reducible refine w_op ?_
    | with_reducible refine w_un ?_
    | with_reducible refine w_andV ?_
    | with_reducible refine w_orV ?_
    | with_reducible refine w_notV ?_
    | with_reducible refine w_ifE ?_
    | with_reducible refine w_cons ?_
    | with_reducible refine w_nil ?_
    | with_reducible refine w_cb ?_
    | with_reducible refine w_cl ?_
    | with_reducible refine w_mt ?_
    | with_reducible refine w_fld ?_
    | with_reducible refine w_tupN ?_
    | with_reducible refine w_lstN ?_
    | with_reducible refine w_bm ?_
    | with_reducible refine w_bm0 ?_
    | with_reducible refine w_for ?_
    | with_reducible refine w_lc ?_
    | with_reducible refine w_iR1 ?_
    | with_reducible refine w_iR2 ?_
    | with_reducible refine w_iL ?_
    | with_reducible refine w_iT ?_
    | with_reducible refine w_iE ?_
    | with_reducible refine w_iZ ?_
    | with_reducible refine w_var (by with_unfolding_all rfl) ?_
    | with_reducible refine w_c ?_
    | with_reducible refine w_next ?_
    | with_reducible refine w_i0 ?_
    | with_reducible refine w_u1 ?_
    | with_reducible refine w_addI ?_
    | with_reducible refine w_eqI ?_
    | with_reducible refine w_eqS ?_
    | with_reducible refine w_eqB ?_
    | with_reducible refine w_neI ?_
    | with_reducible refine w_neS ?_
    | with_reducible refine w_neB ?_
    | with_reducible refine w_abs ?_
    | with_reducible refine w_intI ?_
    | with_reducible refine w_min2 ?_
    | with_reducible refine w_max2 ?_
    | with_reducible refine w_isN0 ?_
    | with_reducible refine w_isN1 ref_ne ?_
    | with_reducible refine w_isN1 int_ne ?_
    | with_reducible refine w_notN0 ?_
    | with_reducible refine w_notN1 ref_ne ?_
    | with_reducible refine w_notN1 int_ne ?_
    | with_reducible refine w_ex1 ?_
    | with_reducible refine w_n1 ?_
    | with_reducible refine w_n2 ?_
    | with_reducible refine w_tT ?_
    | with_reducible refine w_tF ?_
    | with_reducible refine w_nT ?_
    | with_reducible refine w_nF ?_
    | with_reducible refine w_rz ?_
    | with_reducible refine w_mkN ?_
    | with_reducible refine w_lrgN ?_
    | with_reducible refine w_rg1 ?_
    | with_reducible refine w_rg2 ?_
    | with_reducible refine w_sl ?_
    | with_reducible refine w_np ?_
    | with_reducible refine w_pt ?_
    | with_reducible refine w_tr ?_
    | with_reducible refine w_gn ?_
    | with_reducible refine w_yes ?_
    | with_reducible refine w_m1 ?_
    | with_reducible refine w_asu ?_
    | with_reducible refine w_exS ?_
    | with_reducible refine w_iS ?_
    | with_reducible refine w_g1 ?_
    | with_reducible refine w_gc ?_
    | with_reducible refine w_gt (SqT.of upd_same) rfl ?_)
local macro_rules
  | `(tactic| walk_at "g") => `(tactic| repeat walk_at "1")
local macro_rules
  | `(tactic| walk_at "j1") => `(tactic| first
    | with_reducible refine w_seqI ?_
    | walk_at "1")
local macro_rules
  | `(tactic| walk_at "j") => `(tactic| repeat walk_at "j1")
section
variable {K : PySem.W.Frag} {mg : Str → Option Value}
abbrev hndV (K : PySem.W.Frag) : Addr → Value → Option Addr → TS := fun a cls d => tSeq (tAsg (tTup (tCons (tXat K a cls d "operation" (tVar 3)) (tCons (tXat K a cls d "index" (tVar 3)) (tCons (tXat K a cls d "refusing" (tVar 3)) (tNil))))) (gName 4)) (tRet (tTup (tCons (tC (.str "refused")) (tCons (tVar 4) (tCons (tCB (rIsX K cls d a) (tCons (tVar 3) (tCons (tC (.ref (He.ga K "LogError"))) (tNil)))) (tCons (tCB (rIsX K cls d a) (tCons (tVar 3) (tCons (tC (.ref (He.ga K "NotLost"))) (tNil)))) (tNil)))))))
abbrev hndQ (K : PySem.W.Frag) : Addr → Value → Option Addr → TS := fun a cls d => tRet (tTup (tCons (tC (.str "refused")) (tCons (tXat K a cls d "size" (tVar 3)) (tCons (tCB (rIsX K cls d a) (tCons (tVar 3) (tCons (tC (.ref (He.ga K "LinkError"))) (tNil)))) (tCons (tCB (rIsX K cls d a) (tCons (tVar 3) (tCons (tC (.ref (He.ga K "LogError"))) (tNil)))) (tNil))))))
section
variable {W0 : WX} {D : Ends} {y0 y1 y2 y3 y4 : Option V} {H : Hp}
theorem hnd_sav (T : Txt K mg) {op i : Int} {z : Str} (gg : ∀ t u H', Kp [] H H' → H' t = some (.tup [.str "refused", .ref u, .bl true, .bl false]) → H' u = some (.tup [.int op, .int i, .str z]) → D.rt (.ref t) H') :
    Ex K "Refused" [("refusing", .str z), ("index", .int i), ("operation", .int op)] (WE (wAs K (.ref (He.ga K "Refused")) 3 (hndV K) W0 D) [y0, y1, y2, y3, y4]) H := by
  intro d nd
  refine ⟨true, T.exm_Refused_Refused, fun _ a' na => ?_, fun z => by cases z⟩
  have hd : upd H d (.xd [("refusing", .str z), ("index", .int i), ("operation", .int op)]) d = some (.xd [("refusing", .str z), ("index", .int i), ("operation", .int op)]) := upd_same
  have kd : Kp [] H (upd H d (.xd [("refusing", .str z), ("index", .int i), ("operation", .int op)])) := Kp.new nd
  unfold hndV
  generalize upd H d (.xd [("refusing", .str z), ("index", .int i), ("operation", .int op)]) = H1 at hd kd na ⊢
  walk_at "g"
  refine w_xat (fun Q q => w_var (by with_unfolding_all rfl) q) hd T.ex_Refused (T.oe_Refused.2 _ (by simp)) (lkR _ _ _).1 ?_
  walk_at "g"
  refine w_xat (fun Q q => w_var (by with_unfolding_all rfl) q) hd T.ex_Refused (T.oe_Refused.2 _ (by simp)) (lkR _ _ _).2 ?_
  walk_at "g"
  refine w_xat (fun Q q => w_var (by with_unfolding_all rfl) q) hd T.ex_Refused (T.oe_Refused.2 _ (by simp)) (lk1 _ _ _) ?_
  walk_at "g"
  refine ⟨sz_ok (by show 3 ≤ 1000000; omega), nw fun u H2 nu k2 hu => ?_⟩
  walk_at "g"
  refine w_isx (k2.at0 hd) T.ex_Refused (.own _) T.kit_Refused_LogError ?_
  walk_at "g"
  refine w_isx (k2.at0 hd) T.ex_Refused (.own _) T.kit_Refused_NotLost ?_
  walk_at "g"
  refine ⟨sz_ok (by show 4 ≤ 1000000; omega), nw fun t H3 nt k3 ht => ?_⟩
  exact gg t u H3 ((kd.trans k2).trans k3) ht (k3.at0 hu)
theorem hnd_ppr (T : Txt K mg) {g : Int} (gg : ∀ t H', Kp [] H H' → H' t = some (.tup [.str "refused", .int g, .bl true, .bl false]) → D.rt (.ref t) H') :
    Ex K "NotLost" [("size", .int g)] (WE (wAs K (.ref (He.ga K "NotLost")) 3 (hndQ K) W0 D) [y0, y1, y2, y3]) H := by
  intro d nd
  refine ⟨true, T.exm_NotLost_NotLost, fun _ a' na => ?_, fun z => by cases z⟩
  have hd : upd H d (.xd [("size", .int g)]) d = some (.xd [("size", .int g)]) := upd_same
  have kd : Kp [] H (upd H d (.xd [("size", .int g)])) := Kp.new nd
  unfold hndQ
  generalize upd H d (.xd [("size", .int g)]) = H1 at hd kd na ⊢
  walk_at "g"
  refine w_xat (fun Q q => w_var (by with_unfolding_all rfl) q) hd T.ex_NotLost (T.oe_NotLost.2 _ (by simp)) (lk1 _ _ _) ?_
  walk_at "g"
  refine w_isx hd T.ex_NotLost (.own _) T.kit_NotLost_LinkError ?_
  walk_at "g"
  refine w_isx hd T.ex_NotLost (.own _) T.kit_NotLost_LogError ?_
  walk_at "g"
  refine ⟨sz_ok (by show 4 ≤ 1000000; omega), nw fun t H2 nt k2 ht => ?_⟩
  exact gg t H2 (kd.trans k2) ht
end
theorem len__law_in_saving (K : PySem.W.Frag) : ∀ vs H Q E, sp__law_in_saving K vs H Q E → vs.length = (["many", "row"] : List Str).length := by
  rintro vs H Q E ⟨_, _, _, rfl, _⟩
  rfl
theorem rd__law_in_saving (T : Txt K mg) (vs : List V) (H : Hp) (Q : VK) (E : XK) (h : sp__law_in_saving K vs H Q E) : t__law_in_saving K E { nx := fun _ H' => Q .non H', rt := Q } (start ["many", "row", "links", "raised", "deed"] vs) H := by
  obtain ⟨a, n, log, rfl, hn, hs, le, g1, g2⟩ := h
  unfold t__law_in_saving
  have tn : (n : Int).toNat = n := Int.toNat_natCast n
  walk_at "g"
  refine w_clK ?_
  walk_at "g"
  refine ⟨rfl, rfl, a, n, log, "saving", rfl, hs, fun z => absurd ⟨by omega, by omega⟩ z, fun _ nm => absurd rfl (nm 1 (by omega)), fun _ c c3 em => ?_⟩
  obtain rfl : 1 = c := mdN_inj (by omega) c3 em
  rw [tn]
  refine ⟨fun ad => fun p r l o H2 np nr nl no k2 la => ?_, fun i op hop ad => ⟨fun bad => absurd (le i op hop) bad, fun ok er H2 k2 => ?_⟩⟩
  · walk_at "g"
    obtain ⟨dx, ob⟩ := la.ob
    refine w_strO ob ?_
    refine ⟨p, r, l, o, _, rfl, la, fun H3 k3 => ⟨_, rfl, ?_⟩⟩
    walk_at "g"
    refine ⟨sz_ok (by show 2 ≤ 1000000; omega), G.nw fun t H4 nt k4 ht => ?_⟩
    exact g1 ad t H4 (k2.trans (k3.trans k4)) ht
  · rw [rf1_nm er]
    exact hnd_sav T fun t u H3 k3 ht hu => g2 i op hop ad er t u H3 (k2.trans k3) ht hu
theorem len__law_paper (K : PySem.W.Frag) : ∀ vs H Q E, sp48__law_paper K vs H Q E → vs.length = (["many", "row"] : List Str).length := by
  rintro vs H Q E ⟨_, _, _, rfl, _⟩
  rfl
theorem rd__law_paper (T : Txt K mg) (vs : List V) (H : Hp) (Q : VK) (E : XK) (h : sp48__law_paper K vs H Q E) : t__law_paper K E { nx := fun _ H' => Q .non H', rt := Q } (start ["many", "row", "told", "raised"] vs) H := by
  obtain ⟨a, n, log, rfl, hn, hs, hl, le, g1, g2⟩ := h
  unfold t__law_paper
  have tn : (n : Int).toNat = n := Int.toNat_natCast n
  walk_at "g"
  refine ⟨a, n, log, rfl, hs, by omega, Leg.rep8 hn le, fun _ _ ec H2 k2 => ?_, fun _ _ e es ec t H2 k2 ht => ?_⟩
  · rw [tn] at ec
    exact hnd_ppr T fun t H3 k3 ht => g1 ec t H3 (k2.trans k3) ht
  · rw [tn] at ec
    walk_at "g"
    refine ⟨sz_ok (by show 2 ≤ 1000000; omega), G.nw fun t2 H3 nt k3 ht2 => ?_⟩
    exact g2 e es ec t2 t H3 (k2.trans k3) ht2 (k3.at0 ht)
def orK (k : Int) : V → V
  | .non => .int k
  | v => v
def updV (L k : Int) (m j : Nat) (v : V) : V := if L ≤ (m : Int) ∧ m < j then orK k v else v
theorem updV_ne {L k : Int} {m j : Nat} (h : m ≠ j) (v : V) : updV L k m (j + 1) v = updV L k m j v := by
  unfold updV
  by_cases c : L ≤ (m : Int) ∧ m < j
  · rw [if_pos c, if_pos ⟨c.1, by omega⟩]
  · rw [if_neg c, if_neg (fun z => c ⟨z.1, by omega⟩)]
theorem updV_at {L k : Int} {j : Nat} (v : V) : updV L k j j v = v := if_neg (fun z => absurd z.2 (Nat.lt_irrefl _))
theorem updV_to {L k : Int} {j : Nat} (h : L ≤ (j : Int)) (v : V) : updV L k j (j + 1) v = orK k v := if_pos ⟨h, Nat.lt_succ_self _⟩
theorem FsV.cases {m n : Nat} {log : List Int} {v : V} (h : FsV m n log v) (k : Int) : (v = .non ∧ orK k v = .int k) ∨ (v ≠ .non ∧ orK k v = v) := by
  rcases h with ⟨_, rfl⟩ | ⟨i, _, rfl⟩
  · exact .inl ⟨rfl, rfl⟩
  · exact .inr ⟨fun z => (by cases z), rfl⟩
theorem FsV.upd {m n : Nat} {log : List Int} {op : Int} {v : V} (hm : m ≤ 3) (h : FsV m n log v) (ok : OkOp (runS (wholeS n) log) op) : FsV m n (log ++ [op]) (updV (rfI (runS (wholeS n) log) op) (log.length : Int) m 4 v) := by
  unfold updV
  by_cases c : rfI (runS (wholeS n) log) op ≤ (m : Int)
  · rw [if_pos ⟨c, by omega⟩]
    have r : refS m (runS (wholeS n) log) op ≠ "" := fun z => by have := (rfI_le hm).mp z; omega
    rcases h with ⟨ad, rfl⟩ | ⟨i, f, rfl⟩
    · exact .inr ⟨_, FstR.snoc ad r, rfl⟩
    · exact .inr ⟨i, f.app _, rfl⟩
  · rw [if_neg (fun z => c z.1)]
    have r : refS m (runS (wholeS n) log) op = "" := (rfI_le hm).mpr (by omega)
    rcases h with ⟨ad, rfl⟩ | ⟨i, f, rfl⟩
    · exact .inl ⟨ad.snoc ok r, rfl⟩
    · exact .inr ⟨i, f.app _, rfl⟩
theorem len__law_firsts (K : PySem.W.Frag) : ∀ vs H Q E, sp__law_firsts K vs H Q E → vs.length = (["many", "row"] : List Str).length := by
  rintro vs H Q E ⟨_, _, _, rfl, _⟩
  rfl
theorem rd__law_firsts (T : Txt K mg) (vs : List V) (H : Hp) (Q : VK) (E : XK) (h : sp__law_firsts K vs H Q E) : t__law_firsts K E { nx := fun _ H' => Q .non H', rt := Q } (start ["many", "row", "state", "firsts", "k", "level", "m"] vs) H := by
  obtain ⟨a, n, log, rfl, hn, ha, le, hl, g⟩ := h
  unfold t__law_firsts
  walk_at "g"
  refine ⟨n, rfl, hn, fun w r l o H1 nw nr nl no k1 st1 => ?_⟩
  walk_at "g"
  refine ⟨sz_ok (by show 4 ≤ 1000000; omega), G.nw fun q H2 nq k2 hq => ?_⟩
  have k02 := k1.trans k2
  have fq := k1.free0 nq
  have fr1 := nr
  have fr2 := nl
  have fr3 := no
  obtain ⟨wq, rq, lq, oq⟩ := st1.fr nq
  have aq : a ≠ q := ne_of_none (k1.at0 ha) nq
  walk_at "g"
  refine w_lenL (SqL.of (k02.at0 ha)) ?_
  walk_at "g"
  rw [List.length_map]
  refine w_r1 (by omega) ?_
  refine lp_rng0 (fun k σ H' => (∃ x4 x5 x6, σ = [some (.int (n : Int)), some (.ref a), some (.ref w), some (.ref q), x4, x5, x6]) ∧ Kp [] H H' ∧ St3 H' w r l o (runS (wholeS n) (log.take k)) ∧ ∃ v0 v1 v2 v3, H' q = some (.lst [v0, v1, v2, v3]) ∧ FsV 0 n (log.take k) v0 ∧ FsV 1 n (log.take k) v1 ∧ FsV 2 n (log.take k) v2 ∧ FsV 3 n (log.take k) v3) ⟨⟨_, _, _, rfl⟩, k02, st1.k0 k2, _, _, _, _, hq, .inl ⟨adm_nil _ _, rfl⟩, .inl ⟨adm_nil _ _, rfl⟩, .inl ⟨adm_nil _ _, rfl⟩, .inl ⟨adm_nil _ _, rfl⟩⟩ ?_ ?_
  · rintro k σ' H3 hk ⟨⟨x4, x5, x6, rfl⟩, k3, st3, v0, v1, v2, v3, hq3, f0, f1, f2, f3⟩
    rw [Int.toNat_natCast] at hk
    obtain ⟨op, hop⟩ : ∃ op, log[k]? = some op := ⟨log[k], List.getElem?_eq_getElem hk⟩
    have okop := le k op hop
    have eix : atI (log.map V.int) (k : Int) = some (.int op) := by
      rw [at_I (by omega) (by omega), Int.toNat_natCast, gI_of hop]
    have lk : (log.take k).length = k := by rw [List.length_take]; omega
    obtain ⟨wr, wl, wo⟩ : w ≠ q ∧ r ≠ q ∧ l ≠ q := ⟨wq, rq, lq⟩
    have rb := rfI_bd (runS (wholeS n) (log.take k)) op
    walk_at "g"
    refine w_ixL (SqL.of (k3.at0 ha)) eix ?_
    walk_at "g"
    refine ⟨w, r, l, o, _, op, rfl, st3, okop, fun H4 k4 => ?_⟩
    have k04 := k3.trans k4
    have st4 := st3.k0 k4
    have hq4 := k4.at0 hq3
    have u0 := f0.upd (by omega) okop
    have u1 := f1.upd (by omega) okop
    have u2 := f2.upd (by omega) okop
    have u3 := f3.upd (by omega) okop
    rw [lk, ← take_snoc hop] at u0 u1 u2 u3
    obtain ⟨L, eL⟩ : ∃ L : Nat, rfI (runS (wholeS n) (log.take k)) op = (L : Int) := ⟨(rfI (runS (wholeS n) (log.take k)) op).toNat, by omega⟩
    rw [eL] at u0 u1 u2 u3 rb ⊢
    walk_at "g"
    refine w_r2 ⟨by omega, by omega, by omega, by omega⟩ ?_
    refine lp_rng (fun i σ H' => (∃ x6, σ = [some (.int (n : Int)), some (.ref a), some (.ref w), some (.ref q), some (.int (k : Int)), some (.int (L : Int)), x6]) ∧ Kp [q] H4 H' ∧ H' q = some (.lst [updV L k 0 (L + i) v0, updV L k 1 (L + i) v1, updV L k 2 (L + i) v2, updV L k 3 (L + i) v3])) ⟨⟨_, rfl⟩, Kp.refl _ _, ?_⟩ ?_ ?_
    · have z : ∀ m v, updV L k m (L + 0) v = v := fun m v => if_neg (fun z => by omega)
      rw [z, z, z, z]
      exact hq4
    · rintro i σ' H5 hi ⟨⟨x6, rfl⟩, k5, hq5⟩
      have j4 : L + i < 4 := by omega
      have ecast : (L : Int) + (i : Int) = ((L + i : Nat) : Int) := by omega
      have hj1 : 1 ≤ L + i := by omega
      have hLj : (L : Int) ≤ ((L + i : Nat) : Int) := by omega
      rw [ecast]
      have hc : L + i = 1 ∨ L + i = 2 ∨ L + i = 3 := by omega
      rcases hc with ej | ej | ej <;> rw [ej]
      · have e1 : updV L k 1 (1) v1 = v1 := updV_at _
        rw [ej] at hq5
        rw [e1] at hq5
        walk_at "g"
        refine w_ixL (SqL.of hq5) (show atI [_, _, _, _] ((1 : Nat) : Int) = some v1 from rfl) ?_
        have hLm : (L : Int) ≤ ((1 : Nat) : Int) := by omega
        have nx : ∀ H6, Kp [q] H4 H6 → H6 q = some (.lst [updV L k 0 1 v0, orK (k : Int) v1, updV L k 2 1 v2, updV L k 3 1 v3]) → Kp [q] H4 H6 ∧ H6 q = some (.lst [updV L k 0 (L + (i + 1)) v0, updV L k 1 (L + (i + 1)) v1, updV L k 2 (L + (i + 1)) v2, updV L k 3 (L + (i + 1)) v3]) := fun H6 k6 h6 => by
          refine ⟨k6, ?_⟩
          rw [show L + (i + 1) = 1 + 1 by omega, updV_ne (show 0 ≠ 1 by omega), updV_ne (show 2 ≠ 1 by omega), updV_ne (show 3 ≠ 1 by omega), updV_to (j := 1) hLm]
          exact h6
        rcases f1.cases (k : Int) with ⟨e, eo⟩ | ⟨e, eo⟩
        · subst e
          walk_at "g"
          refine w_seT hq5 (n := 1) rfl fun H6 k6 h6 => ?_
          walk_at "g"
          refine ⟨⟨_, rfl⟩, nx H6 (k5.trans k6) ?_⟩
          rw [eo]
          exact h6
        · walk_at "g"
          refine w_isN1 e ?_
          walk_at "g"
          refine ⟨⟨_, rfl⟩, nx H5 k5 ?_⟩
          rw [eo]
          exact hq5
      · have e2 : updV L k 2 (2) v2 = v2 := updV_at _
        rw [ej] at hq5
        rw [e2] at hq5
        walk_at "g"
        refine w_ixL (SqL.of hq5) (show atI [_, _, _, _] ((2 : Nat) : Int) = some v2 from rfl) ?_
        have hLm : (L : Int) ≤ ((2 : Nat) : Int) := by omega
        have nx : ∀ H6, Kp [q] H4 H6 → H6 q = some (.lst [updV L k 0 2 v0, updV L k 1 2 v1, orK (k : Int) v2, updV L k 3 2 v3]) → Kp [q] H4 H6 ∧ H6 q = some (.lst [updV L k 0 (L + (i + 1)) v0, updV L k 1 (L + (i + 1)) v1, updV L k 2 (L + (i + 1)) v2, updV L k 3 (L + (i + 1)) v3]) := fun H6 k6 h6 => by
          refine ⟨k6, ?_⟩
          rw [show L + (i + 1) = 2 + 1 by omega, updV_ne (show 0 ≠ 2 by omega), updV_ne (show 1 ≠ 2 by omega), updV_ne (show 3 ≠ 2 by omega), updV_to (j := 2) hLm]
          exact h6
        rcases f2.cases (k : Int) with ⟨e, eo⟩ | ⟨e, eo⟩
        · subst e
          walk_at "g"
          refine w_seT hq5 (n := 2) rfl fun H6 k6 h6 => ?_
          walk_at "g"
          refine ⟨⟨_, rfl⟩, nx H6 (k5.trans k6) ?_⟩
          rw [eo]
          exact h6
        · walk_at "g"
          refine w_isN1 e ?_
          walk_at "g"
          refine ⟨⟨_, rfl⟩, nx H5 k5 ?_⟩
          rw [eo]
          exact hq5
      · have e3 : updV L k 3 (3) v3 = v3 := updV_at _
        rw [ej] at hq5
        rw [e3] at hq5
        walk_at "g"
        refine w_ixL (SqL.of hq5) (show atI [_, _, _, _] ((3 : Nat) : Int) = some v3 from rfl) ?_
        have hLm : (L : Int) ≤ ((3 : Nat) : Int) := by omega
        have nx : ∀ H6, Kp [q] H4 H6 → H6 q = some (.lst [updV L k 0 3 v0, updV L k 1 3 v1, updV L k 2 3 v2, orK (k : Int) v3]) → Kp [q] H4 H6 ∧ H6 q = some (.lst [updV L k 0 (L + (i + 1)) v0, updV L k 1 (L + (i + 1)) v1, updV L k 2 (L + (i + 1)) v2, updV L k 3 (L + (i + 1)) v3]) := fun H6 k6 h6 => by
          refine ⟨k6, ?_⟩
          rw [show L + (i + 1) = 3 + 1 by omega, updV_ne (show 0 ≠ 3 by omega), updV_ne (show 1 ≠ 3 by omega), updV_ne (show 2 ≠ 3 by omega), updV_to (j := 3) hLm]
          exact h6
        rcases f3.cases (k : Int) with ⟨e, eo⟩ | ⟨e, eo⟩
        · subst e
          walk_at "g"
          refine w_seT hq5 (n := 3) rfl fun H6 k6 h6 => ?_
          walk_at "g"
          refine ⟨⟨_, rfl⟩, nx H6 (k5.trans k6) ?_⟩
          rw [eo]
          exact h6
        · walk_at "g"
          refine w_isN1 e ?_
          walk_at "g"
          refine ⟨⟨_, rfl⟩, nx H5 k5 ?_⟩
          rw [eo]
          exact hq5
    · rintro σ' H5 ⟨⟨x6, rfl⟩, k5, hq5⟩
      have e4 : L + ((4 : Int) - (L : Int)).toNat = 4 := by omega
      rw [e4] at hq5
      have st5 : St3 H5 w r l o (runS (wholeS n) (log.take k)) := st4.kp k5 (by simpa using wq) (by simpa using rq) (by simpa using lq) (by simpa using oq)
      have k05 : Kp [] H H5 := (k04.all.trans k5).cut1 fq
      walk_at "g"
      refine w_ixL (SqL.of (k05.at0 ha)) eix ?_
      walk_at "g"
      refine ⟨w, r, l, o, _, op, rfl, st5, okop.1, fun H6 k6 st6 => ?_⟩
      walk_at "g"
      refine ⟨⟨_, _, _, rfl⟩, (k05.all.trans k6).cut (by simp [fr1, fr2, fr3]), ?_, _, _, _, _, k6 _ _ (by simp [Ne.symm rq, Ne.symm lq, Ne.symm oq]) hq5, u0, u1, u2, u3⟩
      rw [take_snoc hop, runS_snoc]
      exact st6
  · rintro σ' H3 ⟨⟨x4, x5, x6, rfl⟩, k3, st3, v0, v1, v2, v3, hq3, f0, f1, f2, f3⟩
    rw [Int.toNat_natCast, List.take_length] at f0 f1 f2 f3
    walk_at "g"
    exact g q v0 v1 v2 v3 H3 fq k3 hq3 f0 f1 f2 f3
end
end G
set_option Elab.async false
set_option linter.all false
set_option maxRecDepth 100000
set_option maxHeartbeats 2000000
namespace G
--#FAM KV
open PySem PySem.Spec PyProof.Rows L2
local macro_rules
  | `(tactic| walk_at "1") => `(tactic| first
    | with_reducible refine w_seq ?_
    | with_reducible refine w_asg ?_
    | with_reducible refine w_asgS ?_
    | with_reducible refine w_asf ?_
    | with_reducible refine w_drop ?_
    | with_reducible refine w_ret ?_
    | with_reducible refine w_if ?_
    | with_reducible refine w_not ?_
    | with_reducible refine w_and ?_
    | with_reducible refine w_or ?_
    | with_reducible refine w_test ?_
    | with_reducible refine w_tb ?_
    | with_reducible refine w_chain ?_
    | with_reducible refine w_op ?_
    | with_reducible refine w_un ?_
    | with_reducible refine w_andV ?_
    | with_reducible refine w_orV ?_
    | with_reducible refine w_notV ?_
    | with_reducible refine w_ifE ?_
    | with_reducible refine w_cons ?_
    | with_reducible refine w_nil ?_
    | with_reducible refine w_cb ?_
    | with_reducible refine w_cl ?_
    | with_reducible refine w_mt ?_
    | with_reducible refine w_fld ?_
    | with_reducible refine w_tupN ?_
    | with_reducible refine w_lstN ?_
    | with_reducible refine w_bm ?_
    | with_reducible refine w_bm0 ?_
    | with_reducible refine w_for ?_
    | with_reducible refine w_lc ?_
    | with_reducible refine w_iR1 ?_
    | with_reducible refine w_iR2 ?_
    | with_reducible refine w_iL ?_
    | with_reducible refine w_iT ?_
    | with_reducible refine w_iE ?_
    | with_reducible refine w_iZ ?_
    | with_reducible refine w_var (by with_unfolding_all rfl) ?_
    | with_reducible refine w_c ?_
    | with_reducible refine w_next ?_
    | with_reducible refine w_i0 ?_
    | with_reducible refine w_u1 ?_
    | with_reducible refine w_addI ?_
    | with_reducible refine w_eqI ?_
    | with_reducible refine w_eqS ?_
    | with_reducible refine w_eqB ?_
    | with_reducible refine w_neI ?_
    | with_reducible refine w_neS ?_
    | with_reducible refine w_neB ?_
    | with_reducible refine w_abs ?_
    | with_reducible refine w_intI ?_
    | with_reducible refine w_min2 ?_
    | with_reducible refine w_max2 ?_
    | with_reducible refine w_isN0 ?_
    | with_reducible refine w_isN1 ref_ne ?_
    | with_reducible refine w_isN1 int_ne ?_
    | with_reducible refine w_notN0 ?_
    | with_reducible refine w_notN1 ref_ne ?_
    | with_reducible refine w_notN1 int_ne ?_
    | with_reducible refine w_ex1 ?_
    | with_reducible refine w_n1 ?_
    | with_reducible refine w_n2 ?_
    | with_reducible refine w_tT ?_
    | with_reducible refine w_tF ?_
    | with_reducible refine w_nT ?_
    | with_reducible refine w_nF ?_
    | with_reducible refine w_rz ?_
    | with_reducible refine w_mkN ?_
    | with_reducible refine w_lrgN ?_
    | with_reducible refine w_rg1 ?_
    | with_reducible refine w_rg2 ?_
    | with_reducible refine w_sl ?_
    | with_reducible refine w_np ?_
    | with_reducible refine w_pt ?_
    | with_reducible refine w_tr ?_
    | with_reducible refine w_gn ?_
    | with_reducible refine w_yes ?_
    | with_reducible refine w_m1 ?_
    | with_reducible refine w_asu ?_
    | with_reducible refine w_exS ?_
    | with_reducible refine w_iS ?_
    | with_reducible refine w_g1 ?_
    | with_reducible refine w_gc ?_
    | with_reducible refine w_gt (SqT.of upd_same) rfl ?_)
local macro_rules
  | `(tactic| walk_at "g") => `(tactic| repeat walk_at "1")
local macro_rules
  | `(tactic| walk_at "j1") => `(tactic| first
    | with_reducible refine w_seqI ?_
    | walk_at "1")
local macro_rules
  | `(tactic| walk_at "j") => `(tactic| repeat walk_at "j1")
section
variable {K : PySem.W.Frag} {mg : Str → Option Value}
/-- the first loss, the first refusal of the saving mode and the first loss in time agree -/
theorem ls_fnd {n : Nat} (hn : n ≤ 60) : ∀ {log : List Int}, Leg (wholeS n) log → (fndL n log = [] ∧ (bkR n log).ls = none ∧ Adm 1 (wholeS n) log) ∨ (∃ e es, ∃ k g : Nat, fndL n log = e :: es ∧ (bkR n log).ls = some (k, g) ∧ e.1 = (g : Int) ∧ e.2.2 = (k : Int) ∧ FstR 1 (wholeS n) log k) := by
  intro log
  induction log using snoc_ind with
  | h0 => exact fun _ => .inl ⟨rfl, rfl, adm_nil _ _⟩
  | h1 l x ih =>
    intro h
    obtain ⟨hl, ok⟩ := h.init
    have w := hl.wf (.whole hn)
    have ef : fndL n (l ++ [x]) = fndL n l ++ fndAt n (l ++ [x]) l.length := by
      show fndK n (l ++ [x]) (l ++ [x]).length = _
      rw [show (l ++ [x]).length = l.length + 1 by simp, fndK_snoc, ← fndK_take n (l ++ [x]) l.length l.length (Nat.le_refl _), List.take_left' rfl]
      rfl
    have sn := ls_snoc hn hl ok
    rcases ih hl with ⟨f0, l0, ad⟩ | ⟨e, es, k, g, f1, l1, e1, e2, fr⟩
    · have nl := (fnd_nil hn hl).mp f0
      rw [l0] at sn
      have ea : fndAt n (l ++ [x]) l.length = (lostL (stepS (runS (wholeS n) l) x)).map fun (g : Nat) => ((g : Int), gI (bkR n ((l ++ [x]).take l.length)).de g, (l.length : Int)) := by
        unfold fndAt lostL
        rw [stepS_n, runS_n]
        refine congrArg _ (List.filter_congr fun g hg => ?_)
        have hg := List.mem_range.mp hg
        have hg : g < n + 1 := hg
        have s1 : stL n (l ++ [x]) (l.length + 1) g = stT (stepS (runS (wholeS n) l) x) g := by
          unfold stL
          rw [List.take_of_length_le (by simp), runS_snoc]
        have s0 : stL n (l ++ [x]) l.length g = stT (runS (wholeS n) l) g := by
          unfold stL
          rw [List.take_left' rfl]
        have no : ¬ stT (runS (wholeS n) l) g = "lost" := fun z => by
          have : g ∈ lostL (runS (wholeS n) l) := by
            unfold lostL
            rw [List.mem_filter, List.mem_range, decide_eq_true_iff, runS_n]
            exact ⟨hg, z⟩
          rw [nl] at this
          cases this
        rw [s1, s0]
        by_cases c : stT (stepS (runS (wholeS n) l) x) g = "lost"
        · rw [decide_eq_true c, Bool.and_true, decide_eq_false (fun z => no ((of_decide_eq_true (decide_eq_true z)).symm.trans c))]
          rfl
        · rw [decide_eq_false c, Bool.and_false]
      cases el : lostL (stepS (runS (wholeS n) l) x) with
      | nil =>
        rw [el] at sn ea
        have sv := (lost47 w ok.1).mp el
        exact .inl ⟨by rw [ef, f0, ea] <;> rfl, sn, ad.snoc ok (by rw [refS_1, sv.2, if_neg Bool.false_ne_true])⟩
      | cons g gs =>
        rw [el] at sn ea
        have sv : svB (runS (wholeS n) l) x.natAbs = true := by
          cases z : svB (runS (wholeS n) l) x.natAbs with
          | true => rfl
          | false =>
            have := (lost47 w ok.1).mpr ⟨nl, z⟩
            rw [el] at this
            cases this
        exact .inr ⟨_, _, l.length, g, by rw [ef, f0, ea] <;> rfl, sn, rfl, rfl, FstR.snoc ad (rf1_sv.mpr sv)⟩
    · rw [l1] at sn
      exact .inr ⟨e, _, k, g, by rw [ef, f1] <;> rfl, sn, e1, e2, fr.app _⟩
theorem w_clD {n : Nat} {sp : Sp} {dvs : List V} {E : L2.St → XK} {t : TA} {σ : L2.St} {H : Hp} {Q : VK} (h : t σ H fun vs H1 => vs.length = n ∧ sp (vs ++ dvs) H1 Q (E σ)) : tClD n sp dvs E t σ H Q := h
theorem w_firstC {H : Hp} {Q : VK} {E : XK} {a : Addr} {n : Nat} {log : List Int} {m : Str} (c : Nat) (c3 : c ≤ 3) (em : m = mdN c) (hn : n ≤ 60) (hs : SqL K H a (log.map V.int)) (le : Leg (wholeS n) log) (g : ∀ v, FsV c n log v → Any H v Q) : sp_first_refusal K [.int (n : Int), .ref a, .str m] H Q E :=
  ⟨a, n, log, m, rfl, hs, fun z => absurd ⟨by omega, by omega⟩ z, fun _ nm => absurd em (nm c c3), fun _ c' c3' em' => by
    obtain rfl : c = c' := mdN_inj c3 c3' (em.symm.trans em')
    rw [Int.toNat_natCast]
    exact ⟨fun i op hop _ bad => absurd (le i op hop) bad, fun _ => ⟨fun ad => g _ (.inl ⟨ad, rfl⟩), fun i f => g _ (.inr ⟨i, f, rfl⟩)⟩⟩⟩
theorem w_loss {H : Hp} {Q : VK} {E : XK} {a : Addr} {n : Nat} {log : List Int} (hn : n ≤ 60) (hs : SqL K H a (log.map V.int)) (le : Leg (wholeS n) log) (g : ∀ v H', Kp [] H H' → OptP H' v (bkR n log).ls → Q v H') : sp_first_loss K [.int (n : Int), .ref a] H Q E :=
  ⟨a, n, log, rfl, hs, Leg.rep8 hn le, fun _ _ => by rw [Int.toNat_natCast]; exact g⟩
theorem SamV.opt {m : Nat} {H : Hp} {x y : V} {p : Option (Nat × Nat)} (hx : OptP H x p) (hy : OptP H y p) : SamV (m + 2) H x y := by
  cases p with
  | none =>
    have hx : x = .non := hx
    have hy : y = .non := hy
    rw [hx, hy]
    exact .at trivial
  | some p =>
    obtain ⟨k, g⟩ := p
    obtain ⟨t, rfl, ht⟩ := hx
    obtain ⟨u, rfl, hu⟩ := hy
    exact SamV.atoms ht hu (by show 2 ≤ 1000; omega) fun x hx => by
      simp only [List.mem_cons, List.not_mem_nil, or_false] at hx
      rcases hx with rfl | rfl <;> trivial
theorem SamV.done {m : Nat} {H : Hp} {t u : Addr} {x y : Str} (ht : H t = some (.tup [.str x, .str y])) (hu : H u = some (.tup [.str x, .str y])) : SamV (m + 2) H (.ref t) (.ref u) := SamV.atoms ht hu (by show 2 ≤ 1000; omega) fun x hx => by
  simp only [List.mem_cons, List.not_mem_nil, or_false] at hx
  rcases hx with rfl | rfl <;> trivial
theorem SamV.refd {m : Nat} {H : Hp} {t t' u u' : Addr} {z : Str} {x y : Int} {w : Str} (ht : H t = some (.tup [.str z, .ref u, .bl true, .bl false])) (ht' : H t' = some (.tup [.str z, .ref u', .bl true, .bl false])) (hu : H u = some (.tup [.int x, .int y, .str w])) (hu' : H u' = some (.tup [.int x, .int y, .str w])) : SamV (m + 3) H (.ref t) (.ref t') :=
  SamV.tup ht ht' rfl (by show 4 ≤ 1000; omega) fun i a b ha hb => by
    match i, ha, hb with
    | 0, ha, hb => injection ha with ha; injection hb with hb; subst ha; subst hb; exact .at trivial
    | 1, ha, hb =>
      injection ha with ha; injection hb with hb; subst ha; subst hb
      exact SamV.atoms hu hu' (by show 3 ≤ 1000; omega) fun x hx => by
        simp only [List.mem_cons, List.not_mem_nil, or_false] at hx
        rcases hx with rfl | rfl | rfl <;> trivial
    | 2, ha, hb => injection ha with ha; injection hb with hb; subst ha; subst hb; exact .at trivial
    | 3, ha, hb => injection ha with ha; injection hb with hb; subst ha; subst hb; exact .at trivial
theorem FsV.atom {m n : Nat} {log : List Int} {v : V} (h : FsV m n log v) : Atom v := by
  rcases h with ⟨_, rfl⟩ | ⟨i, _, rfl⟩ <;> trivial
theorem len__law_refusals (K : PySem.W.Frag) : ∀ vs H Q E, sp47__law_refusals K vs H Q E → vs.length = (["many", "row", "found"] : List Str).length := by
  rintro vs H Q E ⟨_, _, _, _, _, rfl, _⟩
  rfl
theorem rd__law_refusals (T : Txt K mg) (vs : List V) (H : Hp) (Q : VK) (E : XK) (h : sp47__law_refusals K vs H Q E) : t__law_refusals K E { nx := fun _ H' => Q .non H', rt := Q } (start ["many", "row", "found", "names", "given", "due", "firsts", "m", "end", "at", "ahead"] vs) H := by
  obtain ⟨a, f, n, log, xs, rfl, hn, ha, hl, le, hf, cp, g⟩ := h
  unfold t__law_refusals
  have lsf := ls_fnd hn le
  walk_at "g"
  refine ⟨sz_ok (by show 4 ≤ 1000000; omega), G.nw fun nm H1 nnm k1 hnm => ?_⟩
  walk_at "g"
  refine w_listLN (SqL.of (k1.at0 ha)) fun gv H2 ngv k2 hgv => ?_
  have k02 := k1.trans k2
  have hf2 := k02.at0 hf
  have cp2 := cp.k0 k02
  have hnm2 := k2.at0 hnm
  walk_at "j"
  refine w_ifJ (fun σ' H' => ∃ dv, σ' = [some (.int (n : Int)), some (.ref a), some (.ref f), some (.ref nm), some (.ref gv), some dv, none, none, none, none, none] ∧ Kp [] H2 H' ∧ OptP H' dv (bkR n log).ls)
    (fun N0 hN0 => ?_) (fun σ' H3 ⟨dv, es, k3, op3⟩ => ?_)
  · walk_at "g"
    refine w_truL (SqL.of hf2) ?_
    rcases lsf with ⟨f0, l0, ad⟩ | ⟨e, es, k, gg, f1, l1, e1, e2, fr⟩
    · have ex : xs = [] := List.length_eq_zero_iff.mp (by rw [cp.1, f0] <;> rfl)
      subst ex
      rw [if_neg (show ¬ (!([] : List V).isEmpty) = true from Bool.false_ne_true)]
      walk_at "g"
      exact hN0 _ _ ⟨.non, rfl, Kp.refl _ _, by rw [l0] <;> rfl⟩
    · obtain ⟨t, h1, h2⟩ := cp2.2 0 e (by rw [f1] <;> rfl)
      cases xs with
      | nil => cases h1
      | cons x xs =>
        have ex : x = .ref t := by simpa using h1
        subst ex
        have h2 : H2 t = some (.tup [.int e.1, .int e.2.1, .int e.2.2]) := h2
        rw [if_pos (show (!(V.ref t :: xs).isEmpty) = true from rfl)]
        walk_at "g"
        refine w_ixL (SqL.of hf2) at_0 ?_
        walk_at "g"
        refine w_ixT (SqT.of h2) (i := 2) (v := .int e.2.2) rfl ?_
        walk_at "g"
        refine w_ixL (SqL.of hf2) at_0 ?_
        walk_at "g"
        refine w_ixT (SqT.of h2) (i := 0) (v := .int e.1) rfl ?_
        walk_at "g"
        refine ⟨sz_ok (by show 2 ≤ 1000000; omega), G.nw fun dt H3 ndt k3 hdt => ?_⟩
        walk_at "g"
        exact hN0 _ _ ⟨.ref dt, rfl, k3, by
          rw [l1]
          exact ⟨dt, rfl, by rw [← e1, ← e2]; exact hdt⟩⟩
  subst es
  have k03 := k02.trans k3
  have hgv3 := k3.at0 hgv
  have ha3 := k03.at0 ha
  walk_at "g"
  refine w_loss hn (SqL.of hgv3) le fun v H4 k4 op4 => ?_
  walk_at "g"
  refine ⟨_, _, rfl, SamV.opt op4 (op3.kp k4), ?_⟩
  walk_at "g"
  refine ⟨a, n, log, rfl, hn, k4.at0 ha3, le, by omega, fun q v0 v1 v2 v3 H5 nq k5 hq f0 f1 f2 f3 => ?_⟩
  have k35 := k4.trans k5
  have hnm5 := k35.at0 (k3.at0 hnm2)
  have hgv5 := k35.at0 hgv3
  have k05 := k03.trans k35
  walk_at "g"
  refine w_r1 (by omega) ?_
  refine lp_rng0 (fun k σ H' => (∃ x7, σ = [some (.int (n : Int)), some (.ref a), some (.ref f), some (.ref nm), some (.ref gv), some dv, some (.ref q), x7, none, none, none]) ∧ Kp [] H5 H') ⟨⟨_, rfl⟩, Kp.refl _ _⟩ ?_ ?_
  · rintro k σ' H6 hk ⟨⟨x7, rfl⟩, k6⟩
    have hk4 : k < 4 := hk
    have hc : ∃ vk, atI [v0, v1, v2, v3] (k : Int) = some vk ∧ FsV k n log vk ∧ atI [V.str "free", .str "saving", .str "guarded", .str "checked"] (k : Int) = some (.str (mdN k)) := by
      match k, hk4 with
      | 0, _ => exact ⟨v0, rfl, f0, rfl⟩
      | 1, _ => exact ⟨v1, rfl, f1, rfl⟩
      | 2, _ => exact ⟨v2, rfl, f2, rfl⟩
      | 3, _ => exact ⟨v3, rfl, f3, rfl⟩
    obtain ⟨vk, ev, fk, en⟩ := hc
    walk_at "g"
    refine w_clK ?_
    walk_at "g"
    refine w_ixL (SqL.of (k6.at0 hnm5)) en ?_
    walk_at "g"
    refine ⟨rfl, rfl, w_firstC k (by omega) rfl hn (SqL.of (k6.at0 hgv5)) le fun v fv H7 k7 => ?_⟩
    walk_at "g"
    refine w_ixL (SqL.of (k7.at0 (k6.at0 hq))) ev ?_
    have euv := fv.uniq fk
    subst euv
    walk_at "g"
    refine ⟨_, _, rfl, .at fv.atom, ?_⟩
    walk_at "g"
    exact ⟨⟨_, rfl⟩, k6.trans k7⟩
  rintro σ' H6 ⟨⟨x7, rfl⟩, k6⟩
  have k06 := k05.trans k6
  have hgv6 := k6.at0 hgv5
  walk_at "g"
  refine w_clD ?_
  walk_at "g"
  refine ⟨rfl, w_firstC 0 (by omega) rfl hn (SqL.of hgv6) le fun v fv H7 k7 => ?_⟩
  have evn : v = .non := fv.uniq (.inl ⟨adm0 le, rfl⟩)
  subst evn
  walk_at "g"
  refine ⟨_, _, rfl, .at trivial, ?_⟩
  have k07 := k06.trans k7
  have hgv7 := k7.at0 hgv6
  have ha7 := k07.at0 ha
  have hf7 := k07.at0 hf
  have cp7 := cp.k0 k07
  walk_at "g"
  refine w_truL (SqL.of hf7) ?_
  rcases lsf with ⟨fn0, l0, ad⟩ | ⟨e, es, k, gg, fn1, l1, e1, e2, fr⟩
  · have ex : xs = [] := List.length_eq_zero_iff.mp (by rw [cp.1, fn0] <;> rfl)
    subst ex
    rw [show (!([] : List V).isEmpty) = false from rfl]
    walk_at "g"
    refine ⟨a, n, log, rfl, hn, ha7, le, fun w r l o H8 nw nr nl no k8 st8 => ?_⟩
    walk_at "g"
    refine ⟨w, r, l, o, _, rfl, st8, fun H9 k9 => ?_⟩
    walk_at "g"
    refine ⟨sz_ok (by show 2 ≤ 1000000; omega), G.nw fun t HA nt kA ht => ?_⟩
    have k7A := k8.trans (k9.trans kA)
    walk_at "g"
    refine ⟨gv, n, log, rfl, hn, SqL.of (k7A.at0 hgv7), le, fun _ u HB kB hu => ?_, fun i op hop _ er => absurd (ad i op hop).2 er⟩
    walk_at "g"
    refine ⟨_, _, rfl, SamV.done hu (kB.at0 ht), ?_⟩
    have k7B := k7A.trans kB
    walk_at "g"
    refine w_eqL (SqL.of (k7B.at0 hgv7)) (SqL.of (k7B.at0 ha7)) ?_
    exact g HB (k07.trans k7B)
  · obtain ⟨t, h1, h2⟩ := cp7.2 0 e (by rw [fn1] <;> rfl)
    cases xs with
    | nil => cases h1
    | cons x xs =>
      have ex : x = .ref t := by simpa using h1
      subst ex
      have h2 : H7 t = some (.tup [.int e.1, .int e.2.1, .int e.2.2]) := h2
      rw [show (!(V.ref t :: xs).isEmpty) = true from rfl]
      obtain ⟨op, hop, adk, erk⟩ := fr
      have hk := (List.getElem?_eq_some_iff.mp hop).1
      have eix : atI (log.map V.int) (k : Int) = some (.int op) := by
        rw [at_I (by omega) (by omega), Int.toNat_natCast, gI_of hop]
      walk_at "g"
      refine w_ixL (SqL.of hf7) at_0 ?_
      walk_at "g"
      refine w_ixT (SqT.of h2) (i := 2) (v := .int (k : Int)) (by rw [← e2]; rfl) ?_
      walk_at "g"
      refine ⟨gv, n, log, rfl, hn, SqL.of hgv7, le, fun z => absurd (z k op hop).2 erk, fun i op' hop' ad' er t8 u8 H8 k8 ht8 hu8 => ?_⟩
      obtain rfl : i = k := fstR_uniq (c := 1) (s := wholeS n) ⟨op', hop', ad', er⟩ ⟨op, hop, adk, erk⟩
      rw [hop] at hop'
      injection hop' with hop'
      subst hop'
      walk_at "g"
      refine w_ixL (SqL.of (k8.at0 ha7)) eix ?_
      walk_at "g"
      refine ⟨sz_ok (by show 3 ≤ 1000000; omega), G.nw fun u9 H9 nu9 k9 hu9 => ?_⟩
      walk_at "g"
      refine ⟨sz_ok (by show 4 ≤ 1000000; omega), G.nw fun t9 HA nt9 kA ht9 => ?_⟩
      have k8A := k9.trans kA
      walk_at "g"
      refine ⟨_, _, rfl, SamV.refd (k8A.at0 ht8) ht9 (k8A.at0 hu8) (kA.at0 hu9), ?_⟩
      have k7A := k8.trans k8A
      walk_at "g"
      refine w_slL (SqL.of (k7A.at0 ha7)) fun qb HB nqb kB hqb => ?_
      rw [cut_takeI log i (by omega)] at hqb
      walk_at "g"
      refine ⟨qb, n, log.take i, rfl, hn, hqb, le.take i, fun w r l o HC nw nr nl no kC stC => ?_⟩
      walk_at "g"
      refine ⟨w, r, l, o, _, rfl, stC, fun HD kD => ?_⟩
      walk_at "g"
      refine ⟨sz_ok (by show 2 ≤ 1000000; omega), G.nw fun tE HE ntE kE htE => ?_⟩
      have k7E := k7A.trans (kB.trans (kC.trans (kD.trans kE)))
      walk_at "g"
      refine w_slL (SqL.of (k7E.at0 ha7)) fun qf HF nqf kF hqf => ?_
      rw [cut_takeI log i (by omega)] at hqf
      walk_at "g"
      refine ⟨qf, n, log.take i, rfl, hn, SqL.of hqf, le.take i, fun _ u HG kG hu => ?_, fun j op' hop' _ er' => absurd (adk j op' hop').2 er'⟩
      walk_at "g"
      refine ⟨_, _, rfl, SamV.done hu (kG.at0 (kF.at0 htE)), ?_⟩
      have k7G := k7E.trans (kF.trans kG)
      walk_at "g"
      refine w_eqL (SqL.of (k7G.at0 hgv7)) (SqL.of (k7G.at0 ha7)) ?_
      exact g HG (k07.trans k7G)
end
end G
set_option Elab.async false
set_option linter.all false
set_option maxRecDepth 100000
set_option maxHeartbeats 2000000
namespace G
--#FAM KV
open PySem PySem.Spec PyProof.Rows L2
local macro_rules
  | `(tactic| walk_at "1") => `(tactic| first
    | with_reducible refine w_seq ?_
    | with_reducible refine w_asg ?_
    | with_reducible refine w_asgS ?_
    | with_reducible refine w_asf ?_
    | with_reducible refine w_drop ?_
    | with_reducible refine w_ret ?_
    | with_reducible refine w_if ?_
    | with_reducible refine w_not ?_
    | with_reducible refine w_and ?_
    | with_reducible refine w_or ?_
    | with_reducible refine w_test ?_
    | with_reducible refine w_tb ?_
    | with_reducible refine w_chain ?_
    | with_reducible refine w_op ?_
    | with_reducible refine w_un ?_
    | with_reducible refine w_andV ?_
    | with_reducible refine w_orV ?_
    | with_reducible refine w_notV ?_
    | with_reducible refine w_ifE ?_
    | with_reducible refine w_cons ?_
    | with_reducible refine w_nil ?_
    | with_reducible refine w_cb ?_
    | with_reducible refine w_cl ?_
    | with_reducible refine w_mt ?_
    | with_reducible refine w_fld ?_
    | with_reducible refine w_tupN ?_
    | with_reducible refine w_lstN ?_
    | with_reducible refine w_bm ?_
    | with_reducible refine w_bm0 ?_
    | with_reducible refine w_for ?_
    | with_reducible refine w_lc ?_
    | with_reducible refine w_iR1 ?_
    | with_reducible refine w_iR2 ?_
    | with_reducible refine w_iL ?_
    | with_reducible refine w_iT ?_
    | with_reducible refine w_iE ?_
    | with_reducible refine w_iZ ?_
    | with_reducible refine w_var (by with_unfolding_all rfl) ?_
    | with_reducible refine w_c ?_
    | with_reducible refine w_next ?_
    | with_reducible refine w_i0 ?_
    | with_reducible refine w_u1 ?_
    | with_reducible refine w_addI ?_
    | with_reducible refine w_eqI ?_
    | with_reducible refine w_eqS ?_
    | with_reducible refine w_eqB ?_
    | with_reducible refine w_neI ?_
    | with_reducible refine w_neS ?_
    | with_reducible refine w_neB ?_
    | with_reducible refine w_abs ?_
    | with_reducible refine w_intI ?_
    | with_reducible refine w_min2 ?_
    | with_reducible refine w_max2 ?_
    | with_reducible refine w_isN0 ?_
    | with_reducible refine w_isN1 ref_ne ?_
    | with_reducible refine w_isN1 int_ne ?_
    | with_reducible refine w_notN0 ?_
    | with_reducible refine w_notN1 ref_ne ?_
    | with_reducible refine w_notN1 int_ne ?_
    | with_reducible refine w_ex1 ?_
    | with_reducible refine w_n1 ?_
    | with_reducible refine w_n2 ?_
    | with_reducible refine w_tT ?_
    | with_reducible refine w_tF ?_
    | with_reducible refine w_nT ?_
    | with_reducible refine w_nF ?_
    | with_reducible refine w_rz ?_
    | with_reducible refine w_mkN ?_
    | with_reducible refine w_lrgN ?_
    | with_reducible refine w_rg1 ?_
    | with_reducible refine w_rg2 ?_
    | with_reducible refine w_sl ?_
    | with_reducible refine w_np ?_
    | with_reducible refine w_pt ?_
    | with_reducible refine w_tr ?_
    | with_reducible refine w_gn ?_
    | with_reducible refine w_yes ?_
    | with_reducible refine w_m1 ?_
    | with_reducible refine w_asu ?_
    | with_reducible refine w_exS ?_
    | with_reducible refine w_iS ?_
    | with_reducible refine w_g1 ?_
    | with_reducible refine w_gc ?_
    | with_reducible refine w_gt (SqT.of upd_same) rfl ?_)
local macro_rules
  | `(tactic| walk_at "g") => `(tactic| repeat walk_at "1")
local macro_rules
  | `(tactic| walk_at "j1") => `(tactic| first
    | with_reducible refine w_seqI ?_
    | walk_at "1")
local macro_rules
  | `(tactic| walk_at "j") => `(tactic| repeat walk_at "j1")
section
variable {K : PySem.W.Frag} {mg : Str → Option Value}
theorem w_sort8 {H : Hp} {Q : VK} {f : Addr} {xs : List V} {n : Nat} {log : List Int} (hn : n ≤ 60) (le : Leg (wholeS n) log) (hl : log.length ≤ 500) (hf : SqL K H f xs) (cp : CPs H xs (fndL n log)) {g : Nat} {gs : List Nat} (nl : lostL (runS (wholeS n) log) = g :: gs)
    (h : ∀ y t r H', H y = none → Kp [] H H' → H' y = some (.lst (.ref t :: r)) → H' t = some (.tup (ctV (certAt n log g))) → Q (.ref y) H') : rSortU K 3 1000 [.ref f] H Q := by
  refine ⟨f, xs, rfl, hf, ?_, fun x hx => ?_, fun ys p pm pw np => ?_⟩
  · rw [cp.1]
    have := fndL_len hn le
    omega
  · obtain ⟨i, hi⟩ := List.mem_iff_getElem?.mp hx
    have li := (List.getElem?_eq_some_iff.mp hi).1
    obtain ⟨e, he⟩ : ∃ e, (fndL n log)[i]? = some e := ⟨_, List.getElem?_eq_getElem (by rw [← cp.1]; exact li)⟩
    obtain ⟨q, hx2, hq⟩ := cp.2 i e he
    rw [hi] at hx2
    injection hx2 with hx2
    subst hx2
    obtain ⟨g', h1, h2, h3⟩ := (fnd_in hn le).mp (List.mem_of_getElem? he)
    refine ⟨[e.1, e.2.1, e.2.2], ⟨q, rfl, SqT.of hq⟩, rfl, ?_⟩
    rw [h3]
    exact cert_all hn le (by omega) h1 h2
  · obtain ⟨t, r, rfl, ht⟩ := sorted_head hn le (by omega) cp (certs_one nl) pm pw
    exact h p t r _ np (Kp.new np) upd_same ((Kp.new np).at0 ht)
theorem eqv_ct (z u : Ct) : PyData.eqv (ctD z) (ctD u) = decide (z = u) := by
  have := eqvI [z.1, z.2.1, z.2.2] [u.1, u.2.1, u.2.2]
  have e : PyData.eqv (ctD z) (ctD u) = PyData.eqvAll ([z.1, z.2.1, z.2.2].map PyData.int) ([u.1, u.2.1, u.2.2].map PyData.int) := by
    unfold ctD
    rw [PyData.eqv] <;> rfl
  rw [e, this]
  refine decide_eq_decide.mpr ⟨fun h => ?_, fun h => by rw [h]⟩
  injection h with h1 h
  injection h with h2 h
  injection h with h3 h
  exact Prod.ext h1 (Prod.ext h2 h3)
theorem inD_ct (u : Ct) (es : List Ct) : inD (ctD u) es = decide (u ∈ es) := by
  unfold inD
  induction es with
  | nil => rfl
  | cons e es ih =>
    rw [List.map_cons, List.any_cons, ih, eqv_ct]
    by_cases c : e = u
    · rw [decide_eq_true c, decide_eq_true (show u ∈ e :: es by rw [c]; exact List.mem_cons_self)] <;> rfl
    · rw [decide_eq_false c, Bool.false_or]
      exact decide_eq_decide.mpr ⟨fun h => List.mem_cons_of_mem _ h, fun h => by
        rcases List.mem_cons.mp h with z | z
        · exact absurd z.symm c
        · exact z⟩
theorem cer_ct (u : Ct) (es : List Ct) : cerD (ctD u) es = decide (u ∈ es) := by
  rw [← inD_ct]
  show (true && inD (ctD u) es) = _
  rw [Bool.true_and]
theorem sh_ct (u : Ct) : SeqAt.shaped (ctD u) = true := by
  unfold SeqAt.shaped
  simp [ctD, PyData.canLay0, PyData.canLayAll0, PyData.depth, PyData.depthAll]
theorem sh_l3 (u : Ct) : SeqAt.shaped (.list [.int u.1, .int u.2.1, .int u.2.2]) = true := by
  unfold SeqAt.shaped
  simp [PyData.canLay0, PyData.canLayAll0, PyData.depth, PyData.depthAll]
theorem sh_t2 (u : Ct) : SeqAt.shaped (.tuple [.int u.1, .int u.2.1]) = true := by
  unfold SeqAt.shaped
  simp [PyData.canLay0, PyData.canLayAll0, PyData.depth, PyData.depthAll]
theorem sh_no : SeqAt.shaped .none = true := by
  unfold SeqAt.shaped
  simp [PyData.canLay0, PyData.depth]
theorem vl_ct {b t : Addr} {H : Hp} {u : Ct} (h : H t = some (.tup (ctV u))) (ne : t ≠ b) : Vl b H (.ref t) (ctD u) := .tup ne h (.cons (.int _) (.cons (.int _) (.cons (.int _) .nil)))
theorem w_isC {H : Hp} {Q : VK} {E : XK} {a b : Addr} {n : Nat} {log : List Int} {x : V} (d : PyData) (hn : n ≤ 60) (hs : SqL K H a (log.map V.int)) (hl : log.length ≤ 1000) (le : Leg (wholeS n) log) (hv : Vl b H x d) (hd : SeqAt.shaped d = true) (g : Any H (.bl (cerD d (certs n log))) Q) : sp_is_loss_certificate K [.int (n : Int), .ref a, x] H Q E :=
  ⟨a, b, n, log, x, d, rfl, hs, hl, hv, hd, Leg.rep8 hn le, fun _ _ => by rw [Int.toNat_natCast]; exact g⟩
/-- what the paper of a log is -/
def PapD (H : Hp) (t : Addr) (n : Nat) (log : List Int) : Prop := (certs n log = [] ∧ H t = some (.tup [.str "refused", .int (n : Int), .bl true, .bl false])) ∨ ∃ e es u, certs n log = e :: es ∧ H t = some (.tup [.str "paper", .ref u]) ∧ H u = some (.tup (ctV e))
theorem PapD.k0 {H H' : Hp} {t : Addr} {n : Nat} {log : List Int} (h : PapD H t n log) (k : Kp [] H H') : PapD H' t n log := by
  rcases h with ⟨a, b⟩ | ⟨e, es, u, a, b, c⟩
  · exact .inl ⟨a, k.at0 b⟩
  · exact .inr ⟨e, es, u, a, k.at0 b, k.at0 c⟩
theorem PapD.sam {H : Hp} {t t' : Addr} {n : Nat} {log : List Int} (h : PapD H t n log) (h' : PapD H t' n log) : SamV 4 H (.ref t) (.ref t') := by
  rcases h with ⟨a, b⟩ | ⟨e, es, u, a, b, c⟩ <;> rcases h' with ⟨a', b'⟩ | ⟨e', es', u', a', b', c'⟩
  · exact SamV.atoms b b' (by show 4 ≤ 1000; omega) fun x hx => by
      simp only [List.mem_cons, List.not_mem_nil, or_false] at hx
      rcases hx with rfl | rfl | rfl | rfl <;> trivial
  · rw [a] at a'; cases a'
  · rw [a] at a'; cases a'
  · rw [a] at a'
    injection a' with a1 a2
    subst a1
    exact SamV.cert b b' c c'
theorem w_pap {H : Hp} {Q : VK} {E : XK} {a : Addr} {n : Nat} {log : List Int} (hn : n ≤ 60) (hs : SqL K H a (log.map V.int)) (hl : log.length ≤ 500) (le : Leg (wholeS n) log) (g : ∀ t H', Kp [] H H' → PapD H' t n log → Q (.ref t) H') : sp48__law_paper K [.int (n : Int), .ref a] H Q E :=
  ⟨a, n, log, rfl, hn, hs, hl, le, fun e t H' k ht => g t H' k (.inl ⟨e, ht⟩), fun e es ec t u H' k ht hu => g t H' k (.inr ⟨e, es, u, ec, ht, hu⟩)⟩
theorem cutA (xs : List V) (k : Nat) : cutV xs none (some (k : Int)) = xs.take k := by
  by_cases c : k ≤ xs.length
  · exact cut_take xs k c
  · unfold cutV
    rw [HT.sIx_nat, HT.sIx_none, Nat.min_eq_right (by omega), List.drop_zero, Nat.sub_zero, List.take_length, List.take_of_length_le (by omega)]
/-- the references of the certificates that are kept -/
def filR (p : Ct → Bool) (xs : List V) (es : List Ct) : List V := ((xs.zip es).filter fun z => p z.2).map Prod.fst
theorem CPs.fil {H : Hp} (p : Ct → Bool) : ∀ {xs : List V} {es : List Ct}, CPs H xs es → CPs H (filR p xs es) (es.filter p)
  | [], [], _ => ⟨rfl, fun i e h => by simp at h⟩
  | [], e :: es, h => by cases h.1
  | x :: xs, [], h => by cases h.1
  | x :: xs, e :: es, h => by
    have t : CPs H xs es := ⟨Nat.succ.inj h.1, fun i e hi => h.2 (i + 1) e (by rw [List.getElem?_cons_succ]; exact hi)⟩
    have r := t.fil p
    obtain ⟨a, h1, h2⟩ := h.2 0 e rfl
    have ex : x = .ref a := by simpa using h1
    subst ex
    unfold filR at r ⊢
    rw [List.zip_cons_cons]
    by_cases c : p e = true
    · rw [List.filter_cons_of_pos (p := fun z : V × Ct => p z.2) (show p e = true from c), List.filter_cons_of_pos c, List.map_cons]
      refine ⟨by rw [List.length_cons, List.length_cons, r.1], fun i e' hi => ?_⟩
      cases i with
      | zero =>
        rw [List.getElem?_cons_zero] at hi
        injection hi with hi
        subst hi
        exact ⟨a, rfl, h2⟩
      | succ i =>
        rw [List.getElem?_cons_succ] at hi
        exact r.2 i e' hi
    · rw [List.filter_cons_of_neg (p := fun z : V × Ct => p z.2) (show ¬ p e = true from c), List.filter_cons_of_neg c]
      exact r
theorem CPs.at {H : Hp} {xs : List V} {es : List Ct} (h : CPs H xs es) {i : Nat} {x : V} (hx : xs[i]? = some x) : ∃ e a, es[i]? = some e ∧ x = .ref a ∧ H a = some (.tup [.int e.1, .int e.2.1, .int e.2.2]) := by
  have li := (List.getElem?_eq_some_iff.mp hx).1
  obtain ⟨e, he⟩ : ∃ e, es[i]? = some e := ⟨_, List.getElem?_eq_getElem (by rw [← h.1]; exact li)⟩
  obtain ⟨a, h1, h2⟩ := h.2 i e he
  rw [hx] at h1
  injection h1 with h1
  exact ⟨e, a, he, h1, h2⟩
theorem w_slA2 {H : Hp} {Q : VK} {t : Addr} {x y z : V} (h : SqT K H t [x, y, z]) (g : ∀ q H', H q = none → Kp [] H H' → H' q = some (.tup [x, y]) → Q (.ref q) H') : rSlA K (.ref t) none (some 2) H Q :=
  ⟨t, _, rfl, h, fun z => absurd z.2 (show ¬ HT.sIx 3 3 (some 2) = 3 by decide +kernel), fun _ => nw g⟩
theorem Bx8.tup {N : Nat} {H : Hp} {b c t : Addr} {ys : List V} (bx : Bx8 N H b c) (ht : H t = some (.tup ys)) : t ≠ b := fun z => by
  subst z
  obtain ⟨_, _, _, _, h1, _⟩ := bx.ob
  rw [h1] at ht
  cases ht
theorem len__law_bent (K : PySem.W.Frag) : ∀ vs H Q E, sp__law_bent K vs H Q E → vs.length = (["box", "many", "found"] : List Str).length := by
  rintro vs H Q E ⟨_, _, _, _, _, _, _, rfl, _⟩
  rfl
theorem rd__law_bent (T : Txt K mg) (vs : List V) (H : Hp) (Q : VK) (E : XK) (h : sp__law_bent K vs H Q E) : t__law_bent K E { nx := fun _ H' => Q .non H', rt := Q } (start ["box", "many", "found", "paper", "at"] vs) H := by
  obtain ⟨N, b, c, f, n, xs, es, rfl, hN, hn, bx, fb, hf, cp, les, g⟩ := h
  unfold t__law_bent
  walk_at "g"
  refine ⟨N, b, c, (n : Int) + 1, rfl, by omega, by omega, by omega, bx, fun d1 c1 H1 _ _ nx1 k1 b1 => ?_⟩
  walk_at "g"
  refine ⟨N + 1, b, c1, 9, rfl, by omega, by omega, by omega, b1, fun d2 c2 H2 _ _ nx2 k2 b2 => ?_⟩
  walk_at "g"
  refine ⟨N + 2, b, c2, 9, rfl, by omega, by omega, by omega, b2, fun d3 c3 H3 _ _ nx3 k3 b3 => ?_⟩
  have nx02 := nx1.trans nx2 k1 b1
  have k02 := k1.trans k2
  have nx03 := nx02.trans nx3 k02 b2
  have k03 := k02.trans k3
  walk_at "g"
  refine ⟨sz_ok (by show 3 ≤ 1000000; omega), G.nw fun p H4 np k4 hp => ?_⟩
  have k04 := k03.trans k4.all
  obtain ⟨pb, pc⟩ := b3.fr np
  have fp : H p = none := k03.free (by simpa using pb) np
  have b4 := b3.k0 k4
  have hf4 := k04.at1 fb hf
  walk_at "j"
  refine w_ifJ (fun σ' H' => ∃ (q c' : Addr) (x y z : Int), σ' = [some (.ref b), some (.int (n : Int)), some (.ref f), some (.ref q), none] ∧ Kp [b] H H' ∧ Nx8 H c c' ∧ Bx8 (N + 4) H' b c' ∧ H' q = some (.lst [.int x, .int y, .int z]) ∧ q ≠ b ∧ q ≠ c' ∧ H q = none)
    (fun N0 hN0 => ?_) (fun σ' H5 ⟨q, c5, x, y, z, es', k5, nx5, b5, hq, qb, qc, fq⟩ => ?_)
  · walk_at "g"
    refine w_truL (SqL.of hf4) ?_
    by_cases ex : xs = []
    · subst ex
      rw [if_neg (show ¬ (!([] : List V).isEmpty) = true from Bool.false_ne_true)]
      walk_at "g"
      exact hN0 _ _ ⟨p, c3, _, _, _, rfl, k04, nx03, b4.mono (by omega), hp, pb, pc, fp⟩
    · have lx : 0 < xs.length := List.length_pos_iff.mpr ex
      have lx2 := cp.1
      rw [if_pos (show (!xs.isEmpty) = true by cases xs with
        | nil => exact absurd rfl ex
        | cons _ _ => rfl)]
      walk_at "g"
      refine w_lenL (SqL.of hf4) ?_
      walk_at "g"
      refine ⟨N + 3, b, c3, (xs.length : Int), rfl, by omega, by omega, by omega, b4, fun d4 c5 H5 d40 d41 nx5 k5 b5 => ?_⟩
      have k05 := k04.trans k5
      have nx05 := nx03.trans (Nx8.trans (b := b) (.inl rfl) nx5 k4.all b4) k03 b3
      obtain ⟨i, rfl⟩ : ∃ i : Nat, d4 = (i : Int) := ⟨d4.toNat, by omega⟩
      obtain ⟨v, hv⟩ : ∃ v, xs[i]? = some v := ⟨_, List.getElem?_eq_getElem (by omega)⟩
      obtain ⟨e, t, he, rfl, ht⟩ := cp.at hv
      have hf5 := k5.at1 fb hf4
      have tb : t ≠ b := fun z => by
        subst z
        obtain ⟨_, _, _, _, h1, _⟩ := bx.ob
        rw [h1] at ht
        cases ht
      have ht5 := k05.at1 tb ht
      walk_at "g"
      refine w_ixL (SqL.of hf5) (show atI xs (i : Int) = some (.ref t) by rw [atI_pos (by omega) (by omega), Int.toNat_natCast]; exact hv) ?_
      walk_at "g"
      refine w_listTN (SqT.of ht5) fun q H6 nq k6 hq => ?_
      walk_at "g"
      exact hN0 _ _ ⟨q, c5, _, _, _, rfl, k05.trans k6.all, nx05, b5.k0 k6, hq, (b5.fr nq).1, (b5.fr nq).2, k05.free (by simpa using (b5.fr nq).1) nq⟩
  subst es'
  walk_at "g"
  refine ⟨N + 4, b, c5, 3, rfl, by omega, by omega, by omega, b5, fun d5 c6 H6 d50 d51 nx6 k6 b6 => ?_⟩
  have k06 := k5.trans k6
  have nx06 := nx5.trans nx6 k5 b5
  have hq6 := k6.at1 qb hq
  have qc6 := nx_off nx6 hq qc
  obtain ⟨w, ew⟩ : ∃ w : Int, atI [V.int x, .int y, .int z] d5 = some (.int w) := by
    have : d5 = 0 ∨ d5 = 1 ∨ d5 = 2 := by omega
    rcases this with rfl | rfl | rfl <;> exact ⟨_, rfl⟩
  walk_at "g"
  refine w_ixL (SqL.of hq6) ew ?_
  walk_at "g"
  refine ⟨sz_ok (by show 4 ≤ 1000000; omega), G.nw fun l4 H7 nl4 k7 hl4 => ?_⟩
  have b7 := b6.k0 k7
  obtain ⟨l4b, _⟩ := b6.fr nl4
  walk_at "g"
  refine ⟨N + 5, b, c6, 4, rfl, by omega, by omega, by omega, b7, fun d8 c8 H8 d80 d81 nx8 k8 b8 => ?_⟩
  have hl8 := k8.at1 l4b hl4
  have hq7 := k7.at0 hq6
  have hq8 := k8.at1 qb hq7
  have qc8 := nx_off nx8 hq7 qc6
  have k08 := (k06.trans k7.all).trans k8
  have nx08 := nx06.trans (Nx8.trans (b := b) (.inl rfl) nx8 k7.all b7) k06 b6
  obtain ⟨dw, edw⟩ : ∃ dw : Int, atI [V.int (-1), .int 1, .int 2, .int (-(n : Int))] d8 = some (.int dw) := by
    have : d8 = 0 ∨ d8 = 1 ∨ d8 = 2 ∨ d8 = 3 := by omega
    rcases this with rfl | rfl | rfl | rfl <;> exact ⟨_, rfl⟩
  walk_at "g"
  refine w_ixL (SqL.of hl8) edw ?_
  walk_at "g"
  have fin : ∀ (u : Ct) (m : Nat), ixN 3 d5 = some m → [V.int x, .int y, .int z].set m (.int (w + dw)) = ctV u → rSetL (.ref q) (.int d5) (.int (w + dw)) H8 fun H2 => (tRet (tCB (rTupA K) (tCons (tVar 3) tNil)) : TS) { nx := fun _ H' => Q .non H', rt := Q } [some (.ref b), some (.int (n : Int)), some (.ref f), some (.ref q), some (.int d5)] H2 := fun u m hm hu => by
    refine w_seT hq8 (n := m) hm fun H9 k9 hq9 => ?_
    rw [hu] at hq9
    walk_at "g"
    refine w_tuA (SqL.of hq9) fun t HA nt kA ht => ?_
    have b9 := b8.kp k9 (by simpa using Ne.symm qb) (by simpa using Ne.symm qc8)
    have k0A : Kp [b] H HA := (((k08.mono (S' := [b, q]) (by simp)).trans (k9.mono (by simp))).cut (by simp [fq])).trans kA.all
    exact g u t c8 HA nx08 k0A ((b9.k0 kA).mono (by omega)) ht
  have h3 : d5 = 0 ∨ d5 = 1 ∨ d5 = 2 := by omega
  rcases h3 with rfl | rfl | rfl
  · exact fin (w + dw, y, z) 0 rfl rfl
  · exact fin (x, w + dw, z) 1 rfl rfl
  · exact fin (x, y, w + dw) 2 rfl rfl
theorem len__law_papers (K : PySem.W.Frag) : ∀ vs H Q E, sp__law_papers K vs H Q E → vs.length = (["box", "many", "row", "found"] : List Str).length := by
  rintro vs H Q E ⟨_, _, _, _, _, _, _, _, rfl, _⟩
  rfl
theorem rd__law_papers (T : Txt K mg) (vs : List V) (H : Hp) (Q : VK) (E : XK) (h : sp__law_papers K vs H Q E) : t__law_papers K E { nx := fun _ H' => Q .non H', rt := Q } (start ["box", "many", "row", "found", "given", "due", "one", "part", "least", "wrong", "k", "paper", "other"] vs) H := by
  obtain ⟨N, b, c, a, f, n, log, xs, rfl, hN, hn, bx, ab, fb, ha, hl, le, hf, cp, g⟩ := h
  unfold t__law_papers
  walk_at "g"
  refine w_listLN (SqL.of ha) fun gv H1 ngv k1 hgv => ?_
  walk_at "g"
  refine ⟨sz_ok (by show 4 ≤ 1000000; omega), G.nw fun d0 H2 nd0 k2 hd0 => ?_⟩
  have k02 := k1.trans k2
  have hf2 := k02.at0 hf
  have cp2 := cp.k0 k02
  have hgv2 := k2.at0 hgv
  walk_at "j"
  refine w_ifJ (fun σ' H' => ∃ dv : Addr, σ' = [some (.ref b), some (.int (n : Int)), some (.ref a), some (.ref f), some (.ref gv), some (.ref dv), none, none, none, none, none, none, none] ∧ Kp [] H2 H' ∧ PapD H' dv n log)
    (fun N0 hN0 => ?_) (fun σ' H3 ⟨dv, es, k3, pd3⟩ => ?_)
  · walk_at "g"
    refine w_truL (SqL.of hf2) ?_
    cases el : lostL (runS (wholeS n) log) with
    | nil =>
      have ex : xs = [] := List.length_eq_zero_iff.mp (by rw [cp.1, (fnd_nil hn le).mpr el] <;> rfl)
      subst ex
      rw [if_neg (show ¬ (!([] : List V).isEmpty) = true from Bool.false_ne_true)]
      walk_at "g"
      exact hN0 _ _ ⟨d0, rfl, Kp.refl _ _, .inl ⟨certs_nil el, hd0⟩⟩
    | cons g0 gs =>
      have ex : xs ≠ [] := fun z => by
        have := cp.1
        rw [z] at this
        have := (fnd_nil hn le).mp (List.length_eq_zero_iff.mp this.symm)
        rw [el] at this
        cases this
      rw [if_pos (show (!xs.isEmpty) = true by cases xs with
        | nil => exact absurd rfl ex
        | cons _ _ => rfl)]
      walk_at "g"
      refine w_sort8 hn le (by omega) (SqL.of hf2) cp2 el fun y t r H3 ny k3 hy ht => ?_
      walk_at "g"
      refine w_ixL (SqL.of hy) at_0 ?_
      walk_at "g"
      refine ⟨sz_ok (by show 2 ≤ 1000000; omega), G.nw fun dv H4 ndv k4 hdv => ?_⟩
      walk_at "g"
      exact hN0 _ _ ⟨dv, rfl, k3.trans k4, .inr ⟨_, _, t, certs_one el, hdv, k4.at0 ht⟩⟩
  subst es
  have hgv3 := k3.at0 hgv2
  have k03 := k02.trans k3
  walk_at "g"
  refine w_pap hn (SqL.of hgv3) (by omega) le fun t4 H4 k4 pd4 => ?_
  walk_at "g"
  refine ⟨_, _, rfl, pd4.sam (pd3.k0 k4), ?_⟩
  have k04 := k03.trans k4
  have ha4 := k04.at0 ha
  have hf4 := k04.at0 hf
  have hgv4 := k4.at0 hgv3
  have cp4 := cp.k0 k04
  have bx4 := bx.k0 k04
  have tb : ∀ {t : Addr} {ys : List V} {H' : Hp}, Kp [] H4 H' → H' t = some (.tup ys) → t ≠ b := fun k ht z => by
    subst z
    obtain ⟨_, _, _, _, h1, _⟩ := (bx4.k0 k).ob
    rw [h1] at ht
    cases ht
  walk_at "g"
  refine w_slL (SqL.of hf4) fun fs H5 nfs k5 hfs => ?_
  rw [show (some (5 : Int)) = some ((5 : Nat) : Int) from rfl, cutA] at hfs
  walk_at "g"
  refine w_l1 (SqL.of hfs) ?_
  refine lp_lst (xs := xs.take 5) (fun i σ H' => (∃ x6 x7 x8 x9, σ = [some (.ref b), some (.int (n : Int)), some (.ref a), some (.ref f), some (.ref gv), some (.ref dv), x6, x7, x8, x9, none, none, none]) ∧ Kp [] H5 H') ⟨⟨_, _, _, _, rfl⟩, Kp.refl _ _⟩ ?_ ?_ ?_
  · rintro i σ' H' hi ⟨_, k⟩
    exact SqL.of (k.at0 hfs)
  · rintro i x σ' H6 hx ⟨⟨x6, x7, x8, x9, rfl⟩, k6⟩
    have k46 := k5.trans k6
    have hi5 : i < 5 := by
      have := (List.getElem?_eq_some_iff.mp hx).1
      rw [List.length_take] at this
      omega
    rw [List.getElem?_take_of_lt hi5] at hx
    obtain ⟨e, t, he, rfl, ht4⟩ := cp4.at hx
    have me := List.mem_of_getElem? he
    obtain ⟨k, hk, ek, mp, mn⟩ := fnd_part me
    have ht6 := k46.at0 ht4
    have ha6 := k46.at0 ha4
    have hgv6 := k46.at0 hgv4
    have tb6 := tb k46 ht6
    have lep := le.take (k + 1)
    have lp1 : (log.take (k + 1)).length ≤ 500 := by rw [List.length_take]; omega
    have ht6' : H6 t = some (.tup (ctV e)) := ht6
    walk_at "g"
    refine w_ixT (SqT.of ht6) (i := 2) (v := .int (k : Int)) (by rw [← ek]; rfl) ?_
    walk_at "g"
    refine w_slL (SqL.of ha6) fun pt H7 npt k7 hpt => ?_
    rw [show (k : Int) + 1 = ((k + 1 : Nat) : Int) by omega, cut_takeI log (k + 1) (by omega)] at hpt
    have k47 := k46.trans k7
    walk_at "g"
    refine w_isC (b := b) (ctD e) hn (SqL.of (k7.at0 hgv6)) (by omega) le (vl_ct (k7.at0 ht6') tb6) (sh_ct e) fun H8 k8 => ?_
    rw [cer_ct, decide_eq_true ((fnd_mem_certs hn le e).mpr me)]
    walk_at "g"
    refine ⟨_, _, rfl, .at trivial, ?_⟩
    have k78 := k7.trans k8
    have hpt8 := k8.at0 hpt
    walk_at "g"
    refine w_isC (b := b) (ctD e) hn (SqL.of hpt8) (by omega) lep (vl_ct (k78.at0 ht6') tb6) (sh_ct e) fun H9 k9 => ?_
    rw [cer_ct, decide_eq_true ((fnd_mem_certs hn lep e).mpr mp)]
    walk_at "g"
    refine ⟨_, _, rfl, .at trivial, ?_⟩
    have k79 := k78.trans k9
    walk_at "g"
    refine w_ixT (SqT.of (k79.at0 ht6)) (i := 2) (v := .int (k : Int)) (by rw [← ek]; rfl) ?_
    walk_at "g"
    refine w_slL (SqL.of (k79.at0 ha6)) fun pA HA npA kA hpA => ?_
    rw [cut_takeI log k (by omega)] at hpA
    have k7A := k79.trans kA
    walk_at "g"
    refine w_isC (b := b) (ctD e) hn (SqL.of hpA) (by rw [List.length_take]; omega) (le.take k) (vl_ct (k7A.at0 ht6') tb6) (sh_ct e) fun HB kB => ?_
    rw [cer_ct, decide_eq_false (fun z => mn ((fnd_mem_certs hn (le.take k) e).mp z))]
    walk_at "g"
    refine ⟨_, _, rfl, .at trivial, ?_⟩
    have k7B := k7A.trans kB
    have k4B := k46.trans k7B
    have hfB := k4B.at0 hf4
    have cpB := cp4.k0 k4B
    have htB := k7B.at0 ht6
    walk_at "g"
    refine w_l1 (SqL.of hfB) ?_
    refine cp_lst (SqL.of hfB) (fun i => ((((xs.zip (fndL n log)).take i).filter fun z => decide (z.2.2.2 ≤ (k : Int))).map Prod.fst)) (fun i hi => ?_) rfl (fun i x' H' S N' hx' kk y no => ?_) (fun D HC nD kC hD => ?_)
    · refine sz_lt ?_
      rw [List.length_map]
      have := List.length_filter_le (fun z : V × Ct => decide (z.2.2.2 ≤ (k : Int))) ((xs.zip (fndL n log)).take i)
      rw [List.length_take] at this
      have := cp.1
      have := fndL_len hn le
      omega
    · obtain ⟨e', t', he', rfl, ht'⟩ := (cpB.k0 kk).at hx'
      have hz : (xs.zip (fndL n log))[i]? = some (.ref t', e') := by
        rw [List.getElem?_zip_eq_some]
        exact ⟨hx', he'⟩
      walk_at "g"
      refine ⟨rfl, ?_⟩
      walk_at "g"
      refine w_ixT (SqT.of ht') (i := 2) (v := .int e'.2.2) rfl ?_
      walk_at "g"
      refine w_ixT (SqT.of (kk.at0 htB)) (i := 2) (v := .int (k : Int)) (by rw [← ek]; rfl) ?_
      walk_at "g"
      refine w_iteD (fun cc => ?_) (fun cc => ?_)
      · walk_at "g"
        refine y _ _ (Kp.refl _ _) ?_
        rw [take_snoc hz, List.filter_append, List.map_append, List.filter_cons_of_pos (p := fun z : V × Ct => decide (z.2.2.2 ≤ (k : Int))) (decide_eq_true cc)] <;> rfl
      · refine no _ (Kp.refl _ _) ?_
        rw [take_snoc hz, List.filter_append, List.map_append, List.filter_cons_of_neg (p := fun z : V × Ct => decide (z.2.2.2 ≤ (k : Int))) (by rw [decide_eq_false (show ¬ ((V.ref t', e') : V × Ct).2.2.2 ≤ (k : Int) from cc)]; exact Bool.false_ne_true)]
        exact List.append_nil _
    have cpC := (cpB.k0 kC).fil (fun u => decide (u.2.2 ≤ (k : Int)))
    rw [fndL_fil n log hk] at cpC
    rw [List.take_of_length_le (by rw [List.length_zip]; omega)] at hD
    have hD : HC D = some (.lst (filR (fun u => decide (u.2.2 ≤ (k : Int))) xs (fndL n log))) := hD
    have nlp : lostL (runS (wholeS n) (log.take (k + 1))) ≠ [] := fun z => by
      rw [(fnd_nil hn lep).mpr z] at mp
      cases mp
    obtain ⟨g0, gs, eg⟩ : ∃ g0 gs, lostL (runS (wholeS n) (log.take (k + 1))) = g0 :: gs := List.exists_cons_of_ne_nil nlp
    walk_at "g"
    refine w_sort8 hn lep (by omega) (SqL.of hD) cpC eg fun y tl r HD2 ny kD hy htl => ?_
    walk_at "g"
    refine w_ixL (SqL.of hy) at_0 ?_
    have k7D := k7B.trans (kC.trans kD)
    have k8D := (k9.trans kA).trans (kB.trans (kC.trans kD))
    walk_at "g"
    refine w_pap hn (SqL.of (k8D.at0 hpt8)) (by omega) lep fun tE HE kE pdE => ?_
    walk_at "g"
    refine ⟨sz_ok (by show 2 ≤ 1000000; omega), G.nw fun tF HF ntF kF htF => ?_⟩
    walk_at "g"
    refine ⟨_, _, rfl, (pdE.k0 kF).sam (.inr ⟨_, _, tl, certs_one eg, htF, kF.at0 (kE.at0 htl)⟩), ?_⟩
    have k7F := k7D.trans (kE.trans kF)
    have htF6 := k7F.at0 ht6
    have tbF := tb6
    walk_at "g"
    refine w_listTN (SqT.of htF6) fun w1 HG nw1 kG hw1 => ?_
    walk_at "g"
    refine w_slA2 (SqT.of (kG.at0 htF6)) fun w2 HH nw2 kH hw2 => ?_
    have k6H := kG.trans kH
    walk_at "g"
    refine w_ixT (SqT.of (k6H.at0 htF6)) (i := 0) (v := .int e.1) rfl ?_
    walk_at "g"
    refine w_ixT (SqT.of (k6H.at0 htF6)) (i := 2) (v := .int e.2.2) rfl ?_
    walk_at "g"
    refine w_ixT (SqT.of (k6H.at0 htF6)) (i := 1) (v := .int e.2.1) rfl ?_
    walk_at "g"
    refine ⟨sz_ok (by show 3 ≤ 1000000; omega), G.nw fun w3 HI nw3 kI hw3 => ?_⟩
    walk_at "g"
    refine ⟨sz_ok (by show 4 ≤ 1000000; omega), G.nw fun wl HJ nwl kJ hwl => ?_⟩
    have hw1J := kJ.at0 (kI.at0 (kH.at0 hw1))
    have hw2J := kJ.at0 (kI.at0 hw2)
    have hw3J := kJ.at0 hw3
    have k6J := k7F.trans (k6H.trans (kI.trans kJ))
    have hgvJ := k6J.at0 hgv6
    have bxJ := bx4.k0 (k46.trans k6J)
    have nb : ∀ {q : Addr} {ys : List V}, HJ q = some (.lst ys) → ¬ HJ q = HJ b → q ≠ b := fun _ z y => z (by rw [y])
    have w1b : w1 ≠ b := (((bx4.k0 (k46.trans k7F)).fr nw1).1)
    have w2b := tb (k46.trans k6J) hw2J
    have w3b := tb (k46.trans k6J) hw3J
    have c1 : cerD (.list [.int e.1, .int e.2.1, .int e.2.2]) (certs n log) = false := rfl
    have c2 : cerD (.tuple [.int e.1, .int e.2.1]) (certs n log) = false := rfl
    have c3 : cerD (ctD (e.1, e.2.2, e.2.1)) (certs n log) = false := by
      rw [cer_ct, decide_eq_false (cert_swap hn le ((fnd_mem_certs hn le e).mpr me))]
    have c4 : cerD .none (certs n log) = false := rfl
    walk_at "g"
    refine w_l1 (SqL.of hwl) ?_
    refine lp_lst (xs := [.ref w1, .ref w2, .ref w3, .non]) (fun i σ H' => (∃ x9, σ = [some (.ref b), some (.int (n : Int)), some (.ref a), some (.ref f), some (.ref gv), some (.ref dv), some (.ref t), some (.ref pt), some (.ref tl), x9, none, none, none]) ∧ Kp [] HJ H') ⟨⟨_, rfl⟩, Kp.refl _ _⟩ ?_ ?_ ?_
    · rintro i σ' H' hi ⟨_, k⟩
      exact SqL.of (k.at0 hwl)
    · rintro i x σ' HK hx ⟨⟨x9, rfl⟩, kK⟩
      have one : ∀ (d : PyData), Vl b HJ x d → SeqAt.shaped d = true → cerD d (certs n log) = false → ∃ d, Vl b HK x d ∧ SeqAt.shaped d = true ∧ cerD d (certs n log) = false := fun d h1 h2 h3 => ⟨d, h1.k0 kK, h2, h3⟩
      have ex : ∃ d, Vl b HK x d ∧ SeqAt.shaped d = true ∧ cerD d (certs n log) = false := by
        match i, hx with
        | 0, hx => injection hx with hx; subst hx; exact one _ (.lst w1b hw1J (.cons (.int _) (.cons (.int _) (.cons (.int _) .nil)))) (sh_l3 e) c1
        | 1, hx => injection hx with hx; subst hx; exact one _ (.tup w2b hw2J (.cons (.int _) (.cons (.int _) .nil))) (sh_t2 e) c2
        | 2, hx => injection hx with hx; subst hx; exact one _ (vl_ct (u := (e.1, e.2.2, e.2.1)) hw3J w3b) (sh_ct _) c3
        | 3, hx => injection hx with hx; subst hx; exact one _ .non sh_no c4
        | i + 4, hx => cases hx
      obtain ⟨d, v1, v2, v3⟩ := ex
      walk_at "g"
      refine w_isC (b := b) d hn (SqL.of (kK.at0 hgvJ)) (by omega) le v1 v2 fun HL kL => ?_
      rw [v3]
      walk_at "g"
      refine ⟨_, _, rfl, .at trivial, ?_⟩
      walk_at "g"
      exact ⟨⟨_, rfl⟩, kK.trans kL⟩
    · rintro σ' HK ⟨⟨x9, rfl⟩, kK⟩
      walk_at "g"
      exact ⟨⟨_, _, _, _, rfl⟩, k6.trans (k6J.trans kK)⟩
  · rintro σ' H6 ⟨⟨x6, x7, x8, x9, rfl⟩, k6⟩
    have k46 := k5.trans k6
    have bx6 := bx4.k0 k46
    have k06 : Kp [b] H H6 := (k04.trans k46).all
    have gvb : gv ≠ b := (bx.fr ngv).1
    have fl := fndL_len hn le
    walk_at "g"
    refine w_r1 (by omega) ?_
    refine lp_rng0 (fun k σ H' => (∃ x10 x11, σ = [some (.ref b), some (.int (n : Int)), some (.ref a), some (.ref f), some (.ref gv), some (.ref dv), x6, x7, x8, x9, x10, x11, none]) ∧ ∃ c', Kp [b] H6 H' ∧ Nx8 H6 c c' ∧ Bx8 (N + 10 * k) H' b c') ⟨⟨_, _, rfl⟩, c, Kp.refl _ _, .inl rfl, bx6⟩ ?_ ?_
    · rintro k σ' H7 hk ⟨⟨x10, x11, rfl⟩, c7, k7, nx7, b7⟩
      have hk3 : k < 3 := hk
      have hf7 := k7.at1 fb (k46.at0 hf4)
      have hgv7 := k7.at1 gvb (k46.at0 hgv4)
      have cp7 : CPs H7 xs (fndL n log) := (cp4.k0 k46).kp k7 fun b' hb ys z => by
        rw [List.mem_singleton.mp hb] at z
        exact bx6.tup z rfl
      walk_at "g"
      refine ⟨N + 10 * k, b, c7, f, n, xs, fndL n log, rfl, by omega, hn, b7, fb, hf7, cp7, by omega, fun u t c8 H8 nx8 k8 b8 ht => ?_⟩
      have cp8 : CPs H8 xs (fndL n log) := cp7.kp k8 fun b' hb ys z => by
        rw [List.mem_singleton.mp hb] at z
        exact b7.tup z rfl
      have vu := vl_ct ht (b8.tup ht)
      walk_at "g"
      refine w_isC (b := b) (ctD u) hn (SqL.of (k8.at1 gvb hgv7)) (by omega) le vu (sh_ct u) fun H9 k9 => ?_
      rw [cer_ct]
      walk_at "g"
      refine ⟨_, _, Vl.dp _ _ (vu.k0 k9), .lst (SqL.of (k9.at0 (k8.at1 fb hf7))) (cp8.k0 k9).dp, sh_ct u, shCt _, ?_⟩
      have ei : ((fndL n log).map ctD).any (fun z => PyData.eqv z (ctD u)) = decide (u ∈ certs n log) := by
        have := inD_ct u (fndL n log)
        unfold inD at this
        rw [this]
        exact decide_eq_decide.mpr (fnd_mem_certs hn le u).symm
      rw [ei]
      walk_at "g"
      refine ⟨_, _, rfl, .at trivial, ?_⟩
      walk_at "g"
      exact ⟨⟨_, _, rfl⟩, c8, (k7.trans k8).trans k9.all, nx7.trans nx8 k7 b7, (b8.k0 k9).mono (by omega)⟩
    · rintro σ' H7 ⟨⟨x10, x11, rfl⟩, c7, k7, nx7, b7⟩
      walk_at "g"
      refine w_eqL (SqL.of (k7.at1 gvb (k46.at0 hgv4))) (SqL.of (k7.at1 ab (k46.at0 ha4))) ?_
      exact g c7 H7 (Nx8.trans (b := b) (.inl rfl) nx7 k06 bx6) (k06.trans k7) (b7.mono (by show N + 10 * 3 ≤ _; omega))
end
end G
set_option Elab.async false
set_option linter.all false
set_option maxRecDepth 100000
set_option maxHeartbeats 2000000
namespace G
--#FAM KV
open PySem PySem.Spec PyProof.Rows L2
local macro_rules
  | `(tactic| walk_at "1") => `(tactic| first
    | with_reducible refine w_seq ?_
    | with_reducible refine w_asg ?_
    | with_reducible refine w_asgS ?_
    | with_reducible refine w_asf ?_
    | with_reducible refine w_drop ?_
    | with_reducible refine w_ret ?_
    | with_reducible refine w_if ?_
    | with_reducible refine w_not ?_
    | with_reducible refine w_and ?_
    | with_reducible refine w_or ?_
    | with_reducible refine w_test ?_
    | with_reducible refine w_tb ?_
    | with_reducible refine w_chain ?_
    | with_reducible refine w_op ?_
    | with_reducible refine w_un ?_
    | with_reducible refine w_andV ?_
    | with_reducible refine w_orV ?_
    | with_reducible refine w_notV ?_
    | with_reducible refine w_ifE ?_
    | with_reducible refine w_cons ?_
    | with_reducible refine w_nil ?_
    | with_reducible refine w_cb ?_
    | with_reducible refine w_cl ?_
    | with_reducible refine w_mt ?_
    | with_reducible refine w_fld ?_
    | with_reducible refine w_tupN ?_
    | with_reducible refine w_lstN ?_
    | with_reducible refine w_bm ?_
    | with_reducible refine w_bm0 ?_
    | with_reducible refine w_for ?_
    | with_reducible refine w_lc ?_
    | with_reducible refine w_iR1 ?_
    | with_reducible refine w_iR2 ?_
    | with_reducible refine w_iL ?_
    | with_reducible refine w_iT ?_
    | with_reducible refine w_iE ?_
    | with_reducible refine w_iZ ?_
    | with_reducible refine w_var (by with_unfolding_all rfl) ?_
    | with_reducible refine w_c ?_
    | with_reducible refine w_next ?_
    | with_reducible refine w_i0 ?_
    | with_reducible refine w_u1 ?_
    | with_reducible refine w_addI ?_
    | with_reducible refine w_eqI ?_
    | with_reducible refine w_eqS ?_
    | with_reducible refine w_eqB ?_
    | with_reducible refine w_neI ?_
    | with_reducible refine w_neS ?_
    | with_reducible refine w_neB ?_
    | with_reducible refine w_abs ?_
    | with_reducible refine w_intI ?_
    | with_reducible refine w_min2 ?_
    | with_reducible refine w_max2 ?_
    | with_reducible refine w_isN0 ?_
    | with_reducible refine w_isN1 ref_ne ?_
    | with_reducible refine w_isN1 int_ne ?_
    | with_reducible refine w_notN0 ?_
    | with_reducible refine w_notN1 ref_ne ?_
    | with_reducible refine w_notN1 int_ne ?_
    | with_reducible refine w_ex1 ?_
    | with_reducible refine w_n1 ?_
    | with_reducible refine w_n2 ?_
    | with_reducible refine w_tT ?_
    | with_reducible refine w_tF ?_
    | with_reducible refine w_nT ?_
    | with_reducible refine w_nF ?_
    | with_reducible refine w_rz ?_
    | with_reducible refine w_mkN ?_
    | with_reducible refine w_lrgN ?_
    | with_reducible refine w_rg1 ?_
    | with_reducible refine w_rg2 ?_
    | with_reducible refine w_sl ?_
    | with_reducible refine w_np ?_
    | with_reducible refine w_pt ?_
    | with_reducible refine w_tr ?_
    | with_reducible refine w_gn ?_
    | with_reducible refine w_yes ?_
    | with_reducible refine w_m1 ?_
    | with_reducible refine w_asu ?_
    | with_reducible refine w_exS ?_
    | with_reducible refine w_iS ?_
    | with_reducible refine w_g1 ?_
    | with_reducible refine w_gc ?_
    | with_reducible refine w_gt (SqT.of upd_same) rfl ?_)
local macro_rules
  | `(tactic| walk_at "g") => `(tactic| repeat walk_at "1")
local macro_rules
  | `(tactic| walk_at "j1") => `(tactic| first
    | with_reducible refine w_seqI ?_
    | walk_at "1")
local macro_rules
  | `(tactic| walk_at "j") => `(tactic| repeat walk_at "j1")
section
variable {K : PySem.W.Frag} {mg : Str → Option Value}
theorem last_loss {n : Nat} (hn : n ≤ 60) {P : List Int} {op : Int} (ad : Adm 1 (wholeS n) P) (ok : OkOp (runS (wholeS n) P) op) (r : refS 1 (runS (wholeS n) P) op ≠ "") :
    ∃ e es es' g, fndL n (P ++ [op]) = e :: es ∧ certs n (P ++ [op]) = e :: es' ∧ e.1 = ((g : Nat) : Int) ∧ (bkR n (P ++ [op])).ls = some (P.length, g) := by
  have le := ad.leg
  have lo := le.snoc ok
  have fr := FstR.snoc ad r
  rcases ls_fnd hn lo with ⟨_, _, ad2⟩ | ⟨e, es, k, g, f1, l1, e1, e2, fr2⟩
  · obtain ⟨x, h1, _, h3⟩ := fr
    exact absurd (ad2 _ x h1).2 h3
  · have ek := fstR_uniq fr2 fr
    subst ek
    have nl : lostL (runS (wholeS n) (P ++ [op])) ≠ [] := fun z => by
      rw [(fnd_nil hn lo).mpr z] at f1
      cases f1
    obtain ⟨g0, gs, eg⟩ := List.exists_cons_of_ne_nil nl
    have sn := ls_snoc hn le ok
    have l0 : (bkR n P).ls = none := by
      rcases ls_fnd hn le with ⟨_, h, _⟩ | ⟨_, _, j, _, _, _, _, _, ⟨x, h1, _, h3⟩⟩
      · exact h
      · exact absurd (ad j x h1).2 h3
    rw [l0, ← runS_snoc, eg, l1] at sn
    have sn : some (P.length, g) = some (P.length, g0) := sn
    injection sn with sn
    injection sn with _ sn
    subst sn
    have me : e ∈ fndL n (P ++ [op]) := by rw [f1]; exact List.mem_cons_self
    obtain ⟨g', _, _, ee⟩ := (fnd_in hn lo).mp me
    have eg' : (g' : Int) = (g : Int) := by rw [← e1, ee] <;> rfl
    have eg' : g' = g := by omega
    subst eg'
    exact ⟨e, es, _, g', f1, by rw [ee]; exact certs_one eg, e1, l1⟩
theorem w_replay7 {H : Hp} {Q : VK} {E : XK} {a : Addr} {n : Nat} {log : List Int} (hn : n ≤ 60) (hs : SqL K H a (log.map V.int)) (le : Leg (wholeS n) log) (g : NewS K H (runS (wholeS n) log) Q) : sp_replay K [.int (n : Int), .ref a] H Q E :=
  ⟨a, n, log, rfl, hs, fun _ _ => by rw [Int.toNat_natCast]; exact g, fun _ i op hi l bad => by
    rw [Int.toNat_natCast] at l bad
    exact absurd (le i op hi) bad, fun z => absurd ⟨by omega, by omega⟩ z⟩
theorem w_admits7 {H : Hp} {Q : VK} {E : XK} {p r l o : Addr} {s : Sd} {op : Int} {m : Str} (c : Nat) (c3 : c ≤ 3) (em : m = mdN c) (la : LinksAt K H p r l o s) (ok : OkOp s op) (g : Any H (.bl (decide (refS c s op = ""))) Q) : sp_admits K [.ref p, .int op, .str m] H Q E :=
  ⟨p, r, l, o, s, op, m, rfl, la, fun c' c3' em' => by
    obtain rfl : c = c' := mdN_inj c3 c3' (em.symm.trans em')
    exact ⟨fun _ => g, fun bad => absurd ok bad⟩, fun nm => absurd em (nm c c3)⟩
theorem pp_snoc7 {H : Hp} {xs : List V} {es : List (Int × Int)} {t : Addr} {x y : Int} (h : PPs H xs es) (ht : H t = some (.tup [.int x, .int y])) : PPs H (xs ++ [.ref t]) (es ++ [(x, y)]) := h.app (PPs.one ht)
/-- what the saving of a row holds -/
structure SvI (H0 H : Hp) (w r l o q u : Addr) (n i : Nat) (S : List Int) (xs : List V) (ms : List (Int × Int)) : Prop where
  kp : Kp [] H0 H
  st : St3 H w r l o (runS (wholeS n) S)
  hq : H q = some (.lst (S.map V.int))
  hu : H u = some (.lst xs)
  pp : PPs H xs ms
  ad : Adm 1 (wholeS n) S
  lr : S.length ≤ i
  lm : ms.length ≤ i
  mo : ∀ e ∈ ms, MsV n S e
  qs : q ≠ w ∧ q ≠ r ∧ q ≠ l ∧ q ≠ o
  us : u ≠ w ∧ u ≠ r ∧ u ≠ l ∧ u ≠ o ∧ u ≠ q
  fr : H0 r = none ∧ H0 l = none ∧ H0 o = none ∧ H0 q = none ∧ H0 u = none
theorem SvI.k0 {H0 H H' : Hp} {w r l o q u : Addr} {n i : Nat} {S : List Int} {xs : List V} {ms : List (Int × Int)} (a : SvI H0 H w r l o q u n i S xs ms) (k : Kp [] H H') : SvI H0 H' w r l o q u n i S xs ms :=
  ⟨a.kp.trans k, a.st.k0 k, k.at0 a.hq, k.at0 a.hu, a.pp.k0 k, a.ad, a.lr, a.lm, a.mo, a.qs, a.us, a.fr⟩
theorem len__law_saved (K : PySem.W.Frag) : ∀ vs H Q E, sp__law_saved K vs H Q E → vs.length = (["many", "row"] : List Str).length := by
  rintro vs H Q E ⟨_, _, _, rfl, _⟩
  rfl
theorem rd__law_saved (T : Txt K mg) (vs : List V) (H : Hp) (Q : VK) (E : XK) (h : sp__law_saved K vs H Q E) : t__law_saved K E { nx := fun _ H' => Q .non H', rt := Q } (start ["many", "row", "state", "saved", "missed", "deed", "node", "now", "at", "part", "links", "before", "told", "one"] vs) H := by
  obtain ⟨a, n, log, rfl, hn, ha, hl, iops, g⟩ := h
  unfold t__law_saved
  walk_at "g"
  refine ⟨n, rfl, by omega, fun w r l o H1 nw nr nl no k1 st1 => ?_⟩
  walk_at "g"
  refine ⟨sz_ok (Nat.zero_le _), G.nw fun q H2 nq k2 hq => ?_⟩
  walk_at "g"
  refine ⟨sz_ok (Nat.zero_le _), G.nw fun u H3 nu k3 hu => ?_⟩
  have k12 := k1.trans k2
  have k13 := k12.trans k3
  obtain ⟨q1, q2, q3, q4⟩ := st1.fr nq
  obtain ⟨u1, u2, u3, u4⟩ := (st1.k0 k2).fr nu
  have uq : u ≠ q := fun z => ne_of_none hq nu z.symm
  have I0 : SvI H H3 w r l o q u n 0 [] [] [] := ⟨k13, (st1.k0 k2).k0 k3, k3.at0 hq, hu, PPs.nil, adm_nil _ _, Nat.zero_le _, Nat.zero_le _, fun e h => (by cases h), ⟨q1.symm, q2.symm, q3.symm, q4.symm⟩, ⟨u1.symm, u2.symm, u3.symm, u4.symm, uq⟩, ⟨nr, nl, no, k1.free0 nq, k12.free0 nu⟩⟩
  clear k12 q1 q2 q3 q4 u1 u2 u3 u4 uq hu
  walk_at "g"
  refine w_l1 (SqL.of (k13.at0 ha)) ?_
  refine lp_lst (xs := log.map V.int) (fun i σ H' => ∃ (S : List Int) (xs : List V) (ms : List (Int × Int)) (x5 x6 x7 : Option V), σ = [some (.int (n : Int)), some (.ref a), some (.ref w), some (.ref q), some (.ref u), x5, x6, x7, none, none, none, none, none, none] ∧ SvI H H' w r l o q u n i S xs ms) ⟨_, _, _, _, _, _, rfl, I0⟩ ?_ ?_ ?_
  · rintro i σ' H' hi ⟨S, xs, ms, _, _, _, _, I⟩
    exact SqL.of (I.kp.at0 ha)
  · rintro i x σ' HB hx ⟨S, xs, ms, x5, x6, x7, rfl, IB⟩
    obtain ⟨dd, hdd, rfl⟩ := at_map hx
    have li := (List.getElem?_eq_some_iff.mp hdd).1
    have io := iops dd (List.mem_of_getElem? hdd)
    obtain ⟨io1, io2⟩ := io
    have st := IB.st
    have en : (runS (wholeS n) S).n = n := runS_n _ _
    walk_at "g"
    rw [natAbs_if]
    obtain ⟨nd, end_⟩ : ∃ nd : Nat, dd.natAbs = nd := ⟨_, rfl⟩
    rw [end_] at io1 io2 ⊢
    obtain ⟨okop, eop⟩ := legO_ok' (s := runS (wholeS n) S) (v := nd) (by omega) (by omega)
    walk_at "g"
    refine w_ixL (SqL.of st.ob) (i := 2) (v := .ref o) rfl ?_
    walk_at "g"
    refine w_ixL (SqL.of st.ho) (at_B8 (by omega) (by rw [st.wf.lO]; omega)) ?_
    rw [Int.toNat_natCast]
    walk_at "g"
    refine w_iteB (fun cc => ?_) (fun cc => ?_)
    · have okop : OkOp (runS (wholeS n) S) (nd : Int) := by
        unfold legO at okop
        rw [cc] at okop
        exact okop
      walk_at "g"
      refine ⟨w, r, l, o, _, (nd : Int), rfl, st, okop, fun HC kC => ?_⟩
      have IC := IB.k0 kC
      obtain ⟨qa, qb, qc, qd⟩ := IC.qs
      obtain ⟨ua, ub, uc, ud, ue⟩ := IC.us
      have lr := IC.lr
      have lm := IC.lm
      obtain ⟨f1, f2, f3, f4, f5⟩ := IC.fr
      walk_at "g"
      refine w_iteD (fun c2 => ?_) (fun c2 => ?_)
      · have nad : refS 1 (runS (wholeS n) S) (nd : Int) ≠ "" := rfI_one.mp c2
        walk_at "g"
        refine ⟨w_ty (SqL.of IC.hu), ?_⟩
        walk_at "g"
        refine w_lenL (SqL.of IC.hq) ?_
        walk_at "g"
        rw [List.length_map]
        refine ⟨sz_ok (by show 2 ≤ 1000000; omega), G.nw fun tp HD ntp kD htp => ?_⟩
        have ID := IC.k0 kD
        have lx : xs.length = ms.length := ID.pp.1
        walk_at "g"
        refine w_apT ID.hu (sz_lt (by omega)) fun HE kE hE => ?_
        walk_at "g"
        have up : u ≠ tp := ne_of_none IC.hu ntp
        refine ⟨S, xs ++ [.ref tp], ms ++ [((S.length : Int), (nd : Int))], _, _, _, rfl, ⟨?_, ID.st.kp kE (by simpa using Ne.symm ua) (by simpa using Ne.symm ub) (by simpa using Ne.symm uc) (by simpa using Ne.symm ud), kE.at1 (Ne.symm ue) ID.hq, hE, pp_snoc7 (ID.pp.kp kE ?_) (kE.at1 (Ne.symm up) htp), ID.ad, by omega, by rw [List.length_append]; show _ + 1 ≤ _; omega, fun e he => ?_, ID.qs, ID.us, ID.fr⟩⟩
        · exact ((ID.kp.mono (S' := [u]) (by simp)).trans (kE.mono (by simp))).cut (by simp [f5])
        · intro x hx ys e
          rw [List.mem_singleton.mp hx, ID.hu] at e
          cases e
        · rcases List.mem_append.mp he with z | z
          · exact ID.mo e z
          · rw [List.mem_singleton.mp z]
            exact ⟨S.length, rfl, Nat.le_refl _, by rw [List.take_length]; exact okop, by rw [List.take_length]; exact nad⟩
      · have adm : refS 1 (runS (wholeS n) S) (nd : Int) = "" := Classical.byContradiction fun z => c2 (rfI_one.mpr z)
        walk_at "g"
        refine ⟨w, r, l, o, _, (nd : Int), rfl, IC.st, okop.1, fun HD kD stD => ?_⟩
        have hqD := kD _ _ (by simp [qb, qc, qd]) IC.hq
        walk_at "g"
        refine ⟨w_ty (SqL.of hqD), ?_⟩
        walk_at "g"
        refine w_apT hqD (sz_lt (by rw [List.length_map]; omega)) fun HE kE hE => ?_
        have stE := stD.kp kE (by simpa using Ne.symm qa) (by simpa using Ne.symm qb) (by simpa using Ne.symm qc) (by simpa using Ne.symm qd)
        have kDE : Kp [q, r, l, o] HC HE := (kD.mono (by simp)).trans (kE.mono (by simp))
        walk_at "g"
        refine ⟨S ++ [(nd : Int)], xs, ms, _, _, _, rfl, ⟨?_, by rw [runS_snoc]; exact stE, ?_, kDE _ _ (by simp [ub, uc, ud, ue]) IC.hu, IC.pp.kp kDE ?_, IC.ad.snoc okop adm, by rw [List.length_append]; show _ + 1 ≤ _; omega, by omega, fun e he => (IC.mo e he).app _, IC.qs, IC.us, IC.fr⟩⟩
        · exact ((IC.kp.mono (S' := [q, r, l, o]) (by simp)).trans (kDE.mono (by simp))).cut (by simp [f1, f2, f3, f4])
        · rw [hE, List.map_append] <;> rfl
        · intro x hx ys e
          simp only [List.mem_cons, List.not_mem_nil, or_false] at hx
          rcases hx with rfl | rfl | rfl | rfl
          · rw [IC.hq] at e; cases e
          · rw [IC.st.hr] at e; cases e
          · rw [IC.st.hl] at e; cases e
          · rw [IC.st.ho] at e; cases e
    · have okop : OkOp (runS (wholeS n) S) (-(nd : Int)) := by
        unfold legO at okop
        rw [cc] at okop
        exact okop
      walk_at "g"
      refine ⟨w, r, l, o, _, (-(nd : Int)), rfl, st, okop, fun HC kC => ?_⟩
      have IC := IB.k0 kC
      obtain ⟨qa, qb, qc, qd⟩ := IC.qs
      obtain ⟨ua, ub, uc, ud, ue⟩ := IC.us
      have lr := IC.lr
      have lm := IC.lm
      obtain ⟨f1, f2, f3, f4, f5⟩ := IC.fr
      walk_at "g"
      refine w_iteD (fun c2 => ?_) (fun c2 => ?_)
      · have nad : refS 1 (runS (wholeS n) S) (-(nd : Int)) ≠ "" := rfI_one.mp c2
        walk_at "g"
        refine ⟨w_ty (SqL.of IC.hu), ?_⟩
        walk_at "g"
        refine w_lenL (SqL.of IC.hq) ?_
        walk_at "g"
        rw [List.length_map]
        refine ⟨sz_ok (by show 2 ≤ 1000000; omega), G.nw fun tp HD ntp kD htp => ?_⟩
        have ID := IC.k0 kD
        have lx : xs.length = ms.length := ID.pp.1
        walk_at "g"
        refine w_apT ID.hu (sz_lt (by omega)) fun HE kE hE => ?_
        walk_at "g"
        have up : u ≠ tp := ne_of_none IC.hu ntp
        refine ⟨S, xs ++ [.ref tp], ms ++ [((S.length : Int), (-(nd : Int)))], _, _, _, rfl, ⟨?_, ID.st.kp kE (by simpa using Ne.symm ua) (by simpa using Ne.symm ub) (by simpa using Ne.symm uc) (by simpa using Ne.symm ud), kE.at1 (Ne.symm ue) ID.hq, hE, pp_snoc7 (ID.pp.kp kE ?_) (kE.at1 (Ne.symm up) htp), ID.ad, by omega, by rw [List.length_append]; show _ + 1 ≤ _; omega, fun e he => ?_, ID.qs, ID.us, ID.fr⟩⟩
        · exact ((ID.kp.mono (S' := [u]) (by simp)).trans (kE.mono (by simp))).cut (by simp [f5])
        · intro x hx ys e
          rw [List.mem_singleton.mp hx, ID.hu] at e
          cases e
        · rcases List.mem_append.mp he with z | z
          · exact ID.mo e z
          · rw [List.mem_singleton.mp z]
            exact ⟨S.length, rfl, Nat.le_refl _, by rw [List.take_length]; exact okop, by rw [List.take_length]; exact nad⟩
      · have adm : refS 1 (runS (wholeS n) S) (-(nd : Int)) = "" := Classical.byContradiction fun z => c2 (rfI_one.mpr z)
        walk_at "g"
        refine ⟨w, r, l, o, _, (-(nd : Int)), rfl, IC.st, okop.1, fun HD kD stD => ?_⟩
        have hqD := kD _ _ (by simp [qb, qc, qd]) IC.hq
        walk_at "g"
        refine ⟨w_ty (SqL.of hqD), ?_⟩
        walk_at "g"
        refine w_apT hqD (sz_lt (by rw [List.length_map]; omega)) fun HE kE hE => ?_
        have stE := stD.kp kE (by simpa using Ne.symm qa) (by simpa using Ne.symm qb) (by simpa using Ne.symm qc) (by simpa using Ne.symm qd)
        have kDE : Kp [q, r, l, o] HC HE := (kD.mono (by simp)).trans (kE.mono (by simp))
        walk_at "g"
        refine ⟨S ++ [(-(nd : Int))], xs, ms, _, _, _, rfl, ⟨?_, by rw [runS_snoc]; exact stE, ?_, kDE _ _ (by simp [ub, uc, ud, ue]) IC.hu, IC.pp.kp kDE ?_, IC.ad.snoc okop adm, by rw [List.length_append]; show _ + 1 ≤ _; omega, by omega, fun e he => (IC.mo e he).app _, IC.qs, IC.us, IC.fr⟩⟩
        · exact ((IC.kp.mono (S' := [q, r, l, o]) (by simp)).trans (kDE.mono (by simp))).cut (by simp [f1, f2, f3, f4])
        · rw [hE, List.map_append] <;> rfl
        · intro x hx ys e
          simp only [List.mem_cons, List.not_mem_nil, or_false] at hx
          rcases hx with rfl | rfl | rfl | rfl
          · rw [IC.hq] at e; cases e
          · rw [IC.st.hr] at e; cases e
          · rw [IC.st.hl] at e; cases e
          · rw [IC.st.ho] at e; cases e
  · rintro σ' H4 ⟨S, xs, ms, x5, x6, x7, rfl, I⟩
    rw [List.length_map] at I
    have ad := I.ad
    have leg := ad.leg
    have lS : S.length ≤ 100 := by have := I.lr; omega
    have lM : ms.length ≤ 100 := by have := I.lm; omega
    have mo := I.mo
    have k04 := I.kp
    have hq := I.hq
    have hu := I.hu
    have pp := I.pp
    have st := I.st
    clear I I0
    have ls0 : (bkR n S).ls = none := by
      rcases ls_fnd hn leg with ⟨_, h, _⟩ | ⟨_, _, j, _, _, _, _, _, ⟨x, h1, _, h3⟩⟩
      · exact h
      · exact absurd (ad j x h1).2 h3
    have ct0 : certs n S = [] := certs_nil ((adm1_end hn leg).mp ad)
    walk_at "g"
    refine w_listLN (SqL.of hq) fun q5 H5 nq5 k5 hq5 => ?_
    walk_at "g"
    refine w_loss hn (SqL.of hq5) leg fun v H6 k6 op6 => ?_
    rw [ls0] at op6
    have ev : v = .non := op6
    subst ev
    walk_at "g"
    refine ⟨_, _, rfl, .at trivial, ?_⟩
    have k46 := k5.trans k6
    walk_at "g"
    refine w_clK ?_
    walk_at "g"
    refine w_listLN (SqL.of (k46.at0 hq)) fun q7 H7 nq7 k7 hq7 => ?_
    walk_at "g"
    refine ⟨rfl, rfl, w_firstC 1 (by omega) rfl hn (SqL.of hq7) leg fun v fv H8 k8 => ?_⟩
    have ev : v = .non := fv.uniq (.inl ⟨ad, rfl⟩)
    subst ev
    walk_at "g"
    refine ⟨_, _, rfl, .at trivial, ?_⟩
    have k48 := k46.trans (k7.trans k8)
    walk_at "g"
    refine w_listLN (SqL.of (k48.at0 hq)) fun q9 H9 nq9 k9 hq9 => ?_
    walk_at "g"
    refine w_pap hn (SqL.of hq9) (by omega) leg fun tA HA kA pdA => ?_
    walk_at "g"
    refine ⟨sz_ok (by show 4 ≤ 1000000; omega), G.nw fun tB HB ntB kB htB => ?_⟩
    walk_at "g"
    refine ⟨_, _, rfl, (pdA.k0 kB).sam (.inl ⟨ct0, htB⟩), ?_⟩
    have k4B := k48.trans (k9.trans (kA.trans kB))
    walk_at "g"
    refine w_listLN (SqL.of (k4B.at0 hq)) fun qC HC nqC kC hqC => ?_
    walk_at "g"
    refine ⟨qC, n, S, rfl, hn, SqL.of hqC, leg, fun _ tD HD kD htD => ?_, fun i op hop _ er => absurd (ad i op hop).2 er⟩
    have k4D := k4B.trans (kC.trans kD)
    walk_at "g"
    refine ⟨w, r, l, o, _, rfl, st.k0 k4D, fun HE kE => ?_⟩
    walk_at "g"
    refine ⟨sz_ok (by show 2 ≤ 1000000; omega), G.nw fun tF HF ntF kF htF => ?_⟩
    walk_at "g"
    refine ⟨_, _, rfl, SamV.done (kF.at0 (kE.at0 htD)) htF, ?_⟩
    have k4F := k4D.trans (kE.trans kF)
    have k0F := k04.trans k4F
    walk_at "g"
    refine w_slL (SqL.of (k4F.at0 hu)) fun fs HG nfs kG hfs => ?_
    rw [show (some (4 : Int)) = some ((4 : Nat) : Int) from rfl, cutA] at hfs
    have k4G := k4F.trans kG
    have hqG := k4G.at0 hq
    have ppG := pp.k0 k4G
    walk_at "g"
    refine w_l1 (SqL.of hfs) ?_
    refine lp_lst (xs := xs.take 4) (fun i σ H' => (∃ x7 x8 x9 x10 x11 x12 x13, σ = [some (.int (n : Int)), some (.ref a), some (.ref w), some (.ref q), some (.ref u), x5, x6, x7, x8, x9, x10, x11, x12, x13]) ∧ Kp [] HG H') ⟨⟨_, _, _, _, _, _, _, rfl⟩, Kp.refl _ _⟩ ?_ ?_ ?_
    · rintro i σ' H' hi ⟨_, k⟩
      exact SqL.of (k.at0 hfs)
    · rintro j x σ' H1 hx ⟨⟨x7, x8, x9, x10, x11, x12, x13, rfl⟩, k1⟩
      have hj : j < 4 := by
        have := (List.getElem?_eq_some_iff.mp hx).1
        rw [List.length_take] at this
        omega
      rw [List.getElem?_take_of_lt hj] at hx
      obtain ⟨⟨e1, op⟩, he⟩ : ∃ e, ms[j]? = some e := ⟨_, List.getElem?_eq_getElem (by rw [← ppG.1]; exact (List.getElem?_eq_some_iff.mp hx).1)⟩
      obtain ⟨t, hx2, ht⟩ := ppG.2 j _ he
      rw [hx] at hx2
      injection hx2 with hx2
      subst hx2
      obtain ⟨i, ei, i2, ok, nr⟩ := mo _ (List.mem_of_getElem? he)
      have ei : e1 = (i : Int) := ei
      subst ei
      have ht : HG t = some (.tup [.int (i : Int), .int op]) := ht
      have ok : OkOp (runS (wholeS n) (S.take i)) op := ok
      have nr : refS 1 (runS (wholeS n) (S.take i)) op ≠ "" := nr
      have adi := ad.take i
      have legi := adi.leg
      have li : (S.take i).length = i := by rw [List.length_take]; omega
      have lego := legi.snoc ok
      have fr := FstR.snoc adi nr
      rw [li] at fr
      obtain ⟨ce, ces, ces', gg, fn, cn, eg, lsn⟩ := last_loss hn adi ok nr
      rw [li] at lsn
      have lP : (S.take i ++ [op]).length ≤ 500 := by rw [List.length_append, li]; show i + 1 ≤ _; omega
      generalize hP : S.take i = P at *
      refine w_g2 (SqT.of (k1.at0 ht)) ?_
      walk_at "g"
      refine w_slL (SqL.of (k1.at0 hqG)) fun pt H2 npt k2 hpt => ?_
      rw [cut_takeI S i i2, hP] at hpt
      have k12 := k1.trans k2
      walk_at "g"
      refine w_replay7 hn (SqL.of hpt) legi fun p pr pl po H3 np npr npl npo k3 la3 => ?_
      obtain ⟨dx, ob⟩ := la3.ob
      walk_at "g"
      refine w_strO ob ?_
      refine ⟨p, pr, pl, po, _, rfl, la3, fun H4 k4 => ⟨_, rfl, ?_⟩⟩
      have la4 := la3.k0 k4
      walk_at "g"
      refine w_clD ?_
      walk_at "g"
      refine ⟨rfl, w_admits7 0 (by omega) rfl la4 ok fun H5 k5 => ?_⟩
      rw [refS_0, decide_eq_true rfl]
      walk_at "g"
      refine w_clK ?_
      walk_at "g"
      refine ⟨rfl, rfl, w_admits7 1 (by omega) rfl (la4.k0 k5) ok fun H6 k6 => ?_⟩
      rw [decide_eq_false nr]
      have k46 := k5.trans k6
      walk_at "g"
      refine w_clK ?_
      walk_at "g"
      refine ⟨rfl, rfl, w_admits7 2 (by omega) rfl (la4.k0 k46) ok fun H7 k7 => ?_⟩
      rw [decide_eq_false (rf12 nr)]
      have k47 := k46.trans k7
      walk_at "g"
      refine ⟨sz_ok (by show 3 ≤ 1000000; omega), G.nw fun tl H8 ntl k8 htl => ?_⟩
      walk_at "g"
      refine ⟨sz_ok (by show 3 ≤ 1000000; omega), G.nw fun tm H9 ntm k9 htm => ?_⟩
      have k49 := k47.trans (k8.trans k9)
      walk_at "g"
      refine ⟨_, _, rfl, SamV.bools (k9.at0 htl) htm (by show 3 ≤ 1000; omega) (fun x hx => by
        simp only [List.mem_cons, List.not_mem_nil, or_false] at hx
        rcases hx with rfl | rfl | rfl <;> trivial), ?_⟩
      have la9 := la4.k0 k49
      obtain ⟨dx9, ob9⟩ := la9.ob
      walk_at "g"
      refine w_strO ob9 ?_
      refine ⟨p, pr, pl, po, _, rfl, la9, fun HA kA => ⟨_, rfl, ?_⟩⟩
      walk_at "g"
      refine ⟨_, _, rfl, .at trivial, ?_⟩
      have k2A := (k3.trans k4).trans (k49.trans kA)
      have hptA := k2A.at0 hpt
      walk_at "g"
      refine ⟨pt, n, P, rfl, hn, hptA, legi, fun w2 r2 l2 o2 HB nw2 nr2 nl2 no2 kB stB => ?_⟩
      walk_at "g"
      refine ⟨w2, r2, l2, o2, _, rfl, stB, fun HC kC => ?_⟩
      walk_at "g"
      refine ⟨_, _, rfl, .at trivial, ?_⟩
      have kAC := kB.trans kC
      have hptC := kAC.at0 hptA
      walk_at "g"
      refine w_clK ?_
      walk_at "g"
      refine ⟨sz_ok (by show 1 ≤ 1000000; omega), G.nw fun qx1 Hx1 nqx1 kx1 hqx1 => ?_⟩
      have hqx1 : Hx1 qx1 = some (.lst (([op] : List Int).map V.int)) := hqx1
      walk_at "g"
      refine w_addLN (kx1.at0 hptC) hqx1 (sz_ok (by rw [List.length_map]; show P.length + 1 ≤ _; rw [li]; omega)) fun lo1 Hy1 nlo1 ky1 hlo1 => ?_
      rw [← List.map_append] at hlo1
      have kz1 := kx1.trans ky1
      have hpt1 := kz1.at0 hptC
      walk_at "g"
      refine ⟨rfl, rfl, w_firstC 1 (by omega) rfl hn (SqL.of hlo1) lego fun v fv HD kD => ?_⟩
      have ev : v = .int (i : Int) := fv.uniq (.inr ⟨i, fr, rfl⟩)
      subst ev
      walk_at "g"
      refine ⟨_, _, rfl, .at trivial, ?_⟩
      have hptD := kD.at0 hpt1
      walk_at "g"
      refine ⟨sz_ok (by show 1 ≤ 1000000; omega), G.nw fun qx2 Hx2 nqx2 kx2 hqx2 => ?_⟩
      have hqx2 : Hx2 qx2 = some (.lst (([op] : List Int).map V.int)) := hqx2
      walk_at "g"
      refine w_addLN (kx2.at0 hptD) hqx2 (sz_ok (by rw [List.length_map]; show P.length + 1 ≤ _; rw [li]; omega)) fun lo2 Hy2 nlo2 ky2 hlo2 => ?_
      rw [← List.map_append] at hlo2
      have kz2 := kx2.trans ky2
      have hpt2 := kz2.at0 hptD
      walk_at "g"
      refine ⟨lo2, n, P ++ [op], rfl, hn, SqL.of hlo2, lP, lego, fun tb w3 r3 l3 o3 c3 f3 ys HE nw3 nr3 nl3 no3 kE htb stE hc3 hf3 cp3 => ?_⟩
      refine w_ixT (SqT.of htb) (i := 2) (v := .ref f3) rfl ?_
      obtain ⟨ta, hy0, hta⟩ := cp3.2 0 ce (by rw [fn] <;> rfl)
      have hptE := kE.at0 hpt2
      cases ys with
      | nil => cases hy0
      | cons y0 ys =>
        have ey : y0 = .ref ta := by simpa using hy0
        subst ey
        have hta' : HE ta = some (.tup [.int ce.1, .int ce.2.1, .int ce.2.2]) := hta
        walk_at "g"
        refine w_ixL (SqL.of hf3) at_0 ?_
        walk_at "g"
        refine ⟨sz_ok (by show 1 ≤ 1000000; omega), G.nw fun qx3 Hx3 nqx3 kx3 hqx3 => ?_⟩
        have hqx3 : Hx3 qx3 = some (.lst (([op] : List Int).map V.int)) := hqx3
        walk_at "g"
        refine w_addLN (kx3.at0 hptE) hqx3 (sz_ok (by rw [List.length_map]; show P.length + 1 ≤ _; rw [li]; omega)) fun lo3 Hy3 nlo3 ky3 hlo3 => ?_
        rw [← List.map_append] at hlo3
        have kz3 := kx3.trans ky3
        have hpt3 := kz3.at0 hptE
        walk_at "g"
        refine w_loss hn (SqL.of hlo3) lego fun v HF kF opF => ?_
        have k3F := kz3.trans kF
        rw [lsn] at opF
        walk_at "g"
        refine w_ixT (SqT.of (k3F.at0 hta')) (i := 0) (v := .int (gg : Int)) (by rw [← eg]; rfl) ?_
        walk_at "g"
        refine ⟨sz_ok (by show 2 ≤ 1000000; omega), G.nw fun tG HH ntG kH htG => ?_⟩
        walk_at "g"
        refine ⟨_, _, rfl, SamV.opt (m := 2) (opF.kp kH) (show OptP HH (.ref tG) (some (i, gg)) from ⟨tG, rfl, htG⟩), ?_⟩
        have kEH := k3F.trans kH
        have hptH := kEH.at0 hptE
        walk_at "g"
        refine ⟨sz_ok (by show 1 ≤ 1000000; omega), G.nw fun qx4 Hx4 nqx4 kx4 hqx4 => ?_⟩
        have hqx4 : Hx4 qx4 = some (.lst (([op] : List Int).map V.int)) := hqx4
        walk_at "g"
        refine w_addLN (kx4.at0 hptH) hqx4 (sz_ok (by rw [List.length_map]; show P.length + 1 ≤ _; rw [li]; omega)) fun lo4 Hy4 nlo4 ky4 hlo4 => ?_
        rw [← List.map_append] at hlo4
        have kz4 := kx4.trans ky4
        have hpt4 := kz4.at0 hptH
        walk_at "g"
        refine w_pap hn (SqL.of hlo4) lP lego fun tI HI kI pdI => ?_
        walk_at "g"
        refine ⟨sz_ok (by show 2 ≤ 1000000; omega), G.nw fun tJ HJ ntJ kJ htJ => ?_⟩
        have kEJ := kEH.trans (kz4.trans (kI.trans kJ))
        walk_at "g"
        refine ⟨_, _, rfl, (pdI.k0 kJ).sam (.inr ⟨_, _, ta, cn, htJ, kEJ.at0 hta⟩), ?_⟩
        walk_at "g"
        exact ⟨⟨_, _, _, _, _, _, _, rfl⟩, k12.trans (k2A.trans (kAC.trans (kz1.trans (kD.trans (kz2.trans (kE.trans kEJ))))))⟩
    · rintro σ' H1 ⟨⟨x7, x8, x9, x10, x11, x12, x13, rfl⟩, k1⟩
      walk_at "g"
      exact g H1 (k0F.trans (kG.trans k1))
end
end G
set_option Elab.async false
set_option linter.all false
set_option maxRecDepth 100000
set_option maxHeartbeats 2000000
namespace G
--#FAM KV
open PySem PySem.Spec PyProof.Rows L2
local macro_rules
  | `(tactic| walk_at "1") => `(tactic| first
    | with_reducible refine w_seq ?_
    | with_reducible refine w_asg ?_
    | with_reducible refine w_asgS ?_
    | with_reducible refine w_asf ?_
    | with_reducible refine w_drop ?_
    | with_reducible refine w_ret ?_
    | with_reducible refine w_if ?_
    | with_reducible refine w_not ?_
    | with_reducible refine w_and ?_
    | with_reducible refine w_or ?_
    | with_reducible refine w_test ?_
    | with_reducible refine w_tb ?_
    | with_reducible refine w_chain ?_
    | with_reducible refine w_op ?_
    | with_reducible refine w_un ?_
    | with_reducible refine w_andV ?_
    | with_reducible refine w_orV ?_
    | with_reducible refine w_notV ?_
    | with_reducible refine w_ifE ?_
    | with_reducible refine w_cons ?_
    | with_reducible refine w_nil ?_
    | with_reducible refine w_cb ?_
    | with_reducible refine w_cl ?_
    | with_reducible refine w_mt ?_
    | with_reducible refine w_fld ?_
    | with_reducible refine w_tupN ?_
    | with_reducible refine w_lstN ?_
    | with_reducible refine w_bm ?_
    | with_reducible refine w_bm0 ?_
    | with_reducible refine w_for ?_
    | with_reducible refine w_lc ?_
    | with_reducible refine w_iR1 ?_
    | with_reducible refine w_iR2 ?_
    | with_reducible refine w_iL ?_
    | with_reducible refine w_iT ?_
    | with_reducible refine w_iE ?_
    | with_reducible refine w_iZ ?_
    | with_reducible refine w_var (by with_unfolding_all rfl) ?_
    | with_reducible refine w_c ?_
    | with_reducible refine w_next ?_
    | with_reducible refine w_i0 ?_
    | with_reducible refine w_u1 ?_
    | with_reducible refine w_addI ?_
    | with_reducible refine w_eqI ?_
    | with_reducible refine w_eqS ?_
    | with_reducible refine w_eqB ?_
    | with_reducible refine w_neI ?_
    | with_reducible refine w_neS ?_
    | with_reducible refine w_neB ?_
    | with_reducible refine w_abs ?_
    | with_reducible refine w_intI ?_
    | with_reducible refine w_min2 ?_
    | with_reducible refine w_max2 ?_
    | with_reducible refine w_isN0 ?_
    | with_reducible refine w_isN1 ref_ne ?_
    | with_reducible refine w_isN1 int_ne ?_
    | with_reducible refine w_notN0 ?_
    | with_reducible refine w_notN1 ref_ne ?_
    | with_reducible refine w_notN1 int_ne ?_
    | with_reducible refine w_ex1 ?_
    | with_reducible refine w_n1 ?_
    | with_reducible refine w_n2 ?_
    | with_reducible refine w_tT ?_
    | with_reducible refine w_tF ?_
    | with_reducible refine w_nT ?_
    | with_reducible refine w_nF ?_
    | with_reducible refine w_rz ?_
    | with_reducible refine w_mkN ?_
    | with_reducible refine w_lrgN ?_
    | with_reducible refine w_rg1 ?_
    | with_reducible refine w_rg2 ?_
    | with_reducible refine w_sl ?_
    | with_reducible refine w_np ?_
    | with_reducible refine w_pt ?_
    | with_reducible refine w_tr ?_
    | with_reducible refine w_gn ?_
    | with_reducible refine w_yes ?_
    | with_reducible refine w_m1 ?_
    | with_reducible refine w_asu ?_
    | with_reducible refine w_exS ?_
    | with_reducible refine w_iS ?_
    | with_reducible refine w_g1 ?_
    | with_reducible refine w_gc ?_
    | with_reducible refine w_gt (SqT.of upd_same) rfl ?_)
local macro_rules
  | `(tactic| walk_at "g") => `(tactic| repeat walk_at "1")
local macro_rules
  | `(tactic| walk_at "j1") => `(tactic| first
    | with_reducible refine w_seqI ?_
    | walk_at "1")
local macro_rules
  | `(tactic| walk_at "j") => `(tactic| repeat walk_at "j1")
section
variable {K : PySem.W.Frag} {mg : Str → Option Value}
theorem len_law (K : PySem.W.Frag) : ∀ vs H Q E, sp_law K vs H Q E → vs.length = (["script"] : List Str).length := by
  rintro vs H Q E ⟨_, _, rfl, _⟩
  rfl
theorem rd_law (T : Txt K mg) (vs : List V) (H : Hp) (Q : VK) (E : XK) (h : sp_law K vs H Q E) : t_law K E { nx := fun _ H' => Q .non H', rt := Q } (start ["script", "box", "many", "limit", "row", "found"] vs) H := by
  obtain ⟨a, ns, rfl, hs, hl, g⟩ := h
  unfold t_law
  walk_at "g"
  refine ⟨a, 49, ns, rfl, hs, hl, fun b c H1 nb nc k1 bx1 => ?_⟩
  walk_at "g"
  refine ⟨0, b, c, 10, rfl, by omega, by omega, by omega, bx1, fun d c2 H2 d0 d1 nx2 k2 bx2 => ?_⟩
  walk_at "j"
  refine w_ifJ (fun σ' H' => ∃ (m lim : Int) (c' : Addr), σ' = [some (.ref a), some (.ref b), some (.int m), some (.int lim), none, none] ∧ 0 ≤ m ∧ m ≤ 60 ∧ 0 ≤ lim ∧ lim ≤ 55 ∧ Bx8 5 H' b c') (fun N0 hN0 => ?_) (fun σ' H3 ⟨m, lim, c3, es, m0, m1, li0, li1, bx3⟩ => ?_)
  · walk_at "g"
    refine ⟨1, b, c2, 8, rfl, by omega, by omega, by omega, bx2, fun d2 c3 H3 e0 e1 nx3 k3 bx3 => ?_⟩
    walk_at "g"
    refine w_iteD (fun c1 => ?_) (fun c1 => ?_)
    · walk_at "g"
      refine ⟨2, b, c3, 41, rfl, by omega, by omega, by omega, bx3, fun d3 c4 H4 f0 f1 nx4 k4 bx4 => ?_⟩
      walk_at "g"
      exact hN0 _ _ ⟨_, _, c4, rfl, by omega, by omega, by omega, by omega, bx4.mono (by omega)⟩
    · walk_at "g"
      exact hN0 _ _ ⟨_, _, c3, rfl, by omega, by omega, by omega, by omega, bx3.mono (by omega)⟩
  subst es
  obtain ⟨n, rfl⟩ : ∃ n : Nat, m = (n : Int) := ⟨m.toNat, by omega⟩
  obtain ⟨lm, rfl⟩ : ∃ l : Nat, lim = (l : Int) := ⟨lim.toNat, by omega⟩
  have n60 : n ≤ 60 := by omega
  walk_at "g"
  refine ⟨5, b, c3, n, lm, rfl, by omega, by omega, by omega, bx3, fun ds q c4 H4 nx4 qc iops alt lds nq k4 bx4 hq => ?_⟩
  have qb := (bx3.fr nq).1
  have le : Leg (wholeS n) ds := leg_of n60 iops alt
  walk_at "g"
  refine ⟨q, n, ds, rfl, n60, SqL.of hq, by omega, le, fun t w r l o cc f xs H5 nw nr nl no k5 ht st hcc hf cp => ?_⟩
  have bx5 := bx4.k0 k5
  have hq5 := k5.at0 hq
  have fb : f ≠ b := fun e => by
    subst e
    obtain ⟨x, y, z, ms, hb1, hc1, _⟩ := bx5.ob
    rw [hf] at hb1
    injection hb1 with hb1
    injection hb1 with hb1
    have l1 := cp.1
    subst hb1
    obtain ⟨e1, he1⟩ : ∃ e, (fndL n ds)[1]? = some e := ⟨_, List.getElem?_eq_getElem (by rw [← l1]; show 1 < 4; omega)⟩
    obtain ⟨ta, h1, _⟩ := cp.2 1 e1 he1
    injection h1 with h1
    cases h1
  walk_at "g"
  refine w_ixT (SqT.of ht) (i := 2) (v := .ref f) rfl ?_
  walk_at "g"
  refine ⟨q, f, n, ds, xs, rfl, n60, hq5, by omega, le, hf, cp, fun H6 k6 => ?_⟩
  walk_at "g"
  have hf6 := k6.at0 hf
  have hq6 := k6.at0 hq5
  refine ⟨305, b, c4, q, f, n, ds, xs, rfl, by omega, n60, bx5.k0 k6, qb, fb, hq6, by omega, le, hf6, cp.k0 k6, fun c7 H7 nx7 k7 b7 => ?_⟩
  have hq7 := k7.at1 qb hq6
  have hf7 := k7.at1 fb hf6
  have cp7 : CPs H7 xs (fndL n ds) := (cp.k0 k6).kp k7 fun b' hb ys z => by
    rw [List.mem_singleton.mp hb] at z
    exact (bx5.k0 k6).tup z rfl
  walk_at "g"
  refine ⟨q, n, ds, rfl, n60, hq7, by omega, iops, fun H8 k8 => ?_⟩
  walk_at "g"
  refine ⟨q, f, n, ds, xs, rfl, n60, k8.at0 hq7, by omega, le, k8.at0 hf7, cp7.k0 k8, fun H9 k9 => ?_⟩
  exact g H9
end
end G
set_option Elab.async false
set_option linter.all false
set_option maxRecDepth 100000
set_option maxHeartbeats 1000000
namespace G
--#FAM KV
open PySem PySem.Spec PyProof.Rows L2
local macro_rules
  | `(tactic| walk_at "1") => `(tactic| first
    | with_reducible refine w_seq ?_
    | with_reducible refine w_asg ?_
    | with_reducible refine w_asgS ?_
    | with_reducible refine w_asf ?_
    | with_reducible refine w_drop ?_
    | with_reducible refine w_ret ?_
    | with_reducible refine w_if ?_
    | with_reducible refine w_not ?_
    | with_reducible refine w_and ?_
    | with_reducible refine w_or ?_
    | with_reducible refine w_test ?_
    | with_reducible refine w_tb ?_
    | with_reducible refine w_chain ?_
    | with_reducible refine w_op ?_
    | with_reducible refine w_un ?_
    | with_reducible refine w_andV ?_
    | with_reducible refine w_orV ?_
    | with_reducible refine w_notV ?_
    | with_reducible refine w_ifE ?_
    | with_reducible refine w_cons ?_
    | with_reducible refine w_nil ?_
    | with_reducible refine w_cb ?_
    | with_reducible refine w_cl ?_
    | with_reducible refine w_mt ?_
    | with_reducible refine w_fld ?_
    | with_reducible refine w_tupN ?_
    | with_reducible refine w_lstN ?_
    | with_reducible refine w_bm ?_
    | with_reducible refine w_bm0 ?_
    | with_reducible refine w_for ?_
    | with_reducible refine w_lc ?_
    | with_reducible refine w_iR1 ?_
    | with_reducible refine w_iR2 ?_
    | with_reducible refine w_iL ?_
    | with_reducible refine w_iT ?_
    | with_reducible refine w_iE ?_
    | with_reducible refine w_iZ ?_
    | with_reducible refine w_var (by with_unfolding_all rfl) ?_
    | with_reducible refine w_c ?_
    | with_reducible refine w_next ?_
    | with_reducible refine w_i0 ?_
    | with_reducible refine w_u1 ?_
    | with_reducible refine w_addI ?_
    | with_reducible refine w_eqI ?_
    | with_reducible refine w_eqS ?_
    | with_reducible refine w_eqB ?_
    | with_reducible refine w_neI ?_
    | with_reducible refine w_neS ?_
    | with_reducible refine w_neB ?_
    | with_reducible refine w_abs ?_
    | with_reducible refine w_intI ?_
    | with_reducible refine w_min2 ?_
    | with_reducible refine w_max2 ?_
    | with_reducible refine w_isN0 ?_
    | with_reducible refine w_isN1 ref_ne ?_
    | with_reducible refine w_isN1 int_ne ?_
    | with_reducible refine w_notN0 ?_
    | with_reducible refine w_notN1 ref_ne ?_
    | with_reducible refine w_notN1 int_ne ?_
    | with_reducible refine w_ex1 ?_
    | with_reducible refine w_n1 ?_
    | with_reducible refine w_n2 ?_
    | with_reducible refine w_tT ?_
    | with_reducible refine w_tF ?_
    | with_reducible refine w_nT ?_
    | with_reducible refine w_nF ?_
    | with_reducible refine w_rz ?_
    | with_reducible refine w_mkN ?_
    | with_reducible refine w_lrgN ?_
    | with_reducible refine w_rg1 ?_
    | with_reducible refine w_rg2 ?_
    | with_reducible refine w_sl ?_
    | with_reducible refine w_np ?_
    | with_reducible refine w_pt ?_
    | with_reducible refine w_tr ?_
    | with_reducible refine w_gn ?_
    | with_reducible refine w_yes ?_
    | with_reducible refine w_m1 ?_
    | with_reducible refine w_asu ?_
    | with_reducible refine w_exS ?_
    | with_reducible refine w_iS ?_
    | with_reducible refine w_g1 ?_
    | with_reducible refine w_gc ?_
    | with_reducible refine w_gt (SqT.of upd_same) rfl ?_)
local macro_rules
  | `(tactic| walk_at "g") => `(tactic| repeat walk_at "1")
local macro_rules
  | `(tactic| walk_at "j1") => `(tactic| first
    | with_reducible refine w_seqI ?_
    | walk_at "1")
local macro_rules
  | `(tactic| walk_at "j") => `(tactic| repeat walk_at "j1")
section
variable {K : PySem.W.Frag} {mg : Str → Option Value}
theorem len_check_size (K : PySem.W.Frag) : ∀ vs H Q E, sp_check_size K vs H Q E → vs.length = (["size"] : List Str).length := by
  rintro vs H Q E ⟨_, rfl, _⟩
  rfl
theorem rd_check_size (T : Txt K mg) (vs : List V) (H : Hp) (Q : VK) (E : XK) (h : sp_check_size K vs H Q E) : t_check_size K E { nx := fun _ H' => Q .non H', rt := Q } (start ["size"] vs) H := by
  obtain ⟨size, rfl, h1, h2⟩ := h
  unfold t_check_size
  walk_at "g"
  refine w_iteD (fun c1 => ?_) (fun c1 => ?_)
  · walk_at "g"
    refine w_iteN (fun c2 => ?_) (fun c2 => ?_)
    · walk_at "g"
      exact ⟨rfl, Nat.le_of_ble_eq_true rfl, h2 fun z => c2 z.2⟩
    · walk_at "g"
      exact h1 ⟨c1, c2⟩
  · walk_at "g"
    exact ⟨rfl, Nat.le_of_ble_eq_true rfl, h2 fun z => c1 z.1⟩
theorem len_check_operation (K : PySem.W.Frag) : ∀ vs H Q E, sp_check_operation K vs H Q E → vs.length = (["size", "operation", "index"] : List Str).length := by
  rintro vs H Q E ⟨_, _, _, rfl, _⟩
  rfl
theorem rd_check_operation (T : Txt K mg) (vs : List V) (H : Hp) (Q : VK) (E : XK) (h : sp_check_operation K vs H Q E) : t_check_operation K E { nx := fun _ H' => Q .non H', rt := Q } (start ["size", "operation", "index"] vs) H := by
  obtain ⟨n, op, i, rfl, h1, h2⟩ := h
  unfold t_check_operation
  walk_at "g"
  rw [natAbs_if]
  refine w_iteD (fun c1 => ?_) (fun c1 => ?_)
  · walk_at "g"
    refine w_iteN (fun c2 => ?_) (fun c2 => ?_)
    · walk_at "g"
      exact ⟨rfl, Nat.le_of_ble_eq_true rfl, h2 fun z => c2 (by have := z.2; omega)⟩
    · walk_at "g"
      exact h1 ⟨by omega, by omega⟩
  · walk_at "g"
    exact ⟨rfl, Nat.le_of_ble_eq_true rfl, h2 fun z => c1 (by have := z.1; omega)⟩
theorem len_check_gap (K : PySem.W.Frag) : ∀ vs H Q E, sp_check_gap K vs H Q E → vs.length = (["size", "gap"] : List Str).length := by
  rintro vs H Q E ⟨_, _, rfl, _⟩
  rfl
theorem rd_check_gap (T : Txt K mg) (vs : List V) (H : Hp) (Q : VK) (E : XK) (h : sp_check_gap K vs H Q E) : t_check_gap K E { nx := fun _ H' => Q .non H', rt := Q } (start ["size", "gap"] vs) H := by
  obtain ⟨n, g, rfl, h1, h2⟩ := h
  unfold t_check_gap
  walk_at "g"
  refine w_iteD (fun c1 => ?_) (fun c1 => ?_)
  · walk_at "g"
    refine w_iteN (fun c2 => ?_) (fun c2 => ?_)
    · walk_at "g"
      exact ⟨rfl, Nat.le_of_ble_eq_true rfl, h2 fun z => c2 z.2⟩
    · walk_at "g"
      exact h1 ⟨c1, c2⟩
  · walk_at "g"
    exact ⟨rfl, Nat.le_of_ble_eq_true rfl, h2 fun z => c1 z.1⟩
theorem len_Links_is_legal (K : PySem.W.Frag) : ∀ vs H Q E, sp_Links_is_legal K vs H Q E → vs.length = (["self", "operation"] : List Str).length := by
  rintro vs H Q E ⟨_, _, _, _, _, _, rfl, _⟩
  rfl
theorem rd_Links_is_legal (T : Txt K mg) (vs : List V) (H : Hp) (Q : VK) (E : XK) (h : sp_Links_is_legal K vs H Q E) : t_Links_is_legal K E { nx := fun _ H' => Q .non H', rt := Q } (start ["self", "operation"] vs) H := by
  obtain ⟨p, r, l, o, s, op, rfl, a, hi, k⟩ := h
  unfold t_Links_is_legal
  walk_at "g"
  refine w_fO T.cl_Links T.na_Links__out a ?_
  walk_at "g"
  rw [natAbs_if]
  have hlt : (op.natAbs : Int) < (s.O.length : Int) := by
    rw [a.wf.lO]
    have := hi.2
    omega
  refine w_ixL (SqL.of a.ho) (at_B (by omega) hlt) ?_
  walk_at "g"
  exact k
theorem len_Links_check (K : PySem.W.Frag) : ∀ vs H Q E, sp_Links_check K vs H Q E → vs.length = (["self", "operation", "index"] : List Str).length := by
  rintro vs H Q E ⟨_, _, _, _, _, _, _, rfl, _⟩
  rfl
theorem rd_Links_check (T : Txt K mg) (vs : List V) (H : Hp) (Q : VK) (E : XK) (h : sp_Links_check K vs H Q E) : t_Links_check K E { nx := fun _ H' => Q .non H', rt := Q } (start ["self", "operation", "index"] vs) H := by
  obtain ⟨p, r, l, o, s, op, i, rfl, a, h1, h2⟩ := h
  unfold t_Links_check
  walk_at "g"
  refine w_fS T.cl_Links T.na_Links_size a ?_
  walk_at "g"
  refine ⟨s.n, op, i, rfl, fun hi => ?_, fun hi => ?_⟩
  · walk_at "g"
    refine w_me a no_m ?_
    walk_at "g"
    refine ⟨p, r, l, o, s, op, rfl, a, hi, ?_⟩
    walk_at "g"
    refine w_iteN (fun c => ?_) (fun c => ?_)
    · walk_at "g"
      refine ⟨rfl, Nat.le_of_ble_eq_true rfl, ?_⟩
      have e := h2 fun z => c z.2
      unfold OpE at e
      rw [if_pos hi] at e
      exact e
    · walk_at "g"
      exact h1 ⟨hi, c⟩
  · have e := h2 fun z => hi z.1
    unfold OpE at e
    rw [if_neg hi] at e
    exact e
theorem len__law_same (n : Nat) (K : PySem.W.Frag) : ∀ vs H Q E, sp48_same n K vs H Q E → vs.length = (["told", "due"] : List Str).length := by
  rintro vs H Q E ⟨_, _, rfl, _⟩
  rfl
theorem rd__law_same (n : Nat) (T : Txt K mg) (vs : List V) (H : Hp) (Q : VK) (E : XK) (h : sp48_same (n + 1) K vs H Q E) : t__law_same K (sp48_same n K) E { nx := fun _ H' => Q .non H', rt := Q } (start ["told", "due", "k"] vs) H := by
  obtain ⟨x, y, rfl, hs, g⟩ := h
  unfold t__law_same
  rcases hs with ⟨rfl, ha⟩ | ⟨a, b, xs, ys, rfl, rfl, hab, hl, hm, hs⟩
  · match x, ha with
    | .non, _ =>
      walk_at "g"
      exact g
    | .bl k, _ =>
      walk_at "g"
      refine w_isN1 (by intro z; cases z) ?_
      walk_at "g"
      refine isi_at (r := true) (.inr (.inl ⟨k, rfl, rfl⟩)) (by decide +kernel) ?_
      walk_at "g"
      refine isi_at (r := true) (.inr (.inl ⟨k, rfl, rfl⟩)) (by decide +kernel) ?_
      walk_at "g"
      rw [decide_eq_true rfl]
      exact g
    | .int i, _ =>
      walk_at "g"
      refine isi_at (r := false) (.inr (.inr (.inl ⟨i, rfl, rfl⟩))) (by decide +kernel) ?_
      walk_at "g"
      refine isi_at (r := true) (.inr (.inr (.inl ⟨i, rfl, rfl⟩))) (by decide +kernel) ?_
      walk_at "g"
      refine isi_at (r := true) (.inr (.inr (.inl ⟨i, rfl, rfl⟩))) (by decide +kernel) ?_
      walk_at "g"
      refine isi_at (r := false) (.inr (.inr (.inl ⟨i, rfl, rfl⟩))) (by decide +kernel) ?_
      walk_at "g"
      rw [decide_eq_true rfl]
      exact g
    | .str t, _ =>
      walk_at "g"
      refine w_isN1 (by intro z; cases z) ?_
      walk_at "g"
      refine isi_at (r := false) (.inr (.inr (.inr ⟨t, rfl, rfl⟩))) (by decide +kernel) ?_
      walk_at "g"
      refine isi_at (r := false) (.inr (.inr (.inr ⟨t, rfl, rfl⟩))) (by decide +kernel) ?_
      walk_at "g"
      refine isi_at (r := true) (.inr (.inr (.inr ⟨t, rfl, rfl⟩))) (by decide +kernel) ?_
      walk_at "g"
      refine isi_at (r := true) (.inr (.inr (.inr ⟨t, rfl, rfl⟩))) (by decide +kernel) ?_
      walk_at "g"
      rw [decide_eq_true rfl]
      exact g
  · rcases hab with ⟨h1, h2⟩ | ⟨h1, h2⟩
    · walk_at "g"
      refine w_isiL (r := false) h2 (by decide +kernel) ?_
      walk_at "g"
      refine w_isiL (r := false) h2 (by decide +kernel) ?_
      walk_at "g"
      refine w_isiL (r := false) h2 (by decide +kernel) ?_
      walk_at "g"
      refine w_isiL (r := true) h2 (by decide +kernel) ?_
      walk_at "g"
      refine w_isiL (r := true) h1 (by decide +kernel) ?_
      walk_at "g"
      refine w_isiL (r := false) h2 (by decide +kernel) ?_
      walk_at "g"
      refine w_lenL (SqL.of h1) ?_
      walk_at "g"
      refine w_lenL (SqL.of h2) ?_
      walk_at "g"
      rw [hl, decide_eq_true rfl]
      walk_at "g"
      refine w_lenL (SqL.of h2) ?_
      walk_at "g"
      refine w_r1 (by omega) ?_
      refine lp_rng0 (fun i σ H' => H' = H ∧ ∃ v, σ = [some (.ref a), some (.ref b), v]) ⟨rfl, _, rfl⟩ ?_ ?_
      · rintro i σ' H' hi ⟨rfl, v, rfl⟩
        obtain ⟨u, hu⟩ : ∃ u, xs[i]? = some u := ⟨_, List.getElem?_eq_getElem (by omega)⟩
        obtain ⟨v', hv⟩ : ∃ u, ys[i]? = some u := ⟨_, List.getElem?_eq_getElem (by omega)⟩
        walk_at "g"
        refine w_ixL (SqL.of h1) (v := u) (by rw [atI_pos (by omega) (by omega), Int.toNat_natCast, hu]) ?_
        walk_at "g"
        refine w_ixL (SqL.of h2) (v := v') (by rw [atI_pos (by omega) (by omega), Int.toNat_natCast, hv]) ?_
        walk_at "g"
        refine ⟨u, v', rfl, hs i u v' hu hv, ?_⟩
        walk_at "g"
        exact ⟨rfl, _, rfl⟩
      · rintro σ' H' ⟨rfl, v, rfl⟩
        walk_at "g"
        exact g
    · walk_at "g"
      refine w_isiT (r := false) h2 (by decide +kernel) ?_
      walk_at "g"
      refine w_isiT (r := false) h2 (by decide +kernel) ?_
      walk_at "g"
      refine w_isiT (r := false) h2 (by decide +kernel) ?_
      walk_at "g"
      refine w_isiT (r := false) h2 (by decide +kernel) ?_
      walk_at "g"
      refine w_isiT (r := true) h2 (by decide +kernel) ?_
      walk_at "g"
      refine w_isiT (r := true) h1 (by decide +kernel) ?_
      walk_at "g"
      refine w_lenT (SqT.of h1) ?_
      walk_at "g"
      refine w_lenT (SqT.of h2) ?_
      walk_at "g"
      rw [hl, decide_eq_true rfl]
      walk_at "g"
      refine w_lenT (SqT.of h2) ?_
      walk_at "g"
      refine w_r1 (by omega) ?_
      refine lp_rng0 (fun i σ H' => H' = H ∧ ∃ v, σ = [some (.ref a), some (.ref b), v]) ⟨rfl, _, rfl⟩ ?_ ?_
      · rintro i σ' H' hi ⟨rfl, v, rfl⟩
        obtain ⟨u, hu⟩ : ∃ u, xs[i]? = some u := ⟨_, List.getElem?_eq_getElem (by omega)⟩
        obtain ⟨v', hv⟩ : ∃ u, ys[i]? = some u := ⟨_, List.getElem?_eq_getElem (by omega)⟩
        walk_at "g"
        refine w_ixT (SqT.of h1) (v := u) (by rw [atI_pos (by omega) (by omega), Int.toNat_natCast, hu]) ?_
        walk_at "g"
        refine w_ixT (SqT.of h2) (v := v') (by rw [atI_pos (by omega) (by omega), Int.toNat_natCast, hv]) ?_
        walk_at "g"
        refine ⟨u, v', rfl, hs i u v' hu hv, ?_⟩
        walk_at "g"
        exact ⟨rfl, _, rfl⟩
      · rintro σ' H' ⟨rfl, v, rfl⟩
        walk_at "g"
        exact g
end
end G
set_option Elab.async false
set_option linter.all false
set_option maxRecDepth 100000
set_option maxHeartbeats 4000000
namespace G
open PySem PySem.Spec PyProof.Rows L2
section
variable {P : Program} {w : World} {K : PySem.W.Frag} {mg : Str → Option Value} {base : Heap}
theorem ok__law_put {f : Addr} {fd : FuncData} (T : Txt K mg) (F : FunD K "_law_put" "_law_put" (defArgs s__law_put) (defBody s__law_put) (defScope s__law_put) [] [] f fd)  : FnOk P w K mg base (L2N.CX P w) 1 f fd ["state", "deed"] (sp48__law_put K) :=
  F.ok sc__law_put (len__law_put K) fun cdv A outer s H vs Q E hr h => ⟨t__law_put K E, pss_cons (ps_set (i := 2) sc__law_put.nd rfl (by first | exact Or.inl rfl | exact Or.inr rfl) (pe_callB call_absA (by rfl) T.b_abs (by decide +kernel) (pa_cons (pv 1) (pa_nil)))) (pss_cons (ps_set (i := 3) sc__law_put.nd rfl (by first | exact Or.inl rfl | exact Or.inr rfl) (pe_ix ix_seq (pe_ix ix_seq (pv 0) (pe_int) (fun _ _ => rfl)) (pv 2) (fun _ _ => rfl))) (pss_cons (ps_set (i := 4) sc__law_put.nd rfl (by first | exact Or.inl rfl | exact Or.inr rfl) (pe_ix ix_seq (pe_ix ix_seq (pv 0) (pe_int) (fun _ _ => rfl)) (pv 2) (fun _ _ => rfl))) (pss_cons (ps_if (pt_cmpR op_lt (pv 1) (pe_int) (nomark _)) (pss_cons (ps_asg (pv 4) (pg_sub (pe_ix ix_seq (pv 0) (pe_int) (fun _ _ => rfl)) (pv 3) set_list)) (pss_one (ps_asg (pv 3) (pg_sub (pe_ix ix_seq (pv 0) (pe_int) (fun _ _ => rfl)) (pv 4) set_list)))) (pss_cons (ps_asg (pv 2) (pg_sub (pe_ix ix_seq (pv 0) (pe_int) (fun _ _ => rfl)) (pv 3) set_list)) (pss_one (ps_asg (pv 2) (pg_sub (pe_ix ix_seq (pv 0) (pe_int) (fun _ _ => rfl)) (pv 4) set_list))))) (pss_one (ps_asg (pe_cmpR op_lt (pv 1) (pe_int) (nomark _)) (pg_sub (pe_ix ix_seq (pv 0) (pe_int) (fun _ _ => rfl)) (pv 2) set_list)))))), rd__law_put T vs H Q E h⟩
theorem ok__law_start {f : Addr} {fd : FuncData} (T : Txt K mg) (F : FunD K "_law_start" "_law_start" (defArgs s__law_start) (defBody s__law_start) (defScope s__law_start) [] [] f fd)  : FnOk P w K mg base (L2N.CX P w) 1 f fd ["many"] (sp48__law_start K) :=
  F.ok sc__law_start (len__law_start K) fun cdv A outer s H vs Q E hr h => ⟨t__law_start K E, pss_one (ps_ret (pe_lst (pa_cons (pe_lc (own := [("v", 1)]) (g := gName 1) (tt := tYes) (te := tOp rAddA (tVar 1) (tC (.int 1))) rfl sc__law_start.nd (pi_range1 rfl T.b_range (pa_cons (pe_op op_addA (pv 0) (pe_int)) (pa_nil))) (blkOk_by (own := [("v", 1)]) (N := ["many", "v"]) (sc := defScope s__law_start) (by decide +kernel)) (fun _ _ _ _ _ => pg_name (i := 1) sc__law_start.nd rfl (by first | exact Or.inl rfl | exact Or.inr rfl)) (fun _ _ _ _ _ => pts_nil) (fun _ _ _ _ _ => pe_op op_addA (pv 1) (pe_int))) (pa_cons (pe_lc (own := [("v", 1)]) (g := gName 1) (tt := tYes) (te := tOp rSubA (tVar 1) (tC (.int 1))) rfl sc__law_start.nd (pi_range1 rfl T.b_range (pa_cons (pe_op op_addA (pv 0) (pe_int)) (pa_nil))) (blkOk_by (own := [("v", 1)]) (N := ["many", "v"]) (sc := defScope s__law_start) (by decide +kernel)) (fun _ _ _ _ _ => pg_name (i := 1) sc__law_start.nd rfl (by first | exact Or.inl rfl | exact Or.inr rfl)) (fun _ _ _ _ _ => pts_nil) (fun _ _ _ _ _ => pe_op op_sub (pv 1) (pe_int))) (pa_cons (pe_op op_mulA (pe_lst (pa_cons (pe_bl) (pa_nil))) (pe_op op_addA (pv 0) (pe_int))) (pa_nil)))))), rd__law_start T vs H Q E h⟩
theorem ok__law_states {f : Addr} {fd : FuncData} (T : Txt K mg) (F : FunD K "_law_states" "_law_states" (defArgs s__law_states) (defBody s__law_states) (defScope s__law_states) [] [] f fd)  : FnOk P w K mg base (L2N.CX P w) 1 f fd ["state"] (sp48__law_states K) :=
  F.ok sc__law_states (len__law_states K) fun cdv A outer s H vs Q E hr h => ⟨t__law_states K E, pss_cons (ps_set (i := 1) sc__law_states.nd rfl (by first | exact Or.inl rfl | exact Or.inr rfl) (pe_lst (pa_nil))) (pss_cons (ps_for (passes_of rfl) rfl (pi_range1 rfl T.b_range (pa_cons (pe_callB call_lenA (by rfl) T.b_len (by decide +kernel) (pa_cons (pe_ix ix_seq (pv 0) (pe_int) (fun _ _ => rfl)) (pa_nil))) (pa_nil))) (pg_name (i := 2) sc__law_states.nd rfl (by first | exact Or.inl rfl | exact Or.inr rfl)) (pss_cons (ps_set (i := 3) sc__law_states.nd rfl (by first | exact Or.inl rfl | exact Or.inr rfl) (pe_cmpR (op_eqA hr) (pe_ix ix_seq (pe_ix ix_seq (pv 0) (pe_int) (fun _ _ => rfl)) (pv 2) (fun _ _ => rfl)) (pe_op op_addA (pv 2) (pe_int)) (nomark _))) (pss_cons (ps_set (i := 4) sc__law_states.nd rfl (by first | exact Or.inl rfl | exact Or.inr rfl) (pe_cmpR (op_eqA hr) (pe_ix ix_seq (pe_ix ix_seq (pv 0) (pe_int) (fun _ _ => rfl)) (pe_op op_addA (pv 2) (pe_int)) (fun _ _ => rfl)) (pv 2) (nomark _))) (pss_one (ps_expr (pe_bm PySem.F.plainAttrs_list PySem.F.slot_list_append PySem.F.type_list_append mt_append (pv 1) (pa_cons (pe_ifExp ((pw_and (pt_val (pv 3)) (pw_and1 (pt_val (pv 4)))).pt) (pe_str) (pe_ifExp (pt_val (pv 3)) (pe_str) (pe_ifExp (pt_val (pv 4)) (pe_str) (pe_str)))) (pa_nil)))))))) (pss_one (ps_ret (pv 1)))), rd__law_states T vs H Q E h⟩
theorem ok__law_book {f : Addr} {fd : FuncData} (T : Txt K mg) (F : FunD K "_law_book" "_law_book" (defArgs s__law_book) (defBody s__law_book) (defScope s__law_book) [] [] f fd) (c__law_put : Cal P w K mg base 1 "_law_put" ["state", "deed"] (sp48__law_put K)) (c__law_start : Cal P w K mg base 1 "_law_start" ["many"] (sp48__law_start K)) (c__law_states : Cal P w K mg base 1 "_law_states" ["state"] (sp48__law_states K)) : FnOk P w K mg base (L2N.CX P w) 2 f fd ["many", "row"] (sp48__law_book K) :=
  F.ok sc__law_book (len__law_book K) fun cdv A outer s H vs Q E hr h => ⟨t__law_book K E, pss_cons (ps_set (i := 2) sc__law_book.nd rfl (by first | exact Or.inl rfl | exact Or.inr rfl) (pe_cl c__law_start hr (by decide) (pat_of (W := fun cls d _ H => E cls d H) (L2N.takes_of rfl rfl rfl rfl)) (pa_cons (pv 0) (pa_nil)))) (pss_cons (ps_set (i := 3) sc__law_book.nd rfl (by first | exact Or.inl rfl | exact Or.inr rfl) (pe_op op_mulA (pe_lst (pa_cons (pe_un un_neg (pe_int)) (pa_nil))) (pe_op op_addA (pv 0) (pe_int)))) (pss_cons (ps_set (i := 4) sc__law_book.nd rfl (by first | exact Or.inl rfl | exact Or.inr rfl) (pe_lst (pa_nil))) (pss_cons (ps_set (i := 5) sc__law_book.nd rfl (by first | exact Or.inl rfl | exact Or.inr rfl) (pe_cl c__law_states hr (by decide) (pat_of (W := fun cls d _ H => E cls d H) (L2N.takes_of rfl rfl rfl rfl)) (pa_cons (pv 2) (pa_nil)))) (pss_cons (ps_for (passes_of rfl) rfl (pi_range1 rfl T.b_range (pa_cons (pe_callB call_lenA (by rfl) T.b_len (by decide +kernel) (pa_cons (pv 1) (pa_nil))) (pa_nil))) (pg_name (i := 6) sc__law_book.nd rfl (by first | exact Or.inl rfl | exact Or.inr rfl)) (pss_cons (ps_expr (pe_cl c__law_put hr (by decide) (pat_of (W := fun cls d _ H => E cls d H) (L2N.takes_of rfl rfl rfl rfl)) (pa_cons (pv 2) (pa_cons (pe_ix ix_seq (pv 1) (pv 6) (fun _ _ => rfl)) (pa_nil))))) (pss_cons (ps_set (i := 7) sc__law_book.nd rfl (by first | exact Or.inl rfl | exact Or.inr rfl) (pe_cl c__law_states hr (by decide) (pat_of (W := fun cls d _ H => E cls d H) (L2N.takes_of rfl rfl rfl rfl)) (pa_cons (pv 2) (pa_nil)))) (pss_cons (ps_for (passes_of rfl) rfl (pi_range1 rfl T.b_range (pa_cons (pe_op op_addA (pv 0) (pe_int)) (pa_nil))) (pg_name (i := 8) sc__law_book.nd rfl (by first | exact Or.inl rfl | exact Or.inr rfl)) (pss_one (ps_if (pt_cmpR (op_neA hr) (pe_ix ix_seq (pv 7) (pv 8) (fun _ _ => rfl)) (pe_ix ix_seq (pv 5) (pv 8) (fun _ _ => rfl)) (nomark _)) (pss_cons (ps_if (pt_cmpR (op_eqA hr) (pe_ix ix_seq (pv 7) (pv 8) (fun _ _ => rfl)) (pe_str) (nomark _)) (pss_one (ps_expr (pe_bm PySem.F.plainAttrs_list PySem.F.slot_list_append PySem.F.type_list_append mt_append (pv 4) (pa_cons (pe_tup (pa_cons (pv 8) (pa_cons (pe_ix ix_seq (pv 3) (pv 8) (fun _ _ => rfl)) (pa_cons (pv 6) (pa_nil))))) (pa_nil))))) (pss_nil)) (pss_one (ps_asg (pv 6) (pg_sub (pv 3) (pv 8) set_list)))) (pss_nil)))) (pss_one (ps_set (i := 5) sc__law_book.nd rfl (by first | exact Or.inl rfl | exact Or.inr rfl) (pv 7))))))) (pss_one (ps_ret (pe_tup (pa_cons (pv 2) (pa_cons (pv 3) (pa_cons (pv 4) (pa_nil))))))))))), rd__law_book T vs H Q E h⟩
theorem ok__law_box {f : Addr} {fd : FuncData} (T : Txt K mg) (F : FunD K "_law_box" "_law_box" (defArgs s__law_box) (defBody s__law_box) (defScope s__law_box) [] [] f fd)  : FnOk P w K mg base (L2N.CX P w) 1 f fd ["script", "start"] (sp48__law_box K) :=
  F.ok sc__law_box (len__law_box K) fun cdv A outer s H vs Q E hr h => ⟨t__law_box K E, pss_cons (ps_set (i := 2) sc__law_box.nd rfl (by first | exact Or.inl rfl | exact Or.inr rfl) (pe_slice sl_list (pv 0) (po_none) (po_some (pe_int)))) (pss_cons (ps_set (i := 3) sc__law_box.nd rfl (by first | exact Or.inl rfl | exact Or.inr rfl) (pv 1)) (pss_cons (ps_for (passes_of rfl) rfl (pi_list (pv 2)) (pg_name (i := 4) sc__law_box.nd rfl (by first | exact Or.inl rfl | exact Or.inr rfl)) (pss_one (ps_set (i := 3) sc__law_box.nd rfl (by first | exact Or.inl rfl | exact Or.inr rfl) (pe_op op_mod (pe_callTy call_intA (by rfl) T.b_int (by decide +kernel) (pa_cons (pe_op op_addA (pe_op op_addA (pe_op op_mulA (pv 3) (pe_int)) (pe_op op_mod (pe_callTy call_intA (by rfl) T.b_int (by decide +kernel) (pa_cons (pv 4) (pa_nil))) (pe_int))) (pe_int)) (pa_nil))) (pe_int))))) (pss_one (ps_ret (pe_lst (pa_cons (pe_lc (own := [("cell", 4)]) (g := gName 4) (tt := tTest (tOp rGeA (tVar 4) (tOp rPowA (tC (.int 10)) (tC (.int 18))))) (te := tVar 4) rfl sc__law_box.nd (pi_list (pv 2)) (blkOk_by (own := [("cell", 4)]) (N := ["script", "start", "cells", "seed", "cell"]) (sc := defScope s__law_box) (by decide +kernel)) (fun _ _ _ _ _ => pg_name (i := 4) sc__law_box.nd rfl (by first | exact Or.inl rfl | exact Or.inr rfl)) (fun _ _ _ _ _ => pts_one (pt_cmpR op_ge (pv 4) (pe_op op_pow (pe_int) (pe_int)) (nomark _))) (fun _ _ _ _ _ => pv 4)) (pa_cons (pe_int) (pa_cons (pv 3) (pa_cons (pe_int) (pa_nil)))))))))), rd__law_box T vs H Q E h⟩
theorem ok__law_draw {f : Addr} {fd : FuncData} (T : Txt K mg) (F : FunD K "_law_draw" "_law_draw" (defArgs s__law_draw) (defBody s__law_draw) (defScope s__law_draw) [] [] f fd)  : FnOk P w K mg base (L2N.CX P w) 1 f fd ["box", "many"] (sp48__law_draw K) :=
  F.ok sc__law_draw (len__law_draw K) fun cdv A outer s H vs Q E hr h => ⟨t__law_draw K E, pss_cons (ps_if (pt_tr (pe_ix ix_seq (pv 0) (pe_int) (fun _ _ => rfl)) (by intro _; rfl)) (pss_cons (ps_set (i := 2) sc__law_draw.nd rfl (by first | exact Or.inl rfl | exact Or.inr rfl) (pe_ix ix_seq (pe_ix ix_seq (pv 0) (pe_int) (fun _ _ => rfl)) (pe_int) (fun _ _ => rfl))) (pss_cons (ps_set (i := 3) sc__law_draw.nd rfl (by first | exact Or.inl rfl | exact Or.inr rfl) (pe_op op_fdiv (pv 2) (pv 1))) (pss_cons (ps_asg (pe_op op_addA (pe_ix ix_seq (pv 0) (pe_int) (fun _ _ => rfl)) (pe_int)) (pg_sub (pv 0) (pe_int) set_list)) (pss_cons (ps_if ((pw_or (pt_cmpR (op_eqA hr) (pv 3) (pe_int) (nomark _)) (pw_or1 (pt_cmpR (op_eqA hr) (pe_ix ix_seq (pv 0) (pe_int) (fun _ _ => rfl)) (pe_int) (nomark _)))).pt) (pss_cons (ps_asg (pe_slice sl_list (pe_ix ix_seq (pv 0) (pe_int) (fun _ _ => rfl)) (po_some (pe_int)) (po_none)) (pg_sub (pv 0) (pe_int) set_list)) (pss_one (ps_asg (pe_int) (pg_sub (pv 0) (pe_int) set_list)))) (pss_one (ps_asg (pe_op op_addA (pe_lst (pa_cons (pv 3) (pa_nil))) (pe_slice sl_list (pe_ix ix_seq (pv 0) (pe_int) (fun _ _ => rfl)) (po_some (pe_int)) (po_none))) (pg_sub (pv 0) (pe_int) set_list)))) (pss_one (ps_ret (pe_op op_mod (pe_callTy call_intA (by rfl) T.b_int (by decide +kernel) (pa_cons (pv 2) (pa_nil))) (pv 1)))))))) (pss_nil)) (pss_cons (ps_asg (pe_op op_addA (pe_ix ix_seq (pv 0) (pe_int) (fun _ _ => rfl)) (pe_int)) (pg_sub (pv 0) (pe_int) set_list)) (pss_cons (ps_asg (pe_op op_mod (pe_callTy call_intA (by rfl) T.b_int (by decide +kernel) (pa_cons (pe_op op_addA (pe_op op_addA (pe_op op_mulA (pe_ix ix_seq (pv 0) (pe_int) (fun _ _ => rfl)) (pe_int)) (pe_op op_mulA (pe_ix ix_seq (pv 0) (pe_int) (fun _ _ => rfl)) (pe_int))) (pe_int)) (pa_nil))) (pe_int)) (pg_sub (pv 0) (pe_int) set_list)) (pss_one (ps_ret (pe_op op_mod (pe_op op_fdiv (pe_op op_mod (pe_callTy call_intA (by rfl) T.b_int (by decide +kernel) (pa_cons (pe_op op_addA (pe_op op_mulA (pe_op op_fdiv (pe_ix ix_seq (pv 0) (pe_int) (fun _ _ => rfl)) (pe_int)) (pe_int)) (pe_op op_mulA (pe_ix ix_seq (pv 0) (pe_int) (fun _ _ => rfl)) (pe_ix ix_seq (pv 0) (pe_int) (fun _ _ => rfl)))) (pa_nil))) (pe_int)) (pe_int)) (pv 1)))))), rd__law_draw T vs H Q E h⟩
theorem ok__law_log {f : Addr} {fd : FuncData} (T : Txt K mg) (F : FunD K "_law_log" "_law_log" (defArgs s__law_log) (defBody s__law_log) (defScope s__law_log) [] [] f fd) (c__law_draw : Cal P w K mg base 1 "_law_draw" ["box", "many"] (sp48__law_draw K)) : FnOk P w K mg base (L2N.CX P w) 2 f fd ["box", "many", "limit"] (sp47__law_log K) :=
  F.ok sc__law_log (len__law_log K) fun cdv A outer s H vs Q E hr h => ⟨t__law_log K E, pss_cons (ps_if (pt_cmpR (op_eqA hr) (pv 1) (pe_int) (nomark _)) (pss_one (ps_ret (pe_lst (pa_nil)))) (pss_nil)) (pss_cons (ps_set (i := 3) sc__law_log.nd rfl (by first | exact Or.inl rfl | exact Or.inr rfl) (pe_lst (pa_nil))) (pss_cons (ps_set (i := 4) sc__law_log.nd rfl (by first | exact Or.inl rfl | exact Or.inr rfl) (pe_cl c__law_draw hr (by decide) (pat_of (W := fun cls d _ H => E cls d H) (L2N.takes_of rfl rfl rfl rfl)) (pa_cons (pv 0) (pa_cons (pv 1) (pa_nil))))) (pss_cons (ps_if ((pw_and (pt_cmpR op_gt (pv 1) (pe_int) (nomark _)) (pw_and1 (pt_cmpR (op_eqA hr) (pe_cl c__law_draw hr (by decide) (pat_of (W := fun cls d _ H => E cls d H) (L2N.takes_of rfl rfl rfl rfl)) (pa_cons (pv 0) (pa_cons (pe_int) (pa_nil)))) (pe_int) (nomark _)))).pt) (pss_cons (ps_set (i := 5) sc__law_log.nd rfl (by first | exact Or.inl rfl | exact Or.inr rfl) (pe_callB (call_min2A rfl) (by rfl) T.b_min (by decide +kernel) (pa_cons (pv 4) (pa_cons (pe_op op_sub (pv 1) (pe_int)) (pa_nil))))) (pss_cons (ps_set (i := 3) sc__law_log.nd rfl (by first | exact Or.inl rfl | exact Or.inr rfl) (pe_lst (pa_cons (pe_op op_sub (pe_un un_neg (pv 5)) (pe_int)) (pa_cons (pe_op op_sub (pe_un un_neg (pv 5)) (pe_int)) (pa_cons (pe_op op_addA (pv 5) (pe_int)) (pa_cons (pe_op op_sub (pe_un un_neg (pv 5)) (pe_int)) (pa_cons (pe_op op_sub (pe_un un_neg (pv 5)) (pe_int)) (pa_nil)))))))) (pss_cons (ps_if (pt_cmpR (op_eqA hr) (pe_cl c__law_draw hr (by decide) (pat_of (W := fun cls d _ H => E cls d H) (L2N.takes_of rfl rfl rfl rfl)) (pa_cons (pv 0) (pa_cons (pe_int) (pa_nil)))) (pe_int) (nomark _)) (pss_one (ps_set (i := 3) sc__law_log.nd rfl (by first | exact Or.inl rfl | exact Or.inr rfl) (pe_lst (pa_cons (pe_op op_sub (pe_un un_neg (pv 5)) (pe_int)) (pa_cons (pe_op op_sub (pe_un un_neg (pv 5)) (pe_int)) (pa_cons (pe_op op_addA (pv 5) (pe_int)) (pa_cons (pe_op op_sub (pe_un un_neg (pv 5)) (pe_int)) (pa_cons (pe_op op_sub (pe_un un_neg (pv 5)) (pe_int)) (pa_nil))))))))) (pss_nil)) (pss_cons (ps_set (i := 3) sc__law_log.nd rfl (by first | exact Or.inl rfl | exact Or.inr rfl) (pe_slice sl_list (pv 3) (po_none) (po_some (pe_op op_addA (pe_int) (pe_cl c__law_draw hr (by decide) (pat_of (W := fun cls d _ H => E cls d H) (L2N.takes_of rfl rfl rfl rfl)) (pa_cons (pv 0) (pa_cons (pe_int) (pa_nil)))))))) (pss_one (ps_if ((pw_and (pt_cmpR op_gt (pv 1) (pe_int) (nomark _)) (pw_and1 (pt_cmpR (op_eqA hr) (pe_cl c__law_draw hr (by decide) (pat_of (W := fun cls d _ H => E cls d H) (L2N.takes_of rfl rfl rfl rfl)) (pa_cons (pv 0) (pa_cons (pe_int) (pa_nil)))) (pe_int) (nomark _)))).pt) (pss_cons (ps_set (i := 5) sc__law_log.nd rfl (by first | exact Or.inl rfl | exact Or.inr rfl) (pe_callB (call_min2A rfl) (by rfl) T.b_min (by decide +kernel) (pa_cons (pv 4) (pa_cons (pe_op op_sub (pv 1) (pe_int)) (pa_nil))))) (pss_cons (ps_set (i := 3) sc__law_log.nd rfl (by first | exact Or.inl rfl | exact Or.inr rfl) (pe_lst (pa_cons (pe_un un_neg (pe_int)) (pa_cons (pe_un un_neg (pe_int)) (pa_cons (pe_int) (pa_cons (pe_un un_neg (pe_int)) (pa_cons (pe_un un_neg (pe_int)) (pa_cons (pe_un un_neg (pe_int)) (pa_cons (pe_int) (pa_cons (pe_un un_neg (pe_int)) (pa_cons (pe_un un_neg (pe_int)) (pa_nil)))))))))))) (pss_cons (ps_if (pt_cmpR (op_eqA hr) (pe_cl c__law_draw hr (by decide) (pat_of (W := fun cls d _ H => E cls d H) (L2N.takes_of rfl rfl rfl rfl)) (pa_cons (pv 0) (pa_cons (pe_int) (pa_nil)))) (pe_int) (nomark _)) (pss_one (ps_setLc (i := 3) (own := [("deed", 7)]) (g := gName 7) (tt := tYes) (te := tIf (tTest (tOp rGtA (tVar 7) (tC (.int 0)))) (tOp rSubA (tC (.int 8)) (tVar 7)) (tOp rSubA (tUn rNegA (tC (.int 8))) (tVar 7))) rfl sc__law_log.nd rfl rfl (sw_true rfl rfl rfl (by decide +kernel)) (pi_list (pv 3)) (blkOk_by (own := [("deed", 7)]) (N := ["box", "many", "limit", "row", "low", "at", "outs", "deed", "wide", "k", "node"]) (sc := defScope s__law_log) (by decide +kernel)) (fun _ _ _ _ _ => pg_name (i := 7) sc__law_log.nd rfl (by first | exact Or.inl rfl | exact Or.inr rfl)) (fun _ _ _ _ _ => pts_nil) (fun _ _ _ _ _ => pe_ifExp (pt_cmpR op_gt (pv 7) (pe_int) (nomark _)) (pe_op op_sub (pe_int) (pv 7)) (pe_op op_sub (pe_un un_neg (pe_int)) (pv 7))))) (pss_nil)) (pss_one (ps_setLc (i := 3) (own := [("deed", 7)]) (g := gName 7) (tt := tYes) (te := tIf (tTest (tOp rGtA (tVar 7) (tC (.int 0)))) (tOp rAddA (tVar 7) (tVar 5)) (tOp rSubA (tVar 7) (tVar 5))) rfl sc__law_log.nd rfl rfl (sw_true rfl rfl rfl (by decide +kernel)) (pi_list (pv 3)) (blkOk_by (own := [("deed", 7)]) (N := ["box", "many", "limit", "row", "low", "at", "outs", "deed", "wide", "k", "node"]) (sc := defScope s__law_log) (by decide +kernel)) (fun _ _ _ _ _ => pg_name (i := 7) sc__law_log.nd rfl (by first | exact Or.inl rfl | exact Or.inr rfl)) (fun _ _ _ _ _ => pts_nil) (fun _ _ _ _ _ => pe_ifExp (pt_cmpR op_gt (pv 7) (pe_int) (nomark _)) (pe_op op_addA (pv 7) (pv 5)) (pe_op op_sub (pv 7) (pv 5)))))))) (pss_nil))))))) (pss_nil)) (pss_cons (ps_set (i := 6) sc__law_log.nd rfl (by first | exact Or.inl rfl | exact Or.inr rfl) (pe_op op_mulA (pe_lst (pa_cons (pe_bl) (pa_nil))) (pe_op op_addA (pv 1) (pe_int)))) (pss_cons (ps_for (passes_of rfl) rfl (pi_list (pv 3)) (pg_name (i := 7) sc__law_log.nd rfl (by first | exact Or.inl rfl | exact Or.inr rfl)) (pss_one (ps_asg (pe_cmpR op_lt (pv 7) (pe_int) (nomark _)) (pg_sub (pv 6) (pe_callB call_absA (by rfl) T.b_abs (by decide +kernel) (pa_cons (pv 7) (pa_nil))) set_list)))) (pss_cons (ps_set (i := 8) sc__law_log.nd rfl (by first | exact Or.inl rfl | exact Or.inr rfl) (pe_op op_addA (pe_int) (pe_cl c__law_draw hr (by decide) (pat_of (W := fun cls d _ H => E cls d H) (L2N.takes_of rfl rfl rfl rfl)) (pa_cons (pv 0) (pa_cons (pe_callB (call_min2A rfl) (by rfl) T.b_min (by decide +kernel) (pa_cons (pv 1) (pa_cons (pe_int) (pa_nil)))) (pa_nil)))))) (pss_cons (ps_for (passes_of rfl) rfl (pi_range1 rfl T.b_range (pa_cons (pe_cl c__law_draw hr (by decide) (pat_of (W := fun cls d _ H => E cls d H) (L2N.takes_of rfl rfl rfl rfl)) (pa_cons (pv 0) (pa_cons (pe_op op_addA (pv 2) (pe_int)) (pa_nil)))) (pa_nil))) (pg_name (i := 9) sc__law_log.nd rfl (by first | exact Or.inl rfl | exact Or.inr rfl)) (pss_cons (ps_set (i := 10) sc__law_log.nd rfl (by first | exact Or.inl rfl | exact Or.inr rfl) (pe_op op_addA (pe_int) (pe_op op_mod (pe_callTy call_intA (by rfl) T.b_int (by decide +kernel) (pa_cons (pe_op op_addA (pv 4) (pe_cl c__law_draw hr (by decide) (pat_of (W := fun cls d _ H => E cls d H) (L2N.takes_of rfl rfl rfl rfl)) (pa_cons (pv 0) (pa_cons (pv 8) (pa_nil))))) (pa_nil))) (pv 1)))) (pss_cons (ps_if (pt_cmpR (op_eqA hr) (pe_cl c__law_draw hr (by decide) (pat_of (W := fun cls d _ H => E cls d H) (L2N.takes_of rfl rfl rfl rfl)) (pa_cons (pv 0) (pa_cons (pe_int) (pa_nil)))) (pe_int) (nomark _)) (pss_one (ps_set (i := 10) sc__law_log.nd rfl (by first | exact Or.inl rfl | exact Or.inr rfl) (pe_op op_addA (pe_int) (pe_cl c__law_draw hr (by decide) (pat_of (W := fun cls d _ H => E cls d H) (L2N.takes_of rfl rfl rfl rfl)) (pa_cons (pv 0) (pa_cons (pv 1) (pa_nil))))))) (pss_nil)) (pss_cons (ps_expr (pe_bm PySem.F.plainAttrs_list PySem.F.slot_list_append PySem.F.type_list_append mt_append (pv 3) (pa_cons (pe_ifExp (pt_val (pe_ix ix_seq (pv 6) (pv 10) (fun _ _ => rfl))) (pv 10) (pe_un un_neg (pv 10))) (pa_nil)))) (pss_one (ps_asg (pe_not (pe_ix ix_seq (pv 6) (pv 10) (fun _ _ => rfl))) (pg_sub (pv 6) (pv 10) set_list))))))) (pss_one (ps_ret (pv 3)))))))))), rd__law_log T vs H Q E h⟩
theorem ok__law_bent {f : Addr} {fd : FuncData} (T : Txt K mg) (F : FunD K "_law_bent" "_law_bent" (defArgs s__law_bent) (defBody s__law_bent) (defScope s__law_bent) [] [] f fd) (c__law_draw : Cal P w K mg base 1 "_law_draw" ["box", "many"] (sp48__law_draw K)) : FnOk P w K mg base (L2N.CX P w) 2 f fd ["box", "many", "found"] (sp__law_bent K) :=
  F.ok sc__law_bent (len__law_bent K) fun cdv A outer s H vs Q E hr h => ⟨t__law_bent K E, pss_cons (ps_set (i := 3) sc__law_bent.nd rfl (by first | exact Or.inl rfl | exact Or.inr rfl) (pe_lst (pa_cons (pe_cl c__law_draw hr (by decide) (pat_of (W := fun cls d _ H => E cls d H) (L2N.takes_of rfl rfl rfl rfl)) (pa_cons (pv 0) (pa_cons (pe_op op_addA (pv 1) (pe_int)) (pa_nil)))) (pa_cons (pe_cl c__law_draw hr (by decide) (pat_of (W := fun cls d _ H => E cls d H) (L2N.takes_of rfl rfl rfl rfl)) (pa_cons (pv 0) (pa_cons (pe_int) (pa_nil)))) (pa_cons (pe_cl c__law_draw hr (by decide) (pat_of (W := fun cls d _ H => E cls d H) (L2N.takes_of rfl rfl rfl rfl)) (pa_cons (pv 0) (pa_cons (pe_int) (pa_nil)))) (pa_nil)))))) (pss_cons (ps_if (pt_tr (pv 2) (by intro _; rfl)) (pss_one (ps_set (i := 3) sc__law_bent.nd rfl (by first | exact Or.inl rfl | exact Or.inr rfl) (pe_callTy call_listA (by rfl) T.b_list (by decide +kernel) (pa_cons (pe_ix ix_seq (pv 2) (pe_cl c__law_draw hr (by decide) (pat_of (W := fun cls d _ H => E cls d H) (L2N.takes_of rfl rfl rfl rfl)) (pa_cons (pv 0) (pa_cons (pe_callB call_lenA (by rfl) T.b_len (by decide +kernel) (pa_cons (pv 2) (pa_nil))) (pa_nil)))) (fun _ _ => rfl)) (pa_nil))))) (pss_nil)) (pss_cons (ps_set (i := 4) sc__law_bent.nd rfl (by first | exact Or.inl rfl | exact Or.inr rfl) (pe_cl c__law_draw hr (by decide) (pat_of (W := fun cls d _ H => E cls d H) (L2N.takes_of rfl rfl rfl rfl)) (pa_cons (pv 0) (pa_cons (pe_int) (pa_nil))))) (pss_cons (ps_asg (pe_op op_addA (pe_ix ix_seq (pv 3) (pv 4) (fun _ _ => rfl)) (pe_ix ix_seq (pe_lst (pa_cons (pe_un un_neg (pe_int)) (pa_cons (pe_int) (pa_cons (pe_int) (pa_cons (pe_un un_neg (pv 1)) (pa_nil)))))) (pe_cl c__law_draw hr (by decide) (pat_of (W := fun cls d _ H => E cls d H) (L2N.takes_of rfl rfl rfl rfl)) (pa_cons (pv 0) (pa_cons (pe_int) (pa_nil)))) (fun _ _ => rfl))) (pg_sub (pv 3) (pv 4) set_list)) (pss_one (ps_ret (pe_callTy call_tupA (by rfl) T.b_tuple (by decide +kernel) (pa_cons (pv 3) (pa_nil)))))))), rd__law_bent T vs H Q E h⟩
theorem ok_check_size {f : Addr} {fd : FuncData} (T : Txt K mg) (F : FunD K "check_size" "check_size" (defArgs s_check_size) (defBody s_check_size) (defScope s_check_size) [] [] f fd) (x_BadSize : ExM P w K mg base 1 "BadSize" (He.ga K "BadSize") ["size"]) : FnOk P w K mg base (L2N.CX P w) 3 f fd ["size"] (sp_check_size K) :=
  F.ok sc_check_size (len_check_size K) fun cdv A outer s H vs Q E hr h => ⟨t_check_size K E, pss_one (ps_if (pt_not (pt_chain op_le op_le (pe_int) (pv 0) (pe_cc T.cc_Links_MOST (pe_own T.g_Links)))) (pss_one (ps_rz x_BadSize rfl (L2N.takes_of rfl rfl rfl rfl) hr (by decide) (pa_cons (pv 0) (pa_nil)))) (pss_nil)), rd_check_size T vs H Q E h⟩
theorem ok_Links___init__ {f : Addr} {fd : FuncData} (T : Txt K mg) (F : FunD K "__init__" "Links.__init__" (defArgs s_Links___init__) (defBody s_Links___init__) (defScope s_Links___init__) [] [] f fd) (c_check_size : Cal P w K mg base 3 "check_size" ["size"] (sp_check_size K)) : FnOk P w K mg base (L2N.CX P w) 4 f fd ["self", "size"] (sp_Links___init__ K) :=
  F.ok sc_Links___init__ (len_Links___init__ K) fun cdv A outer s H vs Q E hr h => ⟨t_Links___init__ K E, pss_cons (ps_expr (pe_cl c_check_size hr (by decide) (pat_of (W := fun cls d _ H => E cls d H) (L2N.takes_of rfl rfl rfl rfl)) (pa_cons (pv 1) (pa_nil)))) (pss_cons (ps_fld (pv 0) (pv 1) rfl) (pss_cons (ps_fld (pv 0) (pe_listRg rfl rfl T.b_list (prg_2 rfl T.b_range (pe_int) (pe_op op_addA (pv 1) (pe_int)))) rfl) (pss_cons (ps_fld (pv 0) (pe_op op_addA (pe_lst (pa_cons (pe_int) (pa_nil))) (pe_listRg rfl rfl T.b_list (prg_1 rfl T.b_range (pe_op op_addA (pv 1) (pe_int))))) rfl) (pss_one (ps_fld (pv 0) (pe_op op_mulA (pe_lst (pa_cons (pe_bl) (pa_nil))) (pe_op op_addA (pv 1) (pe_int))) rfl))))), rd_Links___init__ T vs H Q E h⟩
theorem ok_Links_is_legal {f : Addr} {fd : FuncData} (T : Txt K mg) (F : FunD K "is_legal" "Links.is_legal" (defArgs s_Links_is_legal) (defBody s_Links_is_legal) (defScope s_Links_is_legal) [] [] f fd)  : FnOk P w K mg base (L2N.CX P w) 1 f fd ["self", "operation"] (sp_Links_is_legal K) :=
  F.ok sc_Links_is_legal (len_Links_is_legal K) fun cdv A outer s H vs Q E hr h => ⟨t_Links_is_legal K E, pss_one (ps_ret (pe_cmpR (op_eqA hr) (pe_ix ix_seq (pe_fld (pv 0) rfl) (pe_callB call_absA (by rfl) T.b_abs (by decide +kernel) (pa_cons (pv 1) (pa_nil))) (fun _ _ => rfl)) (pe_cmpR op_gt (pv 1) (pe_int) (nomark _)) (nomark _))), rd_Links_is_legal T vs H Q E h⟩
theorem ok_check_operation {f : Addr} {fd : FuncData} (T : Txt K mg) (F : FunD K "check_operation" "check_operation" (defArgs s_check_operation) (defBody s_check_operation) (defScope s_check_operation) [] [] f fd) (x_BadOperation : ExM P w K mg base 1 "BadOperation" (He.ga K "BadOperation") ["operation", "index"]) : FnOk P w K mg base (L2N.CX P w) 3 f fd ["size", "operation", "index"] (sp_check_operation K) :=
  F.ok sc_check_operation (len_check_operation K) fun cdv A outer s H vs Q E hr h => ⟨t_check_operation K E, pss_one (ps_if (pt_not (pt_chain op_le op_le (pe_int) (pe_callB call_absA (by rfl) T.b_abs (by decide +kernel) (pa_cons (pv 1) (pa_nil))) (pv 0))) (pss_one (ps_rz x_BadOperation rfl (L2N.takes_of rfl rfl rfl rfl) hr (by decide) (pa_cons (pv 1) (pa_cons (pv 2) (pa_nil))))) (pss_nil)), rd_check_operation T vs H Q E h⟩
theorem ok_Links_check {f : Addr} {fd : FuncData} (T : Txt K mg) (F : FunD K "check" "Links.check" (defArgs s_Links_check) (defBody s_Links_check) (defScope s_Links_check) [] [] f fd) (c_Links_is_legal : Met P w K mg base 1 (He.ga K "Links") "is_legal" ["self", "operation"] (sp_Links_is_legal K)) (c_check_operation : Cal P w K mg base 3 "check_operation" ["size", "operation", "index"] (sp_check_operation K)) (x_Illegal : ExM P w K mg base 1 "Illegal" (He.ga K "Illegal") ["operation", "index"]) : FnOk P w K mg base (L2N.CX P w) 4 f fd ["self", "operation", "index"] (sp_Links_check K) :=
  F.ok sc_Links_check (len_Links_check K) fun cdv A outer s H vs Q E hr h => ⟨t_Links_check K E, pss_cons (ps_expr (pe_cl c_check_operation hr (by decide) (pat_of (W := fun cls d _ H => E cls d H) (L2N.takes_of rfl rfl rfl rfl)) (pa_cons (pe_fld (pv 0) rfl) (pa_cons (pv 1) (pa_cons (pv 2) (pa_nil)))))) (pss_one (ps_if (pt_not (pt_val (pe_mt c_Links_is_legal T.cl_Links hr (by decide) (pat_of (W := fun cls d _ H => E cls d H) (L2N.takes_of rfl rfl rfl rfl)) (pv 0) (pa_cons (pv 1) (pa_nil))))) (pss_one (ps_rz x_Illegal rfl (L2N.takes_of rfl rfl rfl rfl) hr (by decide) (pa_cons (pv 1) (pa_cons (pv 2) (pa_nil))))) (pss_nil))), rd_Links_check T vs H Q E h⟩
theorem ok_Links_apply_at {f : Addr} {fd : FuncData} (T : Txt K mg) (F : FunD K "apply_at" "Links.apply_at" (defArgs s_Links_apply_at) (defBody s_Links_apply_at) (defScope s_Links_apply_at) [] [] f fd) (c_Links_check : Met P w K mg base 4 (He.ga K "Links") "check" ["self", "operation", "index"] (sp_Links_check K)) : FnOk P w K mg base (L2N.CX P w) 5 f fd ["self", "operation", "index"] (sp_Links_apply_at K) :=
  F.ok sc_Links_apply_at (len_Links_apply_at K) fun cdv A outer s H vs Q E hr h => ⟨t_Links_apply_at K E, pss_cons (ps_expr (pe_mt c_Links_check T.cl_Links hr (by decide) (pat_of (W := fun cls d _ H => E cls d H) (L2N.takes_of rfl rfl rfl rfl)) (pv 0) (pa_cons (pv 1) (pa_cons (pv 2) (pa_nil))))) (pss_cons (ps_set (i := 3) sc_Links_apply_at.nd rfl (by first | exact Or.inl rfl | exact Or.inr rfl) (pe_callB call_absA (by rfl) T.b_abs (by decide +kernel) (pa_cons (pv 1) (pa_nil)))) (pss_cons (ps_set (i := 4) sc_Links_apply_at.nd rfl (by first | exact Or.inl rfl | exact Or.inr rfl) (pe_ix ix_seq (pe_fld (pv 0) rfl) (pv 3) (fun _ _ => rfl))) (pss_cons (ps_set (i := 5) sc_Links_apply_at.nd rfl (by first | exact Or.inl rfl | exact Or.inr rfl) (pe_ix ix_seq (pe_fld (pv 0) rfl) (pv 3) (fun _ _ => rfl))) (pss_cons (ps_set (i := 6) sc_Links_apply_at.nd rfl (by first | exact Or.inl rfl | exact Or.inr rfl) (pe_cmpR op_lt (pv 1) (pe_int) (nomark _))) (pss_cons (ps_asg (pe_ifExp (pt_val (pv 6)) (pv 5) (pv 3)) (pg_sub (pe_fld (pv 0) rfl) (pv 4) set_list)) (pss_cons (ps_asg (pe_ifExp (pt_val (pv 6)) (pv 4) (pv 3)) (pg_sub (pe_fld (pv 0) rfl) (pv 5) set_list)) (pss_one (ps_asg (pv 6) (pg_sub (pe_fld (pv 0) rfl) (pv 3) set_list))))))))), rd_Links_apply_at T vs H Q E h⟩
theorem ok_Links_left {f : Addr} {fd : FuncData} (T : Txt K mg) (F : FunD K "left" "Links.left" (defArgs s_Links_left) (defBody s_Links_left) (defScope s_Links_left) [] [] f fd) (x_BadNode : ExM P w K mg base 1 "BadNode" (He.ga K "BadNode") ["node"]) : FnOk P w K mg base (L2N.CX P w) 3 f fd ["self", "node"] (sp_Links_left K) :=
  F.ok sc_Links_left (len_Links_left K) fun cdv A outer s H vs Q E hr h => ⟨t_Links_left K E, pss_cons (ps_if (pt_not (pt_chain op_le op_le (pe_int) (pv 1) (pe_op op_addA (pe_fld (pv 0) rfl) (pe_int)))) (pss_one (ps_rz x_BadNode rfl (L2N.takes_of rfl rfl rfl rfl) hr (by decide) (pa_cons (pv 1) (pa_nil)))) (pss_nil)) (pss_one (ps_ret (pe_ix ix_seq (pe_fld (pv 0) rfl) (pv 1) (fun _ _ => rfl)))), rd_Links_left T vs H Q E h⟩
theorem ok_Links_right {f : Addr} {fd : FuncData} (T : Txt K mg) (F : FunD K "right" "Links.right" (defArgs s_Links_right) (defBody s_Links_right) (defScope s_Links_right) [] [] f fd) (x_BadNode : ExM P w K mg base 1 "BadNode" (He.ga K "BadNode") ["node"]) : FnOk P w K mg base (L2N.CX P w) 3 f fd ["self", "node"] (sp_Links_right K) :=
  F.ok sc_Links_right (len_Links_right K) fun cdv A outer s H vs Q E hr h => ⟨t_Links_right K E, pss_cons (ps_if (pt_not (pt_chain op_le op_le (pe_int) (pv 1) (pe_fld (pv 0) rfl))) (pss_one (ps_rz x_BadNode rfl (L2N.takes_of rfl rfl rfl rfl) hr (by decide) (pa_cons (pv 1) (pa_nil)))) (pss_nil)) (pss_one (ps_ret (pe_ix ix_seq (pe_fld (pv 0) rfl) (pv 1) (fun _ _ => rfl)))), rd_Links_right T vs H Q E h⟩
theorem ok_check_gap {f : Addr} {fd : FuncData} (T : Txt K mg) (F : FunD K "check_gap" "check_gap" (defArgs s_check_gap) (defBody s_check_gap) (defScope s_check_gap) [] [] f fd) (x_BadGap : ExM P w K mg base 1 "BadGap" (He.ga K "BadGap") ["gap"]) : FnOk P w K mg base (L2N.CX P w) 3 f fd ["size", "gap"] (sp_check_gap K) :=
  F.ok sc_check_gap (len_check_gap K) fun cdv A outer s H vs Q E hr h => ⟨t_check_gap K E, pss_one (ps_if (pt_not (pt_chain op_le op_le (pe_int) (pv 1) (pv 0))) (pss_one (ps_rz x_BadGap rfl (L2N.takes_of rfl rfl rfl rfl) hr (by decide) (pa_cons (pv 1) (pa_nil)))) (pss_nil)), rd_check_gap T vs H Q E h⟩
theorem ok_gap_state {f : Addr} {fd : FuncData} (T : Txt K mg) (F : FunD K "gap_state" "gap_state" (defArgs s_gap_state) (defBody s_gap_state) (defScope s_gap_state) [] [] f fd) (c_Links_left : Met P w K mg base 3 (He.ga K "Links") "left" ["self", "node"] (sp_Links_left K)) (c_Links_right : Met P w K mg base 3 (He.ga K "Links") "right" ["self", "node"] (sp_Links_right K)) (c_check_gap : Cal P w K mg base 3 "check_gap" ["size", "gap"] (sp_check_gap K)) : FnOk P w K mg base (L2N.CX P w) 4 f fd ["links", "gap"] (sp_gap_state K) :=
  F.ok sc_gap_state (len_gap_state K) fun cdv A outer s H vs Q E hr h => ⟨t_gap_state K E, pss_cons (ps_expr (pe_cl c_check_gap hr (by decide) (pat_of (W := fun cls d _ H => E cls d H) (L2N.takes_of rfl rfl rfl rfl)) (pa_cons (pe_fld (pv 0) rfl) (pa_cons (pv 1) (pa_nil))))) (pss_cons (ps_set (i := 2) sc_gap_state.nd rfl (by first | exact Or.inl rfl | exact Or.inr rfl) (pe_cmpR (op_eqA hr) (pe_mt c_Links_right T.cl_Links hr (by decide) (pat_of (W := fun cls d _ H => E cls d H) (L2N.takes_of rfl rfl rfl rfl)) (pv 0) (pa_cons (pv 1) (pa_nil))) (pe_op op_addA (pv 1) (pe_int)) (nomark _))) (pss_cons (ps_set (i := 3) sc_gap_state.nd rfl (by first | exact Or.inl rfl | exact Or.inr rfl) (pe_cmpR (op_eqA hr) (pe_mt c_Links_left T.cl_Links hr (by decide) (pat_of (W := fun cls d _ H => E cls d H) (L2N.takes_of rfl rfl rfl rfl)) (pv 0) (pa_cons (pe_op op_addA (pv 1) (pe_int)) (pa_nil))) (pv 1) (nomark _))) (pss_cons (ps_if (pt_val (pv 2)) (pss_one (ps_ret (pe_ifExp (pt_val (pv 3)) (pe_str) (pe_str)))) (pss_nil)) (pss_one (ps_ret (pe_ifExp (pt_val (pv 3)) (pe_str) (pe_str))))))), rd_gap_state T vs H Q E h⟩
theorem ok_gap_states {f : Addr} {fd : FuncData} (T : Txt K mg) (F : FunD K "gap_states" "gap_states" (defArgs s_gap_states) (defBody s_gap_states) (defScope s_gap_states) [] [] f fd) (c_gap_state : Cal P w K mg base 4 "gap_state" ["links", "gap"] (sp_gap_state K)) : FnOk P w K mg base (L2N.CX P w) 5 f fd ["links"] (sp_gap_states K) :=
  F.ok sc_gap_states (len_gap_states K) fun cdv A outer s H vs Q E hr h => ⟨t_gap_states K E, pss_one (ps_ret (pe_lc (own := [("gap", 1)]) (g := gName 1) (tt := tYes) (te := tCl (sp_gap_state K) (fun _ => E0) (tCons (tVar 0) (tCons (tVar 1) (tNil)))) rfl sc_gap_states.nd (pi_range1 rfl T.b_range (pa_cons (pe_op op_addA (pe_fld (pv 0) rfl) (pe_int)) (pa_nil))) (blkOk_by (own := [("gap", 1)]) (N := ["links", "gap"]) (sc := defScope s_gap_states) (by decide +kernel)) (fun _ _ _ _ _ => pg_name (i := 1) sc_gap_states.nd rfl (by first | exact Or.inl rfl | exact Or.inr rfl)) (fun _ _ _ _ _ => pts_nil) (fun _ _ _ _ _ => pe_cl c_gap_state hr (by decide) (pat_no) (pa_cons (pv 0) (pa_cons (pv 1) (pa_nil)))))), rd_gap_states T vs H Q E h⟩
theorem ok__certificates {f : Addr} {fd : FuncData} (T : Txt K mg) (F : FunD K "_certificates" "_certificates" (defArgs s__certificates) (defBody s__certificates) (defScope s__certificates) [] [] f fd) (m_Links : Mak P w K mg base 4 "Links" (He.ga K "Links") ["self", "size"] (sp_Links___init__ K)) (c_Links_apply_at : Met P w K mg base 5 (He.ga K "Links") "apply_at" ["self", "operation", "index"] (sp_Links_apply_at K)) (c_gap_states : Cal P w K mg base 5 "gap_states" ["links"] (sp_gap_states K)) : FnOk P w K mg base (L2N.CX P w) 6 f fd ["size", "log"] (sp__certificates K) :=
  F.ok sc__certificates (len__certificates K) fun cdv A outer s H vs Q E hr h => ⟨t__certificates K E, pss_cons (ps_set (i := 2) sc__certificates.nd rfl (by first | exact Or.inl rfl | exact Or.inr rfl) (pe_mk m_Links hr (by decide) (pat_of (W := fun cls d _ H => E cls d H) (L2N.takes_of rfl rfl rfl rfl)) (pa_cons (pv 0) (pa_nil)))) (pss_cons (ps_set (i := 3) sc__certificates.nd rfl (by first | exact Or.inl rfl | exact Or.inr rfl) (pe_cl c_gap_states hr (by decide) (pat_of (W := fun cls d _ H => E cls d H) (L2N.takes_of rfl rfl rfl rfl)) (pa_cons (pv 2) (pa_nil)))) (pss_cons (ps_set (i := 4) sc__certificates.nd rfl (by first | exact Or.inl rfl | exact Or.inr rfl) (pe_lc (own := [("_", 10)]) (g := gName 10) (tt := tYes) (te := tLst (tNil)) rfl sc__certificates.nd (pi_list (pv 3)) (blkOk_by (own := [("_", 10)]) (N := ["size", "log", "links", "states", "changes", "index", "operation", "before", "gap", "state", "_"]) (sc := defScope s__certificates) (by decide +kernel)) (fun _ _ _ _ _ => pg_name (i := 10) sc__certificates.nd rfl (by first | exact Or.inl rfl | exact Or.inr rfl)) (fun _ _ _ _ _ => pts_nil) (fun _ _ _ _ _ => pe_lst (pa_nil)))) (pss_cons (ps_for (passes_of rfl) rfl (pi_enum (by rfl) T.b_enumerate (pa_cons (pv 1) (pa_nil))) (pg_tup (by rfl) (pgs_cons (pg_name (i := 5) sc__certificates.nd rfl (by first | exact Or.inl rfl | exact Or.inr rfl)) (pgs_cons (pg_name (i := 6) sc__certificates.nd rfl (by first | exact Or.inl rfl | exact Or.inr rfl)) (pgs_nil)))) (pss_cons (ps_expr (pe_mt c_Links_apply_at T.cl_Links hr (by decide) (pat_of (W := fun cls d _ H => E cls d H) (L2N.takes_of rfl rfl rfl rfl)) (pv 2) (pa_cons (pv 6) (pa_cons (pv 5) (pa_nil))))) (pss_cons (ps_set (i := 7) sc__certificates.nd rfl (by first | exact Or.inl rfl | exact Or.inr rfl) (pv 3)) (pss_cons (ps_set (i := 3) sc__certificates.nd rfl (by first | exact Or.inl rfl | exact Or.inr rfl) (pe_cl c_gap_states hr (by decide) (pat_of (W := fun cls d _ H => E cls d H) (L2N.takes_of rfl rfl rfl rfl)) (pa_cons (pv 2) (pa_nil)))) (pss_one (ps_for (passes_of rfl) rfl (pi_enum (by rfl) T.b_enumerate (pa_cons (pv 3) (pa_nil))) (pg_tup (by rfl) (pgs_cons (pg_name (i := 8) sc__certificates.nd rfl (by first | exact Or.inl rfl | exact Or.inr rfl)) (pgs_cons (pg_name (i := 9) sc__certificates.nd rfl (by first | exact Or.inl rfl | exact Or.inr rfl)) (pgs_nil)))) (pss_one (ps_if (pt_cmpR (op_neA hr) (pv 9) (pe_ix ix_seq (pv 7) (pv 8) (fun _ _ => rfl)) (nomark _)) (pss_one (ps_expr (pe_bm PySem.F.plainAttrs_list PySem.F.slot_list_append PySem.F.type_list_append mt_append (pe_ix ix_seq (pv 4) (pv 8) (fun _ _ => rfl)) (pa_cons (pv 5) (pa_nil))))) (pss_nil))))))))) (pss_one (ps_ret (pe_lc (own := [("gap", 8), ("state", 9)]) (g := gTup K 2 (gCons (gName 8) (gCons (gName 9) (gNil)))) (tt := tTest (tOp (rEqA K) (tVar 9) (tC (.str "lost")))) (te := tTup (tCons (tVar 8) (tCons (tOp (rIx K) (tOp (rIx K) (tVar 4) (tVar 8)) (tUn rNegA (tC (.int 2)))) (tCons (tOp (rIx K) (tOp (rIx K) (tVar 4) (tVar 8)) (tUn rNegA (tC (.int 1)))) (tNil))))) rfl sc__certificates.nd (pi_enum (by rfl) T.b_enumerate (pa_cons (pv 3) (pa_nil))) (blkOk_by (own := [("gap", 8), ("state", 9)]) (N := ["size", "log", "links", "states", "changes", "index", "operation", "before", "gap", "state", "_"]) (sc := defScope s__certificates) (by decide +kernel)) (fun _ _ _ _ _ => pg_tup (by rfl) (pgs_cons (pg_name (i := 8) sc__certificates.nd rfl (by first | exact Or.inl rfl | exact Or.inr rfl)) (pgs_cons (pg_name (i := 9) sc__certificates.nd rfl (by first | exact Or.inl rfl | exact Or.inr rfl)) (pgs_nil)))) (fun _ _ _ _ _ => pts_one (pt_cmpR (op_eqA hr) (pv 9) (pe_str) (nomark _))) (fun _ _ _ _ _ => pe_tup (pa_cons (pv 8) (pa_cons (pe_ix ix_seq (pe_ix ix_seq (pv 4) (pv 8) (fun _ _ => rfl)) (pe_un un_neg (pe_int)) (fun _ _ => rfl)) (pa_cons (pe_ix ix_seq (pe_ix ix_seq (pv 4) (pv 8) (fun _ _ => rfl)) (pe_un un_neg (pe_int)) (fun _ _ => rfl)) (pa_nil))))))))))), rd__certificates T vs H Q E h⟩
theorem ok_loss_certificate {f : Addr} {fd : FuncData} (T : Txt K mg) (F : FunD K "loss_certificate" "loss_certificate" (defArgs s_loss_certificate) (defBody s_loss_certificate) (defScope s_loss_certificate) [] [] f fd) (c__certificates : Cal P w K mg base 6 "_certificates" ["size", "log"] (sp__certificates K)) (x_NotLost : ExM P w K mg base 1 "NotLost" (He.ga K "NotLost") ["size"]) : FnOk P w K mg base (L2N.CX P w) 7 f fd ["size", "log"] (sp_loss_certificate K) :=
  F.ok sc_loss_certificate (len_loss_certificate K) fun cdv A outer s H vs Q E hr h => ⟨t_loss_certificate K E, pss_cons (ps_set (i := 2) sc_loss_certificate.nd rfl (by first | exact Or.inl rfl | exact Or.inr rfl) (pe_cl c__certificates hr (by decide) (pat_of (W := fun cls d _ H => E cls d H) (L2N.takes_of rfl rfl rfl rfl)) (pa_cons (pv 0) (pa_cons (pv 1) (pa_nil))))) (pss_cons (ps_if (pt_not (pt_tr (pv 2) (by intro _; rfl))) (pss_one (ps_rz x_NotLost rfl (L2N.takes_of rfl rfl rfl rfl) hr (by decide) (pa_cons (pv 0) (pa_nil)))) (pss_nil)) (pss_one (ps_ret (pe_ix ix_seq (pv 2) (pe_int) (fun _ _ => rfl))))), rd_loss_certificate T vs H Q E h⟩
theorem ok__law_paper {f : Addr} {fd : FuncData} (T : Txt K mg) (F : FunD K "_law_paper" "_law_paper" (defArgs s__law_paper) (defBody s__law_paper) (defScope s__law_paper) [] [] f fd) (c_loss_certificate : Cal P w K mg base 7 "loss_certificate" ["size", "log"] (sp_loss_certificate K)) : FnOk P w K mg base (L2N.CX P w) 8 f fd ["many", "row"] (sp48__law_paper K) :=
  F.ok sc__law_paper (len__law_paper K) fun cdv A outer s H vs Q E hr h => ⟨t__law_paper K E, pss_cons (L2N.ps_try_as (i := 3) (tb := fun (W : WX) => tAsg (tCl (sp_loss_certificate K) (WE W) (tCons (tVar 0) (tCons (tVar 1) (tNil)))) (gName 2)) (ts := fun a cls d => tRet (tTup (tCons (tC (.str "refused")) (tCons (tXat K a cls d "size" (tVar 3)) (tCons (tCB (rIsX K cls d a) (tCons (tVar 3) (tCons (tC (.ref (He.ga K "LinkError"))) (tNil)))) (tCons (tCB (rIsX K cls d a) (tCons (tVar 3) (tCons (tC (.ref (He.ga K "LogError"))) (tNil)))) (tNil))))))) (Wout := fun cls d _ H => E cls d H) rfl rfl sc__law_paper.nd rfl rfl ⟨rfl, by decide, .inl T.g_NotLost⟩ (L2N.takes_of rfl rfl rfl rfl) (fun W pn xe tk2 po2 => pss_one (ps_set (i := 2) sc__law_paper.nd rfl (by first | exact Or.inl rfl | exact Or.inr rfl) (pe_cl c_loss_certificate hr (by decide) (pat_of tk2) (pa_cons (pv 0) (pa_cons (pv 1) (pa_nil)))))) (fun a oe cls d pn hz hf => pss_one (ps_ret (pe_tup (pa_cons (pe_str) (pa_cons (pe_xat hz.zc hf (pv 3)) (pa_cons (pe_callB (call_isX hz.zc hf) (by rfl) T.b_isinstance (by decide +kernel) (pa_cons (pv 3) (pa_cons (pe_own T.g_LinkError) (pa_nil)))) (pa_cons (pe_callB (call_isX hz.zc hf) (by rfl) T.b_isinstance (by decide +kernel) (pa_cons (pv 3) (pa_cons (pe_own T.g_LogError) (pa_nil)))) (pa_nil))))))))) (pss_one (ps_ret (pe_tup (pa_cons (pe_str) (pa_cons (pv 2) (pa_nil)))))), rd__law_paper T vs H Q E h⟩
theorem ok__law_same_1 {f : Addr} {fd : FuncData} (T : Txt K mg) (F : FunD K "_law_same" "_law_same" (defArgs s__law_same) (defBody s__law_same) (defScope s__law_same) [] [] f fd)  (c__law_same : Cal P w K mg base 1 "_law_same" ["told", "due"] (sp48_same 0 K)) : FnOk P w K mg base (L2N.CX P w) 2 f fd ["told", "due"] (sp48_same 1 K) :=
  F.ok sc__law_same (len__law_same 1 K) fun cdv A outer s H vs Q E hr h => ⟨t__law_same K (sp48_same 0 K) E, pss_cons (ps_if (pt_cmpR op_isNA (pv 1) (pe_non) (nomark _)) (pss_one (ps_ret (pe_cmpR op_isNA (pv 0) (pe_non) (nomark _)))) (pss_nil)) (pss_cons (ps_if (pt_val (pe_callB call_isi (by rfl) T.b_isinstance (by decide +kernel) (pa_cons (pv 1) (pa_cons (pe_ty "bool" T.b_bool (by decide +kernel)) (pa_nil))))) (pss_one (ps_ret (pe_and (pe_callB call_isi (by rfl) T.b_isinstance (by decide +kernel) (pa_cons (pv 0) (pa_cons (pe_ty "bool" T.b_bool (by decide +kernel)) (pa_nil)))) (pe_one (pe_cmpR (op_eqA hr) (pv 0) (pv 1) (nomark _)))))) (pss_nil)) (pss_cons (ps_if (pt_val (pe_callB call_isi (by rfl) T.b_isinstance (by decide +kernel) (pa_cons (pv 1) (pa_cons (pe_ty "int" T.b_int (by decide +kernel)) (pa_nil))))) (pss_one (ps_ret (pe_and (pe_callB call_isi (by rfl) T.b_isinstance (by decide +kernel) (pa_cons (pv 0) (pa_cons (pe_ty "int" T.b_int (by decide +kernel)) (pa_nil)))) (pe_and (pe_not (pe_callB call_isi (by rfl) T.b_isinstance (by decide +kernel) (pa_cons (pv 0) (pa_cons (pe_ty "bool" T.b_bool (by decide +kernel)) (pa_nil))))) (pe_one (pe_cmpR (op_eqA hr) (pv 0) (pv 1) (nomark _))))))) (pss_nil)) (pss_cons (ps_if (pt_val (pe_callB call_isi (by rfl) T.b_isinstance (by decide +kernel) (pa_cons (pv 1) (pa_cons (pe_ty "str" T.b_str (by decide +kernel)) (pa_nil))))) (pss_one (ps_ret (pe_and (pe_callB call_isi (by rfl) T.b_isinstance (by decide +kernel) (pa_cons (pv 0) (pa_cons (pe_ty "str" T.b_str (by decide +kernel)) (pa_nil)))) (pe_one (pe_cmpR (op_eqA hr) (pv 0) (pv 1) (nomark _)))))) (pss_nil)) (pss_cons (ps_if ((pw_and (pt_val (pe_callB call_isi (by rfl) T.b_isinstance (by decide +kernel) (pa_cons (pv 1) (pa_cons (pe_ty "list" T.b_list (by decide +kernel)) (pa_nil))))) (pw_and1 (pt_not (pt_val (pe_callB call_isi (by rfl) T.b_isinstance (by decide +kernel) (pa_cons (pv 0) (pa_cons (pe_ty "list" T.b_list (by decide +kernel)) (pa_nil)))))))).pt) (pss_one (ps_ret (pe_bl))) (pss_nil)) (pss_cons (ps_if ((pw_and (pt_val (pe_callB call_isi (by rfl) T.b_isinstance (by decide +kernel) (pa_cons (pv 1) (pa_cons (pe_ty "tuple" T.b_tuple (by decide +kernel)) (pa_nil))))) (pw_and1 (pt_not (pt_val (pe_callB call_isi (by rfl) T.b_isinstance (by decide +kernel) (pa_cons (pv 0) (pa_cons (pe_ty "tuple" T.b_tuple (by decide +kernel)) (pa_nil)))))))).pt) (pss_one (ps_ret (pe_bl))) (pss_nil)) (pss_cons (ps_if (pt_cmpR (op_neA hr) (pe_callB call_lenA (by rfl) T.b_len (by decide +kernel) (pa_cons (pv 0) (pa_nil))) (pe_callB call_lenA (by rfl) T.b_len (by decide +kernel) (pa_cons (pv 1) (pa_nil))) (nomark _)) (pss_one (ps_ret (pe_bl))) (pss_nil)) (pss_cons (ps_for (passes_of rfl) rfl (pi_range1 rfl T.b_range (pa_cons (pe_callB call_lenA (by rfl) T.b_len (by decide +kernel) (pa_cons (pv 1) (pa_nil))) (pa_nil))) (pg_name (i := 2) sc__law_same.nd rfl (by first | exact Or.inl rfl | exact Or.inr rfl)) (pss_one (ps_if (pt_not (pt_val (pe_cl c__law_same hr (by decide) (pat_of (W := fun cls d _ H => E cls d H) (L2N.takes_of rfl rfl rfl rfl)) (pa_cons (pe_ix ix_seq (pv 0) (pv 2) (fun _ _ => rfl)) (pa_cons (pe_ix ix_seq (pv 1) (pv 2) (fun _ _ => rfl)) (pa_nil)))))) (pss_one (ps_ret (pe_bl))) (pss_nil)))) (pss_one (ps_ret (pe_bl)))))))))), rd__law_same 0 T vs H Q E h⟩
theorem ok__law_same_2 {f : Addr} {fd : FuncData} (T : Txt K mg) (F : FunD K "_law_same" "_law_same" (defArgs s__law_same) (defBody s__law_same) (defScope s__law_same) [] [] f fd)  (c__law_same : Cal P w K mg base 2 "_law_same" ["told", "due"] (sp48_same 1 K)) : FnOk P w K mg base (L2N.CX P w) 3 f fd ["told", "due"] (sp48_same 2 K) :=
  F.ok sc__law_same (len__law_same 2 K) fun cdv A outer s H vs Q E hr h => ⟨t__law_same K (sp48_same 1 K) E, pss_cons (ps_if (pt_cmpR op_isNA (pv 1) (pe_non) (nomark _)) (pss_one (ps_ret (pe_cmpR op_isNA (pv 0) (pe_non) (nomark _)))) (pss_nil)) (pss_cons (ps_if (pt_val (pe_callB call_isi (by rfl) T.b_isinstance (by decide +kernel) (pa_cons (pv 1) (pa_cons (pe_ty "bool" T.b_bool (by decide +kernel)) (pa_nil))))) (pss_one (ps_ret (pe_and (pe_callB call_isi (by rfl) T.b_isinstance (by decide +kernel) (pa_cons (pv 0) (pa_cons (pe_ty "bool" T.b_bool (by decide +kernel)) (pa_nil)))) (pe_one (pe_cmpR (op_eqA hr) (pv 0) (pv 1) (nomark _)))))) (pss_nil)) (pss_cons (ps_if (pt_val (pe_callB call_isi (by rfl) T.b_isinstance (by decide +kernel) (pa_cons (pv 1) (pa_cons (pe_ty "int" T.b_int (by decide +kernel)) (pa_nil))))) (pss_one (ps_ret (pe_and (pe_callB call_isi (by rfl) T.b_isinstance (by decide +kernel) (pa_cons (pv 0) (pa_cons (pe_ty "int" T.b_int (by decide +kernel)) (pa_nil)))) (pe_and (pe_not (pe_callB call_isi (by rfl) T.b_isinstance (by decide +kernel) (pa_cons (pv 0) (pa_cons (pe_ty "bool" T.b_bool (by decide +kernel)) (pa_nil))))) (pe_one (pe_cmpR (op_eqA hr) (pv 0) (pv 1) (nomark _))))))) (pss_nil)) (pss_cons (ps_if (pt_val (pe_callB call_isi (by rfl) T.b_isinstance (by decide +kernel) (pa_cons (pv 1) (pa_cons (pe_ty "str" T.b_str (by decide +kernel)) (pa_nil))))) (pss_one (ps_ret (pe_and (pe_callB call_isi (by rfl) T.b_isinstance (by decide +kernel) (pa_cons (pv 0) (pa_cons (pe_ty "str" T.b_str (by decide +kernel)) (pa_nil)))) (pe_one (pe_cmpR (op_eqA hr) (pv 0) (pv 1) (nomark _)))))) (pss_nil)) (pss_cons (ps_if ((pw_and (pt_val (pe_callB call_isi (by rfl) T.b_isinstance (by decide +kernel) (pa_cons (pv 1) (pa_cons (pe_ty "list" T.b_list (by decide +kernel)) (pa_nil))))) (pw_and1 (pt_not (pt_val (pe_callB call_isi (by rfl) T.b_isinstance (by decide +kernel) (pa_cons (pv 0) (pa_cons (pe_ty "list" T.b_list (by decide +kernel)) (pa_nil)))))))).pt) (pss_one (ps_ret (pe_bl))) (pss_nil)) (pss_cons (ps_if ((pw_and (pt_val (pe_callB call_isi (by rfl) T.b_isinstance (by decide +kernel) (pa_cons (pv 1) (pa_cons (pe_ty "tuple" T.b_tuple (by decide +kernel)) (pa_nil))))) (pw_and1 (pt_not (pt_val (pe_callB call_isi (by rfl) T.b_isinstance (by decide +kernel) (pa_cons (pv 0) (pa_cons (pe_ty "tuple" T.b_tuple (by decide +kernel)) (pa_nil)))))))).pt) (pss_one (ps_ret (pe_bl))) (pss_nil)) (pss_cons (ps_if (pt_cmpR (op_neA hr) (pe_callB call_lenA (by rfl) T.b_len (by decide +kernel) (pa_cons (pv 0) (pa_nil))) (pe_callB call_lenA (by rfl) T.b_len (by decide +kernel) (pa_cons (pv 1) (pa_nil))) (nomark _)) (pss_one (ps_ret (pe_bl))) (pss_nil)) (pss_cons (ps_for (passes_of rfl) rfl (pi_range1 rfl T.b_range (pa_cons (pe_callB call_lenA (by rfl) T.b_len (by decide +kernel) (pa_cons (pv 1) (pa_nil))) (pa_nil))) (pg_name (i := 2) sc__law_same.nd rfl (by first | exact Or.inl rfl | exact Or.inr rfl)) (pss_one (ps_if (pt_not (pt_val (pe_cl c__law_same hr (by decide) (pat_of (W := fun cls d _ H => E cls d H) (L2N.takes_of rfl rfl rfl rfl)) (pa_cons (pe_ix ix_seq (pv 0) (pv 2) (fun _ _ => rfl)) (pa_cons (pe_ix ix_seq (pv 1) (pv 2) (fun _ _ => rfl)) (pa_nil)))))) (pss_one (ps_ret (pe_bl))) (pss_nil)))) (pss_one (ps_ret (pe_bl)))))))))), rd__law_same 1 T vs H Q E h⟩
theorem ok__law_same_3 {f : Addr} {fd : FuncData} (T : Txt K mg) (F : FunD K "_law_same" "_law_same" (defArgs s__law_same) (defBody s__law_same) (defScope s__law_same) [] [] f fd)  (c__law_same : Cal P w K mg base 3 "_law_same" ["told", "due"] (sp48_same 2 K)) : FnOk P w K mg base (L2N.CX P w) 4 f fd ["told", "due"] (sp48_same 3 K) :=
  F.ok sc__law_same (len__law_same 3 K) fun cdv A outer s H vs Q E hr h => ⟨t__law_same K (sp48_same 2 K) E, pss_cons (ps_if (pt_cmpR op_isNA (pv 1) (pe_non) (nomark _)) (pss_one (ps_ret (pe_cmpR op_isNA (pv 0) (pe_non) (nomark _)))) (pss_nil)) (pss_cons (ps_if (pt_val (pe_callB call_isi (by rfl) T.b_isinstance (by decide +kernel) (pa_cons (pv 1) (pa_cons (pe_ty "bool" T.b_bool (by decide +kernel)) (pa_nil))))) (pss_one (ps_ret (pe_and (pe_callB call_isi (by rfl) T.b_isinstance (by decide +kernel) (pa_cons (pv 0) (pa_cons (pe_ty "bool" T.b_bool (by decide +kernel)) (pa_nil)))) (pe_one (pe_cmpR (op_eqA hr) (pv 0) (pv 1) (nomark _)))))) (pss_nil)) (pss_cons (ps_if (pt_val (pe_callB call_isi (by rfl) T.b_isinstance (by decide +kernel) (pa_cons (pv 1) (pa_cons (pe_ty "int" T.b_int (by decide +kernel)) (pa_nil))))) (pss_one (ps_ret (pe_and (pe_callB call_isi (by rfl) T.b_isinstance (by decide +kernel) (pa_cons (pv 0) (pa_cons (pe_ty "int" T.b_int (by decide +kernel)) (pa_nil)))) (pe_and (pe_not (pe_callB call_isi (by rfl) T.b_isinstance (by decide +kernel) (pa_cons (pv 0) (pa_cons (pe_ty "bool" T.b_bool (by decide +kernel)) (pa_nil))))) (pe_one (pe_cmpR (op_eqA hr) (pv 0) (pv 1) (nomark _))))))) (pss_nil)) (pss_cons (ps_if (pt_val (pe_callB call_isi (by rfl) T.b_isinstance (by decide +kernel) (pa_cons (pv 1) (pa_cons (pe_ty "str" T.b_str (by decide +kernel)) (pa_nil))))) (pss_one (ps_ret (pe_and (pe_callB call_isi (by rfl) T.b_isinstance (by decide +kernel) (pa_cons (pv 0) (pa_cons (pe_ty "str" T.b_str (by decide +kernel)) (pa_nil)))) (pe_one (pe_cmpR (op_eqA hr) (pv 0) (pv 1) (nomark _)))))) (pss_nil)) (pss_cons (ps_if ((pw_and (pt_val (pe_callB call_isi (by rfl) T.b_isinstance (by decide +kernel) (pa_cons (pv 1) (pa_cons (pe_ty "list" T.b_list (by decide +kernel)) (pa_nil))))) (pw_and1 (pt_not (pt_val (pe_callB call_isi (by rfl) T.b_isinstance (by decide +kernel) (pa_cons (pv 0) (pa_cons (pe_ty "list" T.b_list (by decide +kernel)) (pa_nil)))))))).pt) (pss_one (ps_ret (pe_bl))) (pss_nil)) (pss_cons (ps_if ((pw_and (pt_val (pe_callB call_isi (by rfl) T.b_isinstance (by decide +kernel) (pa_cons (pv 1) (pa_cons (pe_ty "tuple" T.b_tuple (by decide +kernel)) (pa_nil))))) (pw_and1 (pt_not (pt_val (pe_callB call_isi (by rfl) T.b_isinstance (by decide +kernel) (pa_cons (pv 0) (pa_cons (pe_ty "tuple" T.b_tuple (by decide +kernel)) (pa_nil)))))))).pt) (pss_one (ps_ret (pe_bl))) (pss_nil)) (pss_cons (ps_if (pt_cmpR (op_neA hr) (pe_callB call_lenA (by rfl) T.b_len (by decide +kernel) (pa_cons (pv 0) (pa_nil))) (pe_callB call_lenA (by rfl) T.b_len (by decide +kernel) (pa_cons (pv 1) (pa_nil))) (nomark _)) (pss_one (ps_ret (pe_bl))) (pss_nil)) (pss_cons (ps_for (passes_of rfl) rfl (pi_range1 rfl T.b_range (pa_cons (pe_callB call_lenA (by rfl) T.b_len (by decide +kernel) (pa_cons (pv 1) (pa_nil))) (pa_nil))) (pg_name (i := 2) sc__law_same.nd rfl (by first | exact Or.inl rfl | exact Or.inr rfl)) (pss_one (ps_if (pt_not (pt_val (pe_cl c__law_same hr (by decide) (pat_of (W := fun cls d _ H => E cls d H) (L2N.takes_of rfl rfl rfl rfl)) (pa_cons (pe_ix ix_seq (pv 0) (pv 2) (fun _ _ => rfl)) (pa_cons (pe_ix ix_seq (pv 1) (pv 2) (fun _ _ => rfl)) (pa_nil)))))) (pss_one (ps_ret (pe_bl))) (pss_nil)))) (pss_one (ps_ret (pe_bl)))))))))), rd__law_same 2 T vs H Q E h⟩
theorem ok__law_same_4 {f : Addr} {fd : FuncData} (T : Txt K mg) (F : FunD K "_law_same" "_law_same" (defArgs s__law_same) (defBody s__law_same) (defScope s__law_same) [] [] f fd)  (c__law_same : Cal P w K mg base 4 "_law_same" ["told", "due"] (sp48_same 3 K)) : FnOk P w K mg base (L2N.CX P w) 5 f fd ["told", "due"] (sp48_same 4 K) :=
  F.ok sc__law_same (len__law_same 4 K) fun cdv A outer s H vs Q E hr h => ⟨t__law_same K (sp48_same 3 K) E, pss_cons (ps_if (pt_cmpR op_isNA (pv 1) (pe_non) (nomark _)) (pss_one (ps_ret (pe_cmpR op_isNA (pv 0) (pe_non) (nomark _)))) (pss_nil)) (pss_cons (ps_if (pt_val (pe_callB call_isi (by rfl) T.b_isinstance (by decide +kernel) (pa_cons (pv 1) (pa_cons (pe_ty "bool" T.b_bool (by decide +kernel)) (pa_nil))))) (pss_one (ps_ret (pe_and (pe_callB call_isi (by rfl) T.b_isinstance (by decide +kernel) (pa_cons (pv 0) (pa_cons (pe_ty "bool" T.b_bool (by decide +kernel)) (pa_nil)))) (pe_one (pe_cmpR (op_eqA hr) (pv 0) (pv 1) (nomark _)))))) (pss_nil)) (pss_cons (ps_if (pt_val (pe_callB call_isi (by rfl) T.b_isinstance (by decide +kernel) (pa_cons (pv 1) (pa_cons (pe_ty "int" T.b_int (by decide +kernel)) (pa_nil))))) (pss_one (ps_ret (pe_and (pe_callB call_isi (by rfl) T.b_isinstance (by decide +kernel) (pa_cons (pv 0) (pa_cons (pe_ty "int" T.b_int (by decide +kernel)) (pa_nil)))) (pe_and (pe_not (pe_callB call_isi (by rfl) T.b_isinstance (by decide +kernel) (pa_cons (pv 0) (pa_cons (pe_ty "bool" T.b_bool (by decide +kernel)) (pa_nil))))) (pe_one (pe_cmpR (op_eqA hr) (pv 0) (pv 1) (nomark _))))))) (pss_nil)) (pss_cons (ps_if (pt_val (pe_callB call_isi (by rfl) T.b_isinstance (by decide +kernel) (pa_cons (pv 1) (pa_cons (pe_ty "str" T.b_str (by decide +kernel)) (pa_nil))))) (pss_one (ps_ret (pe_and (pe_callB call_isi (by rfl) T.b_isinstance (by decide +kernel) (pa_cons (pv 0) (pa_cons (pe_ty "str" T.b_str (by decide +kernel)) (pa_nil)))) (pe_one (pe_cmpR (op_eqA hr) (pv 0) (pv 1) (nomark _)))))) (pss_nil)) (pss_cons (ps_if ((pw_and (pt_val (pe_callB call_isi (by rfl) T.b_isinstance (by decide +kernel) (pa_cons (pv 1) (pa_cons (pe_ty "list" T.b_list (by decide +kernel)) (pa_nil))))) (pw_and1 (pt_not (pt_val (pe_callB call_isi (by rfl) T.b_isinstance (by decide +kernel) (pa_cons (pv 0) (pa_cons (pe_ty "list" T.b_list (by decide +kernel)) (pa_nil)))))))).pt) (pss_one (ps_ret (pe_bl))) (pss_nil)) (pss_cons (ps_if ((pw_and (pt_val (pe_callB call_isi (by rfl) T.b_isinstance (by decide +kernel) (pa_cons (pv 1) (pa_cons (pe_ty "tuple" T.b_tuple (by decide +kernel)) (pa_nil))))) (pw_and1 (pt_not (pt_val (pe_callB call_isi (by rfl) T.b_isinstance (by decide +kernel) (pa_cons (pv 0) (pa_cons (pe_ty "tuple" T.b_tuple (by decide +kernel)) (pa_nil)))))))).pt) (pss_one (ps_ret (pe_bl))) (pss_nil)) (pss_cons (ps_if (pt_cmpR (op_neA hr) (pe_callB call_lenA (by rfl) T.b_len (by decide +kernel) (pa_cons (pv 0) (pa_nil))) (pe_callB call_lenA (by rfl) T.b_len (by decide +kernel) (pa_cons (pv 1) (pa_nil))) (nomark _)) (pss_one (ps_ret (pe_bl))) (pss_nil)) (pss_cons (ps_for (passes_of rfl) rfl (pi_range1 rfl T.b_range (pa_cons (pe_callB call_lenA (by rfl) T.b_len (by decide +kernel) (pa_cons (pv 1) (pa_nil))) (pa_nil))) (pg_name (i := 2) sc__law_same.nd rfl (by first | exact Or.inl rfl | exact Or.inr rfl)) (pss_one (ps_if (pt_not (pt_val (pe_cl c__law_same hr (by decide) (pat_of (W := fun cls d _ H => E cls d H) (L2N.takes_of rfl rfl rfl rfl)) (pa_cons (pe_ix ix_seq (pv 0) (pv 2) (fun _ _ => rfl)) (pa_cons (pe_ix ix_seq (pv 1) (pv 2) (fun _ _ => rfl)) (pa_nil)))))) (pss_one (ps_ret (pe_bl))) (pss_nil)))) (pss_one (ps_ret (pe_bl)))))))))), rd__law_same 3 T vs H Q E h⟩
theorem ok_is_plain_integer {f : Addr} {fd : FuncData} (T : Txt K mg) (F : FunD K "is_plain_integer" "is_plain_integer" (defArgs s_is_plain_integer) (defBody s_is_plain_integer) (defScope s_is_plain_integer) [] [] f fd)  : FnOk P w K mg base (L2N.CX P w) 1 f fd ["value"] (sp_is_plain_integer K) :=
  F.ok sc_is_plain_integer (len_is_plain_integer K) fun cdv A outer s H vs Q E hr h => ⟨t_is_plain_integer K E, pss_one (ps_ret (pe_and (pe_callB call_isi (by rfl) T.b_isinstance (by decide +kernel) (pa_cons (pv 0) (pa_cons (pe_ty "int" T.b_int (by decide +kernel)) (pa_nil)))) (pe_one (pe_not (pe_callB call_isi (by rfl) T.b_isinstance (by decide +kernel) (pa_cons (pv 0) (pa_cons (pe_ty "bool" T.b_bool (by decide +kernel)) (pa_nil)))))))), rd_is_plain_integer T vs H Q E h⟩
theorem ok_is_loss_certificate {f : Addr} {fd : FuncData} (T : Txt K mg) (F : FunD K "is_loss_certificate" "is_loss_certificate" (defArgs s_is_loss_certificate) (defBody s_is_loss_certificate) (defScope s_is_loss_certificate) [] [] f fd) (c__certificates : Cal P w K mg base 6 "_certificates" ["size", "log"] (sp__certificates K)) (c_is_plain_integer : Cal P w K mg base 1 "is_plain_integer" ["value"] (sp_is_plain_integer K)) : FnOk P w K mg base (L2N.CX P w) 7 f fd ["size", "log", "value"] (sp_is_loss_certificate K) :=
  F.ok sc_is_loss_certificate (len_is_loss_certificate K) fun cdv A outer s H vs Q E hr h => ⟨t_is_loss_certificate K E, pss_cons (ps_set (i := 3) sc_is_loss_certificate.nd rfl (by first | exact Or.inl rfl | exact Or.inr rfl) (pe_cl c__certificates hr (by decide) (pat_of (W := fun cls d _ H => E cls d H) (L2N.takes_of rfl rfl rfl rfl)) (pa_cons (pv 0) (pa_cons (pv 1) (pa_nil))))) (pss_cons (ps_if ((pw_or (pt_not (pt_val (pe_callB call_isi (by rfl) T.b_isinstance (by decide +kernel) (pa_cons (pv 2) (pa_cons (pe_ty "tuple" T.b_tuple (by decide +kernel)) (pa_nil)))))) (pw_or1 (pt_cmpR (op_neA hr) (pe_callB call_lenA (by rfl) T.b_len (by decide +kernel) (pa_cons (pv 2) (pa_nil))) (pe_int) (nomark _)))).pt) (pss_one (ps_ret (pe_bl))) (pss_nil)) (pss_one (ps_ret (pe_and (pe_callB (cr_all rfl) (by rfl) T.b_all (by decide +kernel) (pa_cons (pe_lc (own := [("member", 4)]) (g := gName 4) (tt := tYes) (te := tCl (sp_is_plain_integer K) (fun _ => E0) (tCons (tVar 4) (tNil))) rfl sc_is_loss_certificate.nd (pi_tup (pv 2)) (blkOk_by (own := [("member", 4)]) (N := ["size", "log", "value", "certificates", "member"]) (sc := defScope s_is_loss_certificate) (by decide +kernel)) (fun _ _ _ _ _ => pg_name (i := 4) sc_is_loss_certificate.nd rfl (by first | exact Or.inl rfl | exact Or.inr rfl)) (fun _ _ _ _ _ => pts_nil) (fun _ _ _ _ _ => pe_cl c_is_plain_integer hr (by decide) (pat_no) (pa_cons (pv 4) (pa_nil)))) (pa_nil))) (pe_one (pe_cmpR (op_inDA hr) (pv 2) (pv 3) (rfl))))))), rd_is_loss_certificate T vs H Q E h⟩
theorem ok__law_papers {f : Addr} {fd : FuncData} (T : Txt K mg) (F : FunD K "_law_papers" "_law_papers" (defArgs s__law_papers) (defBody s__law_papers) (defScope s__law_papers) [] [] f fd) (c__law_bent : Cal P w K mg base 2 "_law_bent" ["box", "many", "found"] (sp__law_bent K)) (c__law_paper : Cal P w K mg base 8 "_law_paper" ["many", "row"] (sp48__law_paper K)) (c__law_same : Cal P w K mg base 5 "_law_same" ["told", "due"] ((sp48_same 4) K)) (c_is_loss_certificate : Cal P w K mg base 7 "is_loss_certificate" ["size", "log", "value"] (sp_is_loss_certificate K)) : FnOk P w K mg base (L2N.CX P w) 9 f fd ["box", "many", "row", "found"] (sp__law_papers K) :=
  F.ok sc__law_papers (len__law_papers K) fun cdv A outer s H vs Q E hr h => ⟨t__law_papers K E, pss_cons (ps_set (i := 4) sc__law_papers.nd rfl (by first | exact Or.inl rfl | exact Or.inr rfl) (pe_callTy call_listA (by rfl) T.b_list (by decide +kernel) (pa_cons (pv 2) (pa_nil)))) (pss_cons (ps_set (i := 5) sc__law_papers.nd rfl (by first | exact Or.inl rfl | exact Or.inr rfl) (pe_tup (pa_cons (pe_str) (pa_cons (pv 1) (pa_cons (pe_bl) (pa_cons (pe_bl) (pa_nil))))))) (pss_cons (ps_if (pt_tr (pv 3) (by intro _; rfl)) (pss_one (ps_set (i := 5) sc__law_papers.nd rfl (by first | exact Or.inl rfl | exact Or.inr rfl) (pe_tup (pa_cons (pe_str) (pa_cons (pe_ix ix_seq (pe_callB (cr_sortT (d := 3) (B := 1000) (by decide)) (by rfl) T.b_sorted (by decide +kernel) (pa_cons (pv 3) (pa_nil))) (pe_int) (fun _ _ => rfl)) (pa_nil)))))) (pss_nil)) (pss_cons (ps_if (pt_not (pt_val (pe_cl c__law_same hr (by decide) (pat_of (W := fun cls d _ H => E cls d H) (L2N.takes_of rfl rfl rfl rfl)) (pa_cons (pe_cl c__law_paper hr (by decide) (pat_of (W := fun cls d _ H => E cls d H) (L2N.takes_of rfl rfl rfl rfl)) (pa_cons (pv 1) (pa_cons (pv 4) (pa_nil)))) (pa_cons (pv 5) (pa_nil)))))) (pss_one (ps_ret (pe_bl))) (pss_nil)) (pss_cons (ps_for (passes_of rfl) rfl (pi_list (pe_slice sl_list (pv 3) (po_none) (po_some (pe_int)))) (pg_name (i := 6) sc__law_papers.nd rfl (by first | exact Or.inl rfl | exact Or.inr rfl)) (pss_cons (ps_set (i := 7) sc__law_papers.nd rfl (by first | exact Or.inl rfl | exact Or.inr rfl) (pe_slice sl_list (pv 2) (po_none) (po_some (pe_op op_addA (pe_ix ix_seq (pv 6) (pe_int) (fun _ _ => rfl)) (pe_int))))) (pss_cons (ps_if (pt_not (pt_val (pe_cl c__law_same hr (by decide) (pat_of (W := fun cls d _ H => E cls d H) (L2N.takes_of rfl rfl rfl rfl)) (pa_cons (pe_cl c_is_loss_certificate hr (by decide) (pat_of (W := fun cls d _ H => E cls d H) (L2N.takes_of rfl rfl rfl rfl)) (pa_cons (pv 1) (pa_cons (pv 4) (pa_cons (pv 6) (pa_nil))))) (pa_cons (pe_bl) (pa_nil)))))) (pss_one (ps_ret (pe_bl))) (pss_nil)) (pss_cons (ps_if (pt_not (pt_val (pe_cl c__law_same hr (by decide) (pat_of (W := fun cls d _ H => E cls d H) (L2N.takes_of rfl rfl rfl rfl)) (pa_cons (pe_cl c_is_loss_certificate hr (by decide) (pat_of (W := fun cls d _ H => E cls d H) (L2N.takes_of rfl rfl rfl rfl)) (pa_cons (pv 1) (pa_cons (pv 7) (pa_cons (pv 6) (pa_nil))))) (pa_cons (pe_bl) (pa_nil)))))) (pss_one (ps_ret (pe_bl))) (pss_nil)) (pss_cons (ps_if (pt_not (pt_val (pe_cl c__law_same hr (by decide) (pat_of (W := fun cls d _ H => E cls d H) (L2N.takes_of rfl rfl rfl rfl)) (pa_cons (pe_cl c_is_loss_certificate hr (by decide) (pat_of (W := fun cls d _ H => E cls d H) (L2N.takes_of rfl rfl rfl rfl)) (pa_cons (pv 1) (pa_cons (pe_slice sl_list (pv 2) (po_none) (po_some (pe_ix ix_seq (pv 6) (pe_int) (fun _ _ => rfl)))) (pa_cons (pv 6) (pa_nil))))) (pa_cons (pe_bl) (pa_nil)))))) (pss_one (ps_ret (pe_bl))) (pss_nil)) (pss_cons (ps_set (i := 8) sc__law_papers.nd rfl (by first | exact Or.inl rfl | exact Or.inr rfl) (pe_ix ix_seq (pe_callB (cr_sortT (d := 3) (B := 1000) (by decide)) (by rfl) T.b_sorted (by decide +kernel) (pa_cons (pe_lc (own := [("other", 12)]) (g := gName 12) (tt := tTest (tOp rLeA (tOp (rIx K) (tVar 12) (tC (.int 2))) (tOp (rIx K) (tVar 6) (tC (.int 2))))) (te := tVar 12) rfl sc__law_papers.nd (pi_list (pv 3)) (blkOk_by (own := [("other", 12)]) (N := ["box", "many", "row", "found", "given", "due", "one", "part", "least", "wrong", "k", "paper", "other"]) (sc := defScope s__law_papers) (by decide +kernel)) (fun _ _ _ _ _ => pg_name (i := 12) sc__law_papers.nd rfl (by first | exact Or.inl rfl | exact Or.inr rfl)) (fun _ _ _ _ _ => pts_one (pt_cmpR op_le (pe_ix ix_seq (pv 12) (pe_int) (fun _ _ => rfl)) (pe_ix ix_seq (pv 6) (pe_int) (fun _ _ => rfl)) (nomark _))) (fun _ _ _ _ _ => pv 12)) (pa_nil))) (pe_int) (fun _ _ => rfl))) (pss_cons (ps_if (pt_not (pt_val (pe_cl c__law_same hr (by decide) (pat_of (W := fun cls d _ H => E cls d H) (L2N.takes_of rfl rfl rfl rfl)) (pa_cons (pe_cl c__law_paper hr (by decide) (pat_of (W := fun cls d _ H => E cls d H) (L2N.takes_of rfl rfl rfl rfl)) (pa_cons (pv 1) (pa_cons (pv 7) (pa_nil)))) (pa_cons (pe_tup (pa_cons (pe_str) (pa_cons (pv 8) (pa_nil)))) (pa_nil)))))) (pss_one (ps_ret (pe_bl))) (pss_nil)) (pss_one (ps_for (passes_of rfl) rfl (pi_list (pe_lst (pa_cons (pe_callTy call_listA (by rfl) T.b_list (by decide +kernel) (pa_cons (pv 6) (pa_nil))) (pa_cons (pe_slice sl_tupA (pv 6) (po_none) (po_some (pe_int))) (pa_cons (pe_tup (pa_cons (pe_ix ix_seq (pv 6) (pe_int) (fun _ _ => rfl)) (pa_cons (pe_ix ix_seq (pv 6) (pe_int) (fun _ _ => rfl)) (pa_cons (pe_ix ix_seq (pv 6) (pe_int) (fun _ _ => rfl)) (pa_nil))))) (pa_cons (pe_non) (pa_nil))))))) (pg_name (i := 9) sc__law_papers.nd rfl (by first | exact Or.inl rfl | exact Or.inr rfl)) (pss_one (ps_if (pt_not (pt_val (pe_cl c__law_same hr (by decide) (pat_of (W := fun cls d _ H => E cls d H) (L2N.takes_of rfl rfl rfl rfl)) (pa_cons (pe_cl c_is_loss_certificate hr (by decide) (pat_of (W := fun cls d _ H => E cls d H) (L2N.takes_of rfl rfl rfl rfl)) (pa_cons (pv 1) (pa_cons (pv 4) (pa_cons (pv 9) (pa_nil))))) (pa_cons (pe_bl) (pa_nil)))))) (pss_one (ps_ret (pe_bl))) (pss_nil)))))))))))) (pss_cons (ps_for (passes_of rfl) rfl (pi_range1 rfl T.b_range (pa_cons (pe_int) (pa_nil))) (pg_name (i := 10) sc__law_papers.nd rfl (by first | exact Or.inl rfl | exact Or.inr rfl)) (pss_cons (ps_set (i := 11) sc__law_papers.nd rfl (by first | exact Or.inl rfl | exact Or.inr rfl) (pe_cl c__law_bent hr (by decide) (pat_of (W := fun cls d _ H => E cls d H) (L2N.takes_of rfl rfl rfl rfl)) (pa_cons (pv 0) (pa_cons (pv 1) (pa_cons (pv 3) (pa_nil)))))) (pss_one (ps_if (pt_not (pt_val (pe_cl c__law_same hr (by decide) (pat_of (W := fun cls d _ H => E cls d H) (L2N.takes_of rfl rfl rfl rfl)) (pa_cons (pe_cl c_is_loss_certificate hr (by decide) (pat_of (W := fun cls d _ H => E cls d H) (L2N.takes_of rfl rfl rfl rfl)) (pa_cons (pv 1) (pa_cons (pv 4) (pa_cons (pv 11) (pa_nil))))) (pa_cons (pe_cmpR (op_inDA hr) (pv 11) (pv 3) (rfl)) (pa_nil)))))) (pss_one (ps_ret (pe_bl))) (pss_nil))))) (pss_one (ps_ret (pe_cmpR (op_eqA hr) (pv 4) (pv 2) (nomark _))))))))), rd__law_papers T vs H Q E h⟩
theorem ok__law_after {f : Addr} {fd : FuncData} (T : Txt K mg) (F : FunD K "_law_after" "_law_after" (defArgs s__law_after) (defBody s__law_after) (defScope s__law_after) [] [] f fd) (c__law_put : Cal P w K mg base 1 "_law_put" ["state", "deed"] (sp48__law_put K)) (c__law_start : Cal P w K mg base 1 "_law_start" ["many"] (sp48__law_start K)) : FnOk P w K mg base (L2N.CX P w) 2 f fd ["many", "row"] (sp53__law_after K) :=
  F.ok sc__law_after (len__law_after K) fun cdv A outer s H vs Q E hr h => ⟨t__law_after K E, pss_cons (ps_set (i := 2) sc__law_after.nd rfl (by first | exact Or.inl rfl | exact Or.inr rfl) (pe_cl c__law_start hr (by decide) (pat_of (W := fun cls d _ H => E cls d H) (L2N.takes_of rfl rfl rfl rfl)) (pa_cons (pv 0) (pa_nil)))) (pss_cons (ps_for (passes_of rfl) rfl (pi_list (pv 1)) (pg_name (i := 3) sc__law_after.nd rfl (by first | exact Or.inl rfl | exact Or.inr rfl)) (pss_one (ps_expr (pe_cl c__law_put hr (by decide) (pat_of (W := fun cls d _ H => E cls d H) (L2N.takes_of rfl rfl rfl rfl)) (pa_cons (pv 2) (pa_cons (pv 3) (pa_nil))))))) (pss_one (ps_ret (pv 2)))), rd__law_after T vs H Q E h⟩
theorem ok__law_dump {f : Addr} {fd : FuncData} (T : Txt K mg) (F : FunD K "_law_dump" "_law_dump" (defArgs s__law_dump) (defBody s__law_dump) (defScope s__law_dump) [] [] f fd)  : FnOk P w K mg base (L2N.CX P w) 1 f fd ["state"] (sp__law_dump K) :=
  F.ok sc__law_dump (len__law_dump K) fun cdv A outer s H vs Q E hr h => ⟨t__law_dump K E, pss_cons (ps_setLc (i := 1) (own := [("v", 4)]) (g := gName 4) (tt := tB (tOp (rIx K) (tOp (rIx K) (tVar 0) (tC (.int 2))) (tVar 4))) (te := tCB rStrA (tCons (tVar 4) (tNil))) rfl sc__law_dump.nd rfl rfl (sw_true rfl rfl rfl (by decide +kernel)) (pi_range2 rfl T.b_range (pa_cons (pe_int) (pa_cons (pe_callB call_lenA (by rfl) T.b_len (by decide +kernel) (pa_cons (pe_ix ix_seq (pv 0) (pe_int) (fun _ _ => rfl)) (pa_nil))) (pa_nil)))) (blkOk_by (own := [("v", 4)]) (N := ["state", "outs", "rights", "lefts", "v"]) (sc := defScope s__law_dump) (by decide +kernel)) (fun _ _ _ _ _ => pg_name (i := 4) sc__law_dump.nd rfl (by first | exact Or.inl rfl | exact Or.inr rfl)) (fun _ _ _ _ _ => pts_one (pt_val (pe_ix ix_seq (pe_ix ix_seq (pv 0) (pe_int) (fun _ _ => rfl)) (pv 4) (fun _ _ => rfl)))) (fun _ _ _ _ _ => pe_callTy call_strA (by rfl) T.b_str (by decide +kernel) (pa_cons (pv 4) (pa_nil)))) (pss_cons (ps_set (i := 2) sc__law_dump.nd rfl (by first | exact Or.inl rfl | exact Or.inr rfl) (pe_joinA (pe_str) (pe_lc (own := [("v", 4)]) (g := gName 4) (tt := tYes) (te := tCB rStrA (tCons (tVar 4) (tNil))) rfl sc__law_dump.nd (pi_list (pe_ix ix_seq (pv 0) (pe_int) (fun _ _ => rfl))) (blkOk_by (own := [("v", 4)]) (N := ["state", "outs", "rights", "lefts", "v"]) (sc := defScope s__law_dump) (by decide +kernel)) (fun _ _ _ _ _ => pg_name (i := 4) sc__law_dump.nd rfl (by first | exact Or.inl rfl | exact Or.inr rfl)) (fun _ _ _ _ _ => pts_nil) (fun _ _ _ _ _ => pe_callTy call_strA (by rfl) T.b_str (by decide +kernel) (pa_cons (pv 4) (pa_nil)))))) (pss_cons (ps_set (i := 3) sc__law_dump.nd rfl (by first | exact Or.inl rfl | exact Or.inr rfl) (pe_joinA (pe_str) (pe_lc (own := [("v", 4)]) (g := gName 4) (tt := tYes) (te := tCB rStrA (tCons (tVar 4) (tNil))) rfl sc__law_dump.nd (pi_list (pe_slice sl_list (pe_ix ix_seq (pv 0) (pe_int) (fun _ _ => rfl)) (po_some (pe_int)) (po_none))) (blkOk_by (own := [("v", 4)]) (N := ["state", "outs", "rights", "lefts", "v"]) (sc := defScope s__law_dump) (by decide +kernel)) (fun _ _ _ _ _ => pg_name (i := 4) sc__law_dump.nd rfl (by first | exact Or.inl rfl | exact Or.inr rfl)) (fun _ _ _ _ _ => pts_nil) (fun _ _ _ _ _ => pe_callTy call_strA (by rfl) T.b_str (by decide +kernel) (pa_cons (pv 4) (pa_nil)))))) (pss_one (ps_ret (pe_op op_addA (pe_op op_addA (pe_op op_addA (pe_op op_addA (pv 2) (pe_str)) (pv 3)) (pe_str)) (pe_ifExp (pt_tr (pv 1) (by intro _; rfl)) (pe_joinA (pe_str) (pv 1)) (pe_str))))))), rd__law_dump T vs H Q E h⟩
theorem ok__law_twin {f : Addr} {fd : FuncData} (T : Txt K mg) (F : FunD K "_law_twin" "_law_twin" (defArgs s__law_twin) (defBody s__law_twin) (defScope s__law_twin) [] [] f fd)  : FnOk P w K mg base (L2N.CX P w) 1 f fd ["state"] (sp48__law_twin K) :=
  F.ok sc__law_twin (len__law_twin K) fun cdv A outer s H vs Q E hr h => ⟨t__law_twin K E, pss_one (ps_ret (pe_lst (pa_cons (pe_callTy call_listA (by rfl) T.b_list (by decide +kernel) (pa_cons (pe_ix ix_seq (pv 0) (pe_int) (fun _ _ => rfl)) (pa_nil))) (pa_cons (pe_callTy call_listA (by rfl) T.b_list (by decide +kernel) (pa_cons (pe_ix ix_seq (pv 0) (pe_int) (fun _ _ => rfl)) (pa_nil))) (pa_cons (pe_callTy call_listA (by rfl) T.b_list (by decide +kernel) (pa_cons (pe_ix ix_seq (pv 0) (pe_int) (fun _ _ => rfl)) (pa_nil))) (pa_nil)))))), rd__law_twin T vs H Q E h⟩
theorem ok__law_refuser {f : Addr} {fd : FuncData} (T : Txt K mg) (F : FunD K "_law_refuser" "_law_refuser" (defArgs s__law_refuser) (defBody s__law_refuser) (defScope s__law_refuser) [] [] f fd) (c__law_put : Cal P w K mg base 1 "_law_put" ["state", "deed"] (sp48__law_put K)) (c__law_states : Cal P w K mg base 1 "_law_states" ["state"] (sp48__law_states K)) (c__law_twin : Cal P w K mg base 1 "_law_twin" ["state"] (sp48__law_twin K)) : FnOk P w K mg base (L2N.CX P w) 2 f fd ["state", "deed"] (sp__law_refuser K) :=
  F.ok sc__law_refuser (len__law_refuser K) fun cdv A outer s H vs Q E hr h => ⟨t__law_refuser K E, pss_cons (ps_set (i := 2) sc__law_refuser.nd rfl (by first | exact Or.inl rfl | exact Or.inr rfl) (pe_callB call_absA (by rfl) T.b_abs (by decide +kernel) (pa_cons (pv 1) (pa_nil)))) (pss_cons (ps_set (i := 3) sc__law_refuser.nd rfl (by first | exact Or.inl rfl | exact Or.inr rfl) (pe_ix ix_seq (pe_ix ix_seq (pv 0) (pe_int) (fun _ _ => rfl)) (pv 2) (fun _ _ => rfl))) (pss_cons (ps_set (i := 4) sc__law_refuser.nd rfl (by first | exact Or.inl rfl | exact Or.inr rfl) (pe_ix ix_seq (pe_ix ix_seq (pv 0) (pe_int) (fun _ _ => rfl)) (pv 2) (fun _ _ => rfl))) (pss_cons (ps_set (i := 5) sc__law_refuser.nd rfl (by first | exact Or.inl rfl | exact Or.inr rfl) (pe_cl c__law_states hr (by decide) (pat_of (W := fun cls d _ H => E cls d H) (L2N.takes_of rfl rfl rfl rfl)) (pa_cons (pv 0) (pa_nil)))) (pss_cons (ps_set (i := 6) sc__law_refuser.nd rfl (by first | exact Or.inl rfl | exact Or.inr rfl) (pe_cl c__law_twin hr (by decide) (pat_of (W := fun cls d _ H => E cls d H) (L2N.takes_of rfl rfl rfl rfl)) (pa_cons (pv 0) (pa_nil)))) (pss_cons (ps_expr (pe_cl c__law_put hr (by decide) (pat_of (W := fun cls d _ H => E cls d H) (L2N.takes_of rfl rfl rfl rfl)) (pa_cons (pv 6) (pa_cons (pv 1) (pa_nil))))) (pss_cons (ps_set (i := 7) sc__law_refuser.nd rfl (by first | exact Or.inl rfl | exact Or.inr rfl) (pe_cl c__law_states hr (by decide) (pat_of (W := fun cls d _ H => E cls d H) (L2N.takes_of rfl rfl rfl rfl)) (pa_cons (pv 6) (pa_nil)))) (pss_cons (ps_if (pt_cmpR op_in_seq (pe_str) (pe_lc (own := [("v", 8)]) (g := gName 8) (tt := tTest (tOp (rNeA K) (tOp (rIx K) (tVar 5) (tVar 8)) (tC (.str "lost")))) (te := tOp (rIx K) (tVar 7) (tVar 8)) rfl sc__law_refuser.nd (pi_range1 rfl T.b_range (pa_cons (pe_callB call_lenA (by rfl) T.b_len (by decide +kernel) (pa_cons (pv 7) (pa_nil))) (pa_nil))) (blkOk_by (own := [("v", 8)]) (N := ["state", "deed", "node", "low", "high", "before", "then", "after", "v"]) (sc := defScope s__law_refuser) (by decide +kernel)) (fun _ _ _ _ _ => pg_name (i := 8) sc__law_refuser.nd rfl (by first | exact Or.inl rfl | exact Or.inr rfl)) (fun _ _ _ _ _ => pts_one (pt_cmpR (op_neA hr) (pe_ix ix_seq (pv 5) (pv 8) (fun _ _ => rfl)) (pe_str) (nomark _))) (fun _ _ _ _ _ => pe_ix ix_seq (pv 7) (pv 8) (fun _ _ => rfl))) (rfl)) (pss_one (ps_ret (pe_int))) (pss_nil)) (pss_cons (ps_if ((pw_and (pt_cmpR (op_neA hr) (pv 3) (pe_op op_sub (pv 2) (pe_int)) (nomark _)) (pw_and (pt_cmpR op_in_seq (pe_ix ix_seq (pv 5) (pv 3) (fun _ _ => rfl)) (pe_tup (pa_cons (pe_str) (pa_cons (pe_str) (pa_nil)))) (rfl)) (pw_and1 (pt_not (pt_val (pe_ix ix_seq (pe_ix ix_seq (pv 0) (pe_int) (fun _ _ => rfl)) (pe_op op_addA (pv 3) (pe_int)) (fun _ _ => rfl))))))).pt) (pss_one (ps_ret (pe_int))) (pss_nil)) (pss_cons (ps_if ((pw_and (pt_cmpR (op_neA hr) (pv 4) (pe_op op_addA (pv 2) (pe_int)) (nomark _)) (pw_and (pt_cmpR op_in_seq (pe_ix ix_seq (pv 5) (pe_op op_sub (pv 4) (pe_int)) (fun _ _ => rfl)) (pe_tup (pa_cons (pe_str) (pa_cons (pe_str) (pa_nil)))) (rfl)) (pw_and1 (pt_not (pt_val (pe_ix ix_seq (pe_ix ix_seq (pv 0) (pe_int) (fun _ _ => rfl)) (pe_op op_sub (pv 4) (pe_int)) (fun _ _ => rfl))))))).pt) (pss_one (ps_ret (pe_int))) (pss_nil)) (pss_cons (ps_if ((pw_or (pt_val (pe_ix ix_seq (pe_ix ix_seq (pv 0) (pe_int) (fun _ _ => rfl)) (pv 3) (fun _ _ => rfl))) (pw_or1 (pt_val (pe_ix ix_seq (pe_ix ix_seq (pv 0) (pe_int) (fun _ _ => rfl)) (pv 4) (fun _ _ => rfl))))).pt) (pss_one (ps_ret (pe_int))) (pss_nil)) (pss_cons (ps_if ((pw_and (pt_cmpR op_lt (pv 1) (pe_int) (nomark _)) (pw_and1 ((pw_or (pt_cmpR (op_neA hr) (pe_ix ix_seq (pe_ix ix_seq (pv 0) (pe_int) (fun _ _ => rfl)) (pv 3) (fun _ _ => rfl)) (pv 2) (nomark _)) (pw_or1 (pt_cmpR (op_neA hr) (pe_ix ix_seq (pe_ix ix_seq (pv 0) (pe_int) (fun _ _ => rfl)) (pv 4) (fun _ _ => rfl)) (pv 2) (nomark _)))).pt))).pt) (pss_one (ps_ret (pe_int))) (pss_nil)) (pss_cons (ps_if ((pw_and (pt_cmpR op_gt (pv 1) (pe_int) (nomark _)) (pw_and1 ((pw_or (pt_cmpR (op_neA hr) (pe_ix ix_seq (pe_ix ix_seq (pv 0) (pe_int) (fun _ _ => rfl)) (pv 3) (fun _ _ => rfl)) (pv 4) (nomark _)) (pw_or1 (pt_cmpR (op_neA hr) (pe_ix ix_seq (pe_ix ix_seq (pv 0) (pe_int) (fun _ _ => rfl)) (pv 4) (fun _ _ => rfl)) (pv 3) (nomark _)))).pt))).pt) (pss_one (ps_ret (pe_int))) (pss_nil)) (pss_one (ps_ret (pe_int))))))))))))))), rd__law_refuser T vs H Q E h⟩
theorem ok__law_firsts {f : Addr} {fd : FuncData} (T : Txt K mg) (F : FunD K "_law_firsts" "_law_firsts" (defArgs s__law_firsts) (defBody s__law_firsts) (defScope s__law_firsts) [] [] f fd) (c__law_put : Cal P w K mg base 1 "_law_put" ["state", "deed"] (sp48__law_put K)) (c__law_refuser : Cal P w K mg base 2 "_law_refuser" ["state", "deed"] (sp__law_refuser K)) (c__law_start : Cal P w K mg base 1 "_law_start" ["many"] (sp48__law_start K)) : FnOk P w K mg base (L2N.CX P w) 3 f fd ["many", "row"] (sp__law_firsts K) :=
  F.ok sc__law_firsts (len__law_firsts K) fun cdv A outer s H vs Q E hr h => ⟨t__law_firsts K E, pss_cons (ps_set (i := 2) sc__law_firsts.nd rfl (by first | exact Or.inl rfl | exact Or.inr rfl) (pe_cl c__law_start hr (by decide) (pat_of (W := fun cls d _ H => E cls d H) (L2N.takes_of rfl rfl rfl rfl)) (pa_cons (pv 0) (pa_nil)))) (pss_cons (ps_set (i := 3) sc__law_firsts.nd rfl (by first | exact Or.inl rfl | exact Or.inr rfl) (pe_lst (pa_cons (pe_non) (pa_cons (pe_non) (pa_cons (pe_non) (pa_cons (pe_non) (pa_nil))))))) (pss_cons (ps_for (passes_of rfl) rfl (pi_range1 rfl T.b_range (pa_cons (pe_callB call_lenA (by rfl) T.b_len (by decide +kernel) (pa_cons (pv 1) (pa_nil))) (pa_nil))) (pg_name (i := 4) sc__law_firsts.nd rfl (by first | exact Or.inl rfl | exact Or.inr rfl)) (pss_cons (ps_set (i := 5) sc__law_firsts.nd rfl (by first | exact Or.inl rfl | exact Or.inr rfl) (pe_cl c__law_refuser hr (by decide) (pat_of (W := fun cls d _ H => E cls d H) (L2N.takes_of rfl rfl rfl rfl)) (pa_cons (pv 2) (pa_cons (pe_ix ix_seq (pv 1) (pv 4) (fun _ _ => rfl)) (pa_nil))))) (pss_cons (ps_for (passes_of rfl) rfl (pi_range2 rfl T.b_range (pa_cons (pv 5) (pa_cons (pe_int) (pa_nil)))) (pg_name (i := 6) sc__law_firsts.nd rfl (by first | exact Or.inl rfl | exact Or.inr rfl)) (pss_one (ps_if (pt_cmpR op_isNA (pe_ix ix_seq (pv 3) (pv 6) (fun _ _ => rfl)) (pe_non) (nomark _)) (pss_one (ps_asg (pv 4) (pg_sub (pv 3) (pv 6) set_list))) (pss_nil)))) (pss_one (ps_expr (pe_cl c__law_put hr (by decide) (pat_of (W := fun cls d _ H => E cls d H) (L2N.takes_of rfl rfl rfl rfl)) (pa_cons (pv 2) (pa_cons (pe_ix ix_seq (pv 1) (pv 4) (fun _ _ => rfl)) (pa_nil))))))))) (pss_one (ps_ret (pv 3))))), rd__law_firsts T vs H Q E h⟩
theorem ok_Links_outs {f : Addr} {fd : FuncData} (T : Txt K mg) (F : FunD K "outs" "Links.outs" (defArgs s_Links_outs) (defBody s_Links_outs) (defScope s_Links_outs) [] [] f fd)  : FnOk P w K mg base (L2N.CX P w) 1 f fd ["self"] (sp_Links_outs K) :=
  F.ok sc_Links_outs (len_Links_outs K) fun cdv A outer s H vs Q E hr h => ⟨t_Links_outs K E, pss_one (ps_ret (pe_lc (own := [("node", 1)]) (g := gName 1) (tt := tB (tOp (rIx K) (tFld K (tVar 0) "_out") (tVar 1))) (te := tVar 1) rfl sc_Links_outs.nd (pi_range2 rfl T.b_range (pa_cons (pe_int) (pa_cons (pe_op op_addA (pe_fld (pv 0) rfl) (pe_int)) (pa_nil)))) (blkOk_by (own := [("node", 1)]) (N := ["self", "node"]) (sc := defScope s_Links_outs) (by decide +kernel)) (fun _ _ _ _ _ => pg_name (i := 1) sc_Links_outs.nd rfl (by first | exact Or.inl rfl | exact Or.inr rfl)) (fun _ _ _ _ _ => pts_one (pt_val (pe_ix ix_seq (pe_fld (pv 0) rfl) (pv 1) (fun _ _ => rfl)))) (fun _ _ _ _ _ => pv 1))), rd_Links_outs T vs H Q E h⟩
theorem ok__joined {f : Addr} {fd : FuncData} (T : Txt K mg) (F : FunD K "_joined" "_joined" (defArgs s__joined) (defBody s__joined) (defScope s__joined) [] [] f fd)  : FnOk P w K mg base (L2N.CX P w) 1 f fd ["numbers"] (sp__joined K) :=
  F.ok sc__joined (len__joined K) fun cdv A outer s H vs Q E hr h => ⟨t__joined K E, pss_one (ps_ret (pe_joinA (pe_str) (pe_lc (own := [("number", 1)]) (g := gName 1) (tt := tYes) (te := tCB rStrA (tCons (tVar 1) (tNil))) rfl sc__joined.nd (pi_list (pv 0)) (blkOk_by (own := [("number", 1)]) (N := ["numbers", "number"]) (sc := defScope s__joined) (by decide +kernel)) (fun _ _ _ _ _ => pg_name (i := 1) sc__joined.nd rfl (by first | exact Or.inl rfl | exact Or.inr rfl)) (fun _ _ _ _ _ => pts_nil) (fun _ _ _ _ _ => pe_callTy call_strA (by rfl) T.b_str (by decide +kernel) (pa_cons (pv 1) (pa_nil)))))), rd__joined T vs H Q E h⟩
theorem ok_dump_of {f : Addr} {fd : FuncData} (T : Txt K mg) (F : FunD K "dump_of" "dump_of" (defArgs s_dump_of) (defBody s_dump_of) (defScope s_dump_of) [] [] f fd) (c__joined : Cal P w K mg base 1 "_joined" ["numbers"] (sp__joined K)) : FnOk P w K mg base (L2N.CX P w) 2 f fd ["rights", "lefts", "outs"] (sp_dump_of K) :=
  F.ok sc_dump_of (len_dump_of K) fun cdv A outer s H vs Q E hr h => ⟨t_dump_of K E, pss_one (ps_ret (pe_joinA (pe_str) (pe_lst (pa_cons (pe_cl c__joined hr (by decide) (pat_of (W := fun cls d _ H => E cls d H) (L2N.takes_of rfl rfl rfl rfl)) (pa_cons (pv 0) (pa_nil))) (pa_cons (pe_cl c__joined hr (by decide) (pat_of (W := fun cls d _ H => E cls d H) (L2N.takes_of rfl rfl rfl rfl)) (pa_cons (pv 1) (pa_nil))) (pa_cons (pe_ifExp (pt_tr (pv 2) (by intro _; rfl)) (pe_cl c__joined hr (by decide) (pat_of (W := fun cls d _ H => E cls d H) (L2N.takes_of rfl rfl rfl rfl)) (pa_cons (pv 2) (pa_nil))) (pe_str)) (pa_nil))))))), rd_dump_of T vs H Q E h⟩
theorem ok_Links_dump {f : Addr} {fd : FuncData} (T : Txt K mg) (F : FunD K "dump" "Links.dump" (defArgs s_Links_dump) (defBody s_Links_dump) (defScope s_Links_dump) [] [] f fd) (c_Links_outs : Met P w K mg base 1 (He.ga K "Links") "outs" ["self"] (sp_Links_outs K)) (c_dump_of : Cal P w K mg base 2 "dump_of" ["rights", "lefts", "outs"] (sp_dump_of K)) : FnOk P w K mg base (L2N.CX P w) 3 f fd ["self"] (sp_Links_dump K) :=
  F.ok sc_Links_dump (len_Links_dump K) fun cdv A outer s H vs Q E hr h => ⟨t_Links_dump K E, pss_one (ps_ret (pe_cl c_dump_of hr (by decide) (pat_of (W := fun cls d _ H => E cls d H) (L2N.takes_of rfl rfl rfl rfl)) (pa_cons (pe_fld (pv 0) rfl) (pa_cons (pe_slice sl_list (pe_fld (pv 0) rfl) (po_some (pe_int)) (po_none)) (pa_cons (pe_mt0 c_Links_outs T.cl_Links hr (by decide) (pat_of (W := fun cls d _ H => E cls d H) (L2N.takes_of rfl rfl rfl rfl)) (pv 0)) (pa_nil)))))), rd_Links_dump T vs H Q E h⟩
theorem ok_Links___str__ {f : Addr} {fd : FuncData} (T : Txt K mg) (F : FunD K "__str__" "Links.__str__" (defArgs s_Links___str__) (defBody s_Links___str__) (defScope s_Links___str__) [] [] f fd) (c_Links_dump : Met P w K mg base 3 (He.ga K "Links") "dump" ["self"] (sp_Links_dump K)) : FnOk P w K mg base (L2N.CX P w) 4 f fd ["self"] (sp02_Links___str__ K) :=
  F.ok sc_Links___str__ (len_Links___str__ K) fun cdv A outer s H vs Q E hr h => ⟨t_Links___str__ K E, pss_one (ps_ret (pe_callTy call_strS (by rfl) T.b_str (by decide +kernel) (pa_cons (pe_mt0 c_Links_dump T.cl_Links hr (by decide) (pat_of (W := fun cls d _ H => E cls d H) (L2N.takes_of rfl rfl rfl rfl)) (pv 0)) (pa_nil)))), rd_Links___str__ T vs H Q E h⟩
theorem ok_Links_apply {f : Addr} {fd : FuncData} (T : Txt K mg) (F : FunD K "apply" "Links.apply" (defArgs s_Links_apply) (defBody s_Links_apply) (defScope s_Links_apply) [] [] f fd) (c_Links_apply_at : Met P w K mg base 5 (He.ga K "Links") "apply_at" ["self", "operation", "index"] (sp_Links_apply_at K)) : FnOk P w K mg base (L2N.CX P w) 6 f fd ["self", "operation"] (sp_Links_apply K) :=
  F.ok sc_Links_apply (len_Links_apply K) fun cdv A outer s H vs Q E hr h => ⟨t_Links_apply K E, pss_one (ps_expr (pe_mt c_Links_apply_at T.cl_Links hr (by decide) (pat_of (W := fun cls d _ H => E cls d H) (L2N.takes_of rfl rfl rfl rfl)) (pv 0) (pa_cons (pv 1) (pa_cons (pe_int) (pa_nil))))), rd_Links_apply T vs H Q E h⟩
theorem ok_Links_is_out {f : Addr} {fd : FuncData} (T : Txt K mg) (F : FunD K "is_out" "Links.is_out" (defArgs s_Links_is_out) (defBody s_Links_is_out) (defScope s_Links_is_out) [] [] f fd) (x_BadNode : ExM P w K mg base 1 "BadNode" (He.ga K "BadNode") ["node"]) : FnOk P w K mg base (L2N.CX P w) 3 f fd ["self", "node"] (sp03_Links_is_out K) :=
  F.ok sc_Links_is_out (len_Links_is_out K) fun cdv A outer s H vs Q E hr h => ⟨t_Links_is_out K E, pss_cons (ps_if (pt_not (pt_chain op_le op_le (pe_int) (pv 1) (pe_op op_addA (pe_fld (pv 0) rfl) (pe_int)))) (pss_one (ps_rz x_BadNode rfl (L2N.takes_of rfl rfl rfl rfl) hr (by decide) (pa_cons (pv 1) (pa_nil)))) (pss_nil)) (pss_one (ps_ret (pe_ix ix_seq (pe_fld (pv 0) rfl) (pv 1) (fun _ _ => rfl)))), rd_Links_is_out T vs H Q E h⟩
theorem ok__has_fitting_neighbours {f : Addr} {fd : FuncData} (T : Txt K mg) (F : FunD K "_has_fitting_neighbours" "_has_fitting_neighbours" (defArgs s__has_fitting_neighbours) (defBody s__has_fitting_neighbours) (defScope s__has_fitting_neighbours) [] [] f fd) (c_Links_is_out : Met P w K mg base 3 (He.ga K "Links") "is_out" ["self", "node"] (sp03_Links_is_out K)) (c_Links_left : Met P w K mg base 3 (He.ga K "Links") "left" ["self", "node"] (sp_Links_left K)) (c_Links_right : Met P w K mg base 3 (He.ga K "Links") "right" ["self", "node"] (sp_Links_right K)) : FnOk P w K mg base (L2N.CX P w) 4 f fd ["links", "operation"] (sp__has_fitting_neighbours K) :=
  F.ok sc__has_fitting_neighbours (len__has_fitting_neighbours K) fun cdv A outer s H vs Q E hr h => ⟨t__has_fitting_neighbours K E, pss_cons (ps_set (i := 2) sc__has_fitting_neighbours.nd rfl (by first | exact Or.inl rfl | exact Or.inr rfl) (pe_callB call_absA (by rfl) T.b_abs (by decide +kernel) (pa_cons (pv 1) (pa_nil)))) (pss_cons (ps_set (i := 3) sc__has_fitting_neighbours.nd rfl (by first | exact Or.inl rfl | exact Or.inr rfl) (pe_mt c_Links_left T.cl_Links hr (by decide) (pat_of (W := fun cls d _ H => E cls d H) (L2N.takes_of rfl rfl rfl rfl)) (pv 0) (pa_cons (pv 2) (pa_nil)))) (pss_cons (ps_set (i := 4) sc__has_fitting_neighbours.nd rfl (by first | exact Or.inl rfl | exact Or.inr rfl) (pe_mt c_Links_right T.cl_Links hr (by decide) (pat_of (W := fun cls d _ H => E cls d H) (L2N.takes_of rfl rfl rfl rfl)) (pv 0) (pa_cons (pv 2) (pa_nil)))) (pss_cons (ps_if ((pw_or (pt_val (pe_mt c_Links_is_out T.cl_Links hr (by decide) (pat_of (W := fun cls d _ H => E cls d H) (L2N.takes_of rfl rfl rfl rfl)) (pv 0) (pa_cons (pv 3) (pa_nil)))) (pw_or1 (pt_val (pe_mt c_Links_is_out T.cl_Links hr (by decide) (pat_of (W := fun cls d _ H => E cls d H) (L2N.takes_of rfl rfl rfl rfl)) (pv 0) (pa_cons (pv 4) (pa_nil)))))).pt) (pss_one (ps_ret (pe_bl))) (pss_nil)) (pss_cons (ps_if (pt_cmpR op_lt (pv 1) (pe_int) (nomark _)) (pss_one (ps_ret (pe_and (pe_cmpR (op_eqA hr) (pe_mt c_Links_right T.cl_Links hr (by decide) (pat_of (W := fun cls d _ H => E cls d H) (L2N.takes_of rfl rfl rfl rfl)) (pv 0) (pa_cons (pv 3) (pa_nil))) (pv 2) (nomark _)) (pe_one (pe_cmpR (op_eqA hr) (pe_mt c_Links_left T.cl_Links hr (by decide) (pat_of (W := fun cls d _ H => E cls d H) (L2N.takes_of rfl rfl rfl rfl)) (pv 0) (pa_cons (pv 4) (pa_nil))) (pv 2) (nomark _)))))) (pss_nil)) (pss_one (ps_ret (pe_and (pe_cmpR (op_eqA hr) (pe_mt c_Links_right T.cl_Links hr (by decide) (pat_of (W := fun cls d _ H => E cls d H) (L2N.takes_of rfl rfl rfl rfl)) (pv 0) (pa_cons (pv 3) (pa_nil))) (pv 4) (nomark _)) (pe_one (pe_cmpR (op_eqA hr) (pe_mt c_Links_left T.cl_Links hr (by decide) (pat_of (W := fun cls d _ H => E cls d H) (L2N.takes_of rfl rfl rfl rfl)) (pv 0) (pa_cons (pv 4) (pa_nil))) (pv 3) (nomark _)))))))))), rd__has_fitting_neighbours T vs H Q E h⟩
theorem ok_foreign_writes {f : Addr} {fd : FuncData} (T : Txt K mg) (F : FunD K "foreign_writes" "foreign_writes" (defArgs s_foreign_writes) (defBody s_foreign_writes) (defScope s_foreign_writes) [] [] f fd) (c_Links_check : Met P w K mg base 4 (He.ga K "Links") "check" ["self", "operation", "index"] (sp_Links_check K)) (c_Links_left : Met P w K mg base 3 (He.ga K "Links") "left" ["self", "node"] (sp_Links_left K)) (c_Links_right : Met P w K mg base 3 (He.ga K "Links") "right" ["self", "node"] (sp_Links_right K)) : FnOk P w K mg base (L2N.CX P w) 5 f fd ["links", "operation"] (sp_foreign_writes K) :=
  F.ok sc_foreign_writes (len_foreign_writes K) fun cdv A outer s H vs Q E hr h => ⟨t_foreign_writes K E, pss_cons (ps_expr (pe_mt c_Links_check T.cl_Links hr (by decide) (pat_of (W := fun cls d _ H => E cls d H) (L2N.takes_of rfl rfl rfl rfl)) (pv 0) (pa_cons (pv 1) (pa_cons (pe_int) (pa_nil))))) (pss_cons (ps_set (i := 2) sc_foreign_writes.nd rfl (by first | exact Or.inl rfl | exact Or.inr rfl) (pe_callB call_absA (by rfl) T.b_abs (by decide +kernel) (pa_cons (pv 1) (pa_nil)))) (pss_cons (ps_set (i := 3) sc_foreign_writes.nd rfl (by first | exact Or.inl rfl | exact Or.inr rfl) (pe_mt c_Links_left T.cl_Links hr (by decide) (pat_of (W := fun cls d _ H => E cls d H) (L2N.takes_of rfl rfl rfl rfl)) (pv 0) (pa_cons (pv 2) (pa_nil)))) (pss_cons (ps_set (i := 4) sc_foreign_writes.nd rfl (by first | exact Or.inl rfl | exact Or.inr rfl) (pe_mt c_Links_right T.cl_Links hr (by decide) (pat_of (W := fun cls d _ H => E cls d H) (L2N.takes_of rfl rfl rfl rfl)) (pv 0) (pa_cons (pv 2) (pa_nil)))) (pss_cons (ps_set (i := 5) sc_foreign_writes.nd rfl (by first | exact Or.inl rfl | exact Or.inr rfl) (pe_lst (pa_nil))) (pss_cons (ps_if ((pw_and (pt_cmpR (op_neA hr) (pv 3) (pe_op op_sub (pv 2) (pe_int)) (nomark _)) (pw_and1 (pt_cmpR (op_eqA hr) (pe_mt c_Links_right T.cl_Links hr (by decide) (pat_of (W := fun cls d _ H => E cls d H) (L2N.takes_of rfl rfl rfl rfl)) (pv 0) (pa_cons (pv 3) (pa_nil))) (pe_op op_addA (pv 3) (pe_int)) (nomark _)))).pt) (pss_one (ps_expr (pe_bm PySem.F.plainAttrs_list PySem.F.slot_list_append PySem.F.type_list_append mt_append (pv 5) (pa_cons (pv 3) (pa_nil))))) (pss_nil)) (pss_cons (ps_if ((pw_and (pt_cmpR (op_neA hr) (pv 4) (pe_op op_addA (pv 2) (pe_int)) (nomark _)) (pw_and1 (pt_cmpR (op_eqA hr) (pe_mt c_Links_left T.cl_Links hr (by decide) (pat_of (W := fun cls d _ H => E cls d H) (L2N.takes_of rfl rfl rfl rfl)) (pv 0) (pa_cons (pv 4) (pa_nil))) (pe_op op_sub (pv 4) (pe_int)) (nomark _)))).pt) (pss_one (ps_expr (pe_bm PySem.F.plainAttrs_list PySem.F.slot_list_append PySem.F.type_list_append mt_append (pv 5) (pa_cons (pe_op op_sub (pv 4) (pe_int)) (pa_nil))))) (pss_nil)) (pss_one (ps_ret (pv 5))))))))), rd_foreign_writes T vs H Q E h⟩
theorem ok_left_to {f : Addr} {fd : FuncData} (T : Txt K mg) (F : FunD K "left_to" "left_to" (defArgs s_left_to) (defBody s_left_to) (defScope s_left_to) [] [] f fd)  : FnOk P w K mg base (L2N.CX P w) 1 f fd ["operation", "gap"] (sp17_left_to K) :=
  F.ok sc_left_to (len_left_to K) fun cdv A outer s H vs Q E hr h => ⟨t_left_to K E, pss_one (ps_ret (pe_ifExp (pt_cmpR op_lt (pv 1) (pe_callB call_absA (by rfl) T.b_abs (by decide +kernel) (pa_cons (pv 0) (pa_nil))) (nomark _)) (pe_op op_addA (pv 1) (pe_int)) (pv 1))), rd_left_to T vs H Q E h⟩
theorem ok__leaves_a_gap_to_a_holder_that_is_in {f : Addr} {fd : FuncData} (T : Txt K mg) (F : FunD K "_leaves_a_gap_to_a_holder_that_is_in" "_leaves_a_gap_to_a_holder_that_is_in" (defArgs s__leaves_a_gap_to_a_holder_that_is_in) (defBody s__leaves_a_gap_to_a_holder_that_is_in) (defScope s__leaves_a_gap_to_a_holder_that_is_in) [] [] f fd) (c_Links_is_out : Met P w K mg base 3 (He.ga K "Links") "is_out" ["self", "node"] (sp03_Links_is_out K)) (c_foreign_writes : Cal P w K mg base 5 "foreign_writes" ["links", "operation"] (sp_foreign_writes K)) (c_left_to : Cal P w K mg base 1 "left_to" ["operation", "gap"] (sp17_left_to K)) : FnOk P w K mg base (L2N.CX P w) 6 f fd ["links", "operation"] (sp__leaves_a_gap_to_a_holder_that_is_in K) :=
  F.ok sc__leaves_a_gap_to_a_holder_that_is_in (len__leaves_a_gap_to_a_holder_that_is_in K) fun cdv A outer s H vs Q E hr h => ⟨t__leaves_a_gap_to_a_holder_that_is_in K E, pss_one (ps_ret (pe_callB (cr_any rfl) (by rfl) T.b_any (by decide +kernel) (pa_cons (pe_lc (own := [("gap", 2)]) (g := gName 2) (tt := tYes) (te := tNotV (tMt (He.ga K "Links") "is_out" (sp03_Links_is_out K) (fun _ => E0) (tVar 0) (tCons (tCl (sp17_left_to K) (fun _ => E0) (tCons (tVar 1) (tCons (tVar 2) (tNil)))) (tNil)))) rfl sc__leaves_a_gap_to_a_holder_that_is_in.nd (pi_list (pe_cl c_foreign_writes hr (by decide) (pat_of (W := fun cls d _ H => E cls d H) (L2N.takes_of rfl rfl rfl rfl)) (pa_cons (pv 0) (pa_cons (pv 1) (pa_nil))))) (blkOk_by (own := [("gap", 2)]) (N := ["links", "operation", "gap"]) (sc := defScope s__leaves_a_gap_to_a_holder_that_is_in) (by decide +kernel)) (fun _ _ _ _ _ => pg_name (i := 2) sc__leaves_a_gap_to_a_holder_that_is_in.nd rfl (by first | exact Or.inl rfl | exact Or.inr rfl)) (fun _ _ _ _ _ => pts_nil) (fun _ _ _ _ _ => pe_not (pe_mt c_Links_is_out T.cl_Links hr (by decide) (pat_no) (pv 0) (pa_cons (pe_cl c_left_to hr (by decide) (pat_no) (pa_cons (pv 1) (pa_cons (pv 2) (pa_nil)))) (pa_nil))))) (pa_nil)))), rd__leaves_a_gap_to_a_holder_that_is_in T vs H Q E h⟩
theorem ok__loses_a_gap {f : Addr} {fd : FuncData} (T : Txt K mg) (F : FunD K "_loses_a_gap" "_loses_a_gap" (defArgs s__loses_a_gap) (defBody s__loses_a_gap) (defScope s__loses_a_gap) [] [] f fd) (c_foreign_writes : Cal P w K mg base 5 "foreign_writes" ["links", "operation"] (sp_foreign_writes K)) (c_gap_state : Cal P w K mg base 4 "gap_state" ["links", "gap"] (sp_gap_state K)) : FnOk P w K mg base (L2N.CX P w) 6 f fd ["links", "operation"] (sp__loses_a_gap K) :=
  F.ok sc__loses_a_gap (len__loses_a_gap K) fun cdv A outer s H vs Q E hr h => ⟨t__loses_a_gap K E, pss_one (ps_ret (pe_callB (cr_any rfl) (by rfl) T.b_any (by decide +kernel) (pa_cons (pe_lc (own := [("gap", 2)]) (g := gName 2) (tt := tYes) (te := tOp (rNeA K) (tCl (sp_gap_state K) (fun _ => E0) (tCons (tVar 0) (tCons (tVar 2) (tNil)))) (tC (.str "joined"))) rfl sc__loses_a_gap.nd (pi_list (pe_cl c_foreign_writes hr (by decide) (pat_of (W := fun cls d _ H => E cls d H) (L2N.takes_of rfl rfl rfl rfl)) (pa_cons (pv 0) (pa_cons (pv 1) (pa_nil))))) (blkOk_by (own := [("gap", 2)]) (N := ["links", "operation", "gap"]) (sc := defScope s__loses_a_gap) (by decide +kernel)) (fun _ _ _ _ _ => pg_name (i := 2) sc__loses_a_gap.nd rfl (by first | exact Or.inl rfl | exact Or.inr rfl)) (fun _ _ _ _ _ => pts_nil) (fun _ _ _ _ _ => pe_cmpR (op_neA hr) (pe_cl c_gap_state hr (by decide) (pat_no) (pa_cons (pv 0) (pa_cons (pv 2) (pa_nil)))) (pe_str) (nomark _))) (pa_nil)))), rd__loses_a_gap T vs H Q E h⟩
theorem ok_FreeMode_refusal {f : Addr} {fd : FuncData} (T : Txt K mg) (F : FunD K "refusal" "FreeMode.refusal" (defArgs s_FreeMode_refusal) (defBody s_FreeMode_refusal) (defScope s_FreeMode_refusal) [] [] f fd) (c_Links_check : Met P w K mg base 4 (He.ga K "Links") "check" ["self", "operation", "index"] (sp_Links_check K)) : FnOk P w K mg base (L2N.CX P w) 5 f fd ["self", "links", "operation"] (sp_FreeMode_refusal K) :=
  F.ok sc_FreeMode_refusal (len_FreeMode_refusal K) fun cdv A outer s H vs Q E hr h => ⟨t_FreeMode_refusal K E, pss_cons (ps_expr (pe_mt c_Links_check T.cl_Links hr (by decide) (pat_of (W := fun cls d _ H => E cls d H) (L2N.takes_of rfl rfl rfl rfl)) (pv 1) (pa_cons (pv 2) (pa_cons (pe_int) (pa_nil))))) (pss_one (ps_ret (pe_str))), rd_FreeMode_refusal T vs H Q E h⟩
theorem ok_SavingMode_refusal {f : Addr} {fd : FuncData} (T : Txt K mg) (F : FunS K P "refusal" "SavingMode.refusal" (defArgs s_SavingMode_refusal) (defBody s_SavingMode_refusal) (defScope s_SavingMode_refusal) (He.ga K "SavingMode") f fd) {fdp : FuncData} (o_par : FnOk P w K mg base (L2N.CX P w) 5 (He.fAd K ("FreeMode", some "refusal")) fdp ["self", "links", "operation"] (sp_FreeMode_refusal K)) (b_par : Binds K fdp ["self", "links", "operation"] []) (htop : (P.main.scope.names.lookup ("super" : Str)).isSome = false) (c__loses_a_gap : Cal P w K mg base 6 "_loses_a_gap" ["links", "operation"] (sp__loses_a_gap K)) : FnOk P w K mg base (L2N.CX P w) 7 f fd ["self", "links", "operation"] (sp_SavingMode_refusal K) :=
  FunS.okT (sf := "self") (y := "refusing") (i := 4) F sc_SavingMode_refusal (len_SavingMode_refusal K) (by decide) rfl o_par (by decide) b_par rfl rfl rfl rfl rfl T.b_super htop (by decide) rfl rfl (fun X hX => ⟨rfl, rfl, ⟨_, rfl⟩, by rfl⟩) fun c cc A outer s H vs Q E hr hs => ⟨_, _, pa_cons (pv 1) (pa_cons (pv 2) (pa_nil)), pss_cons (ps_if ((pw_and (pt_cmpR (op_eqA hr) (pv 4) (pe_str) (nomark _)) (pw_and1 (pt_val (pe_cl c__loses_a_gap hr (by decide) (pat_of (W := fun cls d _ H => E cls d H) (L2N.takes_of rfl rfl rfl rfl)) (pa_cons (pv 1) (pa_cons (pv 2) (pa_nil))))))).pt) (pss_one (ps_ret (pe_cc T.cc_SavingMode_NAME (pe_own T.g_SavingMode)))) (pss_nil)) (pss_one (ps_ret (pv 4))), pat_of (W := fun cls d _ H => E cls d H) (L2N.takes_of rfl rfl rfl rfl), rd_SavingMode_refusal T vs H Q E hs⟩
theorem ok_GuardedMode_refusal {f : Addr} {fd : FuncData} (T : Txt K mg) (F : FunS K P "refusal" "GuardedMode.refusal" (defArgs s_GuardedMode_refusal) (defBody s_GuardedMode_refusal) (defScope s_GuardedMode_refusal) (He.ga K "GuardedMode") f fd) {fdp : FuncData} (o_par : FnOk P w K mg base (L2N.CX P w) 7 (He.fAd K ("SavingMode", some "refusal")) fdp ["self", "links", "operation"] (sp_SavingMode_refusal K)) (b_par : Binds K fdp ["self", "links", "operation"] []) (htop : (P.main.scope.names.lookup ("super" : Str)).isSome = false) (c__leaves_a_gap_to_a_holder_that_is_in : Cal P w K mg base 6 "_leaves_a_gap_to_a_holder_that_is_in" ["links", "operation"] (sp__leaves_a_gap_to_a_holder_that_is_in K)) : FnOk P w K mg base (L2N.CX P w) 8 f fd ["self", "links", "operation"] (sp_GuardedMode_refusal K) :=
  FunS.okT (sf := "self") (y := "refusing") (i := 4) F sc_GuardedMode_refusal (len_GuardedMode_refusal K) (by decide) rfl o_par (by decide) b_par rfl rfl rfl rfl rfl T.b_super htop (by decide) rfl rfl (fun X hX => ⟨rfl, rfl, ⟨_, rfl⟩, by rfl⟩) fun c cc A outer s H vs Q E hr hs => ⟨_, _, pa_cons (pv 1) (pa_cons (pv 2) (pa_nil)), pss_cons (ps_if ((pw_and (pt_cmpR (op_eqA hr) (pv 4) (pe_str) (nomark _)) (pw_and1 (pt_val (pe_cl c__leaves_a_gap_to_a_holder_that_is_in hr (by decide) (pat_of (W := fun cls d _ H => E cls d H) (L2N.takes_of rfl rfl rfl rfl)) (pa_cons (pv 1) (pa_cons (pv 2) (pa_nil))))))).pt) (pss_one (ps_ret (pe_cc T.cc_GuardedMode_NAME (pe_own T.g_GuardedMode)))) (pss_nil)) (pss_one (ps_ret (pv 4))), pat_of (W := fun cls d _ H => E cls d H) (L2N.takes_of rfl rfl rfl rfl), rd_GuardedMode_refusal T vs H Q E hs⟩
theorem ok_CheckedMode_refusal {f : Addr} {fd : FuncData} (T : Txt K mg) (F : FunS K P "refusal" "CheckedMode.refusal" (defArgs s_CheckedMode_refusal) (defBody s_CheckedMode_refusal) (defScope s_CheckedMode_refusal) (He.ga K "CheckedMode") f fd) {fdp : FuncData} (o_par : FnOk P w K mg base (L2N.CX P w) 8 (He.fAd K ("GuardedMode", some "refusal")) fdp ["self", "links", "operation"] (sp_GuardedMode_refusal K)) (b_par : Binds K fdp ["self", "links", "operation"] []) (htop : (P.main.scope.names.lookup ("super" : Str)).isSome = false) (c__has_fitting_neighbours : Cal P w K mg base 4 "_has_fitting_neighbours" ["links", "operation"] (sp__has_fitting_neighbours K)) : FnOk P w K mg base (L2N.CX P w) 9 f fd ["self", "links", "operation"] (sp_CheckedMode_refusal K) :=
  FunS.okT (sf := "self") (y := "refusing") (i := 4) F sc_CheckedMode_refusal (len_CheckedMode_refusal K) (by decide) rfl o_par (by decide) b_par rfl rfl rfl rfl rfl T.b_super htop (by decide) rfl rfl (fun X hX => ⟨rfl, rfl, ⟨_, rfl⟩, by rfl⟩) fun c cc A outer s H vs Q E hr hs => ⟨_, _, pa_cons (pv 1) (pa_cons (pv 2) (pa_nil)), pss_cons (ps_if ((pw_and (pt_cmpR (op_eqA hr) (pv 4) (pe_str) (nomark _)) (pw_and1 (pt_not (pt_val (pe_cl c__has_fitting_neighbours hr (by decide) (pat_of (W := fun cls d _ H => E cls d H) (L2N.takes_of rfl rfl rfl rfl)) (pa_cons (pv 1) (pa_cons (pv 2) (pa_nil)))))))).pt) (pss_one (ps_ret (pe_cc T.cc_CheckedMode_NAME (pe_own T.g_CheckedMode)))) (pss_nil)) (pss_one (ps_ret (pv 4))), pat_of (W := fun cls d _ H => E cls d H) (L2N.takes_of rfl rfl rfl rfl), rd_CheckedMode_refusal T vs H Q E hs⟩
theorem ok_check_admitted {f : Addr} {fd : FuncData} (T : Txt K mg) (F : FunD K "check_admitted" "check_admitted" (defArgs s_check_admitted) (defBody s_check_admitted) (defScope s_check_admitted) [] [] f fd) (c_CheckedMode_refusal : Met P w K mg base 9 (He.ga K "CheckedMode") "refusal" ["self", "links", "operation"] (sp_CheckedMode_refusal K)) (c_FreeMode_refusal : Met P w K mg base 5 (He.ga K "FreeMode") "refusal" ["self", "links", "operation"] (sp_FreeMode_refusal K)) (c_GuardedMode_refusal : Met P w K mg base 8 (He.ga K "GuardedMode") "refusal" ["self", "links", "operation"] (sp_GuardedMode_refusal K)) (c_Links_check : Met P w K mg base 4 (He.ga K "Links") "check" ["self", "operation", "index"] (sp_Links_check K)) (c_SavingMode_refusal : Met P w K mg base 7 (He.ga K "SavingMode") "refusal" ["self", "links", "operation"] (sp_SavingMode_refusal K)) (x_Refused : ExM P w K mg base 2 "Refused" (He.ga K "Refused") ["operation", "index", "refusing"]) : FnOk P w K mg base (L2N.CX P w) 10 f fd ["links", "operation", "index", "judge"] (sp_check_admitted K) :=
  F.ok sc_check_admitted (len_check_admitted K) fun cdv A outer s H vs Q E hr h => ⟨t_check_admitted K E, pss_cons (ps_expr (pe_mt c_Links_check T.cl_Links hr (by decide) (pat_of (W := fun cls d _ H => E cls d H) (L2N.takes_of rfl rfl rfl rfl)) (pv 0) (pa_cons (pv 1) (pa_cons (pv 2) (pa_nil))))) (pss_cons (ps_set (i := 4) sc_check_admitted.nd rfl (by first | exact Or.inl rfl | exact Or.inr rfl) (pe_mtD (L := L_refusal K) (poly4 c_FreeMode_refusal T.cl_FreeMode c_SavingMode_refusal T.cl_SavingMode c_GuardedMode_refusal T.cl_GuardedMode c_CheckedMode_refusal T.cl_CheckedMode (by decide) (by decide) (by decide)) hr (by decide) (pat_of (W := fun cls d _ H => E cls d H) (L2N.takes_of rfl rfl rfl rfl)) (pv 3) (pa_cons (pv 0) (pa_cons (pv 1) (pa_nil))))) (pss_one (ps_if (pt_cmpR (op_neA hr) (pv 4) (pe_str) (nomark _)) (pss_one (ps_rz x_Refused rfl (L2N.takes_of rfl rfl rfl rfl) hr (by decide) (pa_cons (pv 1) (pa_cons (pv 2) (pa_cons (pv 4) (pa_nil)))))) (pss_nil)))), rd_check_admitted T vs H Q E h⟩
theorem ok_all_modes {f : Addr} {fd : FuncData} (T : Txt K mg) (F : FunD K "all_modes" "all_modes" (defArgs s_all_modes) (defBody s_all_modes) (defScope s_all_modes) [] [] f fd)  : FnOk P w K mg base (L2N.CX P w) 1 f fd [] (sp_all_modes K) :=
  F.ok sc_all_modes (len_all_modes K) fun cdv A outer s H vs Q E hr h => ⟨t_all_modes K E, pss_one (ps_ret (pe_lst (pa_cons (pe_mk0 T.mk0_FreeMode T.g_FreeMode) (pa_cons (pe_mk0 T.mk0_SavingMode T.g_SavingMode) (pa_cons (pe_mk0 T.mk0_GuardedMode T.g_GuardedMode) (pa_cons (pe_mk0 T.mk0_CheckedMode T.g_CheckedMode) (pa_nil))))))), rd_all_modes T vs H Q E h⟩
theorem ok_mode_named {f : Addr} {fd : FuncData} (T : Txt K mg) (F : FunD K "mode_named" "mode_named" (defArgs s_mode_named) (defBody s_mode_named) (defScope s_mode_named) [] [] f fd) (c_all_modes : Cal P w K mg base 1 "all_modes" [] (sp_all_modes K)) (x_BadMode : ExM P w K mg base 1 "BadMode" (He.ga K "BadMode") ["name"]) : FnOk P w K mg base (L2N.CX P w) 3 f fd ["mode"] (sp_mode_named K) :=
  F.ok sc_mode_named (len_mode_named K) fun cdv A outer s H vs Q E hr h => ⟨t_mode_named K E, pss_cons (ps_for (passes_of rfl) rfl (pi_list (pe_cl0 c_all_modes hr (by decide) (pat_of (W := fun cls d _ H => E cls d H) (L2N.takes_of rfl rfl rfl rfl)))) (pg_name (i := 1) sc_mode_named.nd rfl (by first | exact Or.inl rfl | exact Or.inr rfl)) (pss_one (ps_if (pt_cmpR (op_eqA hr) (pe_con (pv 1) rfl) (pv 0) (nomark _)) (pss_one (ps_ret (pv 1))) (pss_nil)))) (pss_one (ps_rz x_BadMode rfl (L2N.takes_of rfl rfl rfl rfl) hr (by decide) (pa_cons (pv 0) (pa_nil)))), rd_mode_named T vs H Q E h⟩
theorem ok_replay_in {f : Addr} {fd : FuncData} (T : Txt K mg) (F : FunD K "replay_in" "replay_in" (defArgs s_replay_in) (defBody s_replay_in) (defScope s_replay_in) [] [("mode", .str "free")] f fd) (m_Links : Mak P w K mg base 4 "Links" (He.ga K "Links") ["self", "size"] (sp_Links___init__ K)) (c_Links_apply : Met P w K mg base 6 (He.ga K "Links") "apply" ["self", "operation"] (sp_Links_apply K)) (c_check_admitted : Cal P w K mg base 10 "check_admitted" ["links", "operation", "index", "judge"] (sp_check_admitted K)) (c_mode_named : Cal P w K mg base 3 "mode_named" ["mode"] (sp_mode_named K)) : FnOk P w K mg base (L2N.CX P w) 11 f fd ["size", "log", "mode"] (sp_replay_in K) :=
  F.ok sc_replay_in (len_replay_in K) fun cdv A outer s H vs Q E hr h => ⟨t_replay_in K E, pss_cons (ps_set (i := 3) sc_replay_in.nd rfl (by first | exact Or.inl rfl | exact Or.inr rfl) (pe_mk m_Links hr (by decide) (pat_of (W := fun cls d _ H => E cls d H) (L2N.takes_of rfl rfl rfl rfl)) (pa_cons (pv 0) (pa_nil)))) (pss_cons (ps_set (i := 4) sc_replay_in.nd rfl (by first | exact Or.inl rfl | exact Or.inr rfl) (pe_cl c_mode_named hr (by decide) (pat_of (W := fun cls d _ H => E cls d H) (L2N.takes_of rfl rfl rfl rfl)) (pa_cons (pv 2) (pa_nil)))) (pss_cons (ps_for (passes_of rfl) rfl (pi_enum (by rfl) T.b_enumerate (pa_cons (pv 1) (pa_nil))) (pg_tup (by rfl) (pgs_cons (pg_name (i := 5) sc_replay_in.nd rfl (by first | exact Or.inl rfl | exact Or.inr rfl)) (pgs_cons (pg_name (i := 6) sc_replay_in.nd rfl (by first | exact Or.inl rfl | exact Or.inr rfl)) (pgs_nil)))) (pss_cons (ps_expr (pe_cl c_check_admitted hr (by decide) (pat_of (W := fun cls d _ H => E cls d H) (L2N.takes_of rfl rfl rfl rfl)) (pa_cons (pv 3) (pa_cons (pv 6) (pa_cons (pv 5) (pa_cons (pv 4) (pa_nil))))))) (pss_one (ps_expr (pe_mt c_Links_apply T.cl_Links hr (by decide) (pat_of (W := fun cls d _ H => E cls d H) (L2N.takes_of rfl rfl rfl rfl)) (pv 3) (pa_cons (pv 6) (pa_nil))))))) (pss_one (ps_ret (pv 3))))), rd_replay_in T vs H Q E h⟩
theorem ok__law_in_saving {f : Addr} {fd : FuncData} (T : Txt K mg) (F : FunD K "_law_in_saving" "_law_in_saving" (defArgs s__law_in_saving) (defBody s__law_in_saving) (defScope s__law_in_saving) [] [] f fd) (c_Links___str__ : Met P w K mg base 4 (He.ga K "Links") "__str__" ["self"] (sp02_Links___str__ K)) (c_replay_in : CalK P w K mg base 11 "replay_in" ["size", "log", "mode"] 2 ["mode"] (sp_replay_in K)) : FnOk P w K mg base (L2N.CX P w) 12 f fd ["many", "row"] (sp__law_in_saving K) :=
  F.ok sc__law_in_saving (len__law_in_saving K) fun cdv A outer s H vs Q E hr h => ⟨t__law_in_saving K E, pss_cons (L2N.ps_try_as (i := 3) (tb := fun (W : WX) => tAsg (tClK 2 (["mode"] : List Str).length (sp_replay_in K) (WE W) (tCons (tVar 0) (tCons (tVar 1) (tNil))) (tCons (tC (.str "saving")) (tNil))) (gName 2)) (ts := fun a cls d => tSeq (tAsg (tTup (tCons (tXat K a cls d "operation" (tVar 3)) (tCons (tXat K a cls d "index" (tVar 3)) (tCons (tXat K a cls d "refusing" (tVar 3)) (tNil))))) (gName 4)) (tRet (tTup (tCons (tC (.str "refused")) (tCons (tVar 4) (tCons (tCB (rIsX K cls d a) (tCons (tVar 3) (tCons (tC (.ref (He.ga K "LogError"))) (tNil)))) (tCons (tCB (rIsX K cls d a) (tCons (tVar 3) (tCons (tC (.ref (He.ga K "NotLost"))) (tNil)))) (tNil)))))))) (Wout := fun cls d _ H => E cls d H) rfl rfl sc__law_in_saving.nd rfl rfl ⟨rfl, by decide, .inl T.g_Refused⟩ (L2N.takes_of rfl rfl rfl rfl) (fun W pn xe tk2 po2 => pss_one (ps_set (i := 2) sc__law_in_saving.nd rfl (by first | exact Or.inl rfl | exact Or.inr rfl) (pe_clK c_replay_in hr (by decide) (pat_of tk2) (pa_cons (pv 0) (pa_cons (pv 1) (pa_nil))) (pk_cons (pe_str) (pk_nil))))) (fun a oe cls d pn hz hf => pss_cons (ps_set (i := 4) sc__law_in_saving.nd rfl (by first | exact Or.inl rfl | exact Or.inr rfl) (pe_tup (pa_cons (pe_xat hz.zc hf (pv 3)) (pa_cons (pe_xat hz.zc hf (pv 3)) (pa_cons (pe_xat hz.zc hf (pv 3)) (pa_nil)))))) (pss_one (ps_ret (pe_tup (pa_cons (pe_str) (pa_cons (pv 4) (pa_cons (pe_callB (call_isX hz.zc hf) (by rfl) T.b_isinstance (by decide +kernel) (pa_cons (pv 3) (pa_cons (pe_own T.g_LogError) (pa_nil)))) (pa_cons (pe_callB (call_isX hz.zc hf) (by rfl) T.b_isinstance (by decide +kernel) (pa_cons (pv 3) (pa_cons (pe_own T.g_NotLost) (pa_nil)))) (pa_nil)))))))))) (pss_one (ps_ret (pe_tup (pa_cons (pe_str) (pa_cons (pe_callTy (call_strO c_Links___str__ hr (by decide) (pat_of (W := fun cls d _ H => E cls d H) (L2N.takes_of rfl rfl rfl rfl))) (by rfl) T.b_str (by decide +kernel) (pa_cons (pv 2) (pa_nil))) (pa_nil)))))), rd__law_in_saving T vs H Q E h⟩
theorem ok_lost_gaps {f : Addr} {fd : FuncData} (T : Txt K mg) (F : FunD K "lost_gaps" "lost_gaps" (defArgs s_lost_gaps) (defBody s_lost_gaps) (defScope s_lost_gaps) [] [] f fd) (c_gap_states : Cal P w K mg base 5 "gap_states" ["links"] (sp_gap_states K)) : FnOk P w K mg base (L2N.CX P w) 6 f fd ["links"] (sp_lost_gaps K) :=
  F.ok sc_lost_gaps (len_lost_gaps K) fun cdv A outer s H vs Q E hr h => ⟨t_lost_gaps K E, pss_one (ps_ret (pe_lc (own := [("gap", 1), ("state", 2)]) (g := gTup K 2 (gCons (gName 1) (gCons (gName 2) (gNil)))) (tt := tTest (tOp (rEqA K) (tVar 2) (tC (.str "lost")))) (te := tVar 1) rfl sc_lost_gaps.nd (pi_enum (by rfl) T.b_enumerate (pa_cons (pe_cl c_gap_states hr (by decide) (pat_of (W := fun cls d _ H => E cls d H) (L2N.takes_of rfl rfl rfl rfl)) (pa_cons (pv 0) (pa_nil))) (pa_nil))) (blkOk_by (own := [("gap", 1), ("state", 2)]) (N := ["links", "gap", "state"]) (sc := defScope s_lost_gaps) (by decide +kernel)) (fun _ _ _ _ _ => pg_tup (by rfl) (pgs_cons (pg_name (i := 1) sc_lost_gaps.nd rfl (by first | exact Or.inl rfl | exact Or.inr rfl)) (pgs_cons (pg_name (i := 2) sc_lost_gaps.nd rfl (by first | exact Or.inl rfl | exact Or.inr rfl)) (pgs_nil)))) (fun _ _ _ _ _ => pts_one (pt_cmpR (op_eqA hr) (pv 2) (pe_str) (nomark _))) (fun _ _ _ _ _ => pv 1))), rd_lost_gaps T vs H Q E h⟩
theorem ok_first_loss {f : Addr} {fd : FuncData} (T : Txt K mg) (F : FunD K "first_loss" "first_loss" (defArgs s_first_loss) (defBody s_first_loss) (defScope s_first_loss) [] [] f fd) (m_Links : Mak P w K mg base 4 "Links" (He.ga K "Links") ["self", "size"] (sp_Links___init__ K)) (c_Links_apply_at : Met P w K mg base 5 (He.ga K "Links") "apply_at" ["self", "operation", "index"] (sp_Links_apply_at K)) (c_lost_gaps : Cal P w K mg base 6 "lost_gaps" ["links"] (sp_lost_gaps K)) : FnOk P w K mg base (L2N.CX P w) 7 f fd ["size", "log"] (sp_first_loss K) :=
  F.ok sc_first_loss (len_first_loss K) fun cdv A outer s H vs Q E hr h => ⟨t_first_loss K E, pss_cons (ps_set (i := 2) sc_first_loss.nd rfl (by first | exact Or.inl rfl | exact Or.inr rfl) (pe_mk m_Links hr (by decide) (pat_of (W := fun cls d _ H => E cls d H) (L2N.takes_of rfl rfl rfl rfl)) (pa_cons (pv 0) (pa_nil)))) (pss_cons (ps_set (i := 3) sc_first_loss.nd rfl (by first | exact Or.inl rfl | exact Or.inr rfl) (pe_non)) (pss_cons (ps_for (passes_of rfl) rfl (pi_enum (by rfl) T.b_enumerate (pa_cons (pv 1) (pa_nil))) (pg_tup (by rfl) (pgs_cons (pg_name (i := 4) sc_first_loss.nd rfl (by first | exact Or.inl rfl | exact Or.inr rfl)) (pgs_cons (pg_name (i := 5) sc_first_loss.nd rfl (by first | exact Or.inl rfl | exact Or.inr rfl)) (pgs_nil)))) (pss_cons (ps_expr (pe_mt c_Links_apply_at T.cl_Links hr (by decide) (pat_of (W := fun cls d _ H => E cls d H) (L2N.takes_of rfl rfl rfl rfl)) (pv 2) (pa_cons (pv 5) (pa_cons (pv 4) (pa_nil))))) (pss_cons (ps_set (i := 6) sc_first_loss.nd rfl (by first | exact Or.inl rfl | exact Or.inr rfl) (pe_ifExp (pt_cmpR op_isNA (pv 3) (pe_non) (nomark _)) (pe_cl c_lost_gaps hr (by decide) (pat_of (W := fun cls d _ H => E cls d H) (L2N.takes_of rfl rfl rfl rfl)) (pa_cons (pv 2) (pa_nil))) (pe_lst (pa_nil)))) (pss_one (ps_if (pt_tr (pv 6) (by intro _; rfl)) (pss_one (ps_set (i := 3) sc_first_loss.nd rfl (by first | exact Or.inl rfl | exact Or.inr rfl) (pe_tup (pa_cons (pv 4) (pa_cons (pe_ix ix_seq (pv 6) (pe_int) (fun _ _ => rfl)) (pa_nil)))))) (pss_nil)))))) (pss_one (ps_ret (pv 3))))), rd_first_loss T vs H Q E h⟩
theorem ok_Links_copy {f : Addr} {fd : FuncData} (T : Txt K mg) (F : FunD K "copy" "Links.copy" (defArgs s_Links_copy) (defBody s_Links_copy) (defScope s_Links_copy) [] [] f fd) (m_Links : Mak P w K mg base 4 "Links" (He.ga K "Links") ["self", "size"] (sp_Links___init__ K)) : FnOk P w K mg base (L2N.CX P w) 6 f fd ["self"] (sp_Links_copy K) :=
  F.ok sc_Links_copy (len_Links_copy K) fun cdv A outer s H vs Q E hr h => ⟨t_Links_copy K E, pss_cons (ps_set (i := 1) sc_Links_copy.nd rfl (by first | exact Or.inl rfl | exact Or.inr rfl) (pe_mk m_Links hr (by decide) (pat_of (W := fun cls d _ H => E cls d H) (L2N.takes_of rfl rfl rfl rfl)) (pa_cons (pe_fld (pv 0) rfl) (pa_nil)))) (pss_cons (ps_fld (pv 1) (pe_callTy call_listA (by rfl) T.b_list (by decide +kernel) (pa_cons (pe_fld (pv 0) rfl) (pa_nil))) rfl) (pss_cons (ps_fld (pv 1) (pe_callTy call_listA (by rfl) T.b_list (by decide +kernel) (pa_cons (pe_fld (pv 0) rfl) (pa_nil))) rfl) (pss_cons (ps_fld (pv 1) (pe_callTy call_listA (by rfl) T.b_list (by decide +kernel) (pa_cons (pe_fld (pv 0) rfl) (pa_nil))) rfl) (pss_one (ps_ret (pv 1)))))), rd_Links_copy T vs H Q E h⟩
theorem ok_play {f : Addr} {fd : FuncData} (T : Txt K mg) (F : FunD K "play" "play" (defArgs s_play) (defBody s_play) (defScope s_play) [] [] f fd) (c_Links_apply_at : Met P w K mg base 5 (He.ga K "Links") "apply_at" ["self", "operation", "index"] (sp_Links_apply_at K)) (c_Links_copy : Met P w K mg base 6 (He.ga K "Links") "copy" ["self"] (sp_Links_copy K)) : FnOk P w K mg base (L2N.CX P w) 7 f fd ["links", "log"] (sp_play K) :=
  F.ok sc_play (len_play K) fun cdv A outer s H vs Q E hr h => ⟨t_play K E, pss_cons (ps_set (i := 2) sc_play.nd rfl (by first | exact Or.inl rfl | exact Or.inr rfl) (pe_mt0 c_Links_copy T.cl_Links hr (by decide) (pat_of (W := fun cls d _ H => E cls d H) (L2N.takes_of rfl rfl rfl rfl)) (pv 0))) (pss_cons (ps_for (passes_of rfl) rfl (pi_enum (by rfl) T.b_enumerate (pa_cons (pv 1) (pa_nil))) (pg_tup (by rfl) (pgs_cons (pg_name (i := 3) sc_play.nd rfl (by first | exact Or.inl rfl | exact Or.inr rfl)) (pgs_cons (pg_name (i := 4) sc_play.nd rfl (by first | exact Or.inl rfl | exact Or.inr rfl)) (pgs_nil)))) (pss_one (ps_expr (pe_mt c_Links_apply_at T.cl_Links hr (by decide) (pat_of (W := fun cls d _ H => E cls d H) (L2N.takes_of rfl rfl rfl rfl)) (pv 2) (pa_cons (pv 4) (pa_cons (pv 3) (pa_nil))))))) (pss_one (ps_ret (pv 2)))), rd_play T vs H Q E h⟩
theorem ok_replay {f : Addr} {fd : FuncData} (T : Txt K mg) (F : FunD K "replay" "replay" (defArgs s_replay) (defBody s_replay) (defScope s_replay) [] [] f fd) (m_Links : Mak P w K mg base 4 "Links" (He.ga K "Links") ["self", "size"] (sp_Links___init__ K)) (c_play : Cal P w K mg base 7 "play" ["links", "log"] (sp_play K)) : FnOk P w K mg base (L2N.CX P w) 8 f fd ["size", "log"] (sp_replay K) :=
  F.ok sc_replay (len_replay K) fun cdv A outer s H vs Q E hr h => ⟨t_replay K E, pss_one (ps_ret (pe_cl c_play hr (by decide) (pat_of (W := fun cls d _ H => E cls d H) (L2N.takes_of rfl rfl rfl rfl)) (pa_cons (pe_mk m_Links hr (by decide) (pat_of (W := fun cls d _ H => E cls d H) (L2N.takes_of rfl rfl rfl rfl)) (pa_cons (pv 0) (pa_nil))) (pa_cons (pv 1) (pa_nil))))), rd_replay T vs H Q E h⟩
theorem ok_first_refusal {f : Addr} {fd : FuncData} (T : Txt K mg) (F : FunD K "first_refusal" "first_refusal" (defArgs s_first_refusal) (defBody s_first_refusal) (defScope s_first_refusal) [] [("mode", .str "free")] f fd) (c_CheckedMode_refusal : Met P w K mg base 9 (He.ga K "CheckedMode") "refusal" ["self", "links", "operation"] (sp_CheckedMode_refusal K)) (c_FreeMode_refusal : Met P w K mg base 5 (He.ga K "FreeMode") "refusal" ["self", "links", "operation"] (sp_FreeMode_refusal K)) (c_GuardedMode_refusal : Met P w K mg base 8 (He.ga K "GuardedMode") "refusal" ["self", "links", "operation"] (sp_GuardedMode_refusal K)) (m_Links : Mak P w K mg base 4 "Links" (He.ga K "Links") ["self", "size"] (sp_Links___init__ K)) (c_Links_apply : Met P w K mg base 6 (He.ga K "Links") "apply" ["self", "operation"] (sp_Links_apply K)) (c_SavingMode_refusal : Met P w K mg base 7 (He.ga K "SavingMode") "refusal" ["self", "links", "operation"] (sp_SavingMode_refusal K)) (c_check_size : Cal P w K mg base 3 "check_size" ["size"] (sp_check_size K)) (c_mode_named : Cal P w K mg base 3 "mode_named" ["mode"] (sp_mode_named K)) (c_replay : Cal P w K mg base 8 "replay" ["size", "log"] (sp_replay K)) : FnOk P w K mg base (L2N.CX P w) 10 f fd ["size", "log", "mode"] (sp_first_refusal K) :=
  F.ok sc_first_refusal (len_first_refusal K) fun cdv A outer s H vs Q E hr h => ⟨t_first_refusal K E, pss_cons (ps_expr (pe_cl c_check_size hr (by decide) (pat_of (W := fun cls d _ H => E cls d H) (L2N.takes_of rfl rfl rfl rfl)) (pa_cons (pv 0) (pa_nil)))) (pss_cons (ps_set (i := 3) sc_first_refusal.nd rfl (by first | exact Or.inl rfl | exact Or.inr rfl) (pe_cl c_mode_named hr (by decide) (pat_of (W := fun cls d _ H => E cls d H) (L2N.takes_of rfl rfl rfl rfl)) (pa_cons (pv 2) (pa_nil)))) (pss_cons (ps_expr (pe_cl c_replay hr (by decide) (pat_of (W := fun cls d _ H => E cls d H) (L2N.takes_of rfl rfl rfl rfl)) (pa_cons (pv 0) (pa_cons (pv 1) (pa_nil))))) (pss_cons (ps_set (i := 4) sc_first_refusal.nd rfl (by first | exact Or.inl rfl | exact Or.inr rfl) (pe_mk m_Links hr (by decide) (pat_of (W := fun cls d _ H => E cls d H) (L2N.takes_of rfl rfl rfl rfl)) (pa_cons (pv 0) (pa_nil)))) (pss_cons (ps_for (passes_of rfl) rfl (pi_enum (by rfl) T.b_enumerate (pa_cons (pv 1) (pa_nil))) (pg_tup (by rfl) (pgs_cons (pg_name (i := 5) sc_first_refusal.nd rfl (by first | exact Or.inl rfl | exact Or.inr rfl)) (pgs_cons (pg_name (i := 6) sc_first_refusal.nd rfl (by first | exact Or.inl rfl | exact Or.inr rfl)) (pgs_nil)))) (pss_cons (ps_if (pt_cmpR (op_neA hr) (pe_mtD (L := L_refusal K) (poly4 c_FreeMode_refusal T.cl_FreeMode c_SavingMode_refusal T.cl_SavingMode c_GuardedMode_refusal T.cl_GuardedMode c_CheckedMode_refusal T.cl_CheckedMode (by decide) (by decide) (by decide)) hr (by decide) (pat_of (W := fun cls d _ H => E cls d H) (L2N.takes_of rfl rfl rfl rfl)) (pv 3) (pa_cons (pv 4) (pa_cons (pv 6) (pa_nil)))) (pe_str) (nomark _)) (pss_one (ps_ret (pv 5))) (pss_nil)) (pss_one (ps_expr (pe_mt c_Links_apply T.cl_Links hr (by decide) (pat_of (W := fun cls d _ H => E cls d H) (L2N.takes_of rfl rfl rfl rfl)) (pv 4) (pa_cons (pv 6) (pa_nil))))))) (pss_one (ps_ret (pe_non))))))), rd_first_refusal T vs H Q E h⟩
theorem ok__law_refusals {f : Addr} {fd : FuncData} (T : Txt K mg) (F : FunD K "_law_refusals" "_law_refusals" (defArgs s__law_refusals) (defBody s__law_refusals) (defScope s__law_refusals) [] [] f fd) (c__law_after : Cal P w K mg base 2 "_law_after" ["many", "row"] (sp53__law_after K)) (c__law_dump : Cal P w K mg base 1 "_law_dump" ["state"] (sp__law_dump K)) (c__law_firsts : Cal P w K mg base 3 "_law_firsts" ["many", "row"] (sp__law_firsts K)) (c__law_in_saving : Cal P w K mg base 12 "_law_in_saving" ["many", "row"] (sp__law_in_saving K)) (c__law_same : Cal P w K mg base 5 "_law_same" ["told", "due"] ((sp48_same 4) K)) (c_first_loss : Cal P w K mg base 7 "first_loss" ["size", "log"] (sp_first_loss K)) (c_first_refusal : CalK P w K mg base 10 "first_refusal" ["size", "log", "mode"] 2 ["mode"] (sp_first_refusal K)) (cd_first_refusal : CalD P w K mg base 10 "first_refusal" ["size", "log", "mode"] 2 [.str "free"] (sp_first_refusal K)) : FnOk P w K mg base (L2N.CX P w) 13 f fd ["many", "row", "found"] (sp47__law_refusals K) :=
  F.ok sc__law_refusals (len__law_refusals K) fun cdv A outer s H vs Q E hr h => ⟨t__law_refusals K E, pss_cons (ps_set (i := 3) sc__law_refusals.nd rfl (by first | exact Or.inl rfl | exact Or.inr rfl) (pe_lst (pa_cons (pe_str) (pa_cons (pe_str) (pa_cons (pe_str) (pa_cons (pe_str) (pa_nil))))))) (pss_cons (ps_set (i := 4) sc__law_refusals.nd rfl (by first | exact Or.inl rfl | exact Or.inr rfl) (pe_callTy call_listA (by rfl) T.b_list (by decide +kernel) (pa_cons (pv 1) (pa_nil)))) (pss_cons (ps_set (i := 5) sc__law_refusals.nd rfl (by first | exact Or.inl rfl | exact Or.inr rfl) (pe_non)) (pss_cons (ps_if (pt_tr (pv 2) (by intro _; rfl)) (pss_one (ps_set (i := 5) sc__law_refusals.nd rfl (by first | exact Or.inl rfl | exact Or.inr rfl) (pe_tup (pa_cons (pe_ix ix_seq (pe_ix ix_seq (pv 2) (pe_int) (fun _ _ => rfl)) (pe_int) (fun _ _ => rfl)) (pa_cons (pe_ix ix_seq (pe_ix ix_seq (pv 2) (pe_int) (fun _ _ => rfl)) (pe_int) (fun _ _ => rfl)) (pa_nil)))))) (pss_nil)) (pss_cons (ps_if (pt_not (pt_val (pe_cl c__law_same hr (by decide) (pat_of (W := fun cls d _ H => E cls d H) (L2N.takes_of rfl rfl rfl rfl)) (pa_cons (pe_cl c_first_loss hr (by decide) (pat_of (W := fun cls d _ H => E cls d H) (L2N.takes_of rfl rfl rfl rfl)) (pa_cons (pv 0) (pa_cons (pv 4) (pa_nil)))) (pa_cons (pv 5) (pa_nil)))))) (pss_one (ps_ret (pe_bl))) (pss_nil)) (pss_cons (ps_set (i := 6) sc__law_refusals.nd rfl (by first | exact Or.inl rfl | exact Or.inr rfl) (pe_cl c__law_firsts hr (by decide) (pat_of (W := fun cls d _ H => E cls d H) (L2N.takes_of rfl rfl rfl rfl)) (pa_cons (pv 0) (pa_cons (pv 1) (pa_nil))))) (pss_cons (ps_for (passes_of rfl) rfl (pi_range1 rfl T.b_range (pa_cons (pe_int) (pa_nil))) (pg_name (i := 7) sc__law_refusals.nd rfl (by first | exact Or.inl rfl | exact Or.inr rfl)) (pss_one (ps_if (pt_not (pt_val (pe_cl c__law_same hr (by decide) (pat_of (W := fun cls d _ H => E cls d H) (L2N.takes_of rfl rfl rfl rfl)) (pa_cons (pe_clK c_first_refusal hr (by decide) (pat_of (W := fun cls d _ H => E cls d H) (L2N.takes_of rfl rfl rfl rfl)) (pa_cons (pv 0) (pa_cons (pv 4) (pa_nil))) (pk_cons (pe_ix ix_seq (pv 3) (pv 7) (fun _ _ => rfl)) (pk_nil))) (pa_cons (pe_ix ix_seq (pv 6) (pv 7) (fun _ _ => rfl)) (pa_nil)))))) (pss_one (ps_ret (pe_bl))) (pss_nil)))) (pss_cons (ps_if (pt_not (pt_val (pe_cl c__law_same hr (by decide) (pat_of (W := fun cls d _ H => E cls d H) (L2N.takes_of rfl rfl rfl rfl)) (pa_cons (pe_clD cd_first_refusal hr (by decide) (pat_of (W := fun cls d _ H => E cls d H) (L2N.takes_of rfl rfl rfl rfl)) (pa_cons (pv 0) (pa_cons (pv 4) (pa_nil)))) (pa_cons (pe_non) (pa_nil)))))) (pss_one (ps_ret (pe_bl))) (pss_nil)) (pss_cons (ps_if (pt_not (pt_tr (pv 2) (by intro _; rfl))) (pss_cons (ps_set (i := 8) sc__law_refusals.nd rfl (by first | exact Or.inl rfl | exact Or.inr rfl) (pe_tup (pa_cons (pe_str) (pa_cons (pe_cl c__law_dump hr (by decide) (pat_of (W := fun cls d _ H => E cls d H) (L2N.takes_of rfl rfl rfl rfl)) (pa_cons (pe_cl c__law_after hr (by decide) (pat_of (W := fun cls d _ H => E cls d H) (L2N.takes_of rfl rfl rfl rfl)) (pa_cons (pv 0) (pa_cons (pv 1) (pa_nil)))) (pa_nil))) (pa_nil))))) (pss_one (ps_ret (pe_and (pe_cl c__law_same hr (by decide) (pat_of (W := fun cls d _ H => E cls d H) (L2N.takes_of rfl rfl rfl rfl)) (pa_cons (pe_cl c__law_in_saving hr (by decide) (pat_of (W := fun cls d _ H => E cls d H) (L2N.takes_of rfl rfl rfl rfl)) (pa_cons (pv 0) (pa_cons (pv 4) (pa_nil)))) (pa_cons (pv 8) (pa_nil)))) (pe_one (pe_cmpR (op_eqA hr) (pv 4) (pv 1) (nomark _))))))) (pss_nil)) (pss_cons (ps_set (i := 9) sc__law_refusals.nd rfl (by first | exact Or.inl rfl | exact Or.inr rfl) (pe_ix ix_seq (pe_ix ix_seq (pv 2) (pe_int) (fun _ _ => rfl)) (pe_int) (fun _ _ => rfl))) (pss_cons (ps_if (pt_not (pt_val (pe_cl c__law_same hr (by decide) (pat_of (W := fun cls d _ H => E cls d H) (L2N.takes_of rfl rfl rfl rfl)) (pa_cons (pe_cl c__law_in_saving hr (by decide) (pat_of (W := fun cls d _ H => E cls d H) (L2N.takes_of rfl rfl rfl rfl)) (pa_cons (pv 0) (pa_cons (pv 4) (pa_nil)))) (pa_cons (pe_tup (pa_cons (pe_str) (pa_cons (pe_tup (pa_cons (pe_ix ix_seq (pv 1) (pv 9) (fun _ _ => rfl)) (pa_cons (pv 9) (pa_cons (pe_str) (pa_nil))))) (pa_cons (pe_bl) (pa_cons (pe_bl) (pa_nil)))))) (pa_nil)))))) (pss_one (ps_ret (pe_bl))) (pss_nil)) (pss_cons (ps_set (i := 10) sc__law_refusals.nd rfl (by first | exact Or.inl rfl | exact Or.inr rfl) (pe_tup (pa_cons (pe_str) (pa_cons (pe_cl c__law_dump hr (by decide) (pat_of (W := fun cls d _ H => E cls d H) (L2N.takes_of rfl rfl rfl rfl)) (pa_cons (pe_cl c__law_after hr (by decide) (pat_of (W := fun cls d _ H => E cls d H) (L2N.takes_of rfl rfl rfl rfl)) (pa_cons (pv 0) (pa_cons (pe_slice sl_list (pv 1) (po_none) (po_some (pv 9))) (pa_nil)))) (pa_nil))) (pa_nil))))) (pss_one (ps_ret (pe_and (pe_cl c__law_same hr (by decide) (pat_of (W := fun cls d _ H => E cls d H) (L2N.takes_of rfl rfl rfl rfl)) (pa_cons (pe_cl c__law_in_saving hr (by decide) (pat_of (W := fun cls d _ H => E cls d H) (L2N.takes_of rfl rfl rfl rfl)) (pa_cons (pv 0) (pa_cons (pe_slice sl_list (pv 1) (po_none) (po_some (pv 9))) (pa_nil)))) (pa_cons (pv 10) (pa_nil)))) (pe_one (pe_cmpR (op_eqA hr) (pv 4) (pv 1) (nomark _))))))))))))))))), rd__law_refusals T vs H Q E h⟩
theorem ok_admits {f : Addr} {fd : FuncData} (T : Txt K mg) (F : FunD K "admits" "admits" (defArgs s_admits) (defBody s_admits) (defScope s_admits) [] [("mode", .str "free")] f fd) (c_CheckedMode_refusal : Met P w K mg base 9 (He.ga K "CheckedMode") "refusal" ["self", "links", "operation"] (sp_CheckedMode_refusal K)) (c_FreeMode_refusal : Met P w K mg base 5 (He.ga K "FreeMode") "refusal" ["self", "links", "operation"] (sp_FreeMode_refusal K)) (c_GuardedMode_refusal : Met P w K mg base 8 (He.ga K "GuardedMode") "refusal" ["self", "links", "operation"] (sp_GuardedMode_refusal K)) (c_SavingMode_refusal : Met P w K mg base 7 (He.ga K "SavingMode") "refusal" ["self", "links", "operation"] (sp_SavingMode_refusal K)) (c_mode_named : Cal P w K mg base 3 "mode_named" ["mode"] (sp_mode_named K)) : FnOk P w K mg base (L2N.CX P w) 10 f fd ["links", "operation", "mode"] (sp_admits K) :=
  F.ok sc_admits (len_admits K) fun cdv A outer s H vs Q E hr h => ⟨t_admits K E, pss_one (ps_ret (pe_cmpR (op_eqA hr) (pe_mtD (L := L_refusal K) (poly4 c_FreeMode_refusal T.cl_FreeMode c_SavingMode_refusal T.cl_SavingMode c_GuardedMode_refusal T.cl_GuardedMode c_CheckedMode_refusal T.cl_CheckedMode (by decide) (by decide) (by decide)) hr (by decide) (pat_of (W := fun cls d _ H => E cls d H) (L2N.takes_of rfl rfl rfl rfl)) (pe_cl c_mode_named hr (by decide) (pat_of (W := fun cls d _ H => E cls d H) (L2N.takes_of rfl rfl rfl rfl)) (pa_cons (pv 2) (pa_nil))) (pa_cons (pv 0) (pa_cons (pv 1) (pa_nil)))) (pe_str) (nomark _))), rd_admits T vs H Q E h⟩
theorem ok__law_saved {f : Addr} {fd : FuncData} (T : Txt K mg) (F : FunD K "_law_saved" "_law_saved" (defArgs s__law_saved) (defBody s__law_saved) (defScope s__law_saved) [] [] f fd) (c_Links___str__ : Met P w K mg base 4 (He.ga K "Links") "__str__" ["self"] (sp02_Links___str__ K)) (c__law_after : Cal P w K mg base 2 "_law_after" ["many", "row"] (sp53__law_after K)) (c__law_book : Cal P w K mg base 2 "_law_book" ["many", "row"] (sp48__law_book K)) (c__law_dump : Cal P w K mg base 1 "_law_dump" ["state"] (sp__law_dump K)) (c__law_in_saving : Cal P w K mg base 12 "_law_in_saving" ["many", "row"] (sp__law_in_saving K)) (c__law_paper : Cal P w K mg base 8 "_law_paper" ["many", "row"] (sp48__law_paper K)) (c__law_put : Cal P w K mg base 1 "_law_put" ["state", "deed"] (sp48__law_put K)) (c__law_refuser : Cal P w K mg base 2 "_law_refuser" ["state", "deed"] (sp__law_refuser K)) (c__law_same : Cal P w K mg base 5 "_law_same" ["told", "due"] ((sp48_same 4) K)) (c__law_start : Cal P w K mg base 1 "_law_start" ["many"] (sp48__law_start K)) (c_admits : CalK P w K mg base 10 "admits" ["links", "operation", "mode"] 2 ["mode"] (sp_admits K)) (c_first_loss : Cal P w K mg base 7 "first_loss" ["size", "log"] (sp_first_loss K)) (c_first_refusal : CalK P w K mg base 10 "first_refusal" ["size", "log", "mode"] 2 ["mode"] (sp_first_refusal K)) (c_replay : Cal P w K mg base 8 "replay" ["size", "log"] (sp_replay K)) (cd_admits : CalD P w K mg base 10 "admits" ["links", "operation", "mode"] 2 [.str "free"] (sp_admits K)) : FnOk P w K mg base (L2N.CX P w) 13 f fd ["many", "row"] (sp__law_saved K) :=
  F.ok sc__law_saved (len__law_saved K) fun cdv A outer s H vs Q E hr h => ⟨t__law_saved K E, pss_cons (ps_set (i := 2) sc__law_saved.nd rfl (by first | exact Or.inl rfl | exact Or.inr rfl) (pe_cl c__law_start hr (by decide) (pat_of (W := fun cls d _ H => E cls d H) (L2N.takes_of rfl rfl rfl rfl)) (pa_cons (pv 0) (pa_nil)))) (pss_cons (ps_set (i := 3) sc__law_saved.nd rfl (by first | exact Or.inl rfl | exact Or.inr rfl) (pe_lst (pa_nil))) (pss_cons (ps_set (i := 4) sc__law_saved.nd rfl (by first | exact Or.inl rfl | exact Or.inr rfl) (pe_lst (pa_nil))) (pss_cons (ps_for (passes_of rfl) rfl (pi_list (pv 1)) (pg_name (i := 5) sc__law_saved.nd rfl (by first | exact Or.inl rfl | exact Or.inr rfl)) (pss_cons (ps_set (i := 6) sc__law_saved.nd rfl (by first | exact Or.inl rfl | exact Or.inr rfl) (pe_callB call_absA (by rfl) T.b_abs (by decide +kernel) (pa_cons (pv 5) (pa_nil)))) (pss_cons (ps_set (i := 7) sc__law_saved.nd rfl (by first | exact Or.inl rfl | exact Or.inr rfl) (pe_ifExp (pt_val (pe_ix ix_seq (pe_ix ix_seq (pv 2) (pe_int) (fun _ _ => rfl)) (pv 6) (fun _ _ => rfl))) (pv 6) (pe_un un_neg (pv 6)))) (pss_one (ps_if (pt_cmpR (op_eqA hr) (pe_cl c__law_refuser hr (by decide) (pat_of (W := fun cls d _ H => E cls d H) (L2N.takes_of rfl rfl rfl rfl)) (pa_cons (pv 2) (pa_cons (pv 7) (pa_nil)))) (pe_int) (nomark _)) (pss_one (ps_expr (pe_bm PySem.F.plainAttrs_list PySem.F.slot_list_append PySem.F.type_list_append mt_append (pv 4) (pa_cons (pe_tup (pa_cons (pe_callB call_lenA (by rfl) T.b_len (by decide +kernel) (pa_cons (pv 3) (pa_nil))) (pa_cons (pv 7) (pa_nil)))) (pa_nil))))) (pss_cons (ps_expr (pe_cl c__law_put hr (by decide) (pat_of (W := fun cls d _ H => E cls d H) (L2N.takes_of rfl rfl rfl rfl)) (pa_cons (pv 2) (pa_cons (pv 7) (pa_nil))))) (pss_one (ps_expr (pe_bm PySem.F.plainAttrs_list PySem.F.slot_list_append PySem.F.type_list_append mt_append (pv 3) (pa_cons (pv 7) (pa_nil))))))))))) (pss_cons (ps_if (pt_not (pt_val (pe_cl c__law_same hr (by decide) (pat_of (W := fun cls d _ H => E cls d H) (L2N.takes_of rfl rfl rfl rfl)) (pa_cons (pe_cl c_first_loss hr (by decide) (pat_of (W := fun cls d _ H => E cls d H) (L2N.takes_of rfl rfl rfl rfl)) (pa_cons (pv 0) (pa_cons (pe_callTy call_listA (by rfl) T.b_list (by decide +kernel) (pa_cons (pv 3) (pa_nil))) (pa_nil)))) (pa_cons (pe_non) (pa_nil)))))) (pss_one (ps_ret (pe_bl))) (pss_nil)) (pss_cons (ps_if (pt_not (pt_val (pe_cl c__law_same hr (by decide) (pat_of (W := fun cls d _ H => E cls d H) (L2N.takes_of rfl rfl rfl rfl)) (pa_cons (pe_clK c_first_refusal hr (by decide) (pat_of (W := fun cls d _ H => E cls d H) (L2N.takes_of rfl rfl rfl rfl)) (pa_cons (pv 0) (pa_cons (pe_callTy call_listA (by rfl) T.b_list (by decide +kernel) (pa_cons (pv 3) (pa_nil))) (pa_nil))) (pk_cons (pe_str) (pk_nil))) (pa_cons (pe_non) (pa_nil)))))) (pss_one (ps_ret (pe_bl))) (pss_nil)) (pss_cons (ps_if (pt_not (pt_val (pe_cl c__law_same hr (by decide) (pat_of (W := fun cls d _ H => E cls d H) (L2N.takes_of rfl rfl rfl rfl)) (pa_cons (pe_cl c__law_paper hr (by decide) (pat_of (W := fun cls d _ H => E cls d H) (L2N.takes_of rfl rfl rfl rfl)) (pa_cons (pv 0) (pa_cons (pe_callTy call_listA (by rfl) T.b_list (by decide +kernel) (pa_cons (pv 3) (pa_nil))) (pa_nil)))) (pa_cons (pe_tup (pa_cons (pe_str) (pa_cons (pv 0) (pa_cons (pe_bl) (pa_cons (pe_bl) (pa_nil)))))) (pa_nil)))))) (pss_one (ps_ret (pe_bl))) (pss_nil)) (pss_cons (ps_if (pt_not (pt_val (pe_cl c__law_same hr (by decide) (pat_of (W := fun cls d _ H => E cls d H) (L2N.takes_of rfl rfl rfl rfl)) (pa_cons (pe_cl c__law_in_saving hr (by decide) (pat_of (W := fun cls d _ H => E cls d H) (L2N.takes_of rfl rfl rfl rfl)) (pa_cons (pv 0) (pa_cons (pe_callTy call_listA (by rfl) T.b_list (by decide +kernel) (pa_cons (pv 3) (pa_nil))) (pa_nil)))) (pa_cons (pe_tup (pa_cons (pe_str) (pa_cons (pe_cl c__law_dump hr (by decide) (pat_of (W := fun cls d _ H => E cls d H) (L2N.takes_of rfl rfl rfl rfl)) (pa_cons (pv 2) (pa_nil))) (pa_nil)))) (pa_nil)))))) (pss_one (ps_ret (pe_bl))) (pss_nil)) (pss_cons (ps_for (passes_of rfl) rfl (pi_list (pe_slice sl_list (pv 4) (po_none) (po_some (pe_int)))) (pg_tup (by rfl) (pgs_cons (pg_name (i := 8) sc__law_saved.nd rfl (by first | exact Or.inl rfl | exact Or.inr rfl)) (pgs_cons (pg_name (i := 7) sc__law_saved.nd rfl (by first | exact Or.inl rfl | exact Or.inr rfl)) (pgs_nil)))) (pss_cons (ps_set (i := 9) sc__law_saved.nd rfl (by first | exact Or.inl rfl | exact Or.inr rfl) (pe_slice sl_list (pv 3) (po_none) (po_some (pv 8)))) (pss_cons (ps_set (i := 10) sc__law_saved.nd rfl (by first | exact Or.inl rfl | exact Or.inr rfl) (pe_cl c_replay hr (by decide) (pat_of (W := fun cls d _ H => E cls d H) (L2N.takes_of rfl rfl rfl rfl)) (pa_cons (pv 0) (pa_cons (pv 9) (pa_nil))))) (pss_cons (ps_set (i := 11) sc__law_saved.nd rfl (by first | exact Or.inl rfl | exact Or.inr rfl) (pe_callTy (call_strO c_Links___str__ hr (by decide) (pat_of (W := fun cls d _ H => E cls d H) (L2N.takes_of rfl rfl rfl rfl))) (by rfl) T.b_str (by decide +kernel) (pa_cons (pv 10) (pa_nil)))) (pss_cons (ps_set (i := 12) sc__law_saved.nd rfl (by first | exact Or.inl rfl | exact Or.inr rfl) (pe_lst (pa_cons (pe_clD cd_admits hr (by decide) (pat_of (W := fun cls d _ H => E cls d H) (L2N.takes_of rfl rfl rfl rfl)) (pa_cons (pv 10) (pa_cons (pv 7) (pa_nil)))) (pa_cons (pe_clK c_admits hr (by decide) (pat_of (W := fun cls d _ H => E cls d H) (L2N.takes_of rfl rfl rfl rfl)) (pa_cons (pv 10) (pa_cons (pv 7) (pa_nil))) (pk_cons (pe_str) (pk_nil))) (pa_cons (pe_clK c_admits hr (by decide) (pat_of (W := fun cls d _ H => E cls d H) (L2N.takes_of rfl rfl rfl rfl)) (pa_cons (pv 10) (pa_cons (pv 7) (pa_nil))) (pk_cons (pe_str) (pk_nil))) (pa_nil)))))) (pss_cons (ps_if ((pw_or (pt_not (pt_val (pe_cl c__law_same hr (by decide) (pat_of (W := fun cls d _ H => E cls d H) (L2N.takes_of rfl rfl rfl rfl)) (pa_cons (pv 12) (pa_cons (pe_lst (pa_cons (pe_bl) (pa_cons (pe_bl) (pa_cons (pe_bl) (pa_nil))))) (pa_nil)))))) (pw_or1 (pt_not (pt_val (pe_cl c__law_same hr (by decide) (pat_of (W := fun cls d _ H => E cls d H) (L2N.takes_of rfl rfl rfl rfl)) (pa_cons (pe_callTy (call_strO c_Links___str__ hr (by decide) (pat_of (W := fun cls d _ H => E cls d H) (L2N.takes_of rfl rfl rfl rfl))) (by rfl) T.b_str (by decide +kernel) (pa_cons (pv 10) (pa_nil))) (pa_cons (pv 11) (pa_nil)))))))).pt) (pss_one (ps_ret (pe_bl))) (pss_nil)) (pss_cons (ps_if (pt_not (pt_val (pe_cl c__law_same hr (by decide) (pat_of (W := fun cls d _ H => E cls d H) (L2N.takes_of rfl rfl rfl rfl)) (pa_cons (pv 11) (pa_cons (pe_cl c__law_dump hr (by decide) (pat_of (W := fun cls d _ H => E cls d H) (L2N.takes_of rfl rfl rfl rfl)) (pa_cons (pe_cl c__law_after hr (by decide) (pat_of (W := fun cls d _ H => E cls d H) (L2N.takes_of rfl rfl rfl rfl)) (pa_cons (pv 0) (pa_cons (pv 9) (pa_nil)))) (pa_nil))) (pa_nil)))))) (pss_one (ps_ret (pe_bl))) (pss_nil)) (pss_cons (ps_if (pt_not (pt_val (pe_cl c__law_same hr (by decide) (pat_of (W := fun cls d _ H => E cls d H) (L2N.takes_of rfl rfl rfl rfl)) (pa_cons (pe_clK c_first_refusal hr (by decide) (pat_of (W := fun cls d _ H => E cls d H) (L2N.takes_of rfl rfl rfl rfl)) (pa_cons (pv 0) (pa_cons (pe_op op_addA (pv 9) (pe_lst (pa_cons (pv 7) (pa_nil)))) (pa_nil))) (pk_cons (pe_str) (pk_nil))) (pa_cons (pv 8) (pa_nil)))))) (pss_one (ps_ret (pe_bl))) (pss_nil)) (pss_cons (ps_set (i := 13) sc__law_saved.nd rfl (by first | exact Or.inl rfl | exact Or.inr rfl) (pe_ix ix_seq (pe_ix ix_seq (pe_cl c__law_book hr (by decide) (pat_of (W := fun cls d _ H => E cls d H) (L2N.takes_of rfl rfl rfl rfl)) (pa_cons (pv 0) (pa_cons (pe_op op_addA (pv 9) (pe_lst (pa_cons (pv 7) (pa_nil)))) (pa_nil)))) (pe_int) (fun _ _ => rfl)) (pe_int) (fun _ _ => rfl))) (pss_cons (ps_if (pt_not (pt_val (pe_cl c__law_same hr (by decide) (pat_of (W := fun cls d _ H => E cls d H) (L2N.takes_of rfl rfl rfl rfl)) (pa_cons (pe_cl c_first_loss hr (by decide) (pat_of (W := fun cls d _ H => E cls d H) (L2N.takes_of rfl rfl rfl rfl)) (pa_cons (pv 0) (pa_cons (pe_op op_addA (pv 9) (pe_lst (pa_cons (pv 7) (pa_nil)))) (pa_nil)))) (pa_cons (pe_tup (pa_cons (pv 8) (pa_cons (pe_ix ix_seq (pv 13) (pe_int) (fun _ _ => rfl)) (pa_nil)))) (pa_nil)))))) (pss_one (ps_ret (pe_bl))) (pss_nil)) (pss_one (ps_if (pt_not (pt_val (pe_cl c__law_same hr (by decide) (pat_of (W := fun cls d _ H => E cls d H) (L2N.takes_of rfl rfl rfl rfl)) (pa_cons (pe_cl c__law_paper hr (by decide) (pat_of (W := fun cls d _ H => E cls d H) (L2N.takes_of rfl rfl rfl rfl)) (pa_cons (pv 0) (pa_cons (pe_op op_addA (pv 9) (pe_lst (pa_cons (pv 7) (pa_nil)))) (pa_nil)))) (pa_cons (pe_tup (pa_cons (pe_str) (pa_cons (pv 13) (pa_nil)))) (pa_nil)))))) (pss_one (ps_ret (pe_bl))) (pss_nil))))))))))))) (pss_one (ps_ret (pe_bl))))))))))), rd__law_saved T vs H Q E h⟩
theorem ok_law {f : Addr} {fd : FuncData} (T : Txt K mg) (F : FunD K "law" "law" (defArgs s_law) (defBody s_law) (defScope s_law) [] [] f fd) (c__law_book : Cal P w K mg base 2 "_law_book" ["many", "row"] (sp48__law_book K)) (c__law_box : Cal P w K mg base 1 "_law_box" ["script", "start"] (sp48__law_box K)) (c__law_draw : Cal P w K mg base 1 "_law_draw" ["box", "many"] (sp48__law_draw K)) (c__law_log : Cal P w K mg base 2 "_law_log" ["box", "many", "limit"] (sp47__law_log K)) (c__law_papers : Cal P w K mg base 9 "_law_papers" ["box", "many", "row", "found"] (sp__law_papers K)) (c__law_refusals : Cal P w K mg base 13 "_law_refusals" ["many", "row", "found"] (sp47__law_refusals K)) (c__law_saved : Cal P w K mg base 13 "_law_saved" ["many", "row"] (sp__law_saved K)) : FnOk P w K mg base (L2N.CX P w) 14 f fd ["script"] (sp_law K) :=
  F.ok sc_law (len_law K) fun cdv A outer s H vs Q E hr h => ⟨t_law K E, pss_cons (ps_set (i := 1) sc_law.nd rfl (by first | exact Or.inl rfl | exact Or.inr rfl) (pe_cl c__law_box hr (by decide) (pat_of (W := fun cls d _ H => E cls d H) (L2N.takes_of rfl rfl rfl rfl)) (pa_cons (pv 0) (pa_cons (pe_int) (pa_nil))))) (pss_cons (ps_set (i := 2) sc_law.nd rfl (by first | exact Or.inl rfl | exact Or.inr rfl) (pe_cl c__law_draw hr (by decide) (pat_of (W := fun cls d _ H => E cls d H) (L2N.takes_of rfl rfl rfl rfl)) (pa_cons (pv 1) (pa_cons (pe_int) (pa_nil))))) (pss_cons (ps_set (i := 3) sc_law.nd rfl (by first | exact Or.inl rfl | exact Or.inr rfl) (pe_int)) (pss_cons (ps_if (pt_cmpR (op_eqA hr) (pe_cl c__law_draw hr (by decide) (pat_of (W := fun cls d _ H => E cls d H) (L2N.takes_of rfl rfl rfl rfl)) (pa_cons (pv 1) (pa_cons (pe_int) (pa_nil)))) (pe_int) (nomark _)) (pss_cons (ps_set (i := 2) sc_law.nd rfl (by first | exact Or.inl rfl | exact Or.inr rfl) (pe_op op_addA (pe_int) (pe_cl c__law_draw hr (by decide) (pat_of (W := fun cls d _ H => E cls d H) (L2N.takes_of rfl rfl rfl rfl)) (pa_cons (pv 1) (pa_cons (pe_int) (pa_nil)))))) (pss_one (ps_set (i := 3) sc_law.nd rfl (by first | exact Or.inl rfl | exact Or.inr rfl) (pe_int)))) (pss_nil)) (pss_cons (ps_set (i := 4) sc_law.nd rfl (by first | exact Or.inl rfl | exact Or.inr rfl) (pe_cl c__law_log hr (by decide) (pat_of (W := fun cls d _ H => E cls d H) (L2N.takes_of rfl rfl rfl rfl)) (pa_cons (pv 1) (pa_cons (pv 2) (pa_cons (pv 3) (pa_nil)))))) (pss_cons (ps_set (i := 5) sc_law.nd rfl (by first | exact Or.inl rfl | exact Or.inr rfl) (pe_ix ix_seq (pe_cl c__law_book hr (by decide) (pat_of (W := fun cls d _ H => E cls d H) (L2N.takes_of rfl rfl rfl rfl)) (pa_cons (pv 2) (pa_cons (pv 4) (pa_nil)))) (pe_int) (fun _ _ => rfl))) (pss_cons (ps_if ((pw_or (pt_not (pt_val (pe_cl c__law_refusals hr (by decide) (pat_of (W := fun cls d _ H => E cls d H) (L2N.takes_of rfl rfl rfl rfl)) (pa_cons (pv 2) (pa_cons (pv 4) (pa_cons (pv 5) (pa_nil))))))) (pw_or1 (pt_not (pt_val (pe_cl c__law_papers hr (by decide) (pat_of (W := fun cls d _ H => E cls d H) (L2N.takes_of rfl rfl rfl rfl)) (pa_cons (pv 1) (pa_cons (pv 2) (pa_cons (pv 4) (pa_cons (pv 5) (pa_nil)))))))))).pt) (pss_one (ps_ret (pe_bl))) (pss_nil)) (pss_one (ps_ret (pe_and (pe_cl c__law_saved hr (by decide) (pat_of (W := fun cls d _ H => E cls d H) (L2N.takes_of rfl rfl rfl rfl)) (pa_cons (pv 2) (pa_cons (pv 4) (pa_nil)))) (pe_one (pe_cl c__law_refusals hr (by decide) (pat_of (W := fun cls d _ H => E cls d H) (L2N.takes_of rfl rfl rfl rfl)) (pa_cons (pv 2) (pa_cons (pv 4) (pa_cons (pv 5) (pa_nil))))))))))))))), rd_law T vs H Q E h⟩
end
end G
set_option Elab.async false
set_option linter.all false
set_option maxRecDepth 100000
set_option maxHeartbeats 4000000
namespace G
open PySem PySem.Spec PyProof.Rows L2
theorem facts {P : Program} {w : World} {K : PySem.W.Frag} {h : Heap} {mg : Str → Option Value} {f : Addr} (X : K.In h) (G : h.Ns mainGlobals mg) (hfa : mg ("law" : Str) = some (.ref f)) (c : SaysS chkL fnL fsL K) (hfile : ((P.main.file : Str) == PySem.Challenge.pw_latelink_k47_whole_saving_mode_and_losse.main.file) = true) (htop : (P.main.scope.names.lookup ("super" : Str)).isSome = false) :
    ∃ fd : FuncData, (∀ (s : Shared) (v : Value), BindsTo s fd ⟨[v], []⟩ [("script", v)]) ∧ ∀ base : Heap, K.In base → base.Ns mainGlobals mg → FnOk P w K mg base (L2N.CX P w) 14 f fd ["script"] (sp_law K) := by
  have T := txt_of X G c.toY
  obtain ⟨fd__law_put, F__law_put⟩ := c.toY.def_ 0 (d := d__law_put) rfl
  obtain ⟨fd__law_start, F__law_start⟩ := c.toY.def_ 1 (d := d__law_start) rfl
  obtain ⟨fd__law_states, F__law_states⟩ := c.toY.def_ 2 (d := d__law_states) rfl
  obtain ⟨fd__law_book, F__law_book⟩ := c.toY.def_ 3 (d := d__law_book) rfl
  obtain ⟨fd__law_box, F__law_box⟩ := c.toY.def_ 4 (d := d__law_box) rfl
  obtain ⟨fd__law_draw, F__law_draw⟩ := c.toY.def_ 5 (d := d__law_draw) rfl
  obtain ⟨fd__law_log, F__law_log⟩ := c.toY.def_ 6 (d := d__law_log) rfl
  obtain ⟨fd__law_bent, F__law_bent⟩ := c.toY.def_ 7 (d := d__law_bent) rfl
  obtain ⟨fd_check_size, F_check_size⟩ := c.toY.def_ 8 (d := d_check_size) rfl
  obtain ⟨fd_Links___init__, F_Links___init__⟩ := c.toY.def_ 9 (d := d_Links___init__) rfl
  obtain ⟨fd_Links_is_legal, F_Links_is_legal⟩ := c.toY.def_ 10 (d := d_Links_is_legal) rfl
  obtain ⟨fd_check_operation, F_check_operation⟩ := c.toY.def_ 11 (d := d_check_operation) rfl
  obtain ⟨fd_Links_check, F_Links_check⟩ := c.toY.def_ 12 (d := d_Links_check) rfl
  obtain ⟨fd_Links_apply_at, F_Links_apply_at⟩ := c.toY.def_ 13 (d := d_Links_apply_at) rfl
  obtain ⟨fd_Links_left, F_Links_left⟩ := c.toY.def_ 14 (d := d_Links_left) rfl
  obtain ⟨fd_Links_right, F_Links_right⟩ := c.toY.def_ 15 (d := d_Links_right) rfl
  obtain ⟨fd_check_gap, F_check_gap⟩ := c.toY.def_ 16 (d := d_check_gap) rfl
  obtain ⟨fd_gap_state, F_gap_state⟩ := c.toY.def_ 17 (d := d_gap_state) rfl
  obtain ⟨fd_gap_states, F_gap_states⟩ := c.toY.def_ 18 (d := d_gap_states) rfl
  obtain ⟨fd__certificates, F__certificates⟩ := c.toY.def_ 19 (d := d__certificates) rfl
  obtain ⟨fd_loss_certificate, F_loss_certificate⟩ := c.toY.def_ 20 (d := d_loss_certificate) rfl
  obtain ⟨fd__law_paper, F__law_paper⟩ := c.toY.def_ 21 (d := d__law_paper) rfl
  obtain ⟨fd__law_same, F__law_same⟩ := c.toY.def_ 22 (d := d__law_same) rfl
  obtain ⟨fd_is_plain_integer, F_is_plain_integer⟩ := c.toY.def_ 23 (d := d_is_plain_integer) rfl
  obtain ⟨fd_is_loss_certificate, F_is_loss_certificate⟩ := c.toY.def_ 24 (d := d_is_loss_certificate) rfl
  obtain ⟨fd__law_papers, F__law_papers⟩ := c.toY.def_ 25 (d := d__law_papers) rfl
  obtain ⟨fd__law_after, F__law_after⟩ := c.toY.def_ 26 (d := d__law_after) rfl
  obtain ⟨fd__law_dump, F__law_dump⟩ := c.toY.def_ 27 (d := d__law_dump) rfl
  obtain ⟨fd__law_twin, F__law_twin⟩ := c.toY.def_ 28 (d := d__law_twin) rfl
  obtain ⟨fd__law_refuser, F__law_refuser⟩ := c.toY.def_ 29 (d := d__law_refuser) rfl
  obtain ⟨fd__law_firsts, F__law_firsts⟩ := c.toY.def_ 30 (d := d__law_firsts) rfl
  obtain ⟨fd_Links_outs, F_Links_outs⟩ := c.toY.def_ 31 (d := d_Links_outs) rfl
  obtain ⟨fd__joined, F__joined⟩ := c.toY.def_ 32 (d := d__joined) rfl
  obtain ⟨fd_dump_of, F_dump_of⟩ := c.toY.def_ 33 (d := d_dump_of) rfl
  obtain ⟨fd_Links_dump, F_Links_dump⟩ := c.toY.def_ 34 (d := d_Links_dump) rfl
  obtain ⟨fd_Links___str__, F_Links___str__⟩ := c.toY.def_ 35 (d := d_Links___str__) rfl
  obtain ⟨fd_Links_apply, F_Links_apply⟩ := c.toY.def_ 36 (d := d_Links_apply) rfl
  obtain ⟨fd_Links_is_out, F_Links_is_out⟩ := c.toY.def_ 37 (d := d_Links_is_out) rfl
  obtain ⟨fd__has_fitting_neighbours, F__has_fitting_neighbours⟩ := c.toY.def_ 38 (d := d__has_fitting_neighbours) rfl
  obtain ⟨fd_foreign_writes, F_foreign_writes⟩ := c.toY.def_ 39 (d := d_foreign_writes) rfl
  obtain ⟨fd_left_to, F_left_to⟩ := c.toY.def_ 40 (d := d_left_to) rfl
  obtain ⟨fd__leaves_a_gap_to_a_holder_that_is_in, F__leaves_a_gap_to_a_holder_that_is_in⟩ := c.toY.def_ 41 (d := d__leaves_a_gap_to_a_holder_that_is_in) rfl
  obtain ⟨fd__loses_a_gap, F__loses_a_gap⟩ := c.toY.def_ 42 (d := d__loses_a_gap) rfl
  obtain ⟨fd_FreeMode_refusal, F_FreeMode_refusal⟩ := c.toY.def_ 43 (d := d_FreeMode_refusal) rfl
  obtain ⟨fd_check_admitted, F_check_admitted⟩ := c.toY.def_ 44 (d := d_check_admitted) rfl
  obtain ⟨fd_all_modes, F_all_modes⟩ := c.toY.def_ 45 (d := d_all_modes) rfl
  obtain ⟨fd_mode_named, F_mode_named⟩ := c.toY.def_ 46 (d := d_mode_named) rfl
  obtain ⟨fd_replay_in, F_replay_in⟩ := c.toY.def_ 47 (d := d_replay_in) rfl
  obtain ⟨fd__law_in_saving, F__law_in_saving⟩ := c.toY.def_ 48 (d := d__law_in_saving) rfl
  obtain ⟨fd_lost_gaps, F_lost_gaps⟩ := c.toY.def_ 49 (d := d_lost_gaps) rfl
  obtain ⟨fd_first_loss, F_first_loss⟩ := c.toY.def_ 50 (d := d_first_loss) rfl
  obtain ⟨fd_Links_copy, F_Links_copy⟩ := c.toY.def_ 51 (d := d_Links_copy) rfl
  obtain ⟨fd_play, F_play⟩ := c.toY.def_ 52 (d := d_play) rfl
  obtain ⟨fd_replay, F_replay⟩ := c.toY.def_ 53 (d := d_replay) rfl
  obtain ⟨fd_first_refusal, F_first_refusal⟩ := c.toY.def_ 54 (d := d_first_refusal) rfl
  obtain ⟨fd__law_refusals, F__law_refusals⟩ := c.toY.def_ 55 (d := d__law_refusals) rfl
  obtain ⟨fd_admits, F_admits⟩ := c.toY.def_ 56 (d := d_admits) rfl
  obtain ⟨fd__law_saved, F__law_saved⟩ := c.toY.def_ 57 (d := d__law_saved) rfl
  obtain ⟨fd_law, F_law⟩ := c.toY.def_ 58 (d := d_law) rfl
  obtain ⟨fd_BadGap___init__, F_BadGap___init__⟩ := c.toY.def_ 59 (d := d_BadGap___init__) rfl
  obtain ⟨fd_BadMode___init__, F_BadMode___init__⟩ := c.toY.def_ 60 (d := d_BadMode___init__) rfl
  obtain ⟨fd_BadNode___init__, F_BadNode___init__⟩ := c.toY.def_ 61 (d := d_BadNode___init__) rfl
  obtain ⟨fd_BadSize___init__, F_BadSize___init__⟩ := c.toY.def_ 62 (d := d_BadSize___init__) rfl
  obtain ⟨fd_LogError___init__, F_LogError___init__⟩ := c.toY.def_ 63 (d := d_LogError___init__) rfl
  obtain ⟨fd_NotLost___init__, F_NotLost___init__⟩ := c.toY.def_ 64 (d := d_NotLost___init__) rfl
  obtain ⟨fd_Refused___init__, F_Refused___init__⟩ := c.toY.def_ 65 (d := d_Refused___init__) rfl
  obtain ⟨fd_SavingMode_refusal, F_SavingMode_refusal⟩ := c.sup P 0 (d := d_SavingMode_refusal) hfile rfl
  obtain ⟨fd_GuardedMode_refusal, F_GuardedMode_refusal⟩ := c.sup P 1 (d := d_GuardedMode_refusal) hfile rfl
  obtain ⟨fd_CheckedMode_refusal, F_CheckedMode_refusal⟩ := c.sup P 2 (d := d_CheckedMode_refusal) hfile rfl
  have e := hfa.symm.trans T.gf_law
  cases e
  have bA := FunD.bindsA (ps := ["script"]) F_law fun _ _ _ _ _ _ us hl => match us, hl with | [_], _ => rfl
  refine ⟨fd_law, fun s v => bA s [v] rfl, fun base _ _ => ?_⟩
  have i_BadGap : FnOk P w K mg base (L2N.CX P w) 1 (He.ma K (He.ga K "BadGap") "__init__") fd_BadGap___init__ ["self", "gap"] (spIn K ["gap"]) := FunD.ok F_BadGap___init__ sc_BadGap___init__ (spIn_len rfl) fun cdv A outer s H vs Q E hr h => ⟨_, pss_one (ps_ost (pv 0) (pv 1)), ini1 rfl h⟩
  have i_BadMode : FnOk P w K mg base (L2N.CX P w) 1 (He.ma K (He.ga K "BadMode") "__init__") fd_BadMode___init__ ["self", "name"] (spIn K ["name"]) := FunD.ok F_BadMode___init__ sc_BadMode___init__ (spIn_len rfl) fun cdv A outer s H vs Q E hr h => ⟨_, pss_one (ps_ost (pv 0) (pv 1)), ini1 rfl h⟩
  have i_BadNode : FnOk P w K mg base (L2N.CX P w) 1 (He.ma K (He.ga K "BadNode") "__init__") fd_BadNode___init__ ["self", "node"] (spIn K ["node"]) := FunD.ok F_BadNode___init__ sc_BadNode___init__ (spIn_len rfl) fun cdv A outer s H vs Q E hr h => ⟨_, pss_one (ps_ost (pv 0) (pv 1)), ini1 rfl h⟩
  have i_BadSize : FnOk P w K mg base (L2N.CX P w) 1 (He.ma K (He.ga K "BadSize") "__init__") fd_BadSize___init__ ["self", "size"] (spIn K ["size"]) := FunD.ok F_BadSize___init__ sc_BadSize___init__ (spIn_len rfl) fun cdv A outer s H vs Q E hr h => ⟨_, pss_one (ps_ost (pv 0) (pv 1)), ini1 rfl h⟩
  have i_LogError : FnOk P w K mg base (L2N.CX P w) 1 (He.ma K (He.ga K "LogError") "__init__") fd_LogError___init__ ["self", "operation", "index"] (spIn K ["operation", "index"]) := FunD.ok F_LogError___init__ sc_LogError___init__ (spIn_len rfl) fun cdv A outer s H vs Q E hr h => ⟨_, pss_cons (ps_ost (pv 0) (pv 1)) (pss_one (ps_ost (pv 0) (pv 2))), ini2 rfl h⟩
  have i_NotLost : FnOk P w K mg base (L2N.CX P w) 1 (He.ma K (He.ga K "NotLost") "__init__") fd_NotLost___init__ ["self", "size"] (spIn K ["size"]) := FunD.ok F_NotLost___init__ sc_NotLost___init__ (spIn_len rfl) fun cdv A outer s H vs Q E hr h => ⟨_, pss_one (ps_ost (pv 0) (pv 1)), ini1 rfl h⟩
  have cf_LogError : Cfn P w K mg base 1 (He.ga K "LogError") "__init__" ["self", "operation", "index"] (spIn K ["operation", "index"]) := ⟨_, fd_LogError___init__, i_LogError, T.cf_LogError.1, T.cf_LogError.2, F_LogError___init__.kp, FunD.bindsN (ps := ["self", "operation", "index"]) F_LogError___init__ fun _ _ _ _ _ _ us hl => match us, hl with | [_, _, _], _ => rfl⟩
  have i_Refused : FnOk P w K mg base (L2N.CX P w) 2 (He.ma K (He.ga K "Refused") "__init__") fd_Refused___init__ ["self", "operation", "index", "refusing"] (spIn K ["operation", "index", "refusing"]) := FunD.ok F_Refused___init__ sc_Refused___init__ (spIn_len rfl) fun cdv A outer s H vs Q E hr h => ⟨_, pss_cons (ps_expr (pe_cf (E := fun _ => E) cf_LogError hr (by decide) (pat_of (W := fun cls d _ H => E cls d H) (L2N.takes_of rfl rfl rfl rfl)) (pe_own T.g_LogError) (pa_cons (pv 0) (pa_cons (pv 1) (pa_cons (pv 2) pa_nil))))) (pss_one (ps_ost (pv 0) (pv 3))), ini3b rfl h⟩
  have x_BadGap : ExM P w K mg base 1 "BadGap" (He.ga K "BadGap") ["gap"] := ⟨T.oe_BadGap.1, T.oe_BadGap.2, T.g_BadGap, _, fd_BadGap___init__, ["self", "gap"], i_BadGap, T.in_BadGap.1, T.in_BadGap.2, FunD.bindsN (ps := ["self", "gap"]) F_BadGap___init__ fun _ _ _ _ _ _ us hl => match us, hl with | [_, _], _ => rfl⟩
  have x_BadMode : ExM P w K mg base 1 "BadMode" (He.ga K "BadMode") ["name"] := ⟨T.oe_BadMode.1, T.oe_BadMode.2, T.g_BadMode, _, fd_BadMode___init__, ["self", "name"], i_BadMode, T.in_BadMode.1, T.in_BadMode.2, FunD.bindsN (ps := ["self", "name"]) F_BadMode___init__ fun _ _ _ _ _ _ us hl => match us, hl with | [_, _], _ => rfl⟩
  have x_BadNode : ExM P w K mg base 1 "BadNode" (He.ga K "BadNode") ["node"] := ⟨T.oe_BadNode.1, T.oe_BadNode.2, T.g_BadNode, _, fd_BadNode___init__, ["self", "node"], i_BadNode, T.in_BadNode.1, T.in_BadNode.2, FunD.bindsN (ps := ["self", "node"]) F_BadNode___init__ fun _ _ _ _ _ _ us hl => match us, hl with | [_, _], _ => rfl⟩
  have x_BadOperation : ExM P w K mg base 1 "BadOperation" (He.ga K "BadOperation") ["operation", "index"] := ⟨T.oe_BadOperation.1, T.oe_BadOperation.2, T.g_BadOperation, _, fd_LogError___init__, ["self", "operation", "index"], i_LogError, (T.sm_BadOperation ▸ T.in_BadOperation).1, (T.sm_BadOperation ▸ T.in_BadOperation).2, FunD.bindsN (ps := ["self", "operation", "index"]) F_LogError___init__ fun _ _ _ _ _ _ us hl => match us, hl with | [_, _, _], _ => rfl⟩
  have x_BadSize : ExM P w K mg base 1 "BadSize" (He.ga K "BadSize") ["size"] := ⟨T.oe_BadSize.1, T.oe_BadSize.2, T.g_BadSize, _, fd_BadSize___init__, ["self", "size"], i_BadSize, T.in_BadSize.1, T.in_BadSize.2, FunD.bindsN (ps := ["self", "size"]) F_BadSize___init__ fun _ _ _ _ _ _ us hl => match us, hl with | [_, _], _ => rfl⟩
  have x_Illegal : ExM P w K mg base 1 "Illegal" (He.ga K "Illegal") ["operation", "index"] := ⟨T.oe_Illegal.1, T.oe_Illegal.2, T.g_Illegal, _, fd_LogError___init__, ["self", "operation", "index"], i_LogError, (T.sm_Illegal ▸ T.in_Illegal).1, (T.sm_Illegal ▸ T.in_Illegal).2, FunD.bindsN (ps := ["self", "operation", "index"]) F_LogError___init__ fun _ _ _ _ _ _ us hl => match us, hl with | [_, _, _], _ => rfl⟩
  have x_NotLost : ExM P w K mg base 1 "NotLost" (He.ga K "NotLost") ["size"] := ⟨T.oe_NotLost.1, T.oe_NotLost.2, T.g_NotLost, _, fd_NotLost___init__, ["self", "size"], i_NotLost, T.in_NotLost.1, T.in_NotLost.2, FunD.bindsN (ps := ["self", "size"]) F_NotLost___init__ fun _ _ _ _ _ _ us hl => match us, hl with | [_, _], _ => rfl⟩
  have x_Refused : ExM P w K mg base 2 "Refused" (He.ga K "Refused") ["operation", "index", "refusing"] := ⟨T.oe_Refused.1, T.oe_Refused.2, T.g_Refused, _, fd_Refused___init__, ["self", "operation", "index", "refusing"], i_Refused, T.in_Refused.1, T.in_Refused.2, FunD.bindsN (ps := ["self", "operation", "index", "refusing"]) F_Refused___init__ fun _ _ _ _ _ _ us hl => match us, hl with | [_, _, _, _], _ => rfl⟩
  have c__law_put : Cal P w K mg base 1 "_law_put" ["state", "deed"] (sp48__law_put K) := ⟨_, fd__law_put, ok__law_put T F__law_put , T.gf__law_put, F__law_put.kp, FunD.bindsN (ps := ["state", "deed"]) F__law_put fun _ _ _ _ _ _ us hl => match us, hl with | [_, _], _ => rfl⟩
  have c__law_start : Cal P w K mg base 1 "_law_start" ["many"] (sp48__law_start K) := ⟨_, fd__law_start, ok__law_start T F__law_start , T.gf__law_start, F__law_start.kp, FunD.bindsN (ps := ["many"]) F__law_start fun _ _ _ _ _ _ us hl => match us, hl with | [_], _ => rfl⟩
  have c__law_states : Cal P w K mg base 1 "_law_states" ["state"] (sp48__law_states K) := ⟨_, fd__law_states, ok__law_states T F__law_states , T.gf__law_states, F__law_states.kp, FunD.bindsN (ps := ["state"]) F__law_states fun _ _ _ _ _ _ us hl => match us, hl with | [_], _ => rfl⟩
  have c__law_book : Cal P w K mg base 2 "_law_book" ["many", "row"] (sp48__law_book K) := ⟨_, fd__law_book, ok__law_book T F__law_book c__law_put c__law_start c__law_states, T.gf__law_book, F__law_book.kp, FunD.bindsN (ps := ["many", "row"]) F__law_book fun _ _ _ _ _ _ us hl => match us, hl with | [_, _], _ => rfl⟩
  have c__law_box : Cal P w K mg base 1 "_law_box" ["script", "start"] (sp48__law_box K) := ⟨_, fd__law_box, ok__law_box T F__law_box , T.gf__law_box, F__law_box.kp, FunD.bindsN (ps := ["script", "start"]) F__law_box fun _ _ _ _ _ _ us hl => match us, hl with | [_, _], _ => rfl⟩
  have c__law_draw : Cal P w K mg base 1 "_law_draw" ["box", "many"] (sp48__law_draw K) := ⟨_, fd__law_draw, ok__law_draw T F__law_draw , T.gf__law_draw, F__law_draw.kp, FunD.bindsN (ps := ["box", "many"]) F__law_draw fun _ _ _ _ _ _ us hl => match us, hl with | [_, _], _ => rfl⟩
  have c__law_log : Cal P w K mg base 2 "_law_log" ["box", "many", "limit"] (sp47__law_log K) := ⟨_, fd__law_log, ok__law_log T F__law_log c__law_draw, T.gf__law_log, F__law_log.kp, FunD.bindsN (ps := ["box", "many", "limit"]) F__law_log fun _ _ _ _ _ _ us hl => match us, hl with | [_, _, _], _ => rfl⟩
  have c__law_bent : Cal P w K mg base 2 "_law_bent" ["box", "many", "found"] (sp__law_bent K) := ⟨_, fd__law_bent, ok__law_bent T F__law_bent c__law_draw, T.gf__law_bent, F__law_bent.kp, FunD.bindsN (ps := ["box", "many", "found"]) F__law_bent fun _ _ _ _ _ _ us hl => match us, hl with | [_, _, _], _ => rfl⟩
  have c_check_size : Cal P w K mg base 3 "check_size" ["size"] (sp_check_size K) := ⟨_, fd_check_size, ok_check_size T F_check_size x_BadSize, T.gf_check_size, F_check_size.kp, FunD.bindsN (ps := ["size"]) F_check_size fun _ _ _ _ _ _ us hl => match us, hl with | [_], _ => rfl⟩
  have m_Links : Mak P w K mg base 4 "Links" (He.ga K "Links") ["self", "size"] (sp_Links___init__ K) := ⟨_, fd_Links___init__, ok_Links___init__ T F_Links___init__ c_check_size, T.mk_Links, T.g_Links, FunD.bindsN (ps := ["self", "size"]) F_Links___init__ fun _ _ _ _ _ _ us hl => match us, hl with | [_, _], _ => rfl⟩
  have c_Links_is_legal : Met P w K mg base 1 (He.ga K "Links") "is_legal" ["self", "operation"] (sp_Links_is_legal K) := ⟨_, fd_Links_is_legal, ok_Links_is_legal T F_Links_is_legal , T.me_Links_is_legal, FunD.bindsN (ps := ["self", "operation"]) F_Links_is_legal fun _ _ _ _ _ _ us hl => match us, hl with | [_, _], _ => rfl⟩
  have c_check_operation : Cal P w K mg base 3 "check_operation" ["size", "operation", "index"] (sp_check_operation K) := ⟨_, fd_check_operation, ok_check_operation T F_check_operation x_BadOperation, T.gf_check_operation, F_check_operation.kp, FunD.bindsN (ps := ["size", "operation", "index"]) F_check_operation fun _ _ _ _ _ _ us hl => match us, hl with | [_, _, _], _ => rfl⟩
  have c_Links_check : Met P w K mg base 4 (He.ga K "Links") "check" ["self", "operation", "index"] (sp_Links_check K) := ⟨_, fd_Links_check, ok_Links_check T F_Links_check c_Links_is_legal c_check_operation x_Illegal, T.me_Links_check, FunD.bindsN (ps := ["self", "operation", "index"]) F_Links_check fun _ _ _ _ _ _ us hl => match us, hl with | [_, _, _], _ => rfl⟩
  have c_Links_apply_at : Met P w K mg base 5 (He.ga K "Links") "apply_at" ["self", "operation", "index"] (sp_Links_apply_at K) := ⟨_, fd_Links_apply_at, ok_Links_apply_at T F_Links_apply_at c_Links_check, T.me_Links_apply_at, FunD.bindsN (ps := ["self", "operation", "index"]) F_Links_apply_at fun _ _ _ _ _ _ us hl => match us, hl with | [_, _, _], _ => rfl⟩
  have c_Links_left : Met P w K mg base 3 (He.ga K "Links") "left" ["self", "node"] (sp_Links_left K) := ⟨_, fd_Links_left, ok_Links_left T F_Links_left x_BadNode, T.me_Links_left, FunD.bindsN (ps := ["self", "node"]) F_Links_left fun _ _ _ _ _ _ us hl => match us, hl with | [_, _], _ => rfl⟩
  have c_Links_right : Met P w K mg base 3 (He.ga K "Links") "right" ["self", "node"] (sp_Links_right K) := ⟨_, fd_Links_right, ok_Links_right T F_Links_right x_BadNode, T.me_Links_right, FunD.bindsN (ps := ["self", "node"]) F_Links_right fun _ _ _ _ _ _ us hl => match us, hl with | [_, _], _ => rfl⟩
  have c_check_gap : Cal P w K mg base 3 "check_gap" ["size", "gap"] (sp_check_gap K) := ⟨_, fd_check_gap, ok_check_gap T F_check_gap x_BadGap, T.gf_check_gap, F_check_gap.kp, FunD.bindsN (ps := ["size", "gap"]) F_check_gap fun _ _ _ _ _ _ us hl => match us, hl with | [_, _], _ => rfl⟩
  have c_gap_state : Cal P w K mg base 4 "gap_state" ["links", "gap"] (sp_gap_state K) := ⟨_, fd_gap_state, ok_gap_state T F_gap_state c_Links_left c_Links_right c_check_gap, T.gf_gap_state, F_gap_state.kp, FunD.bindsN (ps := ["links", "gap"]) F_gap_state fun _ _ _ _ _ _ us hl => match us, hl with | [_, _], _ => rfl⟩
  have c_gap_states : Cal P w K mg base 5 "gap_states" ["links"] (sp_gap_states K) := ⟨_, fd_gap_states, ok_gap_states T F_gap_states c_gap_state, T.gf_gap_states, F_gap_states.kp, FunD.bindsN (ps := ["links"]) F_gap_states fun _ _ _ _ _ _ us hl => match us, hl with | [_], _ => rfl⟩
  have c__certificates : Cal P w K mg base 6 "_certificates" ["size", "log"] (sp__certificates K) := ⟨_, fd__certificates, ok__certificates T F__certificates m_Links c_Links_apply_at c_gap_states, T.gf__certificates, F__certificates.kp, FunD.bindsN (ps := ["size", "log"]) F__certificates fun _ _ _ _ _ _ us hl => match us, hl with | [_, _], _ => rfl⟩
  have c_loss_certificate : Cal P w K mg base 7 "loss_certificate" ["size", "log"] (sp_loss_certificate K) := ⟨_, fd_loss_certificate, ok_loss_certificate T F_loss_certificate c__certificates x_NotLost, T.gf_loss_certificate, F_loss_certificate.kp, FunD.bindsN (ps := ["size", "log"]) F_loss_certificate fun _ _ _ _ _ _ us hl => match us, hl with | [_, _], _ => rfl⟩
  have c__law_paper : Cal P w K mg base 8 "_law_paper" ["many", "row"] (sp48__law_paper K) := ⟨_, fd__law_paper, ok__law_paper T F__law_paper c_loss_certificate, T.gf__law_paper, F__law_paper.kp, FunD.bindsN (ps := ["many", "row"]) F__law_paper fun _ _ _ _ _ _ us hl => match us, hl with | [_, _], _ => rfl⟩
  have c__law_same_0 : Cal P w K mg base 1 "_law_same" ["told", "due"] (sp48_same 0 K) := ⟨_, fd__law_same, F__law_same.ok sc__law_same (len__law_same 0 K) (fun cdv A outer s H vs Q E hr h => (never__law_same h).elim), T.gf__law_same, F__law_same.kp, FunD.bindsN (ps := ["told", "due"]) F__law_same fun _ _ _ _ _ _ us hl => match us, hl with | [_, _], _ => rfl⟩
  have c__law_same_1 : Cal P w K mg base 2 "_law_same" ["told", "due"] (sp48_same 1 K) := ⟨_, fd__law_same, ok__law_same_1 T F__law_same  c__law_same_0, T.gf__law_same, F__law_same.kp, FunD.bindsN (ps := ["told", "due"]) F__law_same fun _ _ _ _ _ _ us hl => match us, hl with | [_, _], _ => rfl⟩
  have c__law_same_2 : Cal P w K mg base 3 "_law_same" ["told", "due"] (sp48_same 2 K) := ⟨_, fd__law_same, ok__law_same_2 T F__law_same  c__law_same_1, T.gf__law_same, F__law_same.kp, FunD.bindsN (ps := ["told", "due"]) F__law_same fun _ _ _ _ _ _ us hl => match us, hl with | [_, _], _ => rfl⟩
  have c__law_same_3 : Cal P w K mg base 4 "_law_same" ["told", "due"] (sp48_same 3 K) := ⟨_, fd__law_same, ok__law_same_3 T F__law_same  c__law_same_2, T.gf__law_same, F__law_same.kp, FunD.bindsN (ps := ["told", "due"]) F__law_same fun _ _ _ _ _ _ us hl => match us, hl with | [_, _], _ => rfl⟩
  have c__law_same_4 : Cal P w K mg base 5 "_law_same" ["told", "due"] (sp48_same 4 K) := ⟨_, fd__law_same, ok__law_same_4 T F__law_same  c__law_same_3, T.gf__law_same, F__law_same.kp, FunD.bindsN (ps := ["told", "due"]) F__law_same fun _ _ _ _ _ _ us hl => match us, hl with | [_, _], _ => rfl⟩
  have c__law_same := c__law_same_4
  have c_is_plain_integer : Cal P w K mg base 1 "is_plain_integer" ["value"] (sp_is_plain_integer K) := ⟨_, fd_is_plain_integer, ok_is_plain_integer T F_is_plain_integer , T.gf_is_plain_integer, F_is_plain_integer.kp, FunD.bindsN (ps := ["value"]) F_is_plain_integer fun _ _ _ _ _ _ us hl => match us, hl with | [_], _ => rfl⟩
  have c_is_loss_certificate : Cal P w K mg base 7 "is_loss_certificate" ["size", "log", "value"] (sp_is_loss_certificate K) := ⟨_, fd_is_loss_certificate, ok_is_loss_certificate T F_is_loss_certificate c__certificates c_is_plain_integer, T.gf_is_loss_certificate, F_is_loss_certificate.kp, FunD.bindsN (ps := ["size", "log", "value"]) F_is_loss_certificate fun _ _ _ _ _ _ us hl => match us, hl with | [_, _, _], _ => rfl⟩
  have c__law_papers : Cal P w K mg base 9 "_law_papers" ["box", "many", "row", "found"] (sp__law_papers K) := ⟨_, fd__law_papers, ok__law_papers T F__law_papers c__law_bent c__law_paper c__law_same c_is_loss_certificate, T.gf__law_papers, F__law_papers.kp, FunD.bindsN (ps := ["box", "many", "row", "found"]) F__law_papers fun _ _ _ _ _ _ us hl => match us, hl with | [_, _, _, _], _ => rfl⟩
  have c__law_after : Cal P w K mg base 2 "_law_after" ["many", "row"] (sp53__law_after K) := ⟨_, fd__law_after, ok__law_after T F__law_after c__law_put c__law_start, T.gf__law_after, F__law_after.kp, FunD.bindsN (ps := ["many", "row"]) F__law_after fun _ _ _ _ _ _ us hl => match us, hl with | [_, _], _ => rfl⟩
  have c__law_dump : Cal P w K mg base 1 "_law_dump" ["state"] (sp__law_dump K) := ⟨_, fd__law_dump, ok__law_dump T F__law_dump , T.gf__law_dump, F__law_dump.kp, FunD.bindsN (ps := ["state"]) F__law_dump fun _ _ _ _ _ _ us hl => match us, hl with | [_], _ => rfl⟩
  have c__law_twin : Cal P w K mg base 1 "_law_twin" ["state"] (sp48__law_twin K) := ⟨_, fd__law_twin, ok__law_twin T F__law_twin , T.gf__law_twin, F__law_twin.kp, FunD.bindsN (ps := ["state"]) F__law_twin fun _ _ _ _ _ _ us hl => match us, hl with | [_], _ => rfl⟩
  have c__law_refuser : Cal P w K mg base 2 "_law_refuser" ["state", "deed"] (sp__law_refuser K) := ⟨_, fd__law_refuser, ok__law_refuser T F__law_refuser c__law_put c__law_states c__law_twin, T.gf__law_refuser, F__law_refuser.kp, FunD.bindsN (ps := ["state", "deed"]) F__law_refuser fun _ _ _ _ _ _ us hl => match us, hl with | [_, _], _ => rfl⟩
  have c__law_firsts : Cal P w K mg base 3 "_law_firsts" ["many", "row"] (sp__law_firsts K) := ⟨_, fd__law_firsts, ok__law_firsts T F__law_firsts c__law_put c__law_refuser c__law_start, T.gf__law_firsts, F__law_firsts.kp, FunD.bindsN (ps := ["many", "row"]) F__law_firsts fun _ _ _ _ _ _ us hl => match us, hl with | [_, _], _ => rfl⟩
  have c_Links_outs : Met P w K mg base 1 (He.ga K "Links") "outs" ["self"] (sp_Links_outs K) := ⟨_, fd_Links_outs, ok_Links_outs T F_Links_outs , T.me_Links_outs, FunD.bindsN (ps := ["self"]) F_Links_outs fun _ _ _ _ _ _ us hl => match us, hl with | [_], _ => rfl⟩
  have c__joined : Cal P w K mg base 1 "_joined" ["numbers"] (sp__joined K) := ⟨_, fd__joined, ok__joined T F__joined , T.gf__joined, F__joined.kp, FunD.bindsN (ps := ["numbers"]) F__joined fun _ _ _ _ _ _ us hl => match us, hl with | [_], _ => rfl⟩
  have c_dump_of : Cal P w K mg base 2 "dump_of" ["rights", "lefts", "outs"] (sp_dump_of K) := ⟨_, fd_dump_of, ok_dump_of T F_dump_of c__joined, T.gf_dump_of, F_dump_of.kp, FunD.bindsN (ps := ["rights", "lefts", "outs"]) F_dump_of fun _ _ _ _ _ _ us hl => match us, hl with | [_, _, _], _ => rfl⟩
  have c_Links_dump : Met P w K mg base 3 (He.ga K "Links") "dump" ["self"] (sp_Links_dump K) := ⟨_, fd_Links_dump, ok_Links_dump T F_Links_dump c_Links_outs c_dump_of, T.me_Links_dump, FunD.bindsN (ps := ["self"]) F_Links_dump fun _ _ _ _ _ _ us hl => match us, hl with | [_], _ => rfl⟩
  have c_Links___str__ : Met P w K mg base 4 (He.ga K "Links") "__str__" ["self"] (sp02_Links___str__ K) := ⟨_, fd_Links___str__, ok_Links___str__ T F_Links___str__ c_Links_dump, T.me_Links___str__, FunD.bindsN (ps := ["self"]) F_Links___str__ fun _ _ _ _ _ _ us hl => match us, hl with | [_], _ => rfl⟩
  have c_Links_apply : Met P w K mg base 6 (He.ga K "Links") "apply" ["self", "operation"] (sp_Links_apply K) := ⟨_, fd_Links_apply, ok_Links_apply T F_Links_apply c_Links_apply_at, T.me_Links_apply, FunD.bindsN (ps := ["self", "operation"]) F_Links_apply fun _ _ _ _ _ _ us hl => match us, hl with | [_, _], _ => rfl⟩
  have c_Links_is_out : Met P w K mg base 3 (He.ga K "Links") "is_out" ["self", "node"] (sp03_Links_is_out K) := ⟨_, fd_Links_is_out, ok_Links_is_out T F_Links_is_out x_BadNode, T.me_Links_is_out, FunD.bindsN (ps := ["self", "node"]) F_Links_is_out fun _ _ _ _ _ _ us hl => match us, hl with | [_, _], _ => rfl⟩
  have c__has_fitting_neighbours : Cal P w K mg base 4 "_has_fitting_neighbours" ["links", "operation"] (sp__has_fitting_neighbours K) := ⟨_, fd__has_fitting_neighbours, ok__has_fitting_neighbours T F__has_fitting_neighbours c_Links_is_out c_Links_left c_Links_right, T.gf__has_fitting_neighbours, F__has_fitting_neighbours.kp, FunD.bindsN (ps := ["links", "operation"]) F__has_fitting_neighbours fun _ _ _ _ _ _ us hl => match us, hl with | [_, _], _ => rfl⟩
  have c_foreign_writes : Cal P w K mg base 5 "foreign_writes" ["links", "operation"] (sp_foreign_writes K) := ⟨_, fd_foreign_writes, ok_foreign_writes T F_foreign_writes c_Links_check c_Links_left c_Links_right, T.gf_foreign_writes, F_foreign_writes.kp, FunD.bindsN (ps := ["links", "operation"]) F_foreign_writes fun _ _ _ _ _ _ us hl => match us, hl with | [_, _], _ => rfl⟩
  have c_left_to : Cal P w K mg base 1 "left_to" ["operation", "gap"] (sp17_left_to K) := ⟨_, fd_left_to, ok_left_to T F_left_to , T.gf_left_to, F_left_to.kp, FunD.bindsN (ps := ["operation", "gap"]) F_left_to fun _ _ _ _ _ _ us hl => match us, hl with | [_, _], _ => rfl⟩
  have c__leaves_a_gap_to_a_holder_that_is_in : Cal P w K mg base 6 "_leaves_a_gap_to_a_holder_that_is_in" ["links", "operation"] (sp__leaves_a_gap_to_a_holder_that_is_in K) := ⟨_, fd__leaves_a_gap_to_a_holder_that_is_in, ok__leaves_a_gap_to_a_holder_that_is_in T F__leaves_a_gap_to_a_holder_that_is_in c_Links_is_out c_foreign_writes c_left_to, T.gf__leaves_a_gap_to_a_holder_that_is_in, F__leaves_a_gap_to_a_holder_that_is_in.kp, FunD.bindsN (ps := ["links", "operation"]) F__leaves_a_gap_to_a_holder_that_is_in fun _ _ _ _ _ _ us hl => match us, hl with | [_, _], _ => rfl⟩
  have c__loses_a_gap : Cal P w K mg base 6 "_loses_a_gap" ["links", "operation"] (sp__loses_a_gap K) := ⟨_, fd__loses_a_gap, ok__loses_a_gap T F__loses_a_gap c_foreign_writes c_gap_state, T.gf__loses_a_gap, F__loses_a_gap.kp, FunD.bindsN (ps := ["links", "operation"]) F__loses_a_gap fun _ _ _ _ _ _ us hl => match us, hl with | [_, _], _ => rfl⟩
  have o_FreeMode_refusal : FnOk P w K mg base (L2N.CX P w) 5 (He.fAd K ("FreeMode", some "refusal")) fd_FreeMode_refusal ["self", "links", "operation"] (sp_FreeMode_refusal K) := ok_FreeMode_refusal T F_FreeMode_refusal c_Links_check
  have b_FreeMode_refusal : Binds K fd_FreeMode_refusal ["self", "links", "operation"] [] := FunD.bindsN (ps := ["self", "links", "operation"]) F_FreeMode_refusal fun _ _ _ _ _ _ us hl => match us, hl with | [_, _, _], _ => rfl
  have c_FreeMode_refusal : Met P w K mg base 5 (He.ga K "FreeMode") "refusal" ["self", "links", "operation"] (sp_FreeMode_refusal K) := ⟨_, fd_FreeMode_refusal, o_FreeMode_refusal, T.me_FreeMode_refusal, b_FreeMode_refusal⟩
  have o_SavingMode_refusal : FnOk P w K mg base (L2N.CX P w) 7 (He.fAd K ("SavingMode", some "refusal")) fd_SavingMode_refusal ["self", "links", "operation"] (sp_SavingMode_refusal K) := ok_SavingMode_refusal T F_SavingMode_refusal o_FreeMode_refusal b_FreeMode_refusal htop c__loses_a_gap
  have b_SavingMode_refusal : Binds K fd_SavingMode_refusal ["self", "links", "operation"] [] := FunS.bindsN (ps := ["self", "links", "operation"]) F_SavingMode_refusal fun _ _ _ _ _ _ _ us hl => match us, hl with | [_, _, _], _ => rfl
  have c_SavingMode_refusal : Met P w K mg base 7 (He.ga K "SavingMode") "refusal" ["self", "links", "operation"] (sp_SavingMode_refusal K) := ⟨_, fd_SavingMode_refusal, o_SavingMode_refusal, T.me_SavingMode_refusal, b_SavingMode_refusal⟩
  have o_GuardedMode_refusal : FnOk P w K mg base (L2N.CX P w) 8 (He.fAd K ("GuardedMode", some "refusal")) fd_GuardedMode_refusal ["self", "links", "operation"] (sp_GuardedMode_refusal K) := ok_GuardedMode_refusal T F_GuardedMode_refusal o_SavingMode_refusal b_SavingMode_refusal htop c__leaves_a_gap_to_a_holder_that_is_in
  have b_GuardedMode_refusal : Binds K fd_GuardedMode_refusal ["self", "links", "operation"] [] := FunS.bindsN (ps := ["self", "links", "operation"]) F_GuardedMode_refusal fun _ _ _ _ _ _ _ us hl => match us, hl with | [_, _, _], _ => rfl
  have c_GuardedMode_refusal : Met P w K mg base 8 (He.ga K "GuardedMode") "refusal" ["self", "links", "operation"] (sp_GuardedMode_refusal K) := ⟨_, fd_GuardedMode_refusal, o_GuardedMode_refusal, T.me_GuardedMode_refusal, b_GuardedMode_refusal⟩
  have o_CheckedMode_refusal : FnOk P w K mg base (L2N.CX P w) 9 (He.fAd K ("CheckedMode", some "refusal")) fd_CheckedMode_refusal ["self", "links", "operation"] (sp_CheckedMode_refusal K) := ok_CheckedMode_refusal T F_CheckedMode_refusal o_GuardedMode_refusal b_GuardedMode_refusal htop c__has_fitting_neighbours
  have b_CheckedMode_refusal : Binds K fd_CheckedMode_refusal ["self", "links", "operation"] [] := FunS.bindsN (ps := ["self", "links", "operation"]) F_CheckedMode_refusal fun _ _ _ _ _ _ _ us hl => match us, hl with | [_, _, _], _ => rfl
  have c_CheckedMode_refusal : Met P w K mg base 9 (He.ga K "CheckedMode") "refusal" ["self", "links", "operation"] (sp_CheckedMode_refusal K) := ⟨_, fd_CheckedMode_refusal, o_CheckedMode_refusal, T.me_CheckedMode_refusal, b_CheckedMode_refusal⟩
  have c_check_admitted : Cal P w K mg base 10 "check_admitted" ["links", "operation", "index", "judge"] (sp_check_admitted K) := ⟨_, fd_check_admitted, ok_check_admitted T F_check_admitted c_CheckedMode_refusal c_FreeMode_refusal c_GuardedMode_refusal c_Links_check c_SavingMode_refusal x_Refused, T.gf_check_admitted, F_check_admitted.kp, FunD.bindsN (ps := ["links", "operation", "index", "judge"]) F_check_admitted fun _ _ _ _ _ _ us hl => match us, hl with | [_, _, _, _], _ => rfl⟩
  have c_all_modes : Cal P w K mg base 1 "all_modes" [] (sp_all_modes K) := ⟨_, fd_all_modes, ok_all_modes T F_all_modes , T.gf_all_modes, F_all_modes.kp, FunD.bindsN (ps := []) F_all_modes fun _ _ _ _ _ _ us hl => match us, hl with | [], _ => rfl⟩
  have c_mode_named : Cal P w K mg base 3 "mode_named" ["mode"] (sp_mode_named K) := ⟨_, fd_mode_named, ok_mode_named T F_mode_named c_all_modes x_BadMode, T.gf_mode_named, F_mode_named.kp, FunD.bindsN (ps := ["mode"]) F_mode_named fun _ _ _ _ _ _ us hl => match us, hl with | [_], _ => rfl⟩
  obtain ⟨g_replay_in, b_replay_in⟩ := kbn_all (ps := ["size", "log", "mode"]) F_replay_in 2 ["mode"] (List.cons_ne_nil _ _) fun _ _ _ _ _ _ us ws l1 l2 => match us, ws, l1, l2 with | [_, _], [_], _, _ => rfl
  have c_replay_in : CalK P w K mg base 11 "replay_in" ["size", "log", "mode"] 2 ["mode"] (sp_replay_in K) := ⟨_, fd_replay_in, g_replay_in, ok_replay_in T F_replay_in m_Links c_Links_apply c_check_admitted c_mode_named, T.gf_replay_in, F_replay_in.kp, b_replay_in⟩
  have c__law_in_saving : Cal P w K mg base 12 "_law_in_saving" ["many", "row"] (sp__law_in_saving K) := ⟨_, fd__law_in_saving, ok__law_in_saving T F__law_in_saving c_Links___str__ c_replay_in, T.gf__law_in_saving, F__law_in_saving.kp, FunD.bindsN (ps := ["many", "row"]) F__law_in_saving fun _ _ _ _ _ _ us hl => match us, hl with | [_, _], _ => rfl⟩
  have c_lost_gaps : Cal P w K mg base 6 "lost_gaps" ["links"] (sp_lost_gaps K) := ⟨_, fd_lost_gaps, ok_lost_gaps T F_lost_gaps c_gap_states, T.gf_lost_gaps, F_lost_gaps.kp, FunD.bindsN (ps := ["links"]) F_lost_gaps fun _ _ _ _ _ _ us hl => match us, hl with | [_], _ => rfl⟩
  have c_first_loss : Cal P w K mg base 7 "first_loss" ["size", "log"] (sp_first_loss K) := ⟨_, fd_first_loss, ok_first_loss T F_first_loss m_Links c_Links_apply_at c_lost_gaps, T.gf_first_loss, F_first_loss.kp, FunD.bindsN (ps := ["size", "log"]) F_first_loss fun _ _ _ _ _ _ us hl => match us, hl with | [_, _], _ => rfl⟩
  have c_Links_copy : Met P w K mg base 6 (He.ga K "Links") "copy" ["self"] (sp_Links_copy K) := ⟨_, fd_Links_copy, ok_Links_copy T F_Links_copy m_Links, T.me_Links_copy, FunD.bindsN (ps := ["self"]) F_Links_copy fun _ _ _ _ _ _ us hl => match us, hl with | [_], _ => rfl⟩
  have c_play : Cal P w K mg base 7 "play" ["links", "log"] (sp_play K) := ⟨_, fd_play, ok_play T F_play c_Links_apply_at c_Links_copy, T.gf_play, F_play.kp, FunD.bindsN (ps := ["links", "log"]) F_play fun _ _ _ _ _ _ us hl => match us, hl with | [_, _], _ => rfl⟩
  have c_replay : Cal P w K mg base 8 "replay" ["size", "log"] (sp_replay K) := ⟨_, fd_replay, ok_replay T F_replay m_Links c_play, T.gf_replay, F_replay.kp, FunD.bindsN (ps := ["size", "log"]) F_replay fun _ _ _ _ _ _ us hl => match us, hl with | [_, _], _ => rfl⟩
  obtain ⟨g_first_refusal, b_first_refusal⟩ := kbn_all (ps := ["size", "log", "mode"]) F_first_refusal 2 ["mode"] (List.cons_ne_nil _ _) fun _ _ _ _ _ _ us ws l1 l2 => match us, ws, l1, l2 with | [_, _], [_], _, _ => rfl
  obtain ⟨gd_first_refusal, bd_first_refusal⟩ := kbn_def (ps := ["size", "log", "mode"]) F_first_refusal 2 (List.cons_ne_nil _ _) fun _ _ _ _ _ _ us mv l1 l2 => match us, mv, l1, l2 with | [_, _], [_], _, _ => ⟨_, _, _, _, _, _, rfl, rfl, rfl⟩
  have cd_first_refusal : CalD P w K mg base 10 "first_refusal" ["size", "log", "mode"] 2 [.str "free"] (sp_first_refusal K) := ⟨_, fd_first_refusal, gd_first_refusal, ok_first_refusal T F_first_refusal c_CheckedMode_refusal c_FreeMode_refusal c_GuardedMode_refusal m_Links c_Links_apply c_SavingMode_refusal c_check_size c_mode_named c_replay, T.gf_first_refusal, F_first_refusal.kp, bd_first_refusal⟩
  have c_first_refusal : CalK P w K mg base 10 "first_refusal" ["size", "log", "mode"] 2 ["mode"] (sp_first_refusal K) := ⟨_, fd_first_refusal, g_first_refusal, ok_first_refusal T F_first_refusal c_CheckedMode_refusal c_FreeMode_refusal c_GuardedMode_refusal m_Links c_Links_apply c_SavingMode_refusal c_check_size c_mode_named c_replay, T.gf_first_refusal, F_first_refusal.kp, b_first_refusal⟩
  have c__law_refusals : Cal P w K mg base 13 "_law_refusals" ["many", "row", "found"] (sp47__law_refusals K) := ⟨_, fd__law_refusals, ok__law_refusals T F__law_refusals c__law_after c__law_dump c__law_firsts c__law_in_saving c__law_same c_first_loss c_first_refusal cd_first_refusal, T.gf__law_refusals, F__law_refusals.kp, FunD.bindsN (ps := ["many", "row", "found"]) F__law_refusals fun _ _ _ _ _ _ us hl => match us, hl with | [_, _, _], _ => rfl⟩
  obtain ⟨g_admits, b_admits⟩ := kbn_all (ps := ["links", "operation", "mode"]) F_admits 2 ["mode"] (List.cons_ne_nil _ _) fun _ _ _ _ _ _ us ws l1 l2 => match us, ws, l1, l2 with | [_, _], [_], _, _ => rfl
  obtain ⟨gd_admits, bd_admits⟩ := kbn_def (ps := ["links", "operation", "mode"]) F_admits 2 (List.cons_ne_nil _ _) fun _ _ _ _ _ _ us mv l1 l2 => match us, mv, l1, l2 with | [_, _], [_], _, _ => ⟨_, _, _, _, _, _, rfl, rfl, rfl⟩
  have cd_admits : CalD P w K mg base 10 "admits" ["links", "operation", "mode"] 2 [.str "free"] (sp_admits K) := ⟨_, fd_admits, gd_admits, ok_admits T F_admits c_CheckedMode_refusal c_FreeMode_refusal c_GuardedMode_refusal c_SavingMode_refusal c_mode_named, T.gf_admits, F_admits.kp, bd_admits⟩
  have c_admits : CalK P w K mg base 10 "admits" ["links", "operation", "mode"] 2 ["mode"] (sp_admits K) := ⟨_, fd_admits, g_admits, ok_admits T F_admits c_CheckedMode_refusal c_FreeMode_refusal c_GuardedMode_refusal c_SavingMode_refusal c_mode_named, T.gf_admits, F_admits.kp, b_admits⟩
  have c__law_saved : Cal P w K mg base 13 "_law_saved" ["many", "row"] (sp__law_saved K) := ⟨_, fd__law_saved, ok__law_saved T F__law_saved c_Links___str__ c__law_after c__law_book c__law_dump c__law_in_saving c__law_paper c__law_put c__law_refuser c__law_same c__law_start c_admits c_first_loss c_first_refusal c_replay cd_admits, T.gf__law_saved, F__law_saved.kp, FunD.bindsN (ps := ["many", "row"]) F__law_saved fun _ _ _ _ _ _ us hl => match us, hl with | [_, _], _ => rfl⟩
  exact ok_law T F_law c__law_book c__law_box c__law_draw c__law_log c__law_papers c__law_refusals c__law_saved
end G
open PySem PySem.W PySem.Calls PyProof.Rows
set_option maxRecDepth 100000 in
set_option maxHeartbeats 0 in
theorem PySem.Challenge.cw_latelink_k47_whole_saving_mode_and_losse_holds : PySem.Challenge.rw_latelink_k47_whole_saving_mode_and_losse.Holds := by
  w_on; o_law
  refine HandSHeadRun.head_any (r := OpenLaw.row PySem.Challenge.rw_latelink_k47_whole_saving_mode_and_losse) (q := view (OpenLaw.row PySem.Challenge.rw_latelink_k47_whole_saving_mode_and_losse).prog [77]) (H := G.hk) (ob := G.ob) (M := 8000) (loose := G.loose) (d := HandSHeadRun.topDef (OpenLaw.row PySem.Challenge.rw_latelink_k47_whole_saving_mode_and_losse).prog 77) (kwd := []) G.ob_eq
    (by kernel_rfl) (fun s => by kernel_rfl) G.run (by kernel_rfl) (by kernel_rfl) (by kernel_rfl) (by rfl) (by first | assumption | decide +kernel) (by decide +kernel) ⟨rfl, rfl, rfl, rfl, rfl, by decide +kernel⟩ ?hw ?hc
  case hw => w_witness2
  case hc =>
    refine L2.walk_ofE (l := PySem.Challenge.rw_latelink_k47_whole_saving_mode_and_losse) (n := 63) (k := 14) (x := "script") (CX := L2.CX0) rfl (by decide) (by kernel_rfl) ⟨rfl, by decide, by decide⟩ ?F (fun _ _ _ _ z => z)
    case F =>
      intro w mg fa h Y Gm hmg0
      obtain ⟨K, KX, c⟩ := Y
      have hmg : mg ("law" : PySem.Str) = some (.ref fa) := by
        have e : (HandSHeadRun.topDef (OpenLaw.row PySem.Challenge.rw_latelink_k47_whole_saving_mode_and_losse).prog 77).name = ("law" : PySem.Str) := by kernel_rfl
        rw [← e]
        exact hmg0
      obtain ⟨fd, hb, hF⟩ := G.facts (P := (PySem.Challenge.rw_latelink_k47_whole_saving_mode_and_losse).prog) (w := w) KX Gm hmg c (by decide +kernel) (by decide +kernel)
      exact ⟨K, fd, _, KX, hb, fun H a ns hl _ hS => ⟨a, ns, rfl, hS, hl, fun _ => rfl⟩, fun base h1 h2 => G.noX (hF base h1 h2)⟩
