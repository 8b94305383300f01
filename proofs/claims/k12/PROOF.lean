import PyProof.Rows.All
import Wide.All
import OpenK.AllK
import Wide.FinOn
import KE.KStateDown
import KE.KExcIs
import HandS.ForMost
import HandS.Exc
import HandS.ExcOwn
import HandS.ExcCtx
import HandS.ExcInit
import HandS.ExcField
import HandS.HotCalls
import HandS.WordsExc
import HandS.IsInst
import HandS.Conv
import HandS.Defaults
import HandS.Evl
import HandS.Head0
import HandS.Head1
import HandS.Head2
import HandS.HeadEnd
import HandS.HeadHook1
import HandS.HeadHook2
import HandS.ClsMeth
import HandS.ExcInitHot
import HandS.OwnEq
import HandS.HeadNt
import HandS.NoneIn
import HandS.Text
import HandS.Steps
import HandS.Strs
import HandS.TupAny
import HandS.Deep
import PyProof.FString3
import PyProof.Rows.StrIntSpec
import HandS.RaiseMore
import KE.KCallOwn
import PyProof.ListRange
import HandS.GenList
import HandS.GenYield
import HandS.Rev
import HandS.SetBool
import HandS.TupSets
import PyProof.FactsAll.set_2
import PyProof.FactsAll.set_1
import HandS.SetFor
import HandS.MakeKwOnly
import HandS.TryOnly
import HandS.TupLe
import HandS.Nested
import KE.KSuper
import PySem.Challenge.RW_latelink_k12_whole_first_refusals
set_option Elab.async false
set_option linter.all false
set_option maxRecDepth 100000
set_option maxHeartbeats 4000000
/-! Calls by bundles, own exceptions with fields, raised, caught, asked. -/
namespace G
open PySem PySem.Spec PyProof.Rows L2
/-! ### a def, a method of the text, ready to be called -/
structure Cal (P : Program) (w : World) (K : PySem.W.Frag) (mg : Str → Option Value) (base : Heap) (k : Nat) (x : Str) (ps : List Str) (sp : Sp) : Prop where
  ex : ∃ (f : Addr) (fd : FuncData), FnOk P w K mg base (L2N.CX P w) k f fd ps sp ∧ mg x = some (.ref f) ∧ PySem.W.keepIn K (.ref f) = true ∧ Binds K fd ps []
structure Met (P : Program) (w : World) (K : PySem.W.Frag) (mg : Str → Option Value) (base : Heap) (k : Nat) (C : Addr) (m : Str) (ps : List Str) (sp : Sp) : Prop where
  ex : ∃ (f : Addr) (fd : FuncData), FnOk P w K mg base (L2N.CX P w) k f fd ps sp ∧ Meth K C m f ∧ Binds K fd ps []
structure Mak (P : Program) (w : World) (K : PySem.W.Frag) (mg : Str → Option Value) (base : Heap) (k : Nat) (x : Str) (C : Addr) (ps : List Str) (sp : Sp) : Prop where
  ex : ∃ (f : Addr) (fd : FuncData), FnOk P w K mg base (L2N.CX P w) k f fd ps sp ∧ Mk K C f ∧ mg x = some (.ref C) ∧ Binds K fd ps []
/-- the same where an exception is handled -/
structure CalH (P : Program) (w : World) (K : PySem.W.Frag) (mg : Str → Option Value) (base : Heap) (k : Nat) (x : Str) (ps : List Str) (sp : Sp) : Prop where
  ex : ∃ (f : Addr) (fd : FuncData), L2H.FnH P w K mg base (L2N.CX P w) k f fd ps sp ∧ mg x = some (.ref f) ∧ PySem.W.keepIn K (.ref f) = true ∧ Binds K fd ps []
section
variable {X : Cx} {j k : Nat} {x m : Str} {ps : List Str} {sp : Sp} {E : XK} {C : Addr} {p pos apos : Pos} {e o : Expr} {es : List Expr} {t : TA} {ta : TE}
/-- f(..): what leaves it as an exception is wished for by E -/
def tCl (sp : Sp) (E : L2.St → XK) (t : TA) : TE := fun σ H Q => t σ H fun vs H1 => sp vs H1 Q (E σ)
def tMt (C : Addr) (m : Str) (sp : Sp) (E : L2.St → XK) (ta : TE) (t : TA) : TE := fun σ H Q => ta σ H fun x H1 => ∃ a dx fs, x = .ref a ∧ H1 a = some (.ins C dx fs) ∧ fs.lookup m = none ∧ t σ H1 fun vs H2 => sp (x :: vs) H2 Q (E σ)
def tMk (C : Addr) (sp : Sp) (E : L2.St → XK) (t : TA) : TE := fun σ H Q => t σ H fun vs H1 => ∀ x dx, H1 x = none → H1 dx = none → dx ≠ x → sp (.ref x :: vs) (upd (upd H1 dx (.own x)) x (.ins C dx [])) (fun v H2 => v = .non ∧ Q (.ref x) H2) (E σ)
abbrev PAt (X : Cx) (E : L2.St → XK) : Prop := ∀ σ, PassesAt (L2N.CX X.prog X.w) X σ (E σ)
theorem pat_of {X : Cx} {W : WX} (tk : L2N.Takes X W) : PAt X (WE W) := fun σ => L2N.passAt tk σ
/-- where nothing may be let out -/
theorem pat_no {X : Cx} : PAt X (fun _ => L2.E0) := fun σ pins H s e s' I c => by
  obtain ⟨_, _, _, _, _, _, _, _, _, _, _, _, z⟩ := c
  exact z.elim
variable {E : L2.St → XK}
theorem pe_cl (c : Cal X.prog X.w X.K X.mg X.base k x ps sp) (hr : Room j X.A) (hk : k ≤ j) (hx : PAt X E) (ha : PA X (e :: es) t) (hg : Gl X x := by rfl) (hdb : (x == ("__debug__" : Str)) = false := by decide)
    (he : starEach (e :: es) X.env = (false, eval e X.env) :: starEach es X.env := by rfl) (hpl : (backTo pos (starEach es X.env)).any (·.1) = false := by rfl) : PE X (.Call (.Name x p) (e :: es) [] pos) (tCl sp E t) := by
  obtain ⟨f, fd, F, hm, kp, hb⟩ := c.ex
  refine ⟨fun pins s σ H Q I h => ?_⟩
  exact (pe_callS (E := E) F (hr.mono hk) hg hm kp hb hx ha hdb he hpl).run pins s σ H Q I h
theorem pe_cl0 (c : Cal X.prog X.w X.K X.mg X.base k x ps sp) (hr : Room j X.A) (hk : k ≤ j) (hx : PAt X E) (hg : Gl X x := by rfl) (hdb : (x == ("__debug__" : Str)) = false := by decide) : PE X (.Call (.Name x p) [] [] pos) (tCl sp E tNil) := by
  obtain ⟨f, fd, F, hm, kp, hb⟩ := c.ex
  refine ⟨fun pins s σ H Q I h => wpAny_Call_Name_kw (ld_glob I hg hm ?_ hdb)⟩
  exact PySem.W.callWith_K0 I.kIn kp (run_fnS (E := E) (us := []) (vs := []) F (hr.mono hk) hb (hx σ) I .nil h)
theorem pe_mt {pl : Sem Bool} (c : Met X.prog X.w X.K X.mg X.base k C m ps sp) (cl : Cls X.K C) (hr : Room j X.A) (hk : k ≤ j) (hx : PAt X E) (he : PE X o ta) (ha : PA X (e :: es) t)
    (hst : starEach (e :: es) X.env = (false, eval e X.env) :: starEach es X.env := by rfl) (hpl : (backTo pos (starEach es X.env)).any (·.1) = false := by rfl)
    (ht : eval (.Call (.Attribute o m apos) (e :: es) [] pos) X.env = (do
      let ov ← eval o X.env
      standAt apos.atName
      let (f, first) ← holding [ov] (getMethod ov m pl)
      callWith pos f first (backTo pos (starEach (e :: es) X.env)) (backToKw pos (keywordEach [] X.env))) := by rfl) : PE X (.Call (.Attribute o m apos) (e :: es) [] pos) (tMt C m sp E ta t) := by
  obtain ⟨f, fd, F, hm, hb⟩ := c.ex
  refine ⟨fun pins s σ H Q I h => PySem.W.methodCall_KW (pl := pl) (thn (he.run pins s σ H _ I h) fun u s1 hh => ?_) ht⟩
  obtain ⟨x, H1, I1, rx, a, dx, fs, ex, ea, l, q⟩ := hh
  subst ex
  obtain rfl : u = Value.ref a := rx
  refine getmeth_ok I1 ea cl hm l (PySem.W.callWith_K (first := [.ref a]) (h₀ := X.base) I.ok.mod.kin hm.kp (thn (ha.run pos pins s1 σ H1 _ I1 q) fun us s2 hh => ?_) hst hpl)
  obtain ⟨vs, H2, I2, r, q2⟩ := hh
  exact ⟨I2.kIn, run_fnS (us := .ref a :: us) (vs := .ref a :: vs) F (hr.mono hk) hb (hx σ) I2 (.cons rfl r) q2⟩
theorem pe_mt0 {pl : Sem Bool} (c : Met X.prog X.w X.K X.mg X.base k C m ps sp) (cl : Cls X.K C) (hr : Room j X.A) (hk : k ≤ j) (hx : PAt X E) (he : PE X o ta)
    (ht : eval (.Call (.Attribute o m apos) [] [] pos) X.env = (do
      let ov ← eval o X.env
      standAt apos.atName
      let (f, first) ← holding [ov] (getMethod ov m pl)
      callWith pos f first (backTo pos (starEach [] X.env)) (backToKw pos (keywordEach [] X.env))) := by rfl) : PE X (.Call (.Attribute o m apos) [] [] pos) (tMt C m sp E ta tNil) := by
  obtain ⟨f, fd, F, hm, hb⟩ := c.ex
  refine ⟨fun pins s σ H Q I h => PySem.W.methodCall_KW (pl := pl) (thn (he.run pins s σ H _ I h) fun u s1 hh => ?_) ht⟩
  obtain ⟨x, H1, I1, rx, a, dx, fs, ex, ea, l, q⟩ := hh
  subst ex
  obtain rfl : u = Value.ref a := rx
  refine getmeth_ok I1 ea cl hm l ?_
  exact PySem.W.callWith_K0 (first := [.ref a]) I1.kIn hm.kp (run_fnS (us := [.ref a]) (vs := [.ref a]) F (hr.mono hk) hb (hx σ) I1 (.cons rfl .nil) q)
/-- an instance is made, what its __init__ lets out is wished for at the slots σ -/
theorem run_mk {pn : List (Addr × Obj)} {τ : L2.St} {H0 : Hp} {sh : Shared} {R : VK} {f : Addr} {fd : FuncData} {uu : List Value} {vv : List V} (M : Mk X.K C f) (F : FnOk X.prog X.w X.K X.mg X.base (L2N.CX X.prog X.w) k f fd ps sp)
    (hr : Room (k + 1) X.A) (hb : Binds X.K fd ps []) (hx : PAt X E) (I : Inv X pn τ H0 sh) (r : Vals vv uu)
    (h : ∀ x dx, H0 x = none → H0 dx = none → dx ≠ x → sp (.ref x :: vv) (upd (upd H0 dx (.own x)) x (.ins C dx [])) (fun v H2 => v = .non ∧ R (.ref x) H2) (E τ)) :
    wpAny (model X.prog X.w) X.A (call (.ref C) uu) (EP X pn τ R) X.xe sh := by
  have q0 := h (sh.heap.objs.size + 1) sh.heap.objs.size (I.hok.fresh (Nat.le_succ _)) (I.hok.fresh (Nat.le_refl _)) (Nat.ne_of_lt (Nat.lt_succ_self _))
  have J := Inv.made (C := C) I
  have rr : Vals (V.ref (sh.heap.objs.size + 1) :: vv) (Value.ref (sh.heap.objs.size + 1) :: uu) := .cons rfl r
  have ln : (Value.ref (sh.heap.objs.size + 1) :: uu ++ []).length = ps.length := by
    rw [List.append_nil, ← rr.length]
    exact F.len _ _ _ _ q0
  have bb := hb _ (Value.ref (sh.heap.objs.size + 1) :: uu) J.kIn ln
  rw [List.append_nil] at bb
  have go := F.run _ X.stack _ _ ⟨Value.ref (sh.heap.objs.size + 1) :: uu, []⟩ _ _ _ (E τ) (hr.make C uu []) (J.env0.make C uu []) bb rr q0
  refine wpAny_call (make_map (f := f) I.kIn M.makes M.init (beq_iff_eq.mp M.fn) (codeAny_mono go fun rs s2 w => ?_))
  cases rs with
  | error er => exact hx τ pn _ _ er s2 J w
  | ok fl =>
    cases fl with
    | ret u =>
      obtain ⟨v, H2, J2, rv, ev, w2⟩ := J.after w
      subst ev
      exact ⟨rv, V.ref (sh.heap.objs.size + 1), H2, J2, rfl, w2⟩
    | next => exact w.elim
    | brk => exact w.elim
    | cont => exact w.elim
theorem pe_mk (c : Mak X.prog X.w X.K X.mg X.base k x C ps sp) (hr : Room j X.A) (hk : k + 1 ≤ j) (hx : PAt X E) (ha : PA X (e :: es) t) (hg : Gl X x := by rfl) (hdb : (x == ("__debug__" : Str)) = false := by decide)
    (he : starEach (e :: es) X.env = (false, eval e X.env) :: starEach es X.env := by rfl) (hpl : (backTo pos (starEach es X.env)).any (·.1) = false := by rfl) : PE X (.Call (.Name x p) (e :: es) [] pos) (tMk C sp E t) := by
  obtain ⟨f, fd, F, M, hm, hb⟩ := c.ex
  refine ⟨fun pn s τ H Q I h => wpAny_Call_Name_kw (ld_glob I hg hm ?_ hdb)⟩
  refine PySem.W.callWith_K (h₀ := X.base) I.ok.mod.kin M.kp (thn (ha.run pos pn s τ H _ I h) fun us s1 hh => ?_) he hpl
  obtain ⟨vs, H1, I1, r, q⟩ := hh
  exact ⟨I1.kIn, run_mk M F (hr.mono hk) hb hx I1 r q⟩
end
/-! ### calls where an exception is handled -/
section
variable {X : Cx} {j k : Nat} {x : Str} {ps : List Str} {sp : Sp} {p pos : Pos} {e : Expr} {es : List Expr} {t : TA} {E : L2.St → XK}
theorem pe_clH (c : CalH X.prog X.w X.K X.mg X.base k x ps sp) (hr : L2H.RoomH j X.A) (hk : k ≤ j) (hc : L2H.HotC X) (hx : PAt X E) (ha : PA X (e :: es) t) (hg : Gl X x := by rfl) (hdb : (x == ("__debug__" : Str)) = false := by decide)
    (he : starEach (e :: es) X.env = (false, eval e X.env) :: starEach es X.env := by rfl) (hpl : (backTo pos (starEach es X.env)).any (·.1) = false := by rfl) : PE X (.Call (.Name x p) (e :: es) [] pos) (tCl sp E t) := by
  obtain ⟨f, fd, F, hm, kp, hb⟩ := c.ex
  refine ⟨fun pins s σ H Q I h => ?_⟩
  exact (L2H.pe_callH (E := E) F (hr.mono hk) hc hg hm kp hb hx ha hdb he hpl).run pins s σ H Q I h
end
/-! ### own exceptions with fields -/
/-- what a class of errors must be for its instances to be asked and read -/
structure ExK (K : PySem.W.Frag) (C : Addr) : Prop where
  cl : (PySem.W.clsIn K C).isSome = true
  ga : PySem.W.findIn K (.ref C) "__getattribute__" = some (some (.builtin "BaseException.__getattribute__"))
  gg : PySem.W.findIn K (.ref C) "__getattr__" = some none
  be : PySem.W.subIn K (.ref C) (.type "BaseException") = some true
  hd : PySem.W.hasDictIn K C = true
  cc : PySem.W.findIn K (.ref C) "__class__" = some (some (.builtin "object.__class__"))
  gs : PySem.W.specialIn K (.builtin "object.__class__") "__get__" = some (some (.builtin "getset_descriptor.__get__"))
  tk : PySem.W.takesIn K (.builtin "object.__class__") = some true
  mo : PySem.W.mroIn K C (.type "object") = some true
/-- isinstance(raised, c) -/
def rIsX (K : PySem.W.Frag) (cls : Value) (d : Option Addr) (a : Addr) : List V → Hp → VK → Prop := fun xs H Q => ∃ (D dd : Addr) (fs : List (Str × V)) (c : V) (u : Value) (b : Bool),
  cls = .ref D ∧ d = some dd ∧ H dd = some (.xd fs) ∧ ExK K D ∧ xs = [.ref a, c] ∧ ClsV c u ∧ PySem.W.kitOne K (.ref D) u = some b ∧ Q (.bl b) H
section
variable {X : Cx} {a : Addr} {oe : Obj} {cls : Value} {d : Option Addr} {pn : List (Addr × Obj)}
theorem exc_at {pins : List (Addr × Obj)} {s : Shared} {σ : L2.St} {H : Hp} {D dd : Addr} {fs : List (Str × V)} (I : Inv (X.suite a ((a, oe) :: pn)) pins σ H s) (hz : Zc cls d oe) (hf : ∃ vs, oe.data = .fields vs) (ec : cls = .ref D) (ed : d = some dd)
    (hd : H dd = some (.xd fs)) : ∃ (od : Obj) (mA : Str → Option Value), PySem.W.InstAt s.heap a oe D (some od) ∧ (∀ f, RelO (fs.lookup f) (mA f)) ∧ ∀ n, PySem.W.lookIn n od = some (mA n) := by
  obtain ⟨hget, _⟩ := I.pin (a, oe) (List.mem_append_left _ List.mem_cons_self)
  obtain ⟨vs, hv⟩ := hf
  obtain ⟨mA, hns, hr⟩ := (show ObjOk X.prog X.w H s.heap dd (.xd fs) from I.hok dd _ hd)
  obtain ⟨od, ho, hl⟩ := lookIn_ns hns
  refine ⟨od, mA, ⟨hget, hz.1.trans ec, ?_, ?_⟩, hr, hl⟩
  · unfold PySem.W.notCls
    rw [hv] <;> rfl
  · rw [hz.2, ed]
    exact ho
theorem call_isX (hz : Zc cls d oe) (hf : ∃ vs, oe.data = .fields vs) : CallR (X.suite a ((a, oe) :: pn)) (.builtin "isinstance") (rIsX X.K cls d a) := by
  intro pins s σ H xs us Q I r h
  obtain ⟨D, dd, fs, c, u, b, ec, ed, hd, T, rfl, k, e, q⟩ := h
  obtain ⟨u1, u2, rfl, r1, r2⟩ := vals2 r
  cases (show u1 = Value.ref a from r1)
  have e2 := k.eq r2
  subst e2
  obtain ⟨od, mA, J, _, _⟩ := exc_at I hz hf ec ed hd
  exact PySem.W.kia_one (PySem.W.kitx_exc T.cl T.ga T.gg T.be T.cc T.gs T.tk T.mo) I.kIn J e (fun z => nomatch z) fun tk => ⟨.bl b, H, I.tok tk, rfl, q⟩
/-- raised.f -/
def tXat (K : PySem.W.Frag) (a : Addr) (cls : Value) (d : Option Addr) (f : Str) (te : TE) : TE := fun σ H Q => te σ H fun x H1 => ∃ (D dd : Addr) (fs : List (Str × V)) (v : V),
  cls = .ref D ∧ d = some dd ∧ H1 dd = some (.xd fs) ∧ ExK K D ∧ x = .ref a ∧ PySem.W.findIn K (.ref D) f = some none ∧ fs.lookup f = some v ∧ Q v H1
theorem pe_xat {e : Expr} {te : TE} {pos : Pos} {n : Str} (hz : Zc cls d oe) (hf : ∃ vs, oe.data = .fields vs) (he : PE (X.suite a ((a, oe) :: pn)) e te) (hb : attributeBase e n X.env (eval e X.env) = eval e X.env := by rfl) :
    PE (X.suite a ((a, oe) :: pn)) (.Attribute e n pos) (tXat X.K a cls d n te) := by
  refine ⟨fun pins s σ H Q I h => attr_of hb (thn (he.run pins s σ H _ I h) fun u s1 hh => ?_)⟩
  obtain ⟨x, H1, I1, rx, D, dd, fs, v, ec, ed, hd, T, ex, hno, l, q⟩ := hh
  subst ex
  obtain rfl : u = Value.ref a := rx
  obtain ⟨od, mA, J, hr, hl⟩ := exc_at I1 hz hf ec ed hd
  obtain ⟨u, hu, ru⟩ := RelO.some_of (v := v) (o := mA n) (by rw [← l]; exact hr n)
  exact HandSPX.exc_get I1.kIn J T.ga T.gg T.be (PySem.W.findObj_own T.hd hno rfl (by rw [hl, hu])) (handed_of ru) ⟨v, H1, I1.tok _, ru, q⟩
end
end G
set_option Elab.async false
set_option linter.all false
set_option maxRecDepth 100000
set_option maxHeartbeats 4000000
/-! Own errors made and raised where nothing is handled. -/
namespace G
open PySem PySem.Spec PyProof.Rows L2
/-- what an error's __init__ leaves: its fields fs hold the values us -/
def spIn (K : PySem.W.Frag) (fs : List Str) : Sp := fun vs H Q _ => ∃ (a C : Addr) (us : List V), vs = .ref a :: us ∧ us.length = fs.length ∧ OexC K C ∧ (∀ f ∈ fs, PySem.W.findIn K (.ref C) f = some none) ∧ H a = some (exo a C none) ∧
  ∀ (dx : Addr) (H' : Hp), H dx = none → dx ≠ a → H' a = some (exo a C (some dx)) → H' dx = some (exd dx (fs.zip us).reverse) → (∀ b, b ≠ a → b ≠ dx → H' b = H b) → Q .non H'
theorem spIn_len {K : PySem.W.Frag} {fs ps : List Str} (h : ps.length = fs.length + 1) : ∀ vs H Q E, spIn K fs vs H Q E → vs.length = ps.length := by
  rintro vs H Q E ⟨a, C, us, rfl, hl, _⟩
  rw [h, List.length_cons, hl]
/-- an own class of errors -/
structure ExM (P : Program) (w : World) (K : PySem.W.Frag) (mg : Str → Option Value) (base : Heap) (k : Nat) (x : Str) (C : Addr) (fs : List Str) : Prop where
  oex : OexC K C
  no : ∀ f ∈ fs, PySem.W.findIn K (.ref C) f = some none
  gl : mg x = some (.ref C)
  ex : ∃ (fI : Addr) (fd : FuncData) (ps : List Str), FnOk P w K mg base (L2N.CX P w) k fI fd ps (spIn K fs) ∧ PySem.W.findIn K (.ref C) "__init__" = some (some (.ref fI)) ∧ PySem.W.typeIn K (.ref fI) = some (.type "function") ∧ Binds K fd ps []
theorem heap_mk {H H2 : Hp} {a d : Addr} {o : HO} (ha : H a = none) (hd : d ≠ a) (k : ∀ b, b ≠ a → b ≠ d → H2 b = H b) : upd (del H2 a) d o = upd H d o := by
  funext b
  by_cases hb : b = d
  · rw [hb, upd_same, upd_same]
  · rw [upd_ne hb, upd_ne hb]
    by_cases hba : b = a
    · rw [hba, del_same, ha]
    · rw [del_ne hba, k b hba hb]
theorem mk_go {K : PySem.W.Frag} {C : Addr} {fs : List Str} {us : List V} {H : Hp} {Q : XK} (T : OexC K C) (hf : ∀ f ∈ fs, PySem.W.findIn K (.ref C) f = some none) (hl : us.length = fs.length) (h : ∀ d, H d = none → Q (.ref C) (some d) (upd H d (.xd (fs.zip us).reverse))) :
    ∀ a, H a = none → spIn K fs (.ref a :: us) (upd H a (exo a C none)) (fun v H2 => v = .non ∧ ∃ (d : Addr) (gs : List (Str × V)), H2 a = some (exo a C (some d)) ∧ H2 d = some (exd d gs) ∧ H d = none ∧ Q (.ref C) (some d) (upd (del H2 a) d (.xd gs))) (fun _ _ _ => False) := by
  intro a ha
  refine ⟨a, C, us, rfl, hl, T, hf, upd_same, fun dx H' nd ne e1 e2 k => ⟨rfl, dx, _, e1, e2, ?_, ?_⟩⟩
  · rw [upd_ne ne] at nd
    exact nd
  · have nd' : H dx = none := by
      rw [upd_ne ne] at nd
      exact nd
    rw [heap_mk ha ne fun b h1 h2 => (k b h1 h2).trans (upd_ne h1)]
    exact h dx nd'
/-- x(e, ..), x a class of errors -/
def tRz (C : Addr) (fs : List Str) (W : WX) (ta : TA) : TS := fun _ σ H => ta σ H fun us H1 => us.length = fs.length ∧ us.length ≤ 1000 ∧ ∀ d, H1 d = none → W (.ref C) (some d) σ (upd H1 d (.xd (fs.zip us).reverse))
section
variable {X : Cx} {j k : Nat} {x : Str} {C : Addr} {fs : List Str} {p pos pos2 : Pos} {e : Expr} {es : List Expr} {ta : TA}
theorem pmk_x (c : ExM X.prog X.w X.K X.mg X.base k x C fs) (hr : Room j X.A) (hk : k + 1 ≤ j) (ha : PA X (e :: es) ta) (hg : Gl X x) (hdb : (x == ("__debug__" : Str)) = false)
    (he : starEach (e :: es) X.env = (false, eval e X.env) :: starEach es X.env) (hpl : (backTo pos (starEach es X.env)).any (·.1) = false) :
    L2N.PMk X (.Call (.Name x p) (e :: es) [] pos) (fun σ H Q => ta σ H fun us H1 => us.length = fs.length ∧ us.length ≤ 1000 ∧ ∀ d, H1 d = none → Q (.ref C) (some d) (upd H1 d (.xd (fs.zip us).reverse))) := by
  obtain ⟨T, hno, hm, fI, fd, ps, F1, iC, tI, hb⟩ := c
  intro pn s τ H Q I h
  obtain ⟨nm, qn, N, bs, bm, sn, sub, ab, col, dd, k0, k1, k2, k3, k5, hC, hbm⟩ := T.cls
  refine wpAny_Call_Name_kw (ld_glob I hg hm (PySem.W.callWith_K (h₀ := X.base) I.ok.mod.kin T.kC (thn (ha.run pos pn s τ H _ I h) fun us s1 hh => ?_) he hpl) hdb)
  obtain ⟨vs, H1, I1, r1, hl, hz, q1⟩ := hh
  refine ⟨I1.kIn, ?_⟩
  obtain ⟨hp, g, dr, tk, os⟩ := s1
  show wpAny _ _ (call (.ref C) us) _ _ _
  have hle := Nat.le_succ hp.objs.size
  have hn : H1 (hp.objs.size + 1) = none := I1.hok.fresh hle
  have hq := mk_go (Q := Q) T hno hl q1 (hp.objs.size + 1) hn
  have up : ∀ b o, hp.get? b = some o → ((hp.push (PySem.W.kdv_tup us)).push (PySem.HandSPX.excO C hp.objs.size)).get? b = some o := fun b o z => Heap.get?_push_of_some _ (Heap.get?_push_of_some _ z)
  have new : ((hp.push (PySem.W.kdv_tup us)).push (PySem.HandSPX.excO C hp.objs.size)).get? (hp.objs.size + 1) = some (PySem.HandSPX.excO C hp.objs.size) := by heap_get
  have J := I1.laid (t' := tk) (a := hp.objs.size + 1) (o := exo (hp.objs.size + 1) C none) up hle (exo_ok new)
  have rr : Vals (V.ref (hp.objs.size + 1) :: vs) (Value.ref (hp.objs.size + 1) :: us) := .cons rfl r1
  have ln : (Value.ref (hp.objs.size + 1) :: us ++ []).length = ps.length := by
    rw [List.append_nil, ← rr.length]
    exact F1.len _ _ _ _ hq
  have bb := hb _ (Value.ref (hp.objs.size + 1) :: us) J.kIn ln
  rw [List.append_nil] at bb
  have sz : us.length ≤ sizeLine := by
    rw [← r1.length, sizeLine_eq]
    omega
  have hr' : Room (k + 1) X.A := hr.mono hk
  have go := F1.run _ X.stack _ _ ⟨Value.ref (hp.objs.size + 1) :: us, []⟩ _ _ _ _ (hr'.make C us []) (J.env0.make C us []) bb rr hq
  refine wpAny_call (PySem.HandSPX.call_own F.excBase_ValueError (fun Y => PySem.HandSPX.refsVE_contains Y bm hbm) (I1.kIn _ _ hC) (PySem.W.looks_findIn I1.kIn iC) (fun self => PySem.W.bind_fn I1.kIn self tI) sz (codeAny_mono go fun rs s2 w => ?_))
  cases rs with
  | error er =>
    obtain ⟨_, _, _, _, _, _, _, _, _, _, _, _, z⟩ := w
    exact z.elim
  | ok fl =>
    cases fl with
    | ret u =>
      obtain ⟨v, H2, os2, ba, un, hok, rv, ev, d, gs, ea, ed, hd1, q2⟩ := w
      subst ev
      obtain ⟨h2, g2, d2, t2, os'⟩ := s2
      obtain ⟨t0, HG, J2, kG, ge, hoe, na⟩ := mk_end0 (d2 := d2) (t2 := t2) I1 hle up un hok os2 ba ea ed hd1
      exact ⟨rv, hp.objs.size + 1, _, _, ⟨HG, g2, d2, t2, os'⟩, _, .ref C, some d, rfl, J2, kG, ge, hoe, ⟨rfl, rfl, fun zs hv => by cases hv; rfl⟩, rfl, rfl, na, rfl, ba, raises_own T.exC T.tyC, q2⟩
    | next => exact w.elim
    | brk => exact w.elim
    | cont => exact w.elim
/-- raise x(e, ..) -/
theorem ps_rz {W : WX} (c : ExM X.prog X.w X.K X.mg X.base k x C fs) (hc : X.calm = true) (tk : L2N.Takes X W) (hr : Room j X.A) (hk : k + 1 ≤ j) (ha : PA X (e :: es) ta) (hg : Gl X x := by rfl) (hdb : (x == ("__debug__" : Str)) = false := by decide)
    (he : starEach (e :: es) X.env = (false, eval e X.env) :: starEach es X.env := by rfl) (hpl : (backTo pos (starEach es X.env)).any (·.1) = false := by rfl) : PS X (.Raise (some (.Call (.Name x p) (e :: es) [] pos)) none pos2) (tRz C fs W ta) :=
  L2N.ps_raise hc tk (pmk_x c hr hk ha hg hdb he hpl)
end
/-! ### the __init__ of one field, of two -/
theorem ini1 {K : PySem.W.Frag} {f : Str} {vs : List V} {H : Hp} {Q : VK} {E : XK} {N : List Str} (hN : N.length = 2) (h : spIn K [f] vs H Q E) : (tOst K f (tVar 0) (tVar 1)) { nx := fun _ H' => Q .non H', rt := Q } (start N vs) H := by
  obtain ⟨a, C, us, rfl, hl, T, hno, ha, q⟩ := h
  match us, hl with
  | [v], _ =>
    match N, hN with
    | [_, _], _ =>
      refine ⟨_, rfl, _, rfl, a, C, rfl, T, hno f (List.mem_singleton.mpr rfl), Or.inl ⟨ha, fun dx hd ne => ?_⟩⟩
      refine q dx _ hd ne upd_same ?_ fun b h1 h2 => ?_
      · rw [upd_ne ne, upd_same] <;> rfl
      · rw [upd_ne h1, upd_ne h2]
theorem ini2 {K : PySem.W.Frag} {f g : Str} {vs : List V} {H : Hp} {Q : VK} {E : XK} {N : List Str} (hN : N.length = 3) (h : spIn K [f, g] vs H Q E) :
    (tSeq (tOst K f (tVar 0) (tVar 1)) (tOst K g (tVar 0) (tVar 2))) { nx := fun _ H' => Q .non H', rt := Q } (start N vs) H := by
  obtain ⟨a, C, us, rfl, hl, T, hno, ha, q⟩ := h
  match us, hl with
  | [v, v2], _ =>
    match N, hN with
    | [_, _, _], _ =>
      refine ⟨_, rfl, _, rfl, a, C, rfl, T, hno f List.mem_cons_self, Or.inl ⟨ha, fun dx hd ne => ?_⟩⟩
      refine ⟨_, rfl, _, rfl, a, C, rfl, T, hno g (List.mem_cons_of_mem _ List.mem_cons_self), Or.inr ⟨dx, [(f, v)], upd_same, ?_, by show 1 ≤ 900; decide, ?_⟩⟩
      · rw [upd_ne ne, upd_same]
      · refine q dx _ hd ne ?_ upd_same fun b h1 h2 => ?_
        · rw [upd_ne (Ne.symm ne), upd_same]
        · rw [upd_ne h2, upd_ne h1, upd_ne h2]
end G
set_option Elab.async false
set_option linter.all false
set_option maxRecDepth 100000
set_option maxHeartbeats 4000000
/-! Operators that take what comes, and the steps of a reading, from the front. -/
namespace G
open PySem PySem.Spec PyProof.Rows L2
/-! ### operators by values -/
def rAddA : R2 := fun x y H Q => (∃ i j, x = .int i ∧ y = .int j ∧ Q (.int (i + j)) H) ∨ (∃ i j : Str, x = .str i ∧ y = .str j ∧ i.length + j.length ≤ sizeLine ∧ Q (.str (i ++ j)) H) ∨ rCat x y H Q
def rMulA : R2 := fun x y H Q => (∃ i j, x = .int i ∧ y = .int j ∧ CMul i j ∧ Q (.int (i * j)) H) ∨ rRep x y H Q
def rEqA (K : PySem.W.Frag) : R2 := fun x y H Q => rEq x y H Q ∨ rEqD K x y H Q
def rNeA (K : PySem.W.Frag) : R2 := fun x y H Q => rNe x y H Q ∨ rNeD K x y H Q
def rLenA (K : PySem.W.Frag) : List V → Hp → VK → Prop := fun xs H Q => ∃ x n, xs = [x] ∧ LenV K x H n ∧ Q (.int n) H
def rListA (K : PySem.W.Frag) : List V → Hp → VK → Prop := fun xs H Q => ∃ p ys, xs = [.ref p] ∧ (SqL K H p ys ∨ SqT K H p ys) ∧ ∀ l, H l = none → Q (.ref l) (upd H l (.lst ys))
def rIntA : List V → Hp → VK → Prop := fun xs H Q => (∃ i, xs = [.int i] ∧ Q (.int i) H) ∨ ∃ k, xs = [.bl k] ∧ Q (.int (if k then 1 else 0)) H
def rAbsA : List V → Hp → VK → Prop := fun xs H Q => ∃ i, xs = [.int i] ∧ Q (.int (if i < 0 then -i else i)) H
def rMin2A : List V → Hp → VK → Prop := fun xs H Q => ∃ i j, xs = [.int i, .int j] ∧ Q (.int (if j < i then j else i)) H
def rMax2A : List V → Hp → VK → Prop := fun xs H Q => ∃ i j, xs = [.int i, .int j] ∧ Q (.int (if j > i then j else i)) H
def rIsNA : R2 := fun x y H Q => y = .non ∧ Q (.bl (decide (x = .non))) H
def rNotNA : R2 := fun x y H Q => y = .non ∧ Q (.bl (!decide (x = .non))) H
abbrev rSubA : R2 := rI0 fun i j => .int (i - j)
abbrev rModA : R2 := rI (fun _ j => 0 < j) fun i j => .int (i % j)
abbrev rDivA : R2 := rI CDiv fun i j => .int (i / j)
abbrev rPowA : R2 := rI CPow fun i j => .int (i ^ j.toNat)
abbrev rLtA : R2 := rI0 fun i j => .bl (decide (i < j))
abbrev rLeA : R2 := rI0 fun i j => .bl (decide (i ≤ j))
abbrev rGtA : R2 := rI0 fun i j => .bl (decide (j < i))
abbrev rGeA : R2 := rI0 fun i j => .bl (decide (j ≤ i))
abbrev rNegA : V → Hp → VK → Prop := rU fun i => .int (-i)
section
variable {X : Cx}
theorem op_addA : OpR X (binaryOp .Add) rAddA := OpR.or op_add (OpR.or op_add_str op_cat)
theorem op_mulA : OpR X (binaryOp .Mult) rMulA := OpR.or op_mul op_rep
theorem op_eqA {k : Nat} (hr : Room k X.A) : OpR X (compareOp .Eq) (rEqA X.K) := OpR.or op_eq (op_eqD hr.units)
theorem op_neA {k : Nat} (hr : Room k X.A) : OpR X (compareOp .NotEq) (rNeA X.K) := OpR.or op_ne (op_neD hr.units)
theorem call_lenA : CallR X (.builtin "len") (rLenA X.K) := call_len
theorem call_listA : CallR X (.type "list") (rListA X.K) := call_list_of
theorem call_intA : CallR X (.type "int") rIntA := call_int1
theorem call_absA : CallR X (.builtin "abs") rAbsA := call_abs
theorem call_min2A (hc : X.calm = true) : CallR X (.builtin "min") rMin2A := call_min2 hc
theorem call_max2A (hc : X.calm = true) : CallR X (.builtin "max") rMax2A := call_max2 hc
theorem op_isNA : OpR X (compareOp .Is) rIsNA := op_isN
theorem op_notNA : OpR X (compareOp .IsNot) rNotNA := op_notN
end
/-! ### what frames a step: all that was tracked but the addresses of S -/
def Kp (S : List Addr) (H H' : Hp) : Prop := ∀ b o, b ∉ S → H b = some o → H' b = some o
theorem Kp.refl (S : List Addr) (H : Hp) : Kp S H H := fun _ _ _ h => h
theorem Kp.trans {S : List Addr} {H H1 H2 : Hp} (a : Kp S H H1) (b : Kp S H1 H2) : Kp S H H2 := fun c o n h => b c o n (a c o n h)
theorem Kp.mono {S S' : List Addr} {H H1 : Hp} (a : Kp S H H1) (h : ∀ b ∈ S, b ∈ S') : Kp S' H H1 := fun c o n e => a c o (fun z => n (h c z)) e
theorem Kp.all {S : List Addr} {H H1 : Hp} (a : Kp [] H H1) : Kp S H H1 := fun c o _ e => a c o (by simp) e
theorem Kp.new {S : List Addr} {H : Hp} {p : Addr} {o : HO} (n : H p = none) : Kp S H (upd H p o) := fun b u _ e => by
  rw [upd_ne (ne_of_none e n)]
  exact e
theorem Kp.put {S : List Addr} {H : Hp} {p : Addr} {o : HO} (h : p ∈ S) : Kp S H (upd H p o) := fun b u n e => by
  have ne : b ≠ p := fun z => n (by rw [z]; exact h)
  rw [upd_ne ne]
  exact e
/-- an object that H does not know may change -/
theorem Kp.mut {S : List Addr} {H H1 : Hp} {p : Addr} {o : HO} (e : Kp S H H1) (n : H p = none) : Kp S H (upd H1 p o) := fun b u h z => by
  rw [upd_ne (ne_of_none z n)]
  exact e b u h z
theorem Kp.at0 {H H' : Hp} {b : Addr} {o : HO} (k : Kp [] H H') (h : H b = some o) : H' b = some o := k b o (by simp) h
theorem Kp.at1 {H H' : Hp} {a b : Addr} {o : HO} (k : Kp [a] H H') (n : b ≠ a) (h : H b = some o) : H' b = some o := k b o (by simpa using n) h
theorem Kp.free {S : List Addr} {H H' : Hp} {b : Addr} (k : Kp S H H') (n : b ∉ S) (h : H' b = none) : H b = none := by
  cases e : H b with
  | none => rfl
  | some o =>
    rw [k b o n e] at h
    cases h
theorem Kp.free0 {H H' : Hp} {b : Addr} (k : Kp [] H H') (h : H' b = none) : H b = none := k.free (by simp) h
theorem Kp.sql {S : List Addr} {K : PySem.W.Frag} {H H' : Hp} {a : Addr} {xs : List V} (e : Kp S H H') (n : a ∉ S) (h : SqL K H a xs) : SqL K H' a xs := by
  rcases h with (h | ⟨o, h⟩) | h
  · exact .inl (.inl (e _ _ n h))
  · exact .inl (.inr ⟨o, e _ _ n h⟩)
  · exact .inr h
/-! ### the steps -/
section
variable {K : PySem.W.Frag} {σ : L2.St} {H : Hp} {Q : VK} {ta tb tc te : TE} {t u : TT} {x y v : V} {QB : Bool → Hp → Prop} {QA : List V → Hp → Prop} {D : Ends} {s1 s2 : TS} {tl tr : TA} {i j : Int} {n m : Nat} {p q : Addr} {xs ys : List V}
theorem w_var {k : Nat} (h : σ[k]? = some (some v)) (g : Q v H) : tVar k σ H Q := ⟨v, h, g⟩
theorem w_c (g : Q v H) : tC v σ H Q := g
theorem w_op {r : R2} (g : ta σ H fun x H1 => tb σ H1 fun y H2 => r x y H2 Q) : tOp r ta tb σ H Q := g
theorem w_un {r : V → Hp → VK → Prop} (g : ta σ H fun x H1 => r x H1 Q) : tUn r ta σ H Q := g
theorem w_test (g : te σ H fun x H1 => ∃ k, x = .bl k ∧ QB k H1) : tTest te σ H QB := g
theorem w_tb (g : te σ H fun x H1 => ∃ k, x = .bl k ∧ QB k H1) : tB te σ H QB := g
theorem w_and (g : t σ H fun c H1 => if c = true then u σ H1 QB else QB false H1) : tAnd t u σ H QB := g
theorem w_or (g : t σ H fun c H1 => if c = true then QB true H1 else u σ H1 QB) : tOr t u σ H QB := g
theorem w_not (g : t σ H fun c H1 => QB (!c) H1) : tNot t σ H QB := g
theorem w_andV (g : ta σ H fun x H1 => ∃ c, x = .bl c ∧ if c = true then tb σ H1 Q else Q (.bl false) H1) : tAndV ta tb σ H Q := g
theorem w_orV (g : ta σ H fun x H1 => ∃ c, x = .bl c ∧ if c = true then Q (.bl true) H1 else tb σ H1 Q) : tOrV ta tb σ H Q := g
theorem w_notV (g : ta σ H fun x H1 => ∃ c, x = .bl c ∧ Q (.bl (!c)) H1) : tNotV ta σ H Q := g
theorem w_ifE (g : t σ H fun c H1 => if c = true then ta σ H1 Q else tb σ H1 Q) : tIf t ta tb σ H Q := g
theorem w_chain {r r' : R2} (g : ta σ H fun x H1 => tb σ H1 fun y H2 => r x y H2 fun z H3 => ∃ k, z = .bl k ∧ (if k = true then tc σ H3 fun w' H4 => r' y w' H4 Q else Q (.bl false) H3)) : tChain r r' ta tb tc σ H Q := g
theorem w_nil (g : QA [] H) : tNil σ H QA := g
theorem w_cons (g : ta σ H fun x H1 => tr σ H1 fun xs H2 => QA (x :: xs) H2) : tCons ta tr σ H QA := g
theorem w_cb {r : List V → Hp → VK → Prop} (g : tl σ H fun vs H1 => r vs H1 Q) : tCB r tl σ H Q := g
theorem w_cl {sp : Sp} {E : L2.St → XK} (g : tl σ H fun vs H1 => sp vs H1 Q (E σ)) : tCl sp E tl σ H Q := g
theorem w_bm {T : String} {r : V → List V → Hp → VK → Prop} (g : te σ H fun x H1 => tyV K T x H1 ∧ tl σ H1 fun xs H2 => r x xs H2 Q) : tBM K T r te tl σ H Q := g
theorem w_bm0 {T : String} {r : V → List V → Hp → VK → Prop} (g : te σ H fun x H1 => tyV K T x H1 ∧ r x [] H1 Q) : tBM0 K T r te σ H Q := g
theorem w_fld {f : Str} (g : ta σ H fun x H1 => ∃ a C dx fs v, x = .ref a ∧ H1 a = some (.ins C dx fs) ∧ Cls K C ∧ NoAttr K C f ∧ fs.lookup f = some v ∧ Q v H1) : tFld K ta f σ H Q := g
theorem w_mt {C : Addr} {m : Str} {sp : Sp} {E : L2.St → XK} (g : ta σ H fun x H1 => ∃ a dx fs, x = .ref a ∧ H1 a = some (.ins C dx fs) ∧ fs.lookup m = none ∧ tl σ H1 fun vs H2 => sp (x :: vs) H2 Q (E σ)) : tMt C m sp E ta tl σ H Q := g
theorem w_seq (g : s1 { D with nx := s2 D } σ H) : tSeq s1 s2 D σ H := g
theorem w_next (g : D.nx σ H) : tNext D σ H := g
theorem w_if (g : t σ H fun b H1 => if b = true then s1 D σ H1 else s2 D σ H1) : tIfS t s1 s2 D σ H := g
theorem w_ret (g : te σ H D.rt) : tRet te D σ H := g
theorem w_drop (g : te σ H fun _ H1 => D.nx σ H1) : tDrop te D σ H := g
theorem w_asg {k : Nat} (g : te σ H fun x H1 => D.nx (σ.set k (some x)) H1) : tAsg te (gName k) D σ H := g
theorem w_asgS {to ti : TE} {r : TSet} (g : te σ H fun v H0 => to σ H0 fun o H1 => ti σ H1 fun i H2 => r o i v H2 fun H3 => D.nx σ H3) : tAsg te (gSub to ti r) D σ H := g
theorem w_asf {f : Str} (g : te σ H fun y H1 => ta σ H1 fun x H2 => ∃ a C dx fs, x = .ref a ∧ H2 a = some (.ins C dx fs) ∧ Cls K C ∧ NoAttr K C f ∧ fs.length < 1000 ∧ D.nx σ (upd H2 a (.ins C dx (putF f y fs)))) : sFld K ta te f D σ H := g
theorem w_ex1 {P : Bool → Prop} {b : Bool} (g : P b) : ∃ k, V.bl b = .bl k ∧ P k := ⟨b, rfl, g⟩
theorem w_iteD {c A B : Prop} [Decidable c] (h1 : c → A) (h2 : ¬ c → B) : if decide c = true then A else B := by
  by_cases h : c
  · rw [decide_eq_true h]
    exact iteT (h1 h)
  · rw [decide_eq_false h]
    exact iteF (h2 h)
theorem w_iteN {c A B : Prop} [Decidable c] (h1 : ¬ c → A) (h2 : c → B) : if (!decide c) = true then A else B := by
  by_cases h : c
  · rw [decide_eq_true h]
    exact iteF (h2 h)
  · rw [decide_eq_false h]
    exact iteT (h1 h)
theorem w_iteB {b : Bool} {A B : Prop} (h1 : b = true → A) (h2 : b = false → B) : if b = true then A else B := by
  cases b with
  | true => exact iteT (h1 rfl)
  | false => exact iteF (h2 rfl)
theorem w_iteBN {b : Bool} {A B : Prop} (h1 : b = false → A) (h2 : b = true → B) : if (!b) = true then A else B := by
  cases b with
  | true => exact iteF (h2 rfl)
  | false => exact iteT (h1 rfl)
theorem w_addI (g : Q (.int (i + j)) H) : rAddA (.int i) (.int j) H Q := .inl ⟨i, j, rfl, rfl, g⟩
theorem w_addS {a b : Str} (h : a.length + b.length ≤ sizeLine) (g : Q (.str (a ++ b)) H) : rAddA (.str a) (.str b) H Q := .inr (.inl ⟨a, b, rfl, rfl, h, g⟩)
theorem w_addL (h1 : H p = some (.lst xs)) (h2 : H q = some (.lst ys)) (h : xs.length + ys.length ≤ sizeLine) (g : ∀ r, H r = none → Q (.ref r) (upd H r (.lst (xs ++ ys)))) : rAddA (.ref p) (.ref q) H Q :=
  .inr (.inr ⟨p, q, xs, ys, rfl, rfl, h1, h2, h, g⟩)
theorem w_mulI (h : CMul i j) (g : Q (.int (i * j)) H) : rMulA (.int i) (.int j) H Q := .inl ⟨i, j, rfl, rfl, h, g⟩
theorem w_mulL (h1 : H p = some (.lst xs)) (h2 : -(2 ^ 63) ≤ j) (h3 : j < 2 ^ 63) (h : xs.length * j.toNat ≤ sizeLine) (g : ∀ r, H r = none → Q (.ref r) (upd H r (.lst (List.replicate j.toNat xs).flatten))) : rMulA (.ref p) (.int j) H Q :=
  .inr ⟨p, j, xs, rfl, rfl, h1, h2, h3, h, g⟩
theorem w_i0 {f : Int → Int → V} (g : Q (f i j) H) : rI0 f (.int i) (.int j) H Q := ⟨i, j, rfl, rfl, g⟩
theorem w_ic {C : Int → Int → Prop} {f : Int → Int → V} (h : C i j) (g : Q (f i j) H) : rI C f (.int i) (.int j) H Q := ⟨i, j, rfl, rfl, h, g⟩
theorem w_u1 {f : Int → V} (g : Q (f i) H) : rU f (.int i) H Q := ⟨i, rfl, g⟩
theorem dec_I : decide (V.int i = V.int j) = decide (i = j) := by
  rw [Bool.eq_iff_iff]
  simp
theorem dec_S {a b : Str} : decide (V.str a = V.str b) = decide (a = b) := by
  rw [Bool.eq_iff_iff]
  simp
theorem dec_B {a b : Bool} : decide (V.bl a = V.bl b) = decide (a = b) := by
  rw [Bool.eq_iff_iff]
  simp
theorem w_eqI (g : Q (.bl (decide (i = j))) H) : rEqA K (.int i) (.int j) H Q := .inl ⟨rfl, by rw [dec_I]; exact g⟩
theorem w_eqS {a b : Str} (g : Q (.bl (decide (a = b))) H) : rEqA K (.str a) (.str b) H Q := .inl ⟨rfl, by rw [dec_S]; exact g⟩
theorem w_eqB {a b : Bool} (g : Q (.bl (decide (a = b))) H) : rEqA K (.bl a) (.bl b) H Q := .inl ⟨rfl, by rw [dec_B]; exact g⟩
theorem w_neI (g : Q (.bl (!decide (i = j))) H) : rNeA K (.int i) (.int j) H Q := .inl ⟨rfl, by rw [dec_I]; exact g⟩
theorem w_neS {a b : Str} (g : Q (.bl (!decide (a = b))) H) : rNeA K (.str a) (.str b) H Q := .inl ⟨rfl, by rw [dec_S]; exact g⟩
theorem w_neB {a b : Bool} (g : Q (.bl (!decide (a = b))) H) : rNeA K (.bl a) (.bl b) H Q := .inl ⟨rfl, by rw [dec_B]; exact g⟩
theorem w_eqD {d e : PyData} (h1 : Dp K H x d) (h2 : Dp K H y e) (h3 : SeqAt.shaped d = true) (h4 : SeqAt.shaped e = true) (g : Q (.bl (PyData.eqv d e)) H) : rEqA K x y H Q := .inr ⟨d, e, h1, h2, h3, h4, g⟩
theorem w_neD {d e : PyData} (h1 : Dp K H x d) (h2 : Dp K H y e) (h3 : SeqAt.shaped d = true) (h4 : SeqAt.shaped e = true) (g : Q (.bl (!PyData.eqv d e)) H) : rNeA K x y H Q := .inr ⟨d, e, h1, h2, h3, h4, g⟩
theorem w_isN0 (g : Q (.bl true) H) : rIsNA .non .non H Q := ⟨rfl, g⟩
theorem w_isN1 (h : x ≠ .non) (g : Q (.bl false) H) : rIsNA x .non H Q := ⟨rfl, by rw [decide_eq_false h]; exact g⟩
theorem w_notN0 (g : Q (.bl false) H) : rNotNA .non .non H Q := ⟨rfl, g⟩
theorem w_notN1 (h : x ≠ .non) (g : Q (.bl true) H) : rNotNA x .non H Q := ⟨rfl, by rw [decide_eq_false h]; exact g⟩
theorem w_lenL (h : SqL K H p xs) (g : Q (.int (xs.length : Int)) H) : rLenA K [.ref p] H Q := ⟨_, _, rfl, .inl ⟨xs, h, rfl⟩, g⟩
theorem w_listL (h : SqL K H p xs) (g : ∀ l, H l = none → Q (.ref l) (upd H l (.lst xs))) : rListA K [.ref p] H Q := ⟨p, xs, rfl, .inl h, g⟩
theorem w_intI (g : Q (.int i) H) : rIntA [.int i] H Q := .inl ⟨i, rfl, g⟩
theorem w_abs (g : Q (.int (if i < 0 then -i else i)) H) : rAbsA [.int i] H Q := ⟨i, rfl, g⟩
theorem w_min2 (g : Q (.int (if j < i then j else i)) H) : rMin2A [.int i, .int j] H Q := ⟨i, j, rfl, g⟩
theorem w_max2 (g : Q (.int (if j > i then j else i)) H) : rMax2A [.int i, .int j] H Q := ⟨i, j, rfl, g⟩
theorem w_ixL (h : SqL K H p xs) (ha : atI xs i = some v) (g : Q v H) : rIx K (.ref p) (.int i) H Q := .inl ⟨p, xs, i, v, rfl, rfl, h, ha, g⟩
theorem w_ixT (h : SqT K H p xs) (ha : atI xs i = some v) (g : Q v H) : rIx K (.ref p) (.int i) H Q := .inr (.inl ⟨p, xs, i, v, rfl, rfl, h, ha, g⟩)
theorem w_setL {R : Hp → Prop} (h : H p = some (.lst xs)) (ha : ixN xs.length i = some n) (g : R (upd H p (.lst (xs.set n v)))) : rSetL (.ref p) (.int i) v H R := ⟨p, xs, i, n, rfl, rfl, h, ha, g⟩
theorem w_ty (h : SqL K H p xs) : tyV K "list" (.ref p) H := .inl ⟨rfl, xs, h⟩
theorem w_append (h : H p = some (.lst xs)) (hl : xs.length < sizeLine) (g : Q .non (upd H p (.lst (xs ++ [v])))) : rAppend (.ref p) [v] H Q := ⟨p, xs, v, rfl, rfl, h, hl, g⟩
end
end G
set_option Elab.async false
set_option linter.all false
set_option maxRecDepth 100000
set_option maxHeartbeats 4000000
/-! Loops, comprehensions by words; the head's own facts. -/
namespace G
open PySem PySem.Spec PyProof.Rows L2
/-! ### what a loop wants of its walk J -/
def LoopG (J : It) (g : TG) (tb : TS) (D : Ends) (σ : L2.St) (H1 : Hp) : Prop := ∃ W : Nat → Nat → L2.St → Hp → Prop, (∃ m, W 0 m σ H1) ∧ ∀ i m σ H, W i m σ H →
  (J.stop i H ∧ D.nx σ H) ∨ (J.go i H ∧ ∃ N : L2.St → Hp → Prop, (∀ σ' H', N σ' H' → ∃ m', m' < m ∧ W (i + 1) m' σ' H') ∧ ∀ x H', J.yld i H x H' → g x σ H' fun σ2 H2 => tb { D with nx := N, ct := N, bk := D.nx } σ2 H2)
def CompG (J : It) (g : TG) (tt : TT) (te : TE) (vs : List Nat) (σ : L2.St) (Q : VK) (H1 : Hp) : Prop := ∀ D, H1 D = none → ∃ W : Nat → Nat → Hp → Prop, (∃ m, W 0 m (upd H1 D (.lst []))) ∧ ∀ i m H, W i m H →
  (J.stop i H ∧ Q (.ref D) H) ∨ (J.go i H ∧ ∃ Nx : Hp → Prop, (∀ H', Nx H' → ∃ m', m' < m ∧ W (i + 1) m' H') ∧ ∀ x H', J.yld i H x H' → g x (wipe σ vs) H' fun σ2 H2 => wipe σ2 vs = wipe σ vs ∧ tt σ2 H2 fun b H3 =>
    if b = true then te σ2 H3 fun y H4 => ∃ acc, H4 D = some (.lst acc) ∧ acc.length < sizeLine ∧ Nx (upd H4 D (.lst (acc ++ [y]))) else Nx H3)
section
variable {K : PySem.W.Frag} {σ : L2.St} {H : Hp} {Q : VK} {ta : TA} {te tl : TE} {tt : TT} {D : Ends} {tb : TS} {g : TG} {wi : TI} {j : Nat} {R : It → Hp → Prop} {vs : List Nat}
theorem w_for (h : wi σ H fun J H1 => LoopG J g tb D σ H1) : tFor wi g tb D σ H := h
theorem w_lc (h : wi σ H fun J H1 => CompG J g tt te vs σ Q H1) : tLc wi g tt te vs σ H Q := h
theorem w_iR1 (h : ta σ H fun vs H1 => ∃ j : Int, vs = [.int j] ∧ -(2 ^ 62) ≤ j ∧ j < 2 ^ 62 ∧ R (Itr 0 j.toNat) H1) : iRng1 ta σ H R := h
theorem w_iR2 (h : ta σ H fun vs H1 => ∃ i j : Int, vs = [.int i, .int j] ∧ (-(2 ^ 62) ≤ i ∧ i < 2 ^ 62 ∧ -(2 ^ 62) ≤ j ∧ j < 2 ^ 62) ∧ R (Itr i (j - i).toNat) H1) : iRng2 ta σ H R := h
theorem w_iL (h : tl σ H fun x H1 => ∃ a, x = .ref a ∧ (∃ xs, SqL K H1 a xs) ∧ R (Itl K a) H1) : iList K tl σ H R := h
theorem w_iT (h : tl σ H fun x H1 => ∃ a, x = .ref a ∧ (∃ xs, SqT K H1 a xs) ∧ R (Itt K a) H1) : iTup K tl σ H R := h
theorem w_iE (h : ta σ H fun vs H1 => ∃ a xs, vs = [.ref a] ∧ SqL K H1 a xs ∧ R (Ite K a) H1) : iEnum K ta σ H R := h
theorem w_iZ (h : ta σ H fun vs H1 => ∃ a b xs ys, vs = [.ref a, .ref b] ∧ SqL K H1 a xs ∧ SqL K H1 b ys ∧ R (Itz K a b) H1) : iZip K ta σ H R := h
/-! ### loops -/
theorem lp_rng {lo : Int} {n : Nat} (Pv : Nat → L2.St → Hp → Prop) (h0 : Pv 0 σ H) (hs : ∀ (i : Nat) σ' H', i < n → Pv i σ' H' → g (.int (lo + (i : Int))) σ' H' fun σ2 H2 => tb { D with nx := Pv (i + 1), ct := Pv (i + 1), bk := D.nx } σ2 H2)
    (hd : ∀ σ' H', Pv n σ' H' → D.nx σ' H') : LoopG (Itr lo n) g tb D σ H := for_range Pv h0 hs hd
theorem lp_rng0 {n : Nat} (Pv : Nat → L2.St → Hp → Prop) (h0 : Pv 0 σ H) (hs : ∀ (i : Nat) σ' H', i < n → Pv i σ' H' → g (.int (i : Int)) σ' H' fun σ2 H2 => tb { D with nx := Pv (i + 1), ct := Pv (i + 1), bk := D.nx } σ2 H2)
    (hd : ∀ σ' H', Pv n σ' H' → D.nx σ' H') : LoopG (Itr 0 n) g tb D σ H := for_range Pv h0 (fun i σ' H' hi p => by rw [Int.zero_add]; exact hs i σ' H' hi p) hd
theorem lp_lst {a : Addr} {xs : List V} (Pv : Nat → L2.St → Hp → Prop) (h0 : Pv 0 σ H) (hl : ∀ i σ' H', i ≤ xs.length → Pv i σ' H' → SqL K H' a xs)
    (hs : ∀ i x σ' H', xs[i]? = some x → Pv i σ' H' → g x σ' H' fun σ2 H2 => tb { D with nx := Pv (i + 1), ct := Pv (i + 1), bk := D.nx } σ2 H2) (hd : ∀ σ' H', Pv xs.length σ' H' → D.nx σ' H') : LoopG (Itl K a) g tb D σ H := for_list Pv h0 hl hs hd
theorem lp_enum {a : Addr} {xs : List V} (Pv : Nat → L2.St → Hp → Prop) (h0 : Pv 0 σ H) (hl : ∀ i σ' H', i ≤ xs.length → Pv i σ' H' → SqL K H' a xs)
    (hs : ∀ (i : Nat) (x : V) (T : Addr) σ' H', xs[i]? = some x → Pv i σ' H' → H' T = none → g (.ref T) σ' (upd H' T (.tup [.int (i : Int), x])) fun σ2 H2 => tb { D with nx := Pv (i + 1), ct := Pv (i + 1), bk := D.nx } σ2 H2)
    (hd : ∀ σ' H', Pv xs.length σ' H' → D.nx σ' H') : LoopG (Ite K a) g tb D σ H := by
  refine ⟨fun i m σ H => m = xs.length - i ∧ i ≤ xs.length ∧ Pv i σ H, ⟨xs.length, by simp, Nat.zero_le _, h0⟩, ?_⟩
  rintro i m σ H ⟨rfl, hi, p⟩
  have q := hl i σ H hi p
  by_cases lt : i < xs.length
  · refine .inr ⟨⟨xs, xs[i], q, by simp [lt]⟩, Pv (i + 1), fun σ' H' p' => ⟨xs.length - (i + 1), by omega, rfl, lt, p'⟩, fun v H' y => ?_⟩
    obtain ⟨T, x, rfl, nT, rfl, hx⟩ := y
    exact hs i x T σ H (hx xs q) p nT
  · have e : i = xs.length := by omega
    subst e
    exact .inl ⟨⟨xs, q, Nat.le_refl _⟩, hd σ H p⟩
/-! ### comprehensions: items i is what stands behind i turns -/
theorem cp_go {J : It} {n : Nat} (items : Nat → List V) (Ok : Hp → Prop) (hz : ∀ i, i < n → (items i).length < sizeLine) (h0 : items 0 = []) (ok0 : ∀ H', Kp [] H H' → Ok H') (hgo : ∀ i H', i < n → Ok H' → J.go i H') (hst : ∀ H', Ok H' → J.stop n H')
    (hs : ∀ (i : Nat) (x : V) (H' H'' : Hp) (S : V → Hp → Prop) (N : Hp → Prop), i < n → Kp [] H H' → J.yld i H' x H'' → (∀ y H4, Kp [] H' H4 → items (i + 1) = items i ++ [y] → S y H4) → (∀ H4, Kp [] H' H4 → items (i + 1) = items i → N H4) →
      g x (wipe σ vs) H'' fun σ2 H2 => wipe σ2 vs = wipe σ vs ∧ tt σ2 H2 fun b H3 => if b = true then te σ2 H3 S else N H3)
    (hd : ∀ D H', H D = none → Kp [] H H' → H' D = some (.lst (items n)) → Q (.ref D) H') : CompG J g tt te vs σ Q H := by
  intro D nD
  refine ⟨fun i m H' => m = n - i ∧ i ≤ n ∧ Kp [] H H' ∧ H' D = some (.lst (items i)), ⟨n, by simp, Nat.zero_le _, Kp.new nD, by rw [h0]; exact upd_same⟩, ?_⟩
  rintro i m H' ⟨rfl, hi, k, e⟩
  by_cases lt : i < n
  · refine .inr ⟨hgo i H' lt (ok0 H' k), fun H'' => Kp [] H H'' ∧ H'' D = some (.lst (items (i + 1))), fun H'' p => ⟨n - (i + 1), by omega, rfl, lt, p.1, p.2⟩, fun x H'' y => ?_⟩
    refine hs i x H' H'' _ _ lt k y (fun y H4 k4 ei => ⟨items i, k4.at0 e, hz i lt, ?_, ?_⟩) (fun H4 k4 ei => ⟨k.trans k4, ?_⟩)
    · exact Kp.mut (k.trans k4) nD
    · rw [ei]
      exact upd_same
    · rw [ei]
      exact k4.at0 e
  · have ei : i = n := by omega
    subst ei
    exact .inl ⟨hst H' (ok0 H' k), hd D H' nD k e⟩
theorem cp_rng {lo : Int} {n : Nat} (items : Nat → List V) (hz : ∀ i, i < n → (items i).length < sizeLine) (h0 : items 0 = [])
    (hs : ∀ (i : Nat) (H' : Hp) (S : V → Hp → Prop) (N : Hp → Prop), i < n → Kp [] H H' → (∀ y H4, Kp [] H' H4 → items (i + 1) = items i ++ [y] → S y H4) → (∀ H4, Kp [] H' H4 → items (i + 1) = items i → N H4) →
      g (.int (lo + (i : Int))) (wipe σ vs) H' fun σ2 H2 => wipe σ2 vs = wipe σ vs ∧ tt σ2 H2 fun b H3 => if b = true then te σ2 H3 S else N H3)
    (hd : ∀ D H', H D = none → Kp [] H H' → H' D = some (.lst (items n)) → Q (.ref D) H') : CompG (Itr lo n) g tt te vs σ Q H :=
  cp_go items (fun _ => True) hz h0 (fun _ _ => trivial) (fun i H' hi _ => hi) (fun H' _ => Nat.le_refl n) (fun i x H' H'' S N hi k y a b => by
    obtain ⟨rfl, rfl⟩ := y
    exact hs i H'' S N hi k a b) hd
theorem cp_lst {a : Addr} {xs : List V} (h : SqL K H a xs) (items : Nat → List V) (hz : ∀ i, i < xs.length → (items i).length < sizeLine) (h0 : items 0 = [])
    (hs : ∀ (i : Nat) (x : V) (H' : Hp) (S : V → Hp → Prop) (N : Hp → Prop), xs[i]? = some x → Kp [] H H' → (∀ y H4, Kp [] H' H4 → items (i + 1) = items i ++ [y] → S y H4) → (∀ H4, Kp [] H' H4 → items (i + 1) = items i → N H4) →
      g x (wipe σ vs) H' fun σ2 H2 => wipe σ2 vs = wipe σ vs ∧ tt σ2 H2 fun b H3 => if b = true then te σ2 H3 S else N H3)
    (hd : ∀ D H', H D = none → Kp [] H H' → H' D = some (.lst (items xs.length)) → Q (.ref D) H') : CompG (Itl K a) g tt te vs σ Q H :=
  cp_go (n := xs.length) items (fun H' => SqL K H' a xs) hz h0 (fun _ k => k.sql (by simp) h) (fun i H' hi q => ⟨xs, xs[i], q, by simp [hi]⟩) (fun H' q => ⟨xs, q, Nat.le_refl _⟩) (fun i x H' H'' S N hi k y a b => by
    obtain ⟨rfl, hx⟩ := y
    exact hs i x H'' S N (hx xs (k.sql (by simp) h)) k a b) hd
end
/-! ### the head's facts: any tests of the written part -/
abbrev Chk := PySem.W.Frag → Bool
def obsX (fa : List Chk) (fn : List He.DefD) (K : PySem.W.Frag) : He.AlD := ((fa.all fun f => f K) && fn.all fun d => d.ok K, fn.map fun d => He.fnW K d.at_)
def SaysX (fa : List Chk) (fn : List He.DefD) (K : PySem.W.Frag) : Prop := obsX fa fn K = He.valD fn
section
variable {fa : List Chk} {fn : List He.DefD} {K : PySem.W.Frag}
theorem SaysX.fact (c : SaysX fa fn K) (i : Nat) {f : Chk} (h : fa[i]? = some f := by rfl) : f K = true := by
  have c1 := (He.ba (show ((fa.all fun f => f K) && fn.all fun d => d.ok K) = true from congrArg (fun z : He.AlD => z.1) c)).1
  exact List.all_eq_true.mp c1 f (List.mem_of_getElem? h)
theorem SaysX.def_ (c : SaysX fa fn K) (i : Nat) {d : He.DefD} (h : fn[i]? = some d := by rfl) : ∃ fd, FunD K d.name d.qual d.params d.body d.scope (d.dvs K) (d.kws K) (He.fAd K d.at_) fd := by
  have c2 := (He.ba (show ((fa.all fun f => f K) && fn.all fun d => d.ok K) = true from congrArg (fun z : He.AlD => z.1) c)).2
  have e : fn.map (fun d => He.fnW K d.at_) = fn.map He.DefD.val := congrArg (fun z : He.AlD => z.2) c
  have e2 : (fn.map fun d => He.fnW K d.at_)[i]? = (fn.map He.DefD.val)[i]? := by rw [e]
  rw [List.getElem?_map, List.getElem?_map, h] at e2
  exact He.DefD.funD (Option.some.inj e2) (List.all_eq_true.mp c2 d (List.mem_of_getElem? h))
/-- a plain fact of He -/
abbrev fa_ (f : He.Fa) : Chk := fun K => f.ok K
/-- a class of errors, as it is made -/
def oexB (C : Addr) (K : PySem.W.Frag) : Bool := match K.lookup C with
  | some ⟨.type "type", _, .cls cd, sl⟩ => (match cd.mro, sl.toList with
    | .ref C1 :: bm, [_, _, _, _, some (.builtin n), _] => C1 == C && n == "ValueError.__new__" && !cd.hasDel && cd.hasDict && PySem.HandSPX.refsVE bm
    | _, _ => false)
  | _ => false
theorem oexB_ok {C : Addr} (q : oexB C K = true) : ∃ nm qn N bs bm sn sub ab col dd k0 k1 k2 k3 k5, K.lookup C = some (excClassObj nm qn C N bs bm true sn sub ab col dd k0 k1 k2 k3 k5 "ValueError.__new__") ∧ PySem.HandSPX.refsVE bm = true := by
  unfold oexB at q
  split at q
  · rename_i dd cd sl ho
    split at q
    · rename_i C1 bm k0 k1 k2 k3 n k5 hm hs
      simp only [Bool.and_eq_true, beq_iff_eq, Bool.not_eq_true'] at q
      obtain ⟨⟨⟨⟨rfl, rfl⟩, del⟩, hd⟩, hr⟩ := q
      obtain ⟨nm, bs, mro, ns, qn, hdd, sn, sub, ab, col, dl⟩ := cd
      dsimp only at hm del hd
      subst hm del hd
      have es : sl = #[k0, k1, k2, k3, some (.builtin "ValueError.__new__"), k5] := by
        obtain ⟨l⟩ := sl
        exact congrArg Array.mk hs
      subst es
      exact ⟨nm, qn, ns, bs, bm, sn, sub, ab, col, dd, k0, k1, k2, k3, k5, ho, hr⟩
    · cases q
  · cases q
def eqT (a b : Option Bool) : Bool := decide (a = b)
/-- all that an own class of errors C with the fields fs is asked -/
def excB (x : Str) (fs : List Str) (K : PySem.W.Frag) : Bool := oexB (He.ga K x) K && (He.eqO (PySem.W.findIn K (.ref (He.ga K x)) "__setattr__") (some (some (.builtin "object.__setattr__"))) &&
  (eqT (PySem.W.subIn K (.ref (He.ga K x)) (.type "BaseException")) (some true) && (decide (PySem.W.typeIn K (.ref (He.ga K x)) = some (.type "type")) && (PySem.W.keepIn K (.ref (He.ga K x)) &&
  (fs.all fun f => He.eqO (PySem.W.findIn K (.ref (He.ga K x)) f) (some none))))))
/-- .. and its instances are asked -/
def askB (x : Str) (K : PySem.W.Frag) : Bool := (PySem.W.clsIn K (He.ga K x)).isSome && (He.eqO (PySem.W.findIn K (.ref (He.ga K x)) "__getattribute__") (some (some (.builtin "BaseException.__getattribute__"))) &&
  (He.eqO (PySem.W.findIn K (.ref (He.ga K x)) "__getattr__") (some none) && (eqT (PySem.W.subIn K (.ref (He.ga K x)) (.type "BaseException")) (some true) && (PySem.W.hasDictIn K (He.ga K x) &&
  (He.eqO (PySem.W.findIn K (.ref (He.ga K x)) "__class__") (some (some (.builtin "object.__class__"))) && (He.eqO (PySem.W.specialIn K (.builtin "object.__class__") "__get__") (some (some (.builtin "getset_descriptor.__get__"))) &&
  (eqT (PySem.W.takesIn K (.builtin "object.__class__")) (some true) && eqT (PySem.W.mroIn K (He.ga K x) (.type "object")) (some true))))))))
theorem excB_ok {x : Str} {fs : List Str} (q : excB x fs K = true) : OexC K (He.ga K x) ∧ ∀ f ∈ fs, PySem.W.findIn K (.ref (He.ga K x)) f = some none := by
  obtain ⟨q1, q⟩ := He.ba q
  obtain ⟨q2, q⟩ := He.ba q
  obtain ⟨q3, q⟩ := He.ba q
  obtain ⟨q4, q⟩ := He.ba q
  obtain ⟨q5, q6⟩ := He.ba q
  exact ⟨⟨oexB_ok q1, He.eqO_ok q2, of_decide_eq_true q3, of_decide_eq_true q4, q5⟩, fun f hf => He.eqO_ok (List.all_eq_true.mp q6 f hf)⟩
theorem askB_ok {x : Str} (q : askB x K = true) : ExK K (He.ga K x) := by
  obtain ⟨q1, q⟩ := He.ba q
  obtain ⟨q2, q⟩ := He.ba q
  obtain ⟨q3, q⟩ := He.ba q
  obtain ⟨q4, q⟩ := He.ba q
  obtain ⟨q5, q⟩ := He.ba q
  obtain ⟨q6, q⟩ := He.ba q
  obtain ⟨q7, q⟩ := He.ba q
  obtain ⟨q8, q9⟩ := He.ba q
  exact ⟨q1, He.eqO_ok q2, He.eqO_ok q3, of_decide_eq_true q4, q5, He.eqO_ok q6, He.eqO_ok q7, of_decide_eq_true q8, of_decide_eq_true q9⟩
/-- isinstance of an instance of x by the class y, by a built-in one -/
def kitB2 (x y : Str) (b : Bool) (K : PySem.W.Frag) : Bool := eqT (PySem.W.kitOne K (.ref (He.ga K x)) (.ref (He.ga K y))) (some b)
def kitT2 (x : Str) (y : String) (b : Bool) (K : PySem.W.Frag) : Bool := eqT (PySem.W.kitOne K (.ref (He.ga K x)) (.type y)) (some b)
/-- except y takes an x -/
def exmB (x y : Str) (b : Bool) (K : PySem.W.Frag) : Bool := eqT (PySem.W.exmOne K (.ref (He.ga K x)) (.ref (He.ga K y))) (some b)
/-- the __init__ that is found, a function -/
def iniB (x : Str) (K : PySem.W.Frag) : Bool := He.eqO (PySem.W.findIn K (.ref (He.ga K x)) "__init__") (some (some (.ref (He.ma K (He.ga K x) "__init__")))) && decide (PySem.W.typeIn K (.ref (He.ma K (He.ga K x) "__init__")) = some (.type "function"))
theorem iniB_ok {x : Str} (q : iniB x K = true) : PySem.W.findIn K (.ref (He.ga K x)) "__init__" = some (some (.ref (He.ma K (He.ga K x) "__init__"))) ∧ PySem.W.typeIn K (.ref (He.ma K (He.ga K x) "__init__")) = some (.type "function") := by
  obtain ⟨q1, q2⟩ := He.ba q
  exact ⟨He.eqO_ok q1, of_decide_eq_true q2⟩
end
end G
set_option Elab.async false
set_option linter.all false
set_option maxRecDepth 100000
set_option maxHeartbeats 4000000
/-! Constants of a class; truth; two things more. -/
namespace G
open PySem PySem.Spec PyProof.Rows L2
section
variable {X : Cx} {C : Addr} {mc u : Value} {v : V} {e : Expr} {f : Str} {pos : Pos} {ta : TE}
theorem pe_cc (k : ∃ mc u, ClX.CRead X.K C mc ∧ ClX.CVal X.K C mc f v u) (he : PE X e (tC (.ref C))) (hb : attributeBase e f X.env (eval e X.env) = eval e X.env := by rfl) : PE X (.Attribute e f pos) (tC v) := by
  obtain ⟨mc, u, r, k⟩ := k
  exact ⟨fun pins s σ H Q I h => (ClX.pe_cval he hb).run pins s σ H Q I ⟨C, mc, v, u, rfl, r, k, h⟩⟩
def tTr (K : PySem.W.Frag) (ta : TE) : TT := fun σ H Q => ta σ H fun x H' => ∃ k, TruV K x H' k ∧ Q k H'
theorem pt_tr (ha : PE X e ta) (he : ∀ whole, isTrue e X.env whole = (do let v ← whole; standAt e.pos; holding [v] (truthy v))) : PT X e (tTr X.K ta) := pt_truth ha he
end
/-- x.f is the whole number i -/
def ccB (x f : Str) (i : Int) (K : PySem.W.Frag) : Bool := PySem.W.readsIn K (He.ga K x) (.type "type") && (He.eqO (PySem.W.specialIn K (.ref (He.ga K x)) "__getattribute__") (some (some (.builtin "type.__getattribute__"))) &&
  (match PySem.W.findCls K (.ref (He.ga K x)) (.type "type") f with
  | some (.val (.int j _)) => decide (j = i)
  | _ => false))
theorem ccB_ok {K : PySem.W.Frag} {x f : Str} {i : Int} (q : ccB x f i K = true) : ∃ mc u, ClX.CRead K (He.ga K x) mc ∧ ClX.CVal K (He.ga K x) mc f (.int i) u := by
  obtain ⟨q1, q⟩ := He.ba q
  obtain ⟨q2, q3⟩ := He.ba q
  have q4 : (match PySem.W.findCls K (.ref (He.ga K x)) (.type "type") f with
    | some (.val (.int j _)) => decide (j = i)
    | _ => false) = true := q3
  split at q4
  · rename_i j t e
    have ej : j = i := of_decide_eq_true q4
    subst ej
    exact ⟨.type "type", .int j t, ⟨q1, He.eqO_ok q2⟩, ⟨e, t, rfl⟩⟩
  · cases q4
end G
namespace G
open PySem PySem.Spec PyProof.Rows L2
/-- a built-in class as a value -/
theorem pe_ty {X : Cx} {x : Str} (n : String) {pos : Pos} (hm : X.mg x = none) (hv : bootBuiltins x = some (.type n)) (hg : Gl X x := by rfl) (hn : x ≠ "__name__" := by decide) (hd : (x == ("__debug__" : Str)) = false := by decide) : PE X (.Name x pos) (tC (.ty n)) :=
  pe_bltn hg hm hv rfl hn hd
/-- an own class as a value -/
theorem pe_own {X : Cx} {x : Str} {C : Addr} {pos : Pos} (hm : X.mg x = some (.ref C)) (hg : Gl X x := by rfl) (hd : (x == ("__debug__" : Str)) = false := by decide) : PE X (.Name x pos) (tC (.ref C)) := pe_glob hg hm rfl hd
end G
namespace G
open PySem PySem.Spec PyProof.Rows L2
/-- a def of the text where an exception is handled -/
theorem okH {P : Program} {w : World} {K : PySem.W.Frag} {mg : Str → Option Value} {base : Heap} {CX : CXT} {x qual : Str} {params : Arguments} {body : List Stmt} {scope : Scope} {dvs : List V} {kws : List (Str × V)} {f : Addr} {fd : FuncData} {N ps : List Str} {k : Nat} {sp : Sp}
    (F : FunD K x qual params body scope dvs kws f fd) (S : FnScope N ps scope) (len : ∀ vs H Q E, sp vs H Q E → vs.length = ps.length)
    (hb : ∀ (cdv : Value) (A : Around) (outer : List Env) (s : Shared) (H : Hp) (vs : List V) (Q : VK) (E : XK) (p : Addr × Obj), L2H.Hot1 A p → L2H.RoomH k (A.deeper (envOfC qual scope s.heap.objs.size f cdv)) → sp vs H Q E →
      ∃ t, PSs (L2H.cxH CX P w K mg base N qual scope f cdv A outer s H E p) body t ∧ t { nx := fun _ H' => Q .non H', rt := Q } (start N vs) H) : L2H.FnH P w K mg base CX (k + 1) f fd ps sp := by
  obtain ⟨oc, od, dV, kV, doc, pm, an, cdv, ct, osl, rfl, lk, hcd, _, _⟩ := F.ex
  exact L2H.fn_ofH lk hcd S len fun A outer s H vs Q E p h1 h2 h3 => hb cdv A outer s H vs Q E p h1 h2 h3
/-- a def called there -/
theorem hotC {CX : CXT} {P : Program} {w : World} {K : PySem.W.Frag} {mg : Str → Option Value} {base : Heap} {N : List Str} {qual : Str} {scope : Scope} {f : Addr} {cd : Value} {A : Around} {outer : List Env} {s : Shared} {H : Hp} {E : XK} {p : Addr × Obj} (h : L2H.Hot1 A p) :
    L2H.HotC (L2H.cxH CX P w K mg base N qual scope f cd A outer s H E p) := ⟨p, h, List.mem_cons_self⟩
end G
namespace G
open PySem PySem.Spec PyProof.Rows L2
/-- what lets nothing out -/
theorem noX {P : Program} {w : World} {K : PySem.W.Frag} {mg : Str → Option Value} {base : Heap} {k : Nat} {f : Addr} {fd : FuncData} {ps : List Str} {sp : Sp} (F : FnOk P w K mg base (L2N.CX P w) k f fd ps sp) :
    FnOk P w K mg base L2.CX0 k f fd ps (fun vs H Q _ => sp vs H Q L2.E0) := by
  refine ⟨fun vs H Q E h => F.len vs H Q _ h, fun A outer s H args us vs Q E hr e0 hb r h => codeAny_mono (F.run A outer s H args us vs Q _ hr e0 hb r h) fun rs s2 q => ?_⟩
  cases rs with
  | error e =>
    obtain ⟨_, _, _, _, _, _, _, _, _, _, _, _, z⟩ := q
    exact z.elim
  | ok fl => cases fl <;> exact q
end G
set_option Elab.async false
set_option linter.all false
set_option maxRecDepth 100000
set_option maxHeartbeats 4000000
/-! Standings as plain lists, and what operations do to them. -/
namespace G
open PySem PySem.Spec PyProof.Rows L2
/-! ### lists by place -/
def gI (l : List Int) (i : Nat) : Int := l.getD i 0
def gB (l : List Bool) (i : Nat) : Bool := l.getD i false
theorem gI_at {l : List Int} {i : Nat} (h : i < l.length) : l[i]? = some (gI l i) := by
  unfold gI
  rw [List.getElem?_eq_getElem h, List.getD_eq_getElem?_getD, List.getElem?_eq_getElem h] <;> rfl
theorem gB_at {l : List Bool} {i : Nat} (h : i < l.length) : l[i]? = some (gB l i) := by
  unfold gB
  rw [List.getElem?_eq_getElem h, List.getD_eq_getElem?_getD, List.getElem?_eq_getElem h] <;> rfl
theorem gI_of {l : List Int} {i : Nat} {v : Int} (h : l[i]? = some v) : gI l i = v := by
  unfold gI
  rw [List.getD_eq_getElem?_getD, h] <;> rfl
theorem gI_set {l : List Int} {i j : Nat} {v : Int} (h : i < l.length) : gI (l.set i v) j = if j = i then v else gI l j := by
  unfold gI
  rw [List.getD_eq_getElem?_getD, List.getD_eq_getElem?_getD]
  by_cases e : j = i
  · rw [if_pos e, e, List.getElem?_set_self h] <;> rfl
  · rw [if_neg e, List.getElem?_set_ne (Ne.symm e)]
theorem gB_set {l : List Bool} {i j : Nat} {v : Bool} (h : i < l.length) : gB (l.set i v) j = if j = i then v else gB l j := by
  unfold gB
  rw [List.getD_eq_getElem?_getD, List.getD_eq_getElem?_getD]
  by_cases e : j = i
  · rw [if_pos e, e, List.getElem?_set_self h] <;> rfl
  · rw [if_neg e, List.getElem?_set_ne (Ne.symm e)]
theorem atI_pos {α : Type} {l : List α} {i : Int} (h0 : 0 ≤ i) (h1 : i < (l.length : Int)) : atI l i = l[i.toNat]? := by
  unfold atI ixN
  rw [if_pos h0, if_pos h1] <;> rfl
theorem ixN_pos {n : Nat} {i : Int} (h0 : 0 ≤ i) (h1 : i < (n : Int)) : ixN n i = some i.toNat := by
  unfold ixN
  rw [if_pos h0, if_pos h1]
theorem at_I {l : List Int} {i : Int} (h0 : 0 ≤ i) (h1 : i < (l.length : Int)) : atI (l.map V.int) i = some (.int (gI l i.toNat)) := by
  rw [atI_pos h0 (by rw [List.length_map]; exact h1), List.getElem?_map, gI_at (by omega)] <;> rfl
theorem at_B {l : List Bool} {i : Int} (h0 : 0 ≤ i) (h1 : i < (l.length : Int)) : atI (l.map V.bl) i = some (.bl (gB l i.toNat)) := by
  rw [atI_pos h0 (by rw [List.length_map]; exact h1), List.getElem?_map, gB_at (by omega)] <;> rfl
theorem set_I {l : List Int} {k : Nat} {v : Int} : (l.map V.int).set k (V.int v) = (l.set k v).map V.int := by rw [List.map_set]
theorem set_B {l : List Bool} {k : Nat} {v : Bool} : (l.map V.bl).set k (V.bl v) = (l.set k v).map V.bl := by rw [List.map_set]
theorem sz_ok {n : Nat} (h : n ≤ 1000000) : n ≤ sizeLine := by
  rw [sizeLine_eq]
  omega
theorem sz_lt {n : Nat} (h : n < 1000000) : n < sizeLine := by
  rw [sizeLine_eq]
  omega
/-! ### standings -/
structure Sd where
  n : Nat
  R : List Int
  L : List Int
  O : List Bool
structure Wf (s : Sd) : Prop where
  n60 : s.n ≤ 60
  lR : s.R.length = s.n + 1
  lL : s.L.length = s.n + 2
  lO : s.O.length = s.n + 2
  rb : ∀ v : Nat, v ≤ s.n → (v : Int) < gI s.R v ∧ gI s.R v ≤ (s.n : Int) + 1
  lb : ∀ v : Nat, 1 ≤ v → v ≤ s.n + 1 → 0 ≤ gI s.L v ∧ gI s.L v < (v : Int)
def stepS (s : Sd) (op : Int) : Sd :=
  let x := op.natAbs
  let l := (gI s.L x).toNat
  let r := (gI s.R x).toNat
  ⟨s.n, s.R.set l (if op < 0 then gI s.R x else (x : Int)), s.L.set r (if op < 0 then gI s.L x else (x : Int)), s.O.set x (decide (op < 0))⟩
/-- an operation for the size; a legal one -/
def IsOp (n : Nat) (op : Int) : Prop := 1 ≤ op.natAbs ∧ op.natAbs ≤ n
def OkOp (s : Sd) (op : Int) : Prop := IsOp s.n op ∧ gB s.O op.natAbs = decide (0 < op)
instance (n : Nat) (op : Int) : Decidable (IsOp n op) := by unfold IsOp; infer_instance
instance (s : Sd) (op : Int) : Decidable (OkOp s op) := by unfold OkOp; infer_instance
theorem Wf.step {s : Sd} (w : Wf s) {op : Int} (h : IsOp s.n op) : Wf (stepS s op) := by
  obtain ⟨h1, h2⟩ := h
  obtain ⟨r1, r2⟩ := w.rb op.natAbs (by omega)
  obtain ⟨l1, l2⟩ := w.lb op.natAbs h1 (by omega)
  have e1 : (gI s.L op.natAbs).toNat < s.R.length := by rw [w.lR]; omega
  have e2 : (gI s.R op.natAbs).toNat < s.L.length := by rw [w.lL]; omega
  refine ⟨w.n60, ?_, ?_, ?_, fun v hv => ?_, fun v hv hv2 => ?_⟩
  · show (s.R.set _ _).length = _
    rw [List.length_set]
    exact w.lR
  · show (s.L.set _ _).length = _
    rw [List.length_set]
    exact w.lL
  · show (s.O.set _ _).length = _
    rw [List.length_set]
    exact w.lO
  · show (v : Int) < gI (s.R.set _ _) v ∧ gI (s.R.set _ _) v ≤ (s.n : Int) + 1
    rw [gI_set e1]
    by_cases e : v = (gI s.L op.natAbs).toNat
    · rw [if_pos e]
      by_cases o : op < 0
      · rw [if_pos o]
        omega
      · rw [if_neg o]
        omega
    · rw [if_neg e]
      exact w.rb v hv
  · show 0 ≤ gI (s.L.set _ _) v ∧ gI (s.L.set _ _) v < (v : Int)
    rw [gI_set e2]
    by_cases e : v = (gI s.R op.natAbs).toNat
    · rw [if_pos e]
      by_cases o : op < 0
      · rw [if_pos o]
        omega
      · rw [if_neg o]
        omega
    · rw [if_neg e]
      exact w.lb v hv hv2
/-- a, a + 1, .. n of them -/
def rgI (a : Int) (n : Nat) : List Int := (List.range n).map fun (i : Nat) => a + (i : Int)
theorem rgI_len (a : Int) (n : Nat) : (rgI a n).length = n := by simp [rgI]
def wholeS (n : Nat) : Sd := ⟨n, rgI 1 (n + 1), 0 :: rgI 0 (n + 1), List.replicate (n + 2) false⟩
theorem gI_range {n i : Nat} {a : Int} (h : i < n) : gI (rgI a n) i = a + (i : Int) := by
  refine gI_of ?_
  unfold rgI
  rw [List.getElem?_map, List.getElem?_range h] <;> rfl
theorem Wf.whole {n : Nat} (h : n ≤ 60) : Wf (wholeS n) := by
  refine ⟨h, rgI_len _ _, congrArg Nat.succ (rgI_len _ _), List.length_replicate, fun v hv => ?_, fun v h1 h2 => ?_⟩
  · show (v : Int) < gI (rgI 1 (n + 1)) v ∧ gI (rgI 1 (n + 1)) v ≤ (n : Int) + 1
    have hv' : v ≤ n := hv
    rw [gI_range (by omega)]
    omega
  · show 0 ≤ gI (0 :: rgI 0 (n + 1)) v ∧ gI (0 :: rgI 0 (n + 1)) v < (v : Int)
    have h2' : v ≤ n + 1 := h2
    obtain ⟨u, rfl⟩ : ∃ u, v = u + 1 := ⟨v - 1, by omega⟩
    have e : gI (0 :: rgI 0 (n + 1)) (u + 1) = gI (rgI 0 (n + 1)) u := rfl
    rw [e, gI_range (by omega)]
    omega
theorem snoc_ind {α : Type} {P : List α → Prop} (h0 : P []) (h1 : ∀ l x, P l → P (l ++ [x])) (l : List α) : P l := by
  have key : ∀ r : List α, P r.reverse := by
    intro r
    induction r with
    | nil => exact h0
    | cons x r ih =>
      rw [List.reverse_cons]
      exact h1 _ _ ih
  have e := key l.reverse
  rwa [List.reverse_reverse] at e
def runS (s : Sd) (log : List Int) : Sd := log.foldl stepS s
theorem runS_snoc (s : Sd) (log : List Int) (op : Int) : runS s (log ++ [op]) = stepS (runS s log) op := by
  unfold runS
  rw [List.foldl_append] <;> rfl
theorem runS_n (s : Sd) : ∀ log : List Int, (runS s log).n = s.n := by
  intro log
  induction log using snoc_ind with
  | h0 => rfl
  | h1 l x ih => rw [runS_snoc]; exact ih
/-- every operation is legal in turn -/
def Leg (s : Sd) (log : List Int) : Prop := ∀ i op, log[i]? = some op → OkOp (runS s (log.take i)) op
theorem Leg.snoc {s : Sd} {log : List Int} {op : Int} (h : Leg s log) (o : OkOp (runS s log) op) : Leg s (log ++ [op]) := by
  intro i p hp
  by_cases hi : i < log.length
  · rw [List.getElem?_append_left hi] at hp
    rw [List.take_append_of_le_length (by omega)]
    exact h i p hp
  · rw [List.getElem?_append_right (by omega)] at hp
    have e : i = log.length := by
      have := (List.getElem?_eq_some_iff.mp hp).1
      simp at this
      omega
    subst e
    have : p = op := by simpa using hp.symm
    subst this
    rw [List.take_left']
    · exact o
    · rfl
theorem Leg.take {s : Sd} {log : List Int} (h : Leg s log) (k : Nat) : Leg s (log.take k) := by
  intro i op hp
  have hi : i < (log.take k).length := (List.getElem?_eq_some_iff.mp hp).1
  rw [List.length_take] at hi
  rw [List.getElem?_take_of_lt (by omega)] at hp
  rw [List.take_take, Nat.min_eq_left (by omega)]
  exact h i op hp
theorem Leg.wf {s : Sd} (w : Wf s) : ∀ {log : List Int}, Leg s log → Wf (runS s log) := by
  intro log
  induction log using snoc_ind with
  | h0 => exact fun _ => w
  | h1 l x ih =>
    intro h
    have h1 : Leg s l := by
      have := h.take l.length
      rwa [List.take_left' rfl] at this
    have h2 := h l.length x (by simp)
    rw [List.take_left' rfl] at h2
    rw [runS_snoc]
    exact (ih h1).step h2.1
end G
set_option Elab.async false
set_option linter.all false
set_option maxRecDepth 100000
set_option maxHeartbeats 4000000
/-! What the program's own defs promise: standings, logs, gaps. -/
namespace G
open PySem PySem.Spec PyProof.Rows L2
/-! ### a standing in the heap -/
def fl (n r l o : V) : List (Str × V) := putF "_out" o (putF "_lefts" l (putF "_rights" r (putF "size" n [])))
theorem n1 : ¬ (("size" : Str) = "_rights") := by decide +kernel
theorem n2 : ¬ (("size" : Str) = "_lefts") := by decide +kernel
theorem n3 : ¬ (("size" : Str) = "_out") := by decide +kernel
theorem n4 : ¬ (("_rights" : Str) = "_lefts") := by decide +kernel
theorem n5 : ¬ (("_rights" : Str) = "_out") := by decide +kernel
theorem n6 : ¬ (("_lefts" : Str) = "_out") := by decide +kernel
theorem fl_size (n r l o : V) : (fl n r l o).lookup ("size" : Str) = some n := by
  unfold fl
  rw [lookup_putF, if_neg n3, lookup_putF, if_neg n2, lookup_putF, if_neg n1, lookup_putF, if_pos rfl]
theorem fl_R (n r l o : V) : (fl n r l o).lookup ("_rights" : Str) = some r := by
  unfold fl
  rw [lookup_putF, if_neg n5, lookup_putF, if_neg n4, lookup_putF, if_pos rfl]
theorem fl_L (n r l o : V) : (fl n r l o).lookup ("_lefts" : Str) = some l := by
  unfold fl
  rw [lookup_putF, if_neg n6, lookup_putF, if_pos rfl]
theorem fl_O (n r l o : V) : (fl n r l o).lookup ("_out" : Str) = some o := by
  unfold fl
  rw [lookup_putF, if_pos rfl]
theorem fl_no {m : Str} (n r l o : V) (h1 : ¬ m = "size") (h2 : ¬ m = "_rights") (h3 : ¬ m = "_lefts") (h4 : ¬ m = "_out") : (fl n r l o).lookup m = none := by
  unfold fl
  rw [lookup_putF, if_neg h4, lookup_putF, if_neg h3, lookup_putF, if_neg h2, lookup_putF, if_neg h1]
  rfl
theorem fl_eq (n r l o : V) : fl n r l o = [(("size" : Str), n), ("_rights", r), ("_lefts", l), ("_out", o)] := by
  unfold fl
  simp only [putF, if_neg n1, if_neg n2, if_neg n3, if_neg n4, if_neg n5, if_neg n6]
theorem fl_len (n r l o : V) : (fl n r l o).length < 1000 := by
  rw [fl_eq]
  show 4 < 1000
  decide
theorem fl_putR (n r l o r2 : V) : putF "_rights" r2 (fl n r l o) = fl n r2 l o := by
  rw [fl_eq, fl_eq]
  simp only [putF]
  rw [if_neg n1, if_pos trivial]
theorem fl_putL (n r l o l2 : V) : putF "_lefts" l2 (fl n r l o) = fl n r l2 o := by
  rw [fl_eq, fl_eq]
  simp only [putF]
  rw [if_neg n2, if_neg n4, if_pos trivial]
theorem fl_putO (n r l o o2 : V) : putF "_out" o2 (fl n r l o) = fl n r l o2 := by
  rw [fl_eq, fl_eq]
  simp only [putF]
  rw [if_neg n3, if_neg n5, if_neg n6, if_pos trivial]
structure LinksAt (K : PySem.W.Frag) (H : Hp) (p r l o : Addr) (s : Sd) : Prop where
  ob : ∃ dx, H p = some (.ins (He.ga K "Links") dx (fl (.int s.n) (.ref r) (.ref l) (.ref o)))
  hr : H r = some (.lst (s.R.map V.int))
  hl : H l = some (.lst (s.L.map V.int))
  ho : H o = some (.lst (s.O.map V.bl))
  rl : r ≠ l
  ro : r ≠ o
  lo : l ≠ o
  wf : Wf s
theorem LinksAt.pr {K : PySem.W.Frag} {H : Hp} {p r l o : Addr} {s : Sd} (a : LinksAt K H p r l o s) : p ≠ r ∧ p ≠ l ∧ p ≠ o := by
  obtain ⟨dx, h⟩ := a.ob
  exact ⟨ne_of h a.hr (by intro z; cases z), ne_of h a.hl (by intro z; cases z), ne_of h a.ho (by intro z; cases z)⟩
theorem LinksAt.kp {K : PySem.W.Frag} {H H' : Hp} {p r l o : Addr} {s : Sd} {S : List Addr} (a : LinksAt K H p r l o s) (k : Kp S H H') (h1 : p ∉ S) (h2 : r ∉ S) (h3 : l ∉ S) (h4 : o ∉ S) : LinksAt K H' p r l o s := by
  obtain ⟨dx, h⟩ := a.ob
  exact ⟨⟨dx, k _ _ h1 h⟩, k _ _ h2 a.hr, k _ _ h3 a.hl, k _ _ h4 a.ho, a.rl, a.ro, a.lo, a.wf⟩
theorem LinksAt.k0 {K : PySem.W.Frag} {H H' : Hp} {p r l o : Addr} {s : Sd} (a : LinksAt K H p r l o s) (k : Kp [] H H') : LinksAt K H' p r l o s := a.kp k (by simp) (by simp) (by simp) (by simp)
/-! ### errors -/
/-- an error of the class x leaves, new, with these fields -/
def Ex (K : PySem.W.Frag) (x : Str) (fs : List (Str × V)) (E : XK) (H : Hp) : Prop := ∀ d, H d = none → E (.ref (He.ga K x)) (some d) (upd H d (.xd fs))
def OpE (K : PySem.W.Frag) (n : Nat) (op : Int) (i : Int) (E : XK) (H : Hp) : Prop := Ex K (if IsOp n op then "Illegal" else "BadOperation") [("index", .int i), ("operation", .int op)] E H
/-- .. the first wrong operation of a log -/
def LogE (K : PySem.W.Frag) (s : Sd) (log : List Int) (E : XK) (H : Hp) : Prop := ∀ (i : Nat) (op : Int), log[i]? = some op → Leg s (log.take i) → ¬ OkOp (runS s (log.take i)) op → ∀ H', Kp [] H H' → OpE K s.n op i E H'
def SizeOk (size : Int) : Prop := 0 ≤ size ∧ size ≤ 60
instance (size : Int) : Decidable (SizeOk size) := by unfold SizeOk; infer_instance
/-! ### gaps -/
def stT (s : Sd) (v : Nat) : Str := if gI s.R v = (v : Int) + 1 then (if gI s.L (v + 1) = (v : Int) then "joined" else "left") else (if gI s.L (v + 1) = (v : Int) then "right" else "lost")
def lostL (s : Sd) : List Nat := (List.range (s.n + 1)).filter fun v => decide (stT s v = "lost")
/-! ### promises -/
section
variable (K : PySem.W.Frag)
def sp_check_size : Sp := fun vs H Q E => ∃ size : Int, vs = [.int size] ∧ (SizeOk size → Q .non H) ∧ (¬ SizeOk size → Ex K "BadSize" [("size", .int size)] E H)
def sp_check_operation : Sp := fun vs H Q E => ∃ (n : Nat) (op i : Int), vs = [.int n, .int op, .int i] ∧ (IsOp n op → Q .non H) ∧ (¬ IsOp n op → Ex K "BadOperation" [("index", .int i), ("operation", .int op)] E H)
def sp_check_gap : Sp := fun vs H Q E => ∃ (n : Nat) (g : Int), vs = [.int n, .int g] ∧ (0 ≤ g ∧ g ≤ n → Q .non H) ∧ (¬ (0 ≤ g ∧ g ≤ n) → Ex K "BadGap" [("gap", .int g)] E H)
def sp_Links___init__ : Sp := fun vs H Q E => ∃ (p dx : Addr) (size : Int), vs = [.ref p, .int size] ∧ H p = some (.ins (He.ga K "Links") dx []) ∧
  (SizeOk size → ∀ (r l o : Addr) (H' : Hp), H r = none → H l = none → H o = none → Kp [p] H H' → LinksAt K H' p r l o (wholeS size.toNat) → Q .non H') ∧ (¬ SizeOk size → Ex K "BadSize" [("size", .int size)] E H)
def sp_Links_is_legal : Sp := fun vs H Q E => ∃ (p r l o : Addr) (s : Sd) (op : Int), vs = [.ref p, .int op] ∧ LinksAt K H p r l o s ∧ IsOp s.n op ∧ Q (.bl (decide (gB s.O op.natAbs = decide (0 < op)))) H
def sp_Links_check : Sp := fun vs H Q E => ∃ (p r l o : Addr) (s : Sd) (op i : Int), vs = [.ref p, .int op, .int i] ∧ LinksAt K H p r l o s ∧ (OkOp s op → Q .non H) ∧ (¬ OkOp s op → OpE K s.n op i E H)
def sp_Links_apply_at : Sp := fun vs H Q E => ∃ (p r l o : Addr) (s : Sd) (op i : Int), vs = [.ref p, .int op, .int i] ∧ LinksAt K H p r l o s ∧ (OkOp s op → ∀ H', Kp [r, l, o] H H' → LinksAt K H' p r l o (stepS s op) → Q .non H') ∧ (¬ OkOp s op → OpE K s.n op i E H)
def sp_Links_apply : Sp := fun vs H Q E => ∃ (p r l o : Addr) (s : Sd) (op : Int), vs = [.ref p, .int op] ∧ LinksAt K H p r l o s ∧ (OkOp s op → ∀ H', Kp [r, l, o] H H' → LinksAt K H' p r l o (stepS s op) → Q .non H') ∧ (¬ OkOp s op → OpE K s.n op 0 E H)
def sp_Links_left : Sp := fun vs H Q E => ∃ (p r l o : Addr) (s : Sd) (v : Nat), vs = [.ref p, .int v] ∧ LinksAt K H p r l o s ∧ 1 ≤ v ∧ v ≤ s.n + 1 ∧ Q (.int (gI s.L v)) H
def sp_Links_right : Sp := fun vs H Q E => ∃ (p r l o : Addr) (s : Sd) (v : Nat), vs = [.ref p, .int v] ∧ LinksAt K H p r l o s ∧ v ≤ s.n ∧ Q (.int (gI s.R v)) H
/-- a new standing s -/
def NewS (H : Hp) (s : Sd) (Q : VK) : Prop := ∀ (p r l o : Addr) (H' : Hp), H p = none → H r = none → H l = none → H o = none → Kp [] H H' → LinksAt K H' p r l o s → Q (.ref p) H'
def sp_Links_copy : Sp := fun vs H Q E => ∃ (p r l o : Addr) (s : Sd), vs = [.ref p] ∧ LinksAt K H p r l o s ∧ NewS K H s Q
def sp_play : Sp := fun vs H Q E => ∃ (p r l o a : Addr) (s : Sd) (log : List Int), vs = [.ref p, .ref a] ∧ LinksAt K H p r l o s ∧ SqL K H a (log.map V.int) ∧ (Leg s log → NewS K H (runS s log) Q) ∧ LogE K s log E H
def sp_replay : Sp := fun vs H Q E => ∃ (a : Addr) (size : Int) (log : List Int), vs = [.int size, .ref a] ∧ SqL K H a (log.map V.int) ∧ (SizeOk size → Leg (wholeS size.toNat) log → NewS K H (runS (wholeS size.toNat) log) Q) ∧
  (SizeOk size → LogE K (wholeS size.toNat) log E H) ∧ (¬ SizeOk size → ∀ H', Kp [] H H' → Ex K "BadSize" [("size", .int size)] E H')
def sp_gap_state : Sp := fun vs H Q E => ∃ (p r l o : Addr) (s : Sd) (g : Int), vs = [.ref p, .int g] ∧ LinksAt K H p r l o s ∧ (0 ≤ g ∧ g ≤ s.n → Q (.str (stT s g.toNat)) H) ∧ (¬ (0 ≤ g ∧ g ≤ s.n) → Ex K "BadGap" [("gap", .int g)] E H)
end
end G
set_option Elab.async false
set_option linter.all false
set_option maxRecDepth 100000
set_option maxHeartbeats 4000000
/-! More steps. -/
namespace G
open PySem PySem.Spec PyProof.Rows L2
section
variable {K : PySem.W.Frag} {σ : L2.St} {H : Hp} {Q : VK} {ta tb tc te : TE} {x y v : V} {D : Ends} {tl : TA} {i j : Int} {n m : Nat} {p q : Addr} {xs ys : List V} {A B : Prop}
theorem w_tT (a : A) : if true = true then A else B := iteT a
theorem w_tF (b : B) : if false = true then A else B := iteF b
theorem w_nT (a : A) : if (!false) = true then A else B := iteT a
theorem w_nF (b : B) : if (!true) = true then A else B := iteF b
theorem w_rz {C : Addr} {fs : List Str} {W : WX} (g : tl σ H fun us H1 => us.length = fs.length ∧ us.length ≤ 1000 ∧ ∀ d, H1 d = none → W (.ref C) (some d) σ (upd H1 d (.xd (fs.zip us).reverse))) : tRz C fs W tl D σ H := g
theorem w_rg1 {R : Int → Int → Hp → Prop} (g : te σ H fun x H1 => ∃ n, x = .int n ∧ R 0 n H1) : tRg1 te σ H R := g
theorem w_rg2 {R : Int → Int → Hp → Prop} (g : ta σ H fun x H1 => tb σ H1 fun y H2 => ∃ i j, x = .int i ∧ y = .int j ∧ R i j H2) : tRg2 ta tb σ H R := g
theorem w_n1 {R : Int → Prop} (g : R i) : ∃ n, V.int i = .int n ∧ R n := ⟨i, rfl, g⟩
theorem w_n2 {R : Int → Int → Prop} (g : R i j) : ∃ a b, V.int i = .int a ∧ V.int j = .int b ∧ R a b := ⟨i, j, rfl, rfl, g⟩
theorem w_sl {r : V → Option Int → Option Int → Hp → VK → Prop} {tlo thi : TO} (g : te σ H fun x H1 => tlo σ H1 fun l H2 => thi σ H2 fun u H3 => r x l u H3 Q) : tSl r te tlo thi σ H Q := g
theorem w_np {R : Option Int → Hp → Prop} (g : R none H) : tNoPart σ H R := g
theorem w_pt {R : Option Int → Hp → Prop} (g : te σ H fun x H1 => ∃ i, x = .int i ∧ R (some i) H1) : tPart te σ H R := g
theorem w_tr {R : Bool → Hp → Prop} (g : te σ H fun x H' => ∃ k, TruV K x H' k ∧ R k H') : tTr K te σ H R := g
theorem w_truL {R : Bool → Prop} (h : SqL K H p xs) (g : R (!xs.isEmpty)) : ∃ k, TruV K (.ref p) H k ∧ R k := ⟨_, .inl ⟨xs, h, rfl⟩, g⟩
theorem w_gn {k : Nat} {R : L2.St → Hp → Prop} (g : R (σ.set k (some v)) H) : gName k v σ H R := g
theorem w_g1 {g1 : TG} {R : L2.St → Hp → Prop} (g : g1 x σ H R) : gCons g1 gNil [x] σ H R := ⟨x, [], rfl, by
  have e : (fun σ2 H2 => gNil [] σ2 H2 R) = R := funext fun σ2 => funext fun H2 => propext ⟨fun z => z.2, fun z => ⟨rfl, z⟩⟩
  rw [e]
  exact g⟩
theorem w_gc {g1 : TG} {ts : TGs} {R : L2.St → Hp → Prop} (g : g1 x σ H fun σ1 H1 => ts (y :: xs) σ1 H1 R) : gCons g1 ts (x :: y :: xs) σ H R := ⟨x, y :: xs, rfl, g⟩
theorem w_gt {T : Addr} {k : Nat} {ts : TGs} {R : L2.St → Hp → Prop} (h : SqT K H T xs) (hl : xs.length = k) (g : ts xs σ H R) : gTup K k ts (.ref T) σ H R := ⟨T, xs, rfl, h, hl, g⟩
/-- a new object: the heap goes on under a name -/
def NwU (o : HO) (H : Hp) (Q : VK) : Prop := ∀ q, H q = none → Q (.ref q) (upd H q o)
theorem nw {o : HO} (g : ∀ q H', H q = none → Kp [] H H' → H' q = some o → Q (.ref q) H') : NwU o H Q := fun q n => g q _ n (Kp.new n) upd_same
theorem w_lstN (g : tl σ H fun xs H1 => xs.length ≤ sizeLine ∧ NwU (.lst xs) H1 Q) : tLst tl σ H Q := g
theorem w_tupN (g : tl σ H fun xs H1 => xs.length ≤ sizeLine ∧ NwU (.tup xs) H1 Q) : tTup tl σ H Q := g
theorem w_lrgN {t : L2.St → Hp → (Int → Int → Hp → Prop) → Prop} (g : t σ H fun a b H1 => RgOk a b ∧ NwU (.lst (rgV a b)) H1 Q) : tLstRg t σ H Q := g
theorem w_addLN (h1 : H p = some (.lst xs)) (h2 : H q = some (.lst ys)) (h : xs.length + ys.length ≤ sizeLine) (g : ∀ r H', H r = none → Kp [] H H' → H' r = some (.lst (xs ++ ys)) → Q (.ref r) H') : rAddA (.ref p) (.ref q) H Q := w_addL h1 h2 h (nw g)
theorem w_mulLN (h1 : H p = some (.lst xs)) (h2 : -(2 ^ 63) ≤ j) (h3 : j < 2 ^ 63) (h : xs.length * j.toNat ≤ sizeLine) (g : ∀ r H', H r = none → Kp [] H H' → H' r = some (.lst (List.replicate j.toNat xs).flatten) → Q (.ref r) H') : rMulA (.ref p) (.int j) H Q := w_mulL h1 h2 h3 h (nw g)
theorem w_listLN (h : SqL K H p xs) (g : ∀ l H', H l = none → Kp [] H H' → H' l = some (.lst xs) → Q (.ref l) H') : rListA K [.ref p] H Q := w_listL h (nw g)
theorem w_sT {C dx : Addr} {fs : List (Str × V)} {f : Str} {R : Hp → Prop} {v : V} (cl : Cls K C) (na : NoAttr K C f) (h : H p = some (.ins C dx fs)) (hl : fs.length < 1000) (g : ∀ H', Kp [p] H H' → H' p = some (.ins C dx (putF f v fs)) → R H') :
    ∃ a C dx fs, V.ref p = .ref a ∧ H a = some (.ins C dx fs) ∧ Cls K C ∧ NoAttr K C f ∧ fs.length < 1000 ∧ R (upd H a (.ins C dx (putF f v fs))) := ⟨p, C, dx, fs, rfl, h, cl, na, hl, g _ (Kp.put (by simp)) upd_same⟩
theorem w_seT {R : Hp → Prop} (h : H p = some (.lst xs)) (ha : ixN xs.length i = some n) (g : ∀ H', Kp [p] H H' → H' p = some (.lst (xs.set n v)) → R H') : rSetL (.ref p) (.int i) v H R := w_setL h ha (g _ (Kp.put (by simp)) upd_same)
theorem w_apT (h : H p = some (.lst xs)) (hl : xs.length < sizeLine) (g : ∀ H', Kp [p] H H' → H' p = some (.lst (xs ++ [v])) → Q .non H') : rAppend (.ref p) [v] H Q := w_append h hl (g _ (Kp.put (by simp)) upd_same)
/-- an object of a class, made: its dict, the object -/
def MkU (C : Addr) (sp : Sp) (E : XK) (vs : List V) (H : Hp) (Q : VK) : Prop := ∀ x dx, H x = none → H dx = none → dx ≠ x → sp (.ref x :: vs) (upd (upd H dx (.own x)) x (.ins C dx [])) (fun v H2 => v = .non ∧ Q (.ref x) H2) E
theorem w_mkN {C : Addr} {sp : Sp} {E : L2.St → XK} (g : tl σ H fun vs H1 => MkU C sp (E σ) vs H1 Q) : tMk C sp E tl σ H Q := g
theorem mk {C : Addr} {sp : Sp} {E : XK} {vs : List V} (g : ∀ x dx H', H x = none → H' x = some (.ins C dx []) → Kp [] H H' → sp (.ref x :: vs) H' (fun v H2 => v = .non ∧ Q (.ref x) H2) E) : MkU C sp E vs H Q :=
  fun x dx n1 n2 ne => g x dx _ n1 upd_same ((Kp.new n2).trans (Kp.new (by rw [upd_ne (Ne.symm ne)]; exact n1)))
theorem w_r1 {R : Int → Prop} {n : Int} (h : -(2 ^ 62) ≤ n ∧ n < 2 ^ 62) (g : R n) : ∃ j : Int, [V.int n] = [.int j] ∧ -(2 ^ 62) ≤ j ∧ j < 2 ^ 62 ∧ R j := ⟨n, rfl, h.1, h.2, g⟩
theorem w_r2 {R : Int → Int → Prop} {a b : Int} (h : -(2 ^ 62) ≤ a ∧ a < 2 ^ 62 ∧ -(2 ^ 62) ≤ b ∧ b < 2 ^ 62) (g : R a b) : ∃ i j : Int, [V.int a, V.int b] = [.int i, .int j] ∧ (-(2 ^ 62) ≤ i ∧ i < 2 ^ 62 ∧ -(2 ^ 62) ≤ j ∧ j < 2 ^ 62) ∧ R i j := ⟨a, b, rfl, h, g⟩
theorem w_yes {R : Bool → Hp → Prop} (g : R true H) : tYes σ H R := g
theorem ref_ne : V.ref p ≠ .non := fun z => by cases z
theorem int_ne : V.int i ≠ .non := fun z => by cases z
theorem at_0 : atI (x :: xs) 0 = some x := by
  rw [atI_pos (by omega) (by rw [List.length_cons]; omega)] <;> rfl
theorem w_l1 {R : Addr → Prop} (h : SqL K H p xs) (g : R p) : ∃ a, V.ref p = .ref a ∧ (∃ xs, SqL K H a xs) ∧ R a := ⟨p, rfl, ⟨xs, h⟩, g⟩
/-- a field of a standing -/
theorem w_fR {r l o : Addr} {s : Sd} {R : V → Prop} (cl : Cls K (He.ga K "Links")) (na : NoAttr K (He.ga K "Links") "_rights") (a : LinksAt K H p r l o s) (g : R (.ref r)) :
    ∃ a C dx fs v, V.ref p = .ref a ∧ H a = some (.ins C dx fs) ∧ Cls K C ∧ NoAttr K C "_rights" ∧ fs.lookup ("_rights" : Str) = some v ∧ R v := by
  obtain ⟨dx, h⟩ := a.ob
  exact ⟨p, _, dx, _, _, rfl, h, cl, na, fl_R _ _ _ _, g⟩
theorem w_fL {r l o : Addr} {s : Sd} {R : V → Prop} (cl : Cls K (He.ga K "Links")) (na : NoAttr K (He.ga K "Links") "_lefts") (a : LinksAt K H p r l o s) (g : R (.ref l)) :
    ∃ a C dx fs v, V.ref p = .ref a ∧ H a = some (.ins C dx fs) ∧ Cls K C ∧ NoAttr K C "_lefts" ∧ fs.lookup ("_lefts" : Str) = some v ∧ R v := by
  obtain ⟨dx, h⟩ := a.ob
  exact ⟨p, _, dx, _, _, rfl, h, cl, na, fl_L _ _ _ _, g⟩
theorem w_fO {r l o : Addr} {s : Sd} {R : V → Prop} (cl : Cls K (He.ga K "Links")) (na : NoAttr K (He.ga K "Links") "_out") (a : LinksAt K H p r l o s) (g : R (.ref o)) :
    ∃ a C dx fs v, V.ref p = .ref a ∧ H a = some (.ins C dx fs) ∧ Cls K C ∧ NoAttr K C "_out" ∧ fs.lookup ("_out" : Str) = some v ∧ R v := by
  obtain ⟨dx, h⟩ := a.ob
  exact ⟨p, _, dx, _, _, rfl, h, cl, na, fl_O _ _ _ _, g⟩
theorem w_fS {r l o : Addr} {s : Sd} {R : V → Prop} (cl : Cls K (He.ga K "Links")) (na : NoAttr K (He.ga K "Links") "size") (a : LinksAt K H p r l o s) (g : R (.int s.n)) :
    ∃ a C dx fs v, V.ref p = .ref a ∧ H a = some (.ins C dx fs) ∧ Cls K C ∧ NoAttr K C "size" ∧ fs.lookup ("size" : Str) = some v ∧ R v := by
  obtain ⟨dx, h⟩ := a.ob
  exact ⟨p, _, dx, _, _, rfl, h, cl, na, fl_size _ _ _ _, g⟩
/-- .. of an object with the fields of a standing -/
theorem w_oR {dx : Addr} {n r l o : V} {R : V → Prop} (cl : Cls K (He.ga K "Links")) (na : NoAttr K (He.ga K "Links") "_rights") (h : H p = some (.ins (He.ga K "Links") dx (fl n r l o))) (g : R r) :
    ∃ a C dx fs v, V.ref p = .ref a ∧ H a = some (.ins C dx fs) ∧ Cls K C ∧ NoAttr K C "_rights" ∧ fs.lookup ("_rights" : Str) = some v ∧ R v := ⟨p, _, dx, _, _, rfl, h, cl, na, fl_R _ _ _ _, g⟩
theorem w_oL {dx : Addr} {n r l o : V} {R : V → Prop} (cl : Cls K (He.ga K "Links")) (na : NoAttr K (He.ga K "Links") "_lefts") (h : H p = some (.ins (He.ga K "Links") dx (fl n r l o))) (g : R l) :
    ∃ a C dx fs v, V.ref p = .ref a ∧ H a = some (.ins C dx fs) ∧ Cls K C ∧ NoAttr K C "_lefts" ∧ fs.lookup ("_lefts" : Str) = some v ∧ R v := ⟨p, _, dx, _, _, rfl, h, cl, na, fl_L _ _ _ _, g⟩
theorem w_oO {dx : Addr} {n r l o : V} {R : V → Prop} (cl : Cls K (He.ga K "Links")) (na : NoAttr K (He.ga K "Links") "_out") (h : H p = some (.ins (He.ga K "Links") dx (fl n r l o))) (g : R o) :
    ∃ a C dx fs v, V.ref p = .ref a ∧ H a = some (.ins C dx fs) ∧ Cls K C ∧ NoAttr K C "_out" ∧ fs.lookup ("_out" : Str) = some v ∧ R v := ⟨p, _, dx, _, _, rfl, h, cl, na, fl_O _ _ _ _, g⟩
/-- a method of a standing -/
theorem w_me {r l o : Addr} {s : Sd} {m : Str} {R : Prop} (a : LinksAt K H p r l o s) (hm : ∀ n r l o : V, (fl n r l o).lookup m = none) (g : R) : ∃ a dx fs, V.ref p = .ref a ∧ H a = some (.ins (He.ga K "Links") dx fs) ∧ fs.lookup m = none ∧ R := by
  obtain ⟨dx, h⟩ := a.ob
  exact ⟨p, dx, _, rfl, h, hm _ _ _ _, g⟩
end
/-- a method's name is none of the fields -/
theorem no_m {m : Str} (h1 : ¬ m = "size" := by decide +kernel) (h2 : ¬ m = "_rights" := by decide +kernel) (h3 : ¬ m = "_lefts" := by decide +kernel) (h4 : ¬ m = "_out" := by decide +kernel) (n r l o : V) : (fl n r l o).lookup m = none := fl_no n r l o h1 h2 h3 h4
theorem natAbs_if (i : Int) : (if i < 0 then -i else i) = (i.natAbs : Int) := by
  split <;> omega
end G
set_option Elab.async false
set_option linter.all false
set_option maxRecDepth 100000
set_option maxHeartbeats 4000000
/-! == by an own __eq__, any answer. -/
namespace G
open PySem PySem.Spec PyProof.Rows L2
/-- isinstance of an instance of an own class -/
def tyB (x : Str) (K : PySem.W.Frag) : Bool := He.eqO (PySem.W.findIn K (.ref (He.ga K x)) "__class__") (some (some (.builtin "object.__class__"))) && eqT (PySem.W.mroIn K (He.ga K x) (.type "object")) (some true)
theorem tyB_ok {x : Str} {K : PySem.W.Frag} (q : tyB x K = true) : PySem.W.findIn K (.ref (He.ga K x)) "__class__" = some (some (.builtin "object.__class__")) ∧ PySem.W.mroIn K (He.ga K x) (.type "object") = some true := by
  obtain ⟨q1, q2⟩ := He.ba q
  exact ⟨He.eqO_ok q1, of_decide_eq_true q2⟩
end G
set_option Elab.async false
set_option linter.all false
set_option maxRecDepth 100000
set_option maxHeartbeats 4000000
/-! More built-ins: str, tuple, is True, pop, insert, extend. -/
namespace G
open PySem PySem.Spec PyProof.Rows L2
def rStrA : List V → Hp → VK → Prop := fun xs H Q => ∃ i, xs = [.int i] ∧ i.natAbs.log2 < 1920 ∧ Q (.str (toString i)) H
section
variable {X : Cx}
theorem call_strA : CallR X (.type "str") rStrA := call_str_int
end
section
variable {K : PySem.W.Frag} {σ : L2.St} {H : Hp} {Q : VK} {ta tb tc te : TE} {x y v : V} {i j : Int} {n m : Nat} {p q : Addr} {xs ys : List V} {b c : Bool}
theorem w_str (h : i.natAbs.log2 < 1920) (g : Q (.str (toString i)) H) : rStrA [.int i] H Q := ⟨i, rfl, h, g⟩
theorem w_popAt {k : Nat} (h : H p = some (.lst xs)) (h1 : -(2 ^ 63) ≤ i) (h2 : i < 2 ^ 63) (hk : seqIndex? i xs.length = some k) (hy : xs[k]? = some y) (g : ∀ H', Kp [p] H H' → H' p = some (.lst (xs.eraseIdx k)) → Q y H') : rPopAt (.ref p) [.int i] H Q :=
  ⟨p, xs, i, k, y, rfl, rfl, h, h1, h2, hk, hy, g _ (Kp.put (by simp)) upd_same⟩
theorem w_inL {neg : Bool} (h : SqL K H p xs) (hx : flatV x = true) (ha : xs.all flatV = true) (g : Q (.bl (if neg then !inV x xs else inV x xs)) H) : rIn K neg x (.ref p) H Q := ⟨p, xs, rfl, .inl h, hx, ha, g⟩
end
theorem strOk_of (s : String) : PyData.strOk (Str.ofString s) = true := by
  rw [Str.ofString_eq_toList]
  unfold PyData.strOk
  rw [Array.all_eq_true]
  intro i h
  have h' : i < s.toList.length := by simpa using h
  simp only [List.getElem_toArray, List.getElem_map, decide_eq_true_eq]
  have v := (s.toList[i]'h').valid
  rcases v with v | v
  · show (s.toList[i]'h').val.toNat < _
    have : (s.toList[i]'h').val.toNat < 0xd800 := v
    omega
  · exact v.2
end G
set_option Elab.async false
set_option linter.all false
set_option maxRecDepth 100000
set_option maxHeartbeats 4000000
/-! Static methods, texts, more in a handler; a head with defs at any address. -/
namespace G
open PySem PySem.Spec PyProof.Rows L2
/-! ### a static method by its class -/
/-! ### the head, defs at any address -/
def obsY (fa : List Chk) (fn : List He5.DefA) (K : PySem.W.Frag) : He.AlD := ((fa.all fun f => f K) && fn.all fun d => d.ok K, fn.map fun d => He5.fnA K (d.at_ K))
def valY (fn : List He5.DefA) : He.AlD := (true, fn.map He5.DefA.val)
def SaysY (fa : List Chk) (fn : List He5.DefA) (K : PySem.W.Frag) : Prop := obsY fa fn K = valY fn
section
variable {fa : List Chk} {fn : List He5.DefA} {K : PySem.W.Frag}
theorem SaysY.fact (c : SaysY fa fn K) (i : Nat) {f : Chk} (h : fa[i]? = some f := by rfl) : f K = true := by
  have c1 := (He.ba (show ((fa.all fun f => f K) && fn.all fun d => d.ok K) = true from congrArg (fun z : He.AlD => z.1) c)).1
  exact List.all_eq_true.mp c1 f (List.mem_of_getElem? h)
theorem SaysY.def_ (c : SaysY fa fn K) (i : Nat) {d : He5.DefA} (h : fn[i]? = some d := by rfl) : ∃ fd, FunD K d.name d.qual d.params d.body d.scope (d.dvs K) (d.kws K) (d.at_ K) fd := by
  have c2 := (He.ba (show ((fa.all fun f => f K) && fn.all fun d => d.ok K) = true from congrArg (fun z : He.AlD => z.1) c)).2
  have e : fn.map (fun d => He5.fnA K (d.at_ K)) = fn.map He5.DefA.val := congrArg (fun z : He.AlD => z.2) c
  have e2 : (fn.map fun d => He5.fnA K (d.at_ K))[i]? = (fn.map He5.DefA.val)[i]? := by rw [e]
  rw [List.getElem?_map, List.getElem?_map, h] at e2
  exact He5.DefA.funD (Option.some.inj e2) (List.all_eq_true.mp c2 d (List.mem_of_getElem? h))
end
/-! ### where an exception is handled -/
section
variable {X : Cx}
theorem op_eqAH {k : Nat} (hr : L2H.RoomH k X.A) : OpR X (compareOp .Eq) (rEqA X.K) := OpR.or op_eq (op_eqD (by have := hr.un; omega))
end
/-! ### texts -/
def rJoin (K : PySem.W.Frag) : V → List V → Hp → VK → Prop := fun x xs H Q => ∃ a p, ∃ ys : List Str, x = .str a ∧ xs = [.ref p] ∧ (SqL K H p (ys.map V.str) ∨ SqT K H p (ys.map V.str)) ∧
    (ys.map (·.length)).sum + ys.length * a.length ≤ 16777216 ∧ Q (.str (Txt.join a ys)) H
section
variable {X : Cx} {o e : Expr} {to te : TE}
theorem pe_joinA {apos pos : Pos} (ho : PE X o to) (he : PE X e te) (hs : starEach [e] X.env = [(false, eval e X.env)] := by rfl) (hbase : attributeBase o "join" X.env (eval o X.env) = eval o X.env := by rfl) (hline : (apos.endLine == pos.line) = true := by rfl) :
    PE X (.Call (.Attribute o "join" apos) [e] [] pos) (tM1 (rJoin X.K) to te) := pe_join ho he hs hbase hline
end
section
variable {K : PySem.W.Frag} {σ : L2.St} {H : Hp} {Q : VK} {ta tb tc te : TE} {x y v : V} {i j : Int} {n m : Nat} {p q : Addr} {xs ys : List V} {b c : Bool}
theorem w_m1 {r : V → List V → Hp → VK → Prop} (g : ta σ H fun x H1 => (∃ a, x = .str a) ∧ te σ H1 fun y H2 => r x [y] H2 Q) : tM1 r ta te σ H Q := g
theorem w_joinL {a : Str} {ss : List Str} (h : SqL K H p (ss.map V.str)) (hl : (ss.map (·.length)).sum + ss.length * a.length ≤ 16777216) (g : Q (.str (Txt.join a ss)) H) : rJoin K (.str a) [.ref p] H Q := ⟨a, p, ss, rfl, rfl, .inl h, hl, g⟩
theorem w_exS {P : Prop} {a : Str} (g : P) : (∃ b, V.str a = .str b) ∧ P := ⟨⟨a, rfl⟩, g⟩
theorem w_iS {R : It → Hp → Prop} (g : ta σ H fun v H1 => ∃ x, v = .str x ∧ R (Its x) H1) : iStr ta σ H R := g
end
end G
set_option Elab.async false
set_option linter.all false
set_option maxRecDepth 100000
set_option maxHeartbeats 4000000
/-! What a log writes down: last writes, last changes, the first loss. Promises of the defs that read logs. -/
namespace G
open PySem PySem.Spec PyProof.Rows L2
/-! ### the book -/
structure Bk where
  s : Sd
  k : Nat
  wr : List Int
  wl : List Int
  de : List Int
  ls : Option (Nat × Nat)
def lowN (s : Sd) (op : Int) : Nat := (gI s.L op.natAbs).toNat
def hiN (s : Sd) (op : Int) : Nat := (gI s.R op.natAbs).toNat - 1
def deS (s s' : Sd) (k : Nat) (de : List Int) (g : Nat) : List Int := if stT s g = stT s' g then de else de.set g (k : Int)
def lsS (s s' : Sd) (k g : Nat) (ls : Option (Nat × Nat)) : Option (Nat × Nat) := if ls = none ∧ stT s g ≠ stT s' g ∧ stT s' g = "lost" then some (k, g) else ls
def bstep (b : Bk) (op : Int) : Bk :=
  let s' := stepS b.s op
  ⟨s', b.k + 1, b.wr.set (lowN b.s op) (b.k : Int), b.wl.set (hiN b.s op) (b.k : Int), deS b.s s' b.k (deS b.s s' b.k b.de (lowN b.s op)) (hiN b.s op), lsS b.s s' b.k (hiN b.s op) (lsS b.s s' b.k (lowN b.s op) b.ls)⟩
def bk0 (n : Nat) : Bk := ⟨wholeS n, 0, List.replicate (n + 1) (-1), List.replicate (n + 1) (-1), List.replicate (n + 1) (-1), none⟩
def bkR (n : Nat) (log : List Int) : Bk := log.foldl bstep (bk0 n)
/-! ### promises -/
section
variable (K : PySem.W.Frag)
/-- the errors of a log from the whole list -/
structure RepE (H : Hp) (size : Int) (log : List Int) (E : XK) : Prop where
  op : SizeOk size → LogE K (wholeS size.toNat) log E H
  sz : ¬ SizeOk size → ∀ H', Kp [] H H' → Ex K "BadSize" [("size", .int size)] E H'
theorem RepE.kp {K : PySem.W.Frag} {H H1 : Hp} {size : Int} {log : List Int} {E : XK} (r : RepE K H size log E) (k : Kp [] H H1) : RepE K H1 size log E :=
  ⟨fun ok i op h l b H' k' => r.op ok i op h l b H' (k.trans k'), fun b H' k' => r.sz b H' (k.trans k')⟩
/-- None or a pair -/
def OptP (H : Hp) (v : V) : Option (Nat × Nat) → Prop
  | none => v = .non
  | some (k, g) => ∃ t, v = .ref t ∧ H t = some (.tup [.int (k : Int), .int (g : Int)])
end
end G
set_option Elab.async false
set_option linter.all false
set_option maxRecDepth 100000
set_option maxHeartbeats 4000000
/-! What the law's own defs promise. -/
namespace G
open PySem PySem.Spec PyProof.Rows L2
def Bag (H : Hp) (b : Addr) : Prop := ∃ c m t : Int, H b = some (.lst [.int c, .int m, .int t])
/-- the law's own standing: a list of a size and three lists -/
structure LW (H : Hp) (w r l o : Addr) (s : Sd) : Prop where
  ob : H w = some (.lst [.int s.n, .ref r, .ref l, .ref o])
  hr : H r = some (.lst (s.R.map V.int))
  hl : ∃ L' : List Int, H l = some (.lst (L'.map V.int)) ∧ L'.length = s.n + 2 ∧ ∀ v, 1 ≤ v → gI L' v = gI s.L v
  ho : H o = some (.lst (s.O.map V.bl))
  ne : r ≠ l ∧ r ≠ o ∧ l ≠ o ∧ w ≠ r ∧ w ≠ l ∧ w ≠ o
  wf : Wf s
theorem LW.kp {H H' : Hp} {w r l o : Addr} {s : Sd} {S : List Addr} (a : LW H w r l o s) (k : Kp S H H') (h1 : w ∉ S) (h2 : r ∉ S) (h3 : l ∉ S) (h4 : o ∉ S) : LW H' w r l o s := by
  obtain ⟨L', e1, e2⟩ := a.hl
  exact ⟨k _ _ h1 a.ob, k _ _ h2 a.hr, ⟨L', k _ _ h3 e1, e2⟩, k _ _ h4 a.ho, a.ne, a.wf⟩
theorem LW.k0 {H H' : Hp} {w r l o : Addr} {s : Sd} (a : LW H w r l o s) (k : Kp [] H H') : LW H' w r l o s := a.kp k (by simp) (by simp) (by simp) (by simp)
/-- out, by the last operation of the node -/
def outF (log : List Int) (v : Nat) : Bool := match log.reverse.find? (fun x => decide (x.natAbs = v)) with
  | some x => decide (x < 0)
  | none => false
/-- each operation turns its node -/
def Alt (log : List Int) : Prop := ∀ i op, log[i]? = some op → outF (log.take i) op.natAbs = decide (0 < op)
section
def sp_law (K : PySem.W.Frag) : Sp := fun vs H Q E => ∃ (a : Addr) (ns : List Int), vs = [.ref a] ∧ SqL K H a (ns.map V.int) ∧ ns.length ≤ 63 ∧ ∀ H', Q (.bl true) H'
end
end G
set_option Elab.async false
set_option linter.all false
set_option maxRecDepth 100000
set_option maxHeartbeats 4000000
/-! k10: verdicts, certificates, values of many kinds. -/
namespace G
open PySem PySem.Spec PyProof.Rows L2
/-- the nodes that are out, from the least on -/
def outN (n : Nat) (O : List Bool) : List Int := (((List.range n).map fun (v : Nat) => v + 1).filter fun v => gB O v).map fun (v : Nat) => (v : Int)
theorem outN_len (n : Nat) (O : List Bool) : (outN n O).length ≤ n := by
  unfold outN
  rw [List.length_map]
  refine Nat.le_trans (List.length_filter_le _ _) ?_
  rw [List.length_map, List.length_range]
  exact Nat.le_refl _
/-! a verdict in the heap -/
def vfl (g a b w : V) : List (Str × V) := putF "whole" w (putF "index" b (putF "gap" a (putF "out_nodes" g [])))
theorem m1 : ¬ (("out_nodes" : Str) = "gap") := by decide +kernel
theorem m2 : ¬ (("out_nodes" : Str) = "index") := by decide +kernel
theorem m3 : ¬ (("out_nodes" : Str) = "whole") := by decide +kernel
theorem m4 : ¬ (("gap" : Str) = "index") := by decide +kernel
theorem m6 : ¬ (("index" : Str) = "whole") := by decide +kernel
def whB (a : V) (gone : List Int) : Bool := match a with
  | .non => decide ((gone.length : Int) = 0)
  | _ => false
structure VdAt (K : PySem.W.Frag) (H : Hp) (x g : Addr) (gone : List Int) (a b : V) : Prop where
  ob : ∃ dx, H x = some (.ins (He.ga K "Verdict") dx (vfl (.ref g) a b (.bl (whB a gone))))
  hg : H g = some (.lst (gone.map V.int))
theorem VdAt.kp {K : PySem.W.Frag} {H H' : Hp} {x g : Addr} {gone : List Int} {a b : V} {S : List Addr} (v : VdAt K H x g gone a b) (k : Kp S H H') (h1 : x ∉ S) (h2 : g ∉ S) : VdAt K H' x g gone a b := by
  obtain ⟨dx, h⟩ := v.ob
  exact ⟨⟨dx, k _ _ h1 h⟩, k _ _ h2 v.hg⟩
theorem VdAt.k0 {K : PySem.W.Frag} {H H' : Hp} {x g : Addr} {gone : List Int} {a b : V} (v : VdAt K H x g gone a b) (k : Kp [] H H') : VdAt K H' x g gone a b := v.kp k (by simp) (by simp)
/-- the certificate of a gap -/
def paper (n : Nat) (log : List Int) (i : Nat) : List V := [.str (stT (runS (wholeS n) log) i), .int (gI (bkR n log).wr i), .int (gI (bkR n log).wl i)]
def PapersAt (H : Hp) (p : Addr) (n : Nat) (log : List Int) : Prop := ∃ ps : List V, H p = some (.lst ps) ∧ ps.length = n + 1 ∧ ∀ i, i ≤ n → ∃ t, ps[i]? = some (.ref t) ∧ H t = some (.tup (paper n log i))
theorem PapersAt.k0 {H H' : Hp} {p : Addr} {n : Nat} {log : List Int} (a : PapersAt H p n log) (k : Kp [] H H') : PapersAt H' p n log := by
  obtain ⟨ps, h1, h2, h3⟩ := a
  refine ⟨ps, k.at0 h1, h2, fun i hi => ?_⟩
  obtain ⟨t, h4, h5⟩ := h3 i hi
  exact ⟨t, h4, k.at0 h5⟩
theorem PapersAt.k1 {H H' : Hp} {p b : Addr} {n : Nat} {log : List Int} (a : PapersAt H p n log) (hb : Bag H b) (ne : p ≠ b) (k : Kp [b] H H') : PapersAt H' p n log := by
  obtain ⟨ps, h1, h2, h3⟩ := a
  refine ⟨ps, k.at1 ne h1, h2, fun i hi => ?_⟩
  obtain ⟨t, h4, h5⟩ := h3 i hi
  obtain ⟨c, m, t', hb⟩ := hb
  exact ⟨t, h4, k.at1 (ne_of h5 hb (by intro z; cases z)) h5⟩
/-! values of many kinds, apart from b -/
mutual
inductive Vl (b : Addr) (H : Hp) : V → PyData → Prop
  | non : Vl b H .non .none
  | bl (k : Bool) : Vl b H (.bl k) (.bool k)
  | int (i : Int) : Vl b H (.int i) (.int i)
  | str (x : Str) : Vl b H (.str x) (.str x)
  | lst {a : Addr} {xs : List V} {ds : List PyData} : a ≠ b → H a = some (.lst xs) → VlA b H xs ds → Vl b H (.ref a) (.list ds)
  | tup {a : Addr} {xs : List V} {ds : List PyData} : a ≠ b → H a = some (.tup xs) → VlA b H xs ds → Vl b H (.ref a) (.tuple ds)
inductive VlA (b : Addr) (H : Hp) : List V → List PyData → Prop
  | nil : VlA b H [] []
  | cons {v : V} {vs : List V} {d : PyData} {ds : List PyData} : Vl b H v d → VlA b H vs ds → VlA b H (v :: vs) (d :: ds)
end
mutual
theorem Vl.kp {b : Addr} {H H' : Hp} (k : Kp [b] H H') : ∀ (d : PyData) (v : V), Vl b H v d → Vl b H' v d
  | .none, _, h => by cases h; exact .non
  | .bool b, _, h => by cases h; exact .bl b
  | .int i, _, h => by cases h; exact .int i
  | .str x, _, h => by cases h; exact .str x
  | .list ds, _, h => by
    cases h with
    | lst ne hs ha => exact .lst ne (k.at1 ne hs) (VlA.kp k ds _ ha)
  | .tuple ds, _, h => by
    cases h with
    | tup ne hs ha => exact .tup ne (k.at1 ne hs) (VlA.kp k ds _ ha)
  | .dict _, _, h => by cases h
theorem VlA.kp {b : Addr} {H H' : Hp} (k : Kp [b] H H') : ∀ (ds : List PyData) (vs : List V), VlA b H vs ds → VlA b H' vs ds
  | [], _, h => by cases h; exact .nil
  | d :: ds, _, h => by
    cases h with
    | cons h1 h2 => exact .cons (Vl.kp k d _ h1) (VlA.kp k ds _ h2)
end
theorem Vl.k0 {b : Addr} {H H' : Hp} {v : V} {d : PyData} (h : Vl b H v d) (k : Kp [] H H') : Vl b H' v d := Vl.kp k.all d v h
/-- no truth value stands where a whole number should -/
def okv : PyData → Bool
  | .tuple [_, .bool _, _] => false
  | .tuple [_, _, .bool _] => false
  | _ => true
structure Val (b : Addr) (H : Hp) (v : V) : Prop where
  ex : ∃ d, Vl b H v d ∧ SeqAt.shaped d = true ∧ okv d = true
theorem Val.k1 {b : Addr} {H H' : Hp} {v : V} (h : Val b H v) (k : Kp [b] H H') : Val b H' v := by
  obtain ⟨d, h1, h2⟩ := h.ex
  exact ⟨d, Vl.kp k d v h1, h2⟩
/-! promises -/
section
def sp_Links_outs (K : PySem.W.Frag) : Sp := fun vs H Q E => ∃ (p r l o : Addr) (s : Sd), vs = [.ref p] ∧ LinksAt K H p r l o s ∧ ∀ q H', H q = none → Kp [] H H' → H' q = some (.lst ((outN s.n s.O).map V.int)) → Q (.ref q) H'
end
end G
set_option Elab.async false
set_option linter.all false
set_option maxRecDepth 100000
set_option maxHeartbeats 4000000
/-! Texts of numbers, and of standings. -/
namespace G
open PySem PySem.Spec PyProof.Rows L2 TL
def numI (i : Int) : Str := Str.ofString (toString i)
def spS : Str := " "
def barS : Str := " | "
def joinI (l : List Int) : Str := Txt.join spS (l.map numI)
theorem tl_numI {i : Int} (h : 0 ≤ i) : tl (numI i) = numL i.toNat := by
  obtain ⟨n, rfl⟩ : ∃ n : Nat, i = (n : Int) := ⟨i.toNat, by omega⟩
  rw [Int.toNat_natCast]
  exact tl_num n
theorem tl_spS : tl spS = [32] := by decide +kernel
theorem numI_len {i : Int} (h : 0 ≤ i) (h2 : i < 1000000000) : (numI i).length ≤ 9 := by
  rw [len_tl, tl_numI h]
  exact numL_len (by decide) (by omega)
theorem joinL_len (S : List Nat) : ∀ ps : List (List Nat), (joinL S ps).length ≤ (ps.map List.length).sum + ps.length * S.length
  | [] => by simp [joinL]
  | [p] => by simp [joinL]
  | p :: q :: r => by
    have ih := joinL_len S (q :: r)
    show (p ++ (S ++ joinL S (q :: r))).length ≤ _
    simp only [List.length_append, List.map_cons, List.sum_cons, List.length_cons, Nat.add_mul, Nat.one_mul] at ih ⊢
    omega
theorem sum_le9 : ∀ {l : List Int}, (∀ i ∈ l, 0 ≤ i ∧ i < 1000000000) → ((l.map numI).map (·.length)).sum ≤ 9 * l.length
  | [], _ => by simp
  | i :: l, h => by
    have ih := sum_le9 (l := l) fun j hj => h j (List.mem_cons_of_mem _ hj)
    have h0 := h i List.mem_cons_self
    have := numI_len h0.1 h0.2
    simp only [List.map_cons, List.sum_cons, List.length_cons]
    omega
theorem joinI_len {l : List Int} (h : ∀ i ∈ l, 0 ≤ i ∧ i < 1000000000) : (joinI l).length ≤ 10 * l.length := by
  unfold joinI
  rw [len_tl, join_eq, tl_join]
  refine Nat.le_trans (joinL_len _ _) ?_
  have := sum_le9 h
  rw [tl_spS, List.map_map, List.length_map, List.length_map]
  have e : (List.map (List.length ∘ tl) (List.map numI l)).sum = ((l.map numI).map (·.length)).sum := by
    congr 1
  rw [e]
  show _ + l.length * 1 ≤ _
  omega
theorem join_cost {l : List Int} (h : ∀ i ∈ l, 0 ≤ i ∧ i < 1000000000) (hl : l.length ≤ 1000) : ((l.map numI).map (·.length)).sum + (l.map numI).length * spS.length ≤ 16777216 := by
  have := sum_le9 h
  have e : spS.length = 1 := by decide +kernel
  rw [e, List.length_map]
  omega
/-! ### a text's parts -/
def noneS : Str := "none"
/-! ### the dump -/
def outsT (l : List Int) : Str := if l = [] then noneS else joinI l
def dumpS (s : Sd) : Str := Txt.join barS [joinI s.R, joinI (s.L.drop 1), outsT (outN s.n s.O)]
theorem outN_bd {n : Nat} {O : List Bool} {i : Int} (h : i ∈ outN n O) : 1 ≤ i ∧ i ≤ n ∧ gB O i.toNat = true := by
  unfold outN at h
  obtain ⟨v, hv, rfl⟩ := List.mem_map.mp h
  obtain ⟨h1, h2⟩ := List.mem_filter.mp hv
  obtain ⟨u, hu, rfl⟩ := List.mem_map.mp h1
  have := List.mem_range.mp hu
  refine ⟨by omega, by omega, ?_⟩
  rw [Int.toNat_natCast]
  exact h2
end G
set_option Elab.async false
set_option linter.all false
set_option maxRecDepth 100000
set_option maxHeartbeats 4000000
/-! k07, k06: standings read from texts; what an operation changes. -/
namespace G
open PySem PySem.Spec PyProof.Rows L2
/-- a standing that can be read back: no left link of the head, the sentinels in -/
structure Snd (s : Sd) : Prop where
  l0 : ∃ t, s.L = 0 :: t
  o0 : gB s.O 0 = false
  o1 : gB s.O (s.n + 1) = false
/-! ### the gaps of foreign writes -/
def forW (s : Sd) (x : Nat) : List Int :=
  (if gI s.L x ≠ (x : Int) - 1 ∧ gI s.R (gI s.L x).toNat = gI s.L x + 1 then [gI s.L x] else []) ++
  (if gI s.R x ≠ (x : Int) + 1 ∧ gI s.L (gI s.R x).toNat = gI s.R x - 1 then [gI s.R x - 1] else [])
theorem forW_len (s : Sd) (x : Nat) : (forW s x).length ≤ 2 := by
  unfold forW
  rw [List.length_append]
  split <;> split <;> simp
/-! ### changes -/
abbrev Tr := Nat × Str × Str
def trV (t : Tr) : List V := [.int (t.1 : Int), .str t.2.1, .str t.2.2]
def TupsAt (H : Hp) (xs : List V) (ts : List Tr) : Prop := xs.length = ts.length ∧ ∀ (i : Nat) (t : Tr), ts[i]? = some t → ∃ a, xs[i]? = some (.ref a) ∧ H a = some (.tup (trV t))
theorem TupsAt.kp {S : List Addr} {H H' : Hp} {xs : List V} {ts : List Tr} (h : TupsAt H xs ts) (k : Kp S H H') (hS : ∀ b ∈ S, ∀ ys, H b ≠ some (.tup ys)) : TupsAt H' xs ts := by
  refine ⟨h.1, fun i t e => ?_⟩
  obtain ⟨a, h1, h2⟩ := h.2 i t e
  exact ⟨a, h1, k _ _ (fun z => hS a z _ h2) h2⟩
theorem TupsAt.k0 {H H' : Hp} {xs : List V} {ts : List Tr} (h : TupsAt H xs ts) (k : Kp [] H H') : TupsAt H' xs ts := h.kp k (by simp)
theorem TupsAt.snoc {H : Hp} {xs : List V} {ts : List Tr} {a : Addr} {t : Tr} (h : TupsAt H xs ts) (ha : H a = some (.tup (trV t))) : TupsAt H (xs ++ [.ref a]) (ts ++ [t]) := by
  refine ⟨by rw [List.length_append, List.length_append, h.1] <;> rfl, fun i u e => ?_⟩
  by_cases c : i < ts.length
  · rw [List.getElem?_append_left c] at e
    obtain ⟨b, h1, h2⟩ := h.2 i u e
    exact ⟨b, by rw [List.getElem?_append_left (by rw [h.1]; exact c)]; exact h1, h2⟩
  · have hl := (List.getElem?_eq_some_iff.mp e).1
    rw [List.length_append] at hl
    have ei : i = ts.length := by simp at hl; omega
    subst ei
    rw [List.getElem?_append_right (Nat.le_refl _), Nat.sub_self] at e
    have eu : t = u := by simpa using e
    subst eu
    exact ⟨a, by rw [List.getElem?_append_right (by rw [h.1]; exact Nat.le_refl _), h.1, Nat.sub_self] <;> rfl, ha⟩
theorem TupsAt.nil {H : Hp} : TupsAt H [] [] := ⟨rfl, fun i t e => by simp at e⟩
/-! ### promises -/
section
def Num9 (l : List Int) : Prop := ∀ i ∈ l, 0 ≤ i ∧ i < 1000000000
/-- a new list -/
def NewL (H : Hp) (xs : List V) (Q : VK) : Prop := ∀ a H', H a = none → Kp [] H H' → H' a = some (.lst xs) → Q (.ref a) H'
def Any (H : Hp) (v : V) (Q : VK) : Prop := ∀ H', Kp [] H H' → Q v H'
def sp__joined (K : PySem.W.Frag) : Sp := fun vs H Q E => ∃ (a : Addr) (l : List Int), vs = [.ref a] ∧ SqL K H a (l.map V.int) ∧ Num9 l ∧ l.length ≤ 100 ∧ Any H (.str (joinI l)) Q
def sp_dump_of (K : PySem.W.Frag) : Sp := fun vs H Q E => ∃ (r l o : Addr) (R L O : List Int), vs = [.ref r, .ref l, .ref o] ∧ SqL K H r (R.map V.int) ∧ SqL K H l (L.map V.int) ∧ SqL K H o (O.map V.int) ∧ (Num9 R ∧ R.length ≤ 100) ∧ (Num9 L ∧ L.length ≤ 100) ∧ (Num9 O ∧ O.length ≤ 100) ∧
  Any H (.str (Txt.join barS [joinI R, joinI L, outsT O])) Q
def sp_Links_dump (K : PySem.W.Frag) : Sp := fun vs H Q E => ∃ (p r l o : Addr) (s : Sd), vs = [.ref p] ∧ LinksAt K H p r l o s ∧ Any H (.str (dumpS s)) Q
def sp_foreign_writes (K : PySem.W.Frag) : Sp := fun vs H Q E => ∃ (p r l o : Addr) (s : Sd) (op : Int), vs = [.ref p, .int op] ∧ LinksAt K H p r l o s ∧ (OkOp s op → NewL H ((forW s op.natAbs).map V.int) Q) ∧ (¬ OkOp s op → OpE K s.n op 0 E H)
def legO (s : Sd) (v : Nat) : Int := if gB s.O v then (v : Int) else -(v : Int)
/-- the pairs of a gap and a state -/
def PrsAt (H : Hp) (xs : List V) (es : List (Nat × Str)) : Prop := xs.length = es.length ∧ ∀ (i : Nat) (e : Nat × Str), es[i]? = some e → ∃ a, xs[i]? = some (.ref a) ∧ H a = some (.tup [.int (e.1 : Int), .str e.2])
end
end G
set_option Elab.async false
set_option linter.all false
set_option maxRecDepth 100000
set_option maxHeartbeats 4000000
/-! Comprehensions over texts and pairs; cuts; all. -/
namespace G
open PySem PySem.Spec PyProof.Rows L2
section
variable {K : PySem.W.Frag} {σ : L2.St} {H : Hp} {Q : VK} {te : TE} {tt : TT} {g : TG} {vs : List Nat} {p : Addr} {xs ys : List V}
theorem w_slL {lo hi : Option Int} (h : SqL K H p xs) (g : ∀ q H', H q = none → Kp [] H H' → H' q = some (.lst (cutV xs lo hi)) → Q (.ref q) H') : rSlL K (.ref p) lo hi H Q := ⟨p, xs, rfl, h, nw g⟩
theorem cut_drop (xs : List V) (k : Nat) (h : k ≤ xs.length) : cutV xs (some (k : Int)) none = xs.drop k := by
  unfold cutV
  rw [HT.sIx_nat, HT.sIx_none, Nat.min_eq_left h]
  refine List.take_of_length_le ?_
  rw [List.length_drop] <;> omega
theorem cut_take (xs : List V) (k : Nat) (h : k ≤ xs.length) : cutV xs none (some (k : Int)) = xs.take k := by
  unfold cutV
  rw [HT.sIx_nat, HT.sIx_none, Nat.min_eq_left h, List.drop_zero, Nat.sub_zero]
theorem w_asu {D : Ends} {k : Nat} {ts : TGs} (h : te σ H fun v H0 => gUnl K k ts v σ H0 D.nx) : tAsg te (gUnl K k ts) D σ H := h
theorem rep_snoc {α : Type} (n : Nat) (x : α) : List.replicate (n + 1) x = List.replicate n x ++ [x] := List.replicate_succ'
theorem map_snoc {l : List Int} {i : Nat} {x : Int} {f : Int → V} (h : l[i]? = some x) : (l.take (i + 1)).map f = (l.take i).map f ++ [f x] := by
  rw [List.take_succ, h, List.map_append] <;> rfl
end
/-! ### joins behind an if -/
section
variable {σ : L2.St} {H : Hp} {s1 s2 a b : TS} {t : TT} {D : Ends}
def SeqIf (t : TT) (a b s2 : TS) : TS := tSeq (tIfS t a b) s2
theorem w_seqI (g : SeqIf t a b s2 D σ H) : tSeq (tIfS t a b) s2 D σ H := g
theorem w_ifK (P : Hp → Prop) (h1 : ∀ N : L2.St → Hp → Prop, (∀ H', P H' → N σ H') → tIfS t a b { D with nx := N } σ H) (h2 : ∀ H', P H' → s2 D σ H') : SeqIf t a b s2 D σ H := h1 _ h2
theorem w_ifJ (P : L2.St → Hp → Prop) (h1 : ∀ N : L2.St → Hp → Prop, (∀ σ' H', P σ' H' → N σ' H') → tIfS t a b { D with nx := N } σ H) (h2 : ∀ σ' H', P σ' H' → s2 D σ' H') : SeqIf t a b s2 D σ H := h1 _ h2
end
section
variable {K : PySem.W.Frag} {H : Hp} {Q : VK}
theorem w_isiS {x : Str} {t : String} {r : Bool} (h : kitB "str" t = some r) (g : Q (.bl r) H) : rIsi K [.str x, .ty t] H Q := ⟨_, _, _, _, r, rfl, .ty t, .base (.str x), kit_ty h, g⟩
theorem w_neT {p q : Addr} {xs : List V} {ds : List PyData} (h1 : H p = some (.tup xs)) (h2 : H q = some (.tup xs)) (d : DpAll K H xs ds) (s : SeqAt.shaped (.tuple ds) = true) (g : Q (.bl false) H) : rNeA K (.ref p) (.ref q) H Q :=
  w_neD (.tup (SqT.of h1) d) (.tup (SqT.of h2) d) s s (by
    rw [SeqAt.eqv_refl _ (SeqAt.canLay_of_shaped s)]
    exact g)
end
end G
set_option Elab.async false
set_option linter.all false
set_option maxRecDepth 100000
set_option maxHeartbeats 4000000
/-! for over a tuple, a list, where an exception is handled. -/
set_option Elab.async false
set_option linter.all false
set_option maxRecDepth 100000
set_option maxHeartbeats 4000000
/-! xs[lo::k], `in` over data of any depth. -/
set_option Elab.async false
set_option linter.all false
set_option maxRecDepth 100000
set_option maxHeartbeats 1000000
/-! Words with a sign; f"{x:+d}". -/
set_option Elab.async false
set_option linter.all false
set_option maxRecDepth 100000
set_option maxHeartbeats 1000000
set_option Elab.async false
set_option linter.all false
set_option maxRecDepth 100000
set_option maxHeartbeats 1000000
/-! Words of logs, the text of a log, pieces of texts. -/
namespace G
open PySem PySem.Spec PyProof.Rows L2 TL NumText
def spC : Str := " "
theorem tl_spC : tl spC = [32] := by decide +kernel
def posL (cs : List Nat) : Bool := decide (cs ≠ [] ∧ cs.length ≤ 9 ∧ cs.head? ≠ some 48) && cs.all fun c => decide (48 ≤ c ∧ c ≤ 57)
def okW (w : Str) : Bool := match tl w with
  | [] => false
  | c :: cs => decide (c = 43 ∨ c = 45) && posL cs
def valW (w : Str) : Int := match tl w with
  | [] => 0
  | c :: cs => if c = 45 then -((digitsVal cs : Nat) : Int) else ((digitsVal cs : Nat) : Int)
/-! ### the numbers of a log -/
def wordsT (t : Str) : List Str := if t = "" then [] else Txt.split t spC
def badW (ws : List Str) : Option Nat := ws.findIdx? fun w => !okW w
/-! ### lengths -/
def sumL (ws : List Str) : Nat := (ws.map (·.length)).sum
theorem spl_sum : ∀ (l acc : List Nat), ((spl [32] 0 acc l).map List.length).sum ≤ acc.length + l.length ∧ (spl [32] 0 acc l).length ≤ l.length + 1 ∧ spl [32] 0 acc l ≠ []
  | [], acc => by
    rw [spl_nil]
    refine ⟨by simp, by simp, by simp⟩
  | c :: r, acc => by
    cases h : pre [32] (c :: r) with
    | true =>
      rw [spl_hit h]
      obtain ⟨i1, i2, i3⟩ := spl_sum r []
      show ((acc :: spl [32] 0 [] r).map List.length).sum ≤ _ ∧ (acc :: spl [32] 0 [] r).length ≤ _ ∧ acc :: spl [32] 0 [] r ≠ []
      refine ⟨?_, ?_, by simp⟩
      · simp only [List.map_cons, List.sum_cons, List.length_cons, List.length_nil] at i1 ⊢
        omega
      · simp only [List.length_cons] at i2 ⊢
        omega
    | false =>
      rw [spl_miss h]
      obtain ⟨i1, i2, i3⟩ := spl_sum r (acc ++ [c])
      refine ⟨?_, ?_, i3⟩
      · simp only [List.length_append, List.length_cons, List.length_nil] at i1 ⊢
        omega
      · simp only [List.length_cons] at i2 ⊢
        omega
theorem split_sum (t : Str) : sumL (Txt.split t spC) ≤ t.length ∧ (Txt.split t spC).length ≤ t.length + 1 ∧ Txt.split t spC ≠ [] := by
  have e := split_spl t spC (by rw [tl_spC]; simp) (kind_ok (by decide +kernel))
  rw [tl_spC] at e
  obtain ⟨h1, h2, h3⟩ := spl_sum (tl t) []
  rw [← e] at h1 h2 h3
  refine ⟨?_, ?_, fun z => h3 (by rw [z] <;> rfl)⟩
  · have : (List.map List.length ((Txt.split t spC).map tl)).sum = sumL (Txt.split t spC) := by
      unfold sumL
      rw [List.map_map]
      congr 1
    rw [this] at h1
    rw [len_tl]
    simpa using h1
  · rw [List.length_map] at h2
    rw [len_tl]
    exact h2
end G
set_option Elab.async false
set_option linter.all false
set_option maxRecDepth 100000
set_option maxHeartbeats 4000000
/-! Steps over texts: cuts, signs that are not in a text, insert, f"{x:+d}". -/
set_option Elab.async false
set_option linter.all false
set_option maxRecDepth 100000
set_option maxHeartbeats 4000000
/-! Two clauses under one name. -/
namespace G
open PySem PySem.Spec PyProof.Rows L2
/-- an except clause of the text with the name y: the class it names, what its suite does -/
structure Cls1 (Y : Cx) (y : Str) (hd : ExceptHandler) (kl : Value) (su : Addr → Value → Option Addr → TS) : Prop where
  ex : ∃ (nm : Str) (p1 p2 : Pos) (st : Stmt) (sts : List Stmt), hd = .ExceptHandler (some (.Name nm p1)) (some y) (st :: sts) p2 ∧ Names Y nm kl ∧
    ∀ (e : Addr) (ob : Obj) (kc : Value) (dd : Option Addr) (pp : List (Addr × Obj)), L2N.Zn kc dd ob → (∃ fs, ob.data = .fields fs) → PSs (Y.suite e ((e, ob) :: pp)) (st :: sts) (su e kc dd)
/-- what stands of an error that has come down to its try -/
structure Down (Y : Cx) (pp : List (Addr × Obj)) (τ : L2.St) (G0 : Hp) (e : Addr) (kc : Value) (dd : Option Addr) (B : Heap) (u0 : Shared) (u : Shared) (g : Heap) : Prop where
  inv : Inv Y pp τ G0 u0
  keep : ∀ b o, u0.heap.get? b = some o → b ∉ frs Y.stack → B.get? b = some o
  slots : u0.heap.UpToSlots g
  fly : PySem.HandSPX.FlyingZ B (Y.env :: Y.outer) e (L2N.Zn kc dd) g
  nw : G0 e = none
  os : u.os = u0.os
  bare : AllBare u.gens
  nl : e ≠ Y.env.locals
  nf : e ∉ Y.fs
section
variable {Y : Cx} {y : Str} {k : Nat} {pp : List (Addr × Obj)} {τ : L2.St} {G0 : Hp} {e : Addr} {kc : Value} {dd : Option Addr} {B : Heap} {u0 u : Shared} {g : Heap} {D : Ends} {Wo : WX}
/-- what the clauses from here on do with it -/
def After (Y : Cx) (pp : List (Addr × Obj)) (D : Ends) (e : Addr) (hds : List ExceptHandler) (u : Shared) (g : Heap) : Prop :=
  wpAny (model Y.prog Y.w) Y.A (handleBy (.ref e) Y.env hds) (SP Y pp D) Y.xe { u with heap := g }
theorem Down.held (d0 : Down Y pp τ G0 e kc dd B u0 u g) : Inv Y pp τ G0 { u with heap := g } := Inv.landed d0.inv d0.keep d0.fly.1 d0.slots d0.os d0.bare
/-- no clause takes it: it goes on -/
theorem after_none (sk : Y.stack = Y.env :: Y.outer) (fr : Y.env.frame = some Y.env.locals) (tk : L2N.Takes Y Wo) (d0 : Down Y pp τ G0 e kc dd B u0 u g) (w : Wo kc dd τ G0) : After Y pp D e [] u g := by
  refine wpAny_handleBy_nil ?_
  obtain ⟨-, -, -, ob, fs, T, -, -, hob, -, hfs, h1, -⟩ := id d0.fly
  unfold PySem.passOn
  refine wpAny_bind (wpAny_field hob hfs h1 ?_)
  rw [if_neg (by simp : ¬ ((Value.ref T == Value.none) = true))]
  have out : wpAny (model Y.prog Y.w) Y.A (setFlight (.ref e) Y.env.frame) (fun _ v => wpAny (model Y.prog Y.w) Y.A (throw (.ref e) : Sem Flow) (SP Y pp D) Y.xe v) Y.xe { u with heap := g } := by
    rw [fr]
    exact HandSPX.setFlight_upZ d0.fly fun g2 hh2 up2 => wpAny_throw (tk _ _ ⟨e, B, u0, pp, τ, G0, kc, dd, rfl, d0.inv, d0.keep, d0.slots.trans up2, .inr (.inr (sk ▸ hh2)), d0.nw, d0.os, d0.bare, w⟩)
  first
    | exact wpAny_bind (wpAny_pure (wpAny_bind out))
    | exact wpAny_bind out
/-- one clause, the others behind it -/
theorem after_one {hd : ExceptHandler} {hds : List ExceptHandler} {kl : Value} {su : Addr → Value → Option Addr → TS} (nd : Y.N.Nodup) (at_ : Y.N[k]? = some y) (lo : Y.env.kindOf y = some .local) (c : Cls1 Y y hd kl su)
    (rest : ∀ g2, Down Y pp τ G0 e kc dd B u0 u g2 → Wo kc dd τ G0 → After Y pp D e hds u g2) (d0 : Down Y pp τ G0 e kc dd B u0 u g) (w : wAs Y.K kl k su Wo D kc dd τ G0) : After Y pp D e (hd :: hds) u g := by
  obtain ⟨nm, p1, p2, st, sts, rfl, hn, hs⟩ := c.ex
  obtain ⟨hit, m1, yes, no⟩ := w
  obtain ⟨ob, fs, hob, hz, hfs⟩ := d0.fly.there
  have J := d0.held
  have here : Inv (Y.suite e ((e, ob) :: (Y.pn ++ pp))) [] τ G0 { u with heap := g } := J.suite hob hfs d0.nw d0.nl d0.nf
  have told := PySem.W.exm_one (M := model Y.prog Y.w) J.kIn (fun A Q E s keep q => wpAny_typeOf_ref (keep _ _ hob) (by rw [hz.1]; exact q) : PySem.W.Looks (model Y.prog Y.w) g (typeOf (.ref e)) kc) m1
  have name_ : ∀ {Q : Value → Shared → Prop} {E : Value → Shared → Prop}, Q kl { u with heap := g } → wpAny (model Y.prog Y.w) (Y.A.mark (some (.ref e))) (eval (.Name nm p1) Y.env) Q E { u with heap := g } := fun {Q E} q => by
    rcases hn with ⟨hg, hb, m | ⟨m, v, nn⟩⟩
    · exact ld_glob (X := Y.suite e ((e, ob) :: (Y.pn ++ pp))) here hg m q hb
    · exact ld_blt (X := Y.suite e ((e, ob) :: (Y.pn ++ pp))) here hg m v q nn hb
  refine wpAny_handleBy_cons (codeAny_handlers_test (name_ (told.here ?_))) (by rintro ⟨⟩)
  cases hit with
  | false => exact rest g d0 (no rfl)
  | true =>
    refine codeAny_handlers_suite_as (HandSPX.lands_againZ d0.fly fun g2 f2 up2 => ?_)
    have d2 : Down Y pp τ G0 e kc dd B u0 u g2 := { d0 with slots := d0.slots.trans up2, fly := f2 }
    obtain ⟨ob2, fs2, hob2, hz2, hfs2⟩ := f2.there
    have here2 := d2.held.suite hob2 hfs2 d0.nw d0.nl d0.nf
    refine store_ok (X := Y.suite e ((e, ob2) :: (Y.pn ++ pp))) (v := .ref e) here2 nd at_ (.inl lo) rfl (fun u5 I5 => ?_) (.inr lo)
    have bye : ∀ {τ6 : L2.St} {G6 : Hp} {u6 : Shared} {R : Shared → Prop}, Inv (Y.suite e ((e, ob2) :: (Y.pn ++ pp))) [] τ6 G6 u6 → (∀ u7, Inv Y pp (τ6.set k none) G6 u7 → R u7) →
        wpAny (model Y.prog Y.w) Y.A (do bindName Y.env y .none; unbindBehindTheSuite Y.env y p2) (fun _ u7 => R u7) Y.xe u6 := fun i6 q => gone_ok (i6.unsuite J.ok) nd at_ lo q
    refine wpAny_mono ((hs e ob2 kc dd (Y.pn ++ pp) hz2 ⟨_, hfs2⟩).run [] u5 _ G0 _ I5 (yes rfl e d0.nw)) (fun fl u6 sp => ?_) (fun _ _ z => z.elim)
    rcases fl with _ | _ | _ | v
    · obtain ⟨τ6, G6, i6, q6⟩ := sp
      exact bye i6 fun u7 j7 => ⟨_, _, j7, q6⟩
    · obtain ⟨τ6, G6, i6, q6⟩ := sp
      exact bye i6 fun u7 j7 => ⟨_, _, j7, q6⟩
    · obtain ⟨τ6, G6, i6, q6⟩ := sp
      exact bye i6 fun u7 j7 => ⟨_, _, j7, q6⟩
    · obtain ⟨v6, τ6, G6, i6, r6, q6⟩ := sp
      exact bye i6 fun u7 j7 => ⟨_, _, _, j7, r6, q6⟩
end
end G
set_option Elab.async false
set_option linter.all false
set_option maxRecDepth 100000
set_option maxHeartbeats 4000000
/-! == with data of another kind, len and str by an own method, len(range(..)). -/
set_option Elab.async false
set_option linter.all false
set_option maxRecDepth 100000
set_option maxHeartbeats 4000000
/-! Generators by a method, `in` by an own method, comprehensions over reversed lists. -/
set_option Elab.async false
set_option linter.all false
set_option maxRecDepth 100000
set_option maxHeartbeats 4000000
/-! a < b < c < d. -/
set_option Elab.async false
set_option linter.all false
set_option maxRecDepth 100000
set_option maxHeartbeats 4000000
/-! {elt for x in xs}, elt a whole number that leaves the heap as it is; sorted of it. -/
set_option Elab.async false
set_option linter.all false
set_option maxRecDepth 100000
set_option maxHeartbeats 4000000
/-! shared small facts: == of lists of numbers; reverse. -/
namespace G
open PySem PySem.Spec PyProof.Rows L2
section
variable {K : PySem.W.Frag}
theorem dpZ {H : Hp} : ∀ xs : List Int, DpAll K H (xs.map V.int) (xs.map PyData.int)
  | [] => .nil
  | x :: xs => .cons (.int x) (dpZ xs)
theorem layZ : ∀ xs : List Int, PyData.canLayAll0 (xs.map PyData.int) = true
  | [] => rfl
  | x :: xs => by
    show PyData.canLayAll0 (PyData.int x :: xs.map PyData.int) = true
    rw [PyData.canLayAll0, layZ xs] <;> rfl
theorem depZ : ∀ xs : List Int, PyData.depthAll (xs.map PyData.int) ≤ 1
  | [] => by simp [PyData.depthAll]
  | x :: xs => by
    have := depZ xs
    show PyData.depthAll (PyData.int x :: xs.map PyData.int) ≤ 1
    rw [PyData.depthAll]
    simp [PyData.depth]
    omega
theorem shZ (xs : List Int) : SeqAt.shaped (.list (xs.map PyData.int)) = true := by
  unfold SeqAt.shaped
  rw [PyData.canLay0, layZ, PyData.depth]
  have := depZ xs
  simp
  omega
theorem eqvZ : ∀ xs ys : List Int, PyData.eqvAll (xs.map PyData.int) (ys.map PyData.int) = decide (xs = ys)
  | [], [] => by simp [PyData.eqvAll]
  | [], y :: ys => by simp [PyData.eqvAll]
  | x :: xs, [] => by simp [PyData.eqvAll]
  | x :: xs, y :: ys => by
    show PyData.eqvAll (PyData.int x :: xs.map PyData.int) (PyData.int y :: ys.map PyData.int) = _
    rw [PyData.eqvAll, eqvZ xs ys, PyData.eqv]
    by_cases h : x = y <;> by_cases h2 : xs = ys <;> simp [h, h2]
theorem w_eqLZ {H : Hp} {Q : VK} {p q : Addr} {xs ys : List Int} (h1 : H p = some (.lst (xs.map V.int))) (h2 : H q = some (.lst (ys.map V.int))) (g : Q (.bl (decide (xs = ys))) H) : rEqA K (.ref p) (.ref q) H Q :=
  w_eqD (.lst (SqL.of h1) (dpZ xs)) (.lst (SqL.of h2) (dpZ ys)) (shZ xs) (shZ ys) (by
    rw [PyData.eqv, eqvZ]
    exact g)
end
end G
set_option Elab.async false
set_option linter.all false
set_option maxRecDepth 100000
set_option maxHeartbeats 4000000
/-! tables of sets laid anew, for the masks that a union meets. -/
namespace G
open PySem PySem.Spec PyProof.Rows L2
def MaskU (m : Nat) : Prop := m = 7 ∨ m = 15 ∨ m = 31 ∨ m = 63 ∨ m = 127 ∨ m = 255
def rnd (m : Nat) : Bool := ((List.range (m + 1)).all fun j => (List.range (m + 1)).any fun b => lcgN m b == j) && (lcgN m (m + 1) == 0)
theorem rnd_all {m : Nat} (h : MaskU m) : rnd m = true := by
  rcases h with e | e | e | e | e | e <;> subst e <;> decide +kernel
/-- i -> 5 i + 1 comes around to every place, from every place -/
theorem rnd_any {m i j : Nat} (h : MaskU m) (hi : i ≤ m) (hj : j ≤ m) : ∃ k, k ≤ m ∧ lcgI m i k = j := by
  have z := rnd_all h
  unfold rnd at z
  rw [Bool.and_eq_true, List.all_eq_true, beq_iff_eq] at z
  obtain ⟨z1, z2⟩ := z
  have at_ : ∀ j, j ≤ m → ∃ b, b ≤ m ∧ lcgN m b = j := fun j hj => by
    obtain ⟨b, hb, e⟩ := List.any_eq_true.mp (z1 j (List.mem_range.mpr (Nat.lt_succ_of_le hj)))
    exact ⟨b, Nat.le_of_lt_succ (List.mem_range.mp hb), beq_iff_eq.mp e⟩
  obtain ⟨a, ha, ea⟩ := at_ i hi
  obtain ⟨b, hb, eb⟩ := at_ j hj
  by_cases c : a ≤ b
  · refine ⟨b - a, by omega, ?_⟩
    rw [← ea, lcgN_add, show a + (b - a) = b by omega, eb]
  · -- once more around
    refine ⟨(m + 1 - a) + b, by omega, ?_⟩
    have more : ∀ k, lcgI m 0 k = lcgN m k := fun k => by
      have := lcgN_add m 0 k
      rw [Nat.zero_add] at this
      exact this
    have split : ∀ x k l, lcgI m x (k + l) = lcgI m (lcgI m x k) l := fun x k l => by
      induction l with
      | zero => rfl
      | succ l ih => show (lcgI m x (k + l) * 5 + 1) % (m + 1) = _; rw [ih]; rfl
    rw [split, ← ea, lcgN_add, show a + (m + 1 - a) = m + 1 by omega, z2, more, eb]
/-- a free place is found -/
theorem free_ok {m : Nat} (hm : MaskU m) (owner : Array (Option Nat)) (x : Int) {j : Nat} (hj : j ≤ m) (hf : oAt owner j = none) :
    ∃ j', SetTable.layClean.free m owner (SetTable.turns m) (SetTable.bits x % (m + 1)) (SetTable.bits x) = some j' ∧ j' ≤ m ∧ oAt owner j' = none := by
  obtain ⟨k, hk, ek⟩ := rnd_any hm (runI_le m (SetTable.bits x) 12) hj
  rw [← runI_tail (bits_lt x)] at ek
  have start : ∀ n, (nth m (runAt m (SetTable.bits x % (m + 1)) (SetTable.bits x)) (off m (SetTable.bits x % (m + 1)) (SetTable.bits x) n)).j = runI m (SetTable.bits x) n := fun n => by
    rw [nth_off, itL_run]
    rfl
  obtain ⟨K, k1, k2, k3⟩ := st_least (p := fun q => oAt owner (nth m (runAt m (SetTable.bits x % (m + 1)) (SetTable.bits x)) q).j = none) _ (show oAt owner (nth m (runAt m (SetTable.bits x % (m + 1)) (SetTable.bits x)) (off m (SetTable.bits x % (m + 1)) (SetTable.bits x) (12 + k))).j = none by rw [start, ek]; exact hf)
  have r0 := runI_le m (SetTable.bits x) 0
  have rb := runEnd_bd (m := m) (i := SetTable.bits x % (m + 1)) r0
  refine ⟨_, free_spec m owner (SetTable.turns m) (12 + k) _ _ K (by unfold SetTable.turns; omega) k1 (fun q hq => ?_) (by rw [show oAt owner _ = none from k2]; rfl), ?_, k2⟩
  · cases z : oAt owner (nth m (runAt m (SetTable.bits x % (m + 1)) (SetTable.bits x)) q).j with
    | none => exact absurd z (k3 q hq)
    | some _ => rfl
  · have := nth_in K (runAt m (SetTable.bits x % (m + 1)) (SetTable.bits x)) (show SetTable.bits x % (m + 1) + (SetTable.runEnd m (SetTable.bits x % (m + 1)) - SetTable.bits x % (m + 1)) ≤ m by omega)
    omega
end G
set_option Elab.async false
set_option linter.all false
set_option maxRecDepth 100000
set_option maxHeartbeats 4000000
/-! a set of whole numbers with all that its table is. -/
set_option Elab.async false
set_option linter.all false
set_option maxRecDepth 100000
set_option maxHeartbeats 4000000
/-! a set of whole numbers walked. -/
set_option Elab.async false
set_option linter.all false
set_option maxRecDepth 100000
set_option maxHeartbeats 4000000
/-! a set merged into another. -/
set_option Elab.async false
set_option linter.all false
set_option maxRecDepth 100000
set_option maxHeartbeats 4000000
/-! a | b of sets of whole numbers. -/
set_option Elab.async false
set_option linter.all false
set_option maxRecDepth 100000
set_option maxHeartbeats 4000000
/-! set(xs) of a list of whole numbers; what a def sees of it, of a | b. -/
set_option Elab.async false
set_option linter.all false
set_option maxRecDepth 100000
set_option maxHeartbeats 1000000
namespace G
open PySem PySem.Spec PyProof.Rows L2
/-! f(e, .., k = v): a def with keyword-only parameters, called with keywords -/
structure CalK (P : Program) (w : World) (K : PySem.W.Frag) (mg : Str → Option Value) (base : Heap) (k : Nat) (x : Str) (ps : List Str) (n : Nat) (ks : List Str) (sp : Sp) : Prop where
  ex : ∃ (f : Addr) (fd : FuncData) (g : List Value → List Value → List Value), FnOk P w K mg base (L2N.CX P w) k f fd ps sp ∧ mg x = some (.ref f) ∧ PySem.W.keepIn K (.ref f) = true ∧ KBn K fd ps n ks g (fun vs zs => vs ++ zs)
def tClK (n m : Nat) (sp : Sp) (E : L2.St → XK) (t tk : TA) : TE := fun σ H Q => tCallN n m sp (fun vs zs => vs ++ zs) (E σ) t tk σ H Q
section
variable {X : Cx} {j k n : Nat} {x : Str} {ps ks : List Str} {sp : Sp} {E : L2.St → XK} {p pos : Pos} {e : Expr} {es : List Expr} {kws : List Keyword} {t tk : TA}
theorem run_fnK {pins : List (Addr × Obj)} {σ : L2.St} {H : Hp} {s : Shared} {Q : VK} {f : Addr} {fd : FuncData} {us ws : List Value} {vs zs : List V} {E : XK} {g : List Value → List Value → List Value} {gV : List V → List V → List V} (F : FnOk X.prog X.w X.K X.mg X.base (L2N.CX X.prog X.w) k f fd ps sp) (hr : Room k X.A) (hb : KBn X.K fd ps n ks g gV) (hx : PassesAt (L2N.CX X.prog X.w) X σ E)
    (I : Inv X pins σ H s) (r : Vals vs us) (rz : Vals zs ws) (l1 : vs.length = n) (l2 : zs.length = ks.length) (h : sp (gV vs zs) H Q E) : wpAny (model X.prog X.w) X.A (call (.ref f) us (ks.zip ws)) (EP X pins σ Q) X.xe s := by
  refine wpAny_call (codeAny_mono (F.run X.A X.stack s H ⟨us, ks.zip ws⟩ (g us ws) (gV vs zs) Q E hr I.env0 (hb.to s us ws I.kIn (r.length.symm.trans l1) (rz.length.symm.trans l2)) (hb.rel r rz) h) fun y s' hq => ?_)
  cases y with
  | error er => exact hx pins H s er s' I hq
  | ok fl =>
    cases fl with
    | ret u => exact I.after hq
    | next => exact False.elim hq
    | brk => exact False.elim hq
    | cont => exact False.elim hq
theorem pe_clK (c : CalK X.prog X.w X.K X.mg X.base k x ps n ks sp) (hr : Room j X.A) (hk : k ≤ j) (hx : PAt X E) (ha : PA X (e :: es) t) (hkw : PK X kws tk) (hg : Gl X x := by rfl)
    (hall : (backToKw pos (keywordEach kws X.env)).all (·.1.isSome) = true := by rfl) (hks : (backToKw pos (keywordEach kws X.env)).filterMap (·.1) = ks := by rfl)
    (hdb : (x == ("__debug__" : Str)) = false := by decide) (he : starEach (e :: es) X.env = (false, eval e X.env) :: starEach es X.env := by rfl)
    (hpl : ((backTo pos (starEach (e :: es) X.env)).any (·.1) || (backToKw pos (keywordEach kws X.env)).any (·.1.isNone)) = false := by rfl) : PE X (.Call (.Name x p) (e :: es) kws pos) (tClK n ks.length sp E t tk) := by
  obtain ⟨f, fd, g, F, hm, kp, hb⟩ := c.ex
  refine ⟨fun pins s σ H Q I h => ?_⟩
  refine wpAny_Call_Name_kw (ld_glob I hg hm (PySem.W.callWith_KW (h₀ := X.base) I.ok.mod.kin kp hall (thn (ha.run pos pins s σ H _ I h) fun us sa ⟨vs, Ha, Ia, ra, qa⟩ => thn (hkw.run pos pins sa σ Ha _ Ia qa) fun ws sb ⟨zs, Hb, Ib, rz, l1, l2, qb⟩ => ⟨Ib.kIn, ?_⟩) hpl he) hdb)
  rw [hks]
  exact run_fnK F (hr.mono hk) hb (hx σ) Ib ra rz l1 l2 qb
theorem w_clK {σ : L2.St} {H : Hp} {Q : VK} (h : t σ H fun vs H1 => tk σ H1 fun zs H2 => vs.length = n ∧ zs.length = m ∧ sp (vs ++ zs) H2 Q (E σ)) : tClK n m sp E t tk σ H Q := h
end
section
variable {K : PySem.W.Frag} {x qual : Str} {params : Arguments} {body : List Stmt} {scope : Scope} {kws : List (Str × V)} {f : Addr} {fd : FuncData} {ps : List Str}
theorem kbn_all (F : FunD K x qual params body scope [] kws f fd) (n : Nat) (ks : List Str) (hk : kws ≠ [])
    (h : ∀ (D : Addr) (doc pm : Value) (an : Option Addr) (cdv ct : Value) (us ws : List Value), us.length = n → ws.length = ks.length → bindArgs (PySem.W.fnOf x qual params body scope .none (.ref D) doc pm an cdv ct) ⟨us, ks.zip ws⟩ = pure (ps.zip (us ++ ws))) :
    ∃ g : List Value → List Value → List Value, KBn K fd ps n ks g (fun vs zs => vs ++ zs) := by
  obtain ⟨mv, hb⟩ := F.kbinds0 n ks [] (fun us _ ws => us ++ ws) hk (fun q hq => by cases hq) (fun r1 _ r3 => r1.append r3) fun D doc pm an cdv ct us mv ws l1 _ l3 => by
    exact h D doc pm an cdv ct us ws l1 l3
  exact ⟨_, hb⟩
end
end G
set_option Elab.async false
set_option linter.all false
set_option maxRecDepth 100000
set_option maxHeartbeats 2000000
/-! comprehensions while an exception is handled -/
set_option Elab.async false
set_option linter.all false
set_option maxRecDepth 100000
set_option maxHeartbeats 2000000
/-! a list comprehension while an exception is handled -/
set_option Elab.async false
set_option linter.all false
set_option maxRecDepth 100000
set_option maxHeartbeats 2000000
/-! methods called, ranges walked while an exception is handled -/
set_option Elab.async false
set_option linter.all false
set_option maxRecDepth 100000
set_option maxHeartbeats 4000000
/-! One clause that gives the error no name. -/
namespace G
open PySem PySem.Spec PyProof.Rows L2
/-- an except clause of the text without a name: the class it names, what its suite does -/
structure Cls0 (Y : Cx) (hd : ExceptHandler) (kl : Value) (su : Addr → Value → Option Addr → TS) : Prop where
  ex : ∃ (nm : Str) (p1 p2 : Pos) (st : Stmt) (sts : List Stmt), hd = .ExceptHandler (some (.Name nm p1)) none (st :: sts) p2 ∧ Names Y nm kl ∧
    ∀ (e : Addr) (ob : Obj) (kc : Value) (dd : Option Addr) (pp : List (Addr × Obj)), L2N.Zn kc dd ob → (∃ fs, ob.data = .fields fs) → PSs (Y.suite e ((e, ob) :: pp)) (st :: sts) (su e kc dd)
section
variable {Y : Cx} {k : Nat} {pp : List (Addr × Obj)} {τ : L2.St} {G0 : Hp} {e : Addr} {kc : Value} {dd : Option Addr} {B : Heap} {u0 u : Shared} {g : Heap} {D : Ends} {Wo : WX}
theorem after_bare {hd : ExceptHandler} {hds : List ExceptHandler} {kl : Value} {su : Addr → Value → Option Addr → TS} (c : Cls0 Y hd kl su)
    (rest : ∀ g2, Down Y pp τ G0 e kc dd B u0 u g2 → Wo kc dd τ G0 → After Y pp D e hds u g2) (d0 : Down Y pp τ G0 e kc dd B u0 u g) (w : wOnly Y.K kl su Wo D kc dd τ G0) : After Y pp D e (hd :: hds) u g := by
  obtain ⟨nm, p1, p2, st, sts, rfl, hn, hs⟩ := c.ex
  obtain ⟨hit, m1, yes, no⟩ := w
  obtain ⟨ob, fs, hob, hz, hfs⟩ := d0.fly.there
  have J := d0.held
  have here : Inv (Y.suite e ((e, ob) :: (Y.pn ++ pp))) [] τ G0 { u with heap := g } := J.suite hob hfs d0.nw d0.nl d0.nf
  have told := PySem.W.exm_one (M := model Y.prog Y.w) J.kIn (fun A Q E s keep q => wpAny_typeOf_ref (keep _ _ hob) (by rw [hz.1]; exact q) : PySem.W.Looks (model Y.prog Y.w) g (typeOf (.ref e)) kc) m1
  have name_ : ∀ {Q : Value → Shared → Prop} {E : Value → Shared → Prop}, Q kl { u with heap := g } → wpAny (model Y.prog Y.w) (Y.A.mark (some (.ref e))) (eval (.Name nm p1) Y.env) Q E { u with heap := g } := fun {Q E} q => by
    rcases hn with ⟨hg, hb, m | ⟨m, v, nn⟩⟩
    · exact ld_glob (X := Y.suite e ((e, ob) :: (Y.pn ++ pp))) here hg m q hb
    · exact ld_blt (X := Y.suite e ((e, ob) :: (Y.pn ++ pp))) here hg m v q nn hb
  refine wpAny_handleBy_cons (codeAny_handlers_test (name_ (told.here ?_))) (by rintro ⟨⟩)
  cases hit with
  | false => exact rest g d0 (no rfl)
  | true =>
    refine codeAny_handlers_suite (HandSPX.lands_againZ d0.fly fun g2 f2 up2 => ?_)
    have d2 : Down Y pp τ G0 e kc dd B u0 u g2 := { d0 with slots := d0.slots.trans up2, fly := f2 }
    obtain ⟨ob2, fs2, hob2, hz2, hfs2⟩ := f2.there
    have here2 := d2.held.suite hob2 hfs2 d0.nw d0.nl d0.nf
    refine wpAny_mono ((hs e ob2 kc dd (Y.pn ++ pp) hz2 ⟨_, hfs2⟩).run [] _ _ G0 _ here2 (yes rfl e d0.nw)) (fun fl u6 sp => ?_) (fun _ _ z => z.elim)
    rcases fl with _ | _ | _ | v
    · obtain ⟨τ6, G6, i6, q6⟩ := sp
      exact ⟨_, _, i6.unsuite J.ok, q6⟩
    · obtain ⟨τ6, G6, i6, q6⟩ := sp
      exact ⟨_, _, i6.unsuite J.ok, q6⟩
    · obtain ⟨τ6, G6, i6, q6⟩ := sp
      exact ⟨_, _, i6.unsuite J.ok, q6⟩
    · obtain ⟨v6, τ6, G6, i6, r6, q6⟩ := sp
      exact ⟨_, _, _, i6.unsuite J.ok, r6, q6⟩
end
end G
set_option Elab.async false
set_option linter.all false
set_option maxRecDepth 100000
set_option maxHeartbeats 4000000
/-! super().m(..) in a method of an own class. -/
namespace G
open PySem PySem.Spec PyProof.Rows L2 NdefX
/-- what the running method's frame tells: its class D is captured -/
structure SupOk (X : Cx) (D : Addr) (sf : Str) : Prop where
  ks : X.env.kindOf "super" = some .globalImplicit
  kc : X.env.kindOf "__class__" = some .free
  gs : X.mg "super" = none
  fn : ∃ f fo fd ar, X.env.func = some f ∧ X.K.lookup f = some fo ∧ fo.data = .func fd ∧ (fd.params.posonlyargs ++ fd.params.args).head? = some ar ∧ ar.arg = sf
  self0 : X.N[0]? = some sf
  selfL : X.env.scope.names.lookup sf = some .local
  code : ∃ cc oc vs file tf, X.env.code = .ref cc ∧ X.K.lookup cc = some oc ∧ oc.data = .fields vs ∧ vs[2]? = some (.str file tf) ∧ ((X.prog.main.file : Str) == file) = true
  top : (X.prog.main.scope.names.lookup ("super" : Str)).isSome = false
  cel : ∃ c oc, X.env.cells.lookup ("__class__" : Str) = some c ∧ X.K.lookup c = some oc ∧ oc.data = .cell (some (.ref D))
/-- the method m behind the class D in the order of the class C is f2 -/
structure SupTo (K : PySem.W.Frag) (C D : Addr) (m : Str) (f2 : Addr) : Prop where
  cd : ∃ cd, PySem.W.clsIn K C = some cd ∧ PySem.W.alongIn K m ((cd.mro.dropWhile (· != .ref D)).drop 1) = some (some (.ref f2))
  sub : PySem.W.mroIn K C (.ref D) = some true
  dd : ∃ oD cdD, K.lookup D = some oD ∧ oD.data = .cls cdD
  fo : ∃ of, K.lookup f2 = some of ∧ of.cls = .type "function"
  fn : PySem.W.fnIn K f2 = true
  opq : PySem.W.nsIn K cStatics "thirdparty.any" = some none
section
variable {X : Cx} {D f2 : Addr} {sf m : Str} {body : List Stmt} {e : Expr} {es : List Expr} {t : TA} {E : L2.St → XK} {k : Nat} {fd2 : FuncData} {ps2 : List Str} {sp2 : Sp} {p0 p1 apos pos : Pos}
theorem sup_eval (so : SupOk X D sf) (F2 : FnOk X.prog X.w X.K X.mg X.base (L2N.CX X.prog X.w) k f2 fd2 ps2 sp2) (hr : Room k X.A) (hb : Binds X.K fd2 ps2 []) (hx : PAt X E) (ha : PA X (e :: es) t)
    (hat : (m == ("__class__" : Str)) = false) (hst : starEach (e :: es) X.env = (false, eval e X.env) :: starEach es X.env) (hpl : (backTo pos (starEach es X.env)).any (·.1) = false)
    (het : ∀ pl : Sem Bool, True) {pl : Sem Bool}
    (he : eval (.Call (.Attribute (.Call (.Name "super" p0) [] [] p1) m apos) (e :: es) [] pos) X.env = (do
      let ov ← attributeBase (.Call (.Name "super" p0) [] [] p1) m X.env (eval (.Call (.Name "super" p0) [] [] p1) X.env)
      standAt apos.atName
      let (f, first) ← holding [ov] (getMethod ov m pl)
      callWith pos f first (backTo pos (starEach (e :: es) X.env)) []))
    {pins : List (Addr × Obj)} {s : Shared} {σ : L2.St} {H : Hp} {Q : VK} (I : Inv X pins σ H s) {x C dx : Addr} {fs : List (Str × V)} (h0 : σ[0]? = some (some (.ref x))) (hx0 : H x = some (.ins C dx fs)) (st : SupTo X.K C D m f2)
    (q : t σ H fun us H1 => sp2 (.ref x :: us) H1 Q (E σ)) :
    PySem.wpAt (model X.prog X.w) X.A (.func body X.env) (eval (.Call (.Attribute (.Call (.Name "super" p0) [] [] p1) m apos) (e :: es) [] pos) X.env) (EP X pins σ Q) X.xe s := by
  obtain ⟨f, fo, fd, ar, hfu, lkf, hfd, hp, hself⟩ := so.fn
  obtain ⟨cc, oc, vs, file, tf, hco, lkcc, hoc, hvs, hfile⟩ := so.code
  obtain ⟨c, ocl, hc, lkc, hcd⟩ := so.cel
  obtain ⟨cd, hcls, halong⟩ := st.cd
  obtain ⟨oD, cdD, lkD, hDd⟩ := st.dd
  obtain ⟨of, lkf2, hfc⟩ := st.fo
  obtain ⟨mb, hb1, hb2⟩ := I.mod.blt
  obtain ⟨mA, O, rO, wiO, lnO, hoO⟩ := ins_get I.hok hx0
  have KX := I.kIn
  have hX : s.heap.get? x = some (PySem.W.instObj C dx) := O.obj
  have hno : PySem.W.Looks (model X.prog X.w) s.heap (opaqueClassAbove (.ref C)) none := PySem.W.looks_opaque KX st.opq
  have nxt : ∀ {s' : Shared}, Inv X pins σ H s' → True := fun _ => trivial
  obtain ⟨ml, hns, hlook⟩ := id I.loc
  obtain ⟨us, rus, lk⟩ := hlook 0 sf (.ref x) so.self0 h0 (.inl so.selfL)
  have hml : ml sf = some us := by
    rcases lk with ⟨_, z⟩ | ⟨z, _⟩
    · exact z
    · have z : X.env.scope.names.lookup sf = some .cell ∨ X.env.scope.names.lookup sf = some .free := z
      rw [so.selfL] at z
      rcases z with z | z <;> cases z
  obtain rfl : us = .ref x := rus
  have hxC : x ≠ C := by
    rintro rfl
    unfold PySem.W.clsIn at hcls
    split at hcls
    · rename_i c d cd' sl ho
      have e := KX _ _ ho
      rw [hX] at e
      cases e
    · cases hcls
  refine PySem.ks_wpAt_MethodCall (pl := pl) ?_ he
  refine PySem.ks_wpAt_super_base so.ks so.kc hat hfu (KX _ _ lkf) hfd hp hco (KX _ _ lkcc) hoc hvs hfile so.top ?_
  refine PySem.W.ks_loadName_global I.ok.kind so.ks ?_
  refine Calls.loadGlobal_builtin (by rw [I.ok.glob]; exact I.mod.glob.keeps I.bk) so.gs (by rw [I.ok.blt]; exact hb1.keeps I.bk) ((hb2 _ (by decide)).trans (by rfl : bootBuiltins "super" = some (.type "super"))) ⟨rfl, ?_⟩
  refine wpAny_loadName_free I.ok.kind so.kc hc ⟨_, KX _ _ lkc, hcd⟩ ?_
  rw [hself]
  refine wpAny_loadName_local I.ok.kind so.selfL hns hml ?_
  refine PySem.ks_wpAny_isType_cls (KX _ _ lkD) hDd ⟨rfl, ?_⟩
  obtain ⟨hp0, g0, d0, t0, os0⟩ := s
  refine PySem.ks_wpAny_call_super (KX _ _ lkD) hDd hX rfl (fun c z => by cases z) (PySem.W.looks_mroIn KX st.sub) (fun h' hso kp => ?_)
  have KX1 : X.K.In h' := KX.keeps kp
  refine PySem.ks_wpAny_getMethod_super (K := X.K) (l₀ := cd.mro) hso (PySem.W.looks_opaque KX1 st.opq) ((PySem.W.looks_clsIn KX1 hcls).andThen .now) rfl KX1 halong (KX1 _ _ lkf2) hfc hxC hat ?_
  have kpush : ∀ b u, h'.get? b = some u → (h'.push { cls := .type "method", data := .fields #[.ref f2, .ref x] }).get? b = some u := fun b u z => Heap.get?_push_of_some _ z
  have hq0 : (h'.push { cls := .type "method", data := .fields #[.ref f2, .ref x] }).get? h'.objs.size = some (PySem.W.methodObj (.ref f2) (.ref x)) := Heap.get?_push_size h' rfl
  have lsz : hp0.objs.size ≤ h'.objs.size := by
    have := Heap.lt_size hso
    exact Nat.le_of_lt this
  generalize hq' : h'.objs.size = qa at *
  generalize hh2 : h'.push { cls := .type "method", data := .fields #[.ref f2, .ref x] } = h2 at *
  have I0 : Inv X pins σ H ⟨h2, g0, d0, t0 + 1, os0⟩ := I.kept fun b u z => kpush _ _ (kp _ _ z)
  have fp := I.fpOk (b := qa) lsz (I.hok.fresh lsz)
  have I1 : Inv X (pins ++ [(qa, PySem.W.methodObj (.ref f2) (.ref x))]) σ H ⟨h2, g0, d0, t0 + 1, os0⟩ := I0.pins_of fun p hp => by
    rcases List.mem_append.mp hp with z | z
    · exact I0.pin p (List.mem_append_right _ z)
    · obtain rfl := List.mem_singleton.mp z
      exact ⟨hq0, fp.1, fp.2.1, fp.2.2.1, fun v z => by cases z⟩
  rw [hst]
  refine PySem.W.callWith_of (P := PySem.W.MethP X.K qa f2 (.ref x)) (by show ((false || (backTo pos (starEach es X.env)).any (·.1)) || false) = false; rw [hpl]; rfl) (PySem.W.keeps_M st.fn) (Calls.evalArgs_plain ?_)
  have run := ha.run pos _ _ σ H _ I1 q
  rw [hst] at run
  refine thn run fun us s1 ⟨vs, H1, I2, r, q2⟩ => ?_
  have pq := (I2.pin (qa, PySem.W.methodObj (.ref f2) (.ref x)) (by simp)).1
  refine ⟨⟨pq, I2.kIn⟩, ?_⟩
  have r2 : Vals (.ref x :: vs) (.ref x :: us) := .cons rfl r
  have hl : (.ref x :: us : List Value).length = ps2.length := by rw [← r2.length]; exact F2.len _ _ _ _ q2
  refine wpAny_call (PySem.ks_codeAny_call_bound pq ?_)
  refine codeAny_mono (F2.run X.A X.stack s1 H1 ⟨.ref x :: us, []⟩ ((.ref x :: us) ++ []) (.ref x :: vs) Q (E σ) hr I2.env0 (hb s1 (.ref x :: us) I2.kIn (by rw [List.append_nil]; exact hl)) (by rw [List.append_nil]; exact r2) q2) fun r s' hq => ?_
  cases r with
  | error e => exact hx σ _ H1 s1 e s' I2 hq
  | ok fl =>
    cases fl with
    | ret u =>
      obtain ⟨v, H2, I3, rv, q3⟩ := I2.after hq
      exact ⟨v, H2, I3.unpinned, rv, q3⟩
    | next => exact False.elim hq
    | brk => exact False.elim hq
    | cont => exact False.elim hq
end
/-- a method that captures its class D, as the top has written it -/
structure FunS (K : PySem.W.Frag) (prog : Program) (x qual : Str) (params : Arguments) (body : List Stmt) (scope : Scope) (D f : Addr) (fd : FuncData) : Prop where
  ex : ∃ (oc : Value) (od an : Option Addr) (kV doc pm ct : Value) (c cc : Addr) (osl : Array (Option Value)) (ocl oco : Obj) (vs : Array Value) (file : Str) (tf : Tok),
    fd = PySem.W.fnX x qual params body scope [("__class__", cc)] .none kV doc pm an (.ref c) ct ∧ K.lookup f = some ⟨oc, od, .func fd, osl⟩ ∧ PySem.W.codeIn K (.ref c) qual = true ∧
    K.lookup cc = some ocl ∧ ocl.data = .cell (some (.ref D)) ∧ K.lookup c = some oco ∧ oco.data = .fields vs ∧ vs[2]? = some (.str file tf) ∧ ((prog.main.file : Str) == file) = true
  kp : PySem.W.keepIn K (.ref f) = true
section
variable {P : Program} {w : World} {K : PySem.W.Frag} {mg : Str → Option Value} {base : Heap} {x qual m y sf : Str} {params : Arguments} {body rest : List Stmt} {scope : Scope} {D f f2 : Addr} {fd fd2 : FuncData} {N ps ps2 : List Str} {k k2 i : Nat} {sp sp2 : Sp} {e : Expr} {es : List Expr} {p0 p1 apos pos py pa : Pos} {ar : Arg}
abbrev nfS (x qual : Str) (params : Arguments) (body : List Stmt) (scope : Scope) (c cc : Addr) : NF := ⟨x, qual, params, body, scope, [("__class__", cc)], c⟩
/-- THE RULE: such a method whose first statement is y = super().m(..) -/
theorem FunS.ok (F : FunS K P x qual params body scope D f fd) (S : NScope N ps ["__class__"] scope) (len : ∀ vs H Q E, sp vs H Q E → vs.length = ps.length)
    (hbody : body = .Assign [.Name y py] (.Call (.Attribute (.Call (.Name "super" p0) [] [] p1) m apos) (e :: es) [] pos) pa :: rest)
    (F2 : FnOk P w K mg base (L2N.CX P w) k2 f2 fd2 ps2 sp2) (hk : k2 ≤ k) (hb2 : Binds K fd2 ps2 [])
    (hpar : (params.posonlyargs ++ params.args).head? = some ar) (hsf : ar.arg = sf) (hN0 : N[0]? = some sf) (hsl : scope.names.lookup sf = some .local)
    (hks : scope.names.lookup ("super" : Str) = some .globalImplicit) (hgs : mg "super" = none) (htop : (P.main.scope.names.lookup ("super" : Str)).isSome = false)
    (hat : (m == ("__class__" : Str)) = false) (hi : N[i]? = some y) (hyl : scope.names.lookup y = some .local)
    (hrd : ∀ (c cc : Addr) (A : Around) (outer : List Env) (s : Shared) (H : Hp) (vs : List V) (Q : VK) (E : XK), Room k (A.deeper (envF (nfS x qual params body scope c cc) f s.heap.objs.size)) → sp vs H Q E →
      ∃ (t : TA) (u : TS) (x0 C dx : Addr) (fs : List (Str × V)) (pl : Sem Bool), PA (ncx (L2N.CX P w) P w K mg base N (nfS x qual params body scope c cc) f A outer s H E) (e :: es) t ∧ PSs (ncx (L2N.CX P w) P w K mg base N (nfS x qual params body scope c cc) f A outer s H E) rest u ∧
        PAt (ncx (L2N.CX P w) P w K mg base N (nfS x qual params body scope c cc) f A outer s H E) (fun _ => E) ∧
        starEach (e :: es) (envF (nfS x qual params body scope c cc) f s.heap.objs.size) = (false, eval e (envF (nfS x qual params body scope c cc) f s.heap.objs.size)) :: starEach es (envF (nfS x qual params body scope c cc) f s.heap.objs.size) ∧
        (backTo pos (starEach es (envF (nfS x qual params body scope c cc) f s.heap.objs.size))).any (·.1) = false ∧
        eval (.Call (.Attribute (.Call (.Name "super" p0) [] [] p1) m apos) (e :: es) [] pos) (envF (nfS x qual params body scope c cc) f s.heap.objs.size) = (do
          let ov ← attributeBase (.Call (.Name "super" p0) [] [] p1) m (envF (nfS x qual params body scope c cc) f s.heap.objs.size) (eval (.Call (.Name "super" p0) [] [] p1) (envF (nfS x qual params body scope c cc) f s.heap.objs.size))
          standAt apos.atName
          let (g, first) ← holding [ov] (getMethod ov m pl)
          callWith pos g first (backTo pos (starEach (e :: es) (envF (nfS x qual params body scope c cc) f s.heap.objs.size))) []) ∧
        swapsWith (.Call (.Attribute (.Call (.Name "super" p0) [] [] p1) m apos) (e :: es) [] pos) (some (.Name y py)) pa.line (envF (nfS x qual params body scope c cc) f s.heap.objs.size) = pure false ∧
        vs[0]? = some (.ref x0) ∧ H x0 = some (.ins C dx fs) ∧ SupTo K C D m f2 ∧
        t (startF N vs [some (.ref D)]) H fun us H1 => sp2 (.ref x0 :: us) H1 (fun v H2 => u { nx := fun _ H' => Q .non H', rt := Q } ((startF N vs [some (.ref D)]).set i (some v)) H2) E) :
    FnOk P w K mg base (L2N.CX P w) (k + 1) f fd ps sp := by
  obtain ⟨oc, od, an, kV, doc, pm, ct, c, cc, osl, ocl, oco, vs0, file, tf, rfl, lk, hcd, lkcc, hcc, lkc, hco, hvs, hfile⟩ := F.ex
  refine ⟨len, fun A outer s H args us vs Q E hr e0 hb r hsp => ?_⟩
  have hl := len _ _ _ _ hsp
  have KX : K.In s.heap := e0.mod.kin.keeps fun b o e => (e0.bs b o e).1
  have lim : s.heap.NoLimit := e0.mod.nolimit.keeps fun b o e => (e0.bs b o e).1
  have hfree : H cc = none := (e0.bs _ _ (e0.mod.kin _ _ lkcc)).2
  have hcell : s.heap.IsCell cc (some (.ref D)) := ⟨_, KX _ _ lkcc, hcc⟩
  have C : CellsAt (nfS x qual params body scope c cc).cl ["__class__"] [some (.ref D)] s.heap H := by
    have one : ∀ y c', ([("__class__", cc)] : List (Str × Addr)).lookup y = some c' → y = "__class__" ∧ c' = cc := by
      intro y c' h
      by_cases e : y = "__class__"
      · rw [e] at h ⊢
        exact ⟨rfl, by simpa [List.lookup] using h.symm⟩
      · have : (y == ("__class__" : Str)) = false := by simpa using e
        simp [List.lookup, this] at h
    refine ⟨rfl, fun y c' h => ?_, fun y z c' h1 h2 => ?_, fun j y h => ?_⟩
    · obtain ⟨_, rfl⟩ := one y c' h
      exact ⟨hfree, _, hcell⟩
    · rw [(one y c' h1).1, (one z c' h2).1]
    · match j, h with
      | 0, h =>
        have h : some ("__class__" : Str) = some y := h
        injection h with h
        subst h
        refine ⟨cc, by simp [List.lookup], fun v hv => ?_⟩
        have hv : some (some (V.ref D)) = some (some v) := hv
        injection hv with hv
        injection hv with hv
        subst hv
        exact ⟨_, rfl, hcell⟩
  refine codeAny_call_function hr.depth (KX _ _ lk) rfl S.co S.gen rfl (PySem.W.codeRec_of KX hcd) (hb _ _ _ _ ?_)
  refine wpAny_newFunctionEnv S.nocell (fun ⟨n, _⟩ hy => S.par n (List.of_mem_zip hy).1) (fun h₁ hns hsb => ⟨lim.fresh _ hsb, ?_⟩) S.kind
  show codeAny _ _ (.func body (envF (nfS x qual params body scope c cc) f s.heap.objs.size)) _ _
  refine PySem.ks_codeAny_funcAt ?_
  have kp : ∀ b o, s.heap.get? b = some o → h₁.get? b = some o := fun b o e => hsb.extBut b o (Nat.ne_of_lt (Heap.lt_size e)) (Heap.get?_push_of_some _ e)
  obtain ⟨t, u, x0, C0, dx, fs, pl, ha, hu, hx, hst, hpl, he, hsw, hv0, hx0, st, q⟩ := hrd c cc A outer s H vs Q E (hr.deeper _) hsp
  have I : Inv (ncx (L2N.CX P w) P w K mg base N (nfS x qual params body scope c cc) f A outer s H E) [] (startF N vs [some (.ref D)]) H { s with heap := h₁, toks := s.toks + (ps.zip us).length } := inv_startN S hr.hd e0 hl r C hns kp
  have eb : execs body (envF (nfS x qual params body scope c cc) f s.heap.objs.size) = execs (.Assign [.Name y py] (.Call (.Attribute (.Call (.Name "super" p0) [] [] p1) m apos) (e :: es) [] pos) pa :: rest) (envF (nfS x qual params body scope c cc) f s.heap.objs.size) := congrArg (fun b => execs b (envF (nfS x qual params body scope c cc) f s.heap.objs.size)) hbody
  rw [eb]
  have so : SupOk (ncx (L2N.CX P w) P w K mg base N (nfS x qual params body scope c cc) f A outer s H E) D sf :=
    ⟨hks, S.frk _ (by simp), hgs, ⟨f, _, _, ar, rfl, lk, rfl, hpar, hsf⟩, hN0, hsl, ⟨c, oco, vs0, file, tf, rfl, lkc, hco, hvs, hfile⟩, htop, ⟨cc, ocl, List.lookup_cons_self, lkcc, hcc⟩⟩
  have h0 : (startF N vs [some (.ref D)])[0]? = some (some (.ref x0)) := by
    have lv : 0 < vs.length := (List.getElem?_eq_some_iff.mp hv0).1
    unfold startF
    rw [List.getElem?_append_left (by rw [List.length_map]; exact lv), List.getElem?_map, hv0] <;> rfl
  refine PySem.ks_wpAt_execs_cons (PySem.ks_wpAt_Assign_Name (PySem.ks_wpAt_mono (sup_eval (E := fun _ => E) so (F2.mono hk) (hr.deeper _) hb2 hx ha hat hst hpl (fun _ => trivial) he I h0 hx0 st q) (fun v s1 hv => ?_) (fun e s' h => h)) hsw)
  obtain ⟨v', H1, I1, rv, q1⟩ := hv
  refine store_ok I1 S.nd hi (.inl hyl) rv (fun s2 I2 => ?_) (.inr hyl)
  refine PySem.wpAt_of_wpAny (wpAny_mono (hu.run [] s2 _ H1 _ I2 q1) (fun fl s' hs => ?_) fun e s' hs => hs)
  have fin : ∀ {σ' : L2.St} {H' : Hp} {v : V} {u : Value}, Inv (ncx (L2N.CX P w) P w K mg base N (nfS x qual params body scope c cc) f A outer s H E) [] σ' H' s' → L2.RelV v u → Q v H' → CE outer P w H s Q u s' :=
    fun {σ' H' v u} J rv q => ⟨v, H', J.os, J.bare, J.base, J.hok, rv, q⟩
  cases fl with
  | ret u =>
    obtain ⟨v, σ', H', J, rv, q⟩ := hs
    exact fin J rv q
  | next =>
    obtain ⟨σ', H', J, q⟩ := hs
    exact fin (v := V.non) (u := Value.none) J rfl q
  | brk =>
    obtain ⟨_, _, _, q⟩ := hs
    exact False.elim q
  | cont =>
    obtain ⟨_, _, _, q⟩ := hs
    exact False.elim q
theorem FunS.bindsN (F : FunS K P x qual params body scope D f fd)
    (h : ∀ (cc : Addr) (kV doc pm : Value) (an : Option Addr) (cdv ct : Value) (us : List Value), us.length = ps.length → bindArgs (PySem.W.fnX x qual params body scope [("__class__", cc)] .none kV doc pm an cdv ct) ⟨us, []⟩ = pure (ps.zip us)) : Binds K fd ps [] := by
  obtain ⟨oc, od, an, kV, doc, pm, ct, c, cc, osl, ocl, oco, vs0, file, tf, rfl, _⟩ := F.ex
  exact .all (h cc kV doc pm an (.ref c) ct)
end
end G
set_option Elab.async false
set_option linter.all false
set_option maxRecDepth 100000
set_option maxHeartbeats 4000000
/-! The head's facts over the first n addresses of the heap. -/
set_option Elab.async false
set_option linter.all false
set_option maxRecDepth 100000
set_option maxHeartbeats 4000000
/-! The head's facts with methods that capture their class. -/
namespace G
open PySem PySem.Spec PyProof.Rows L2
/-- a method that captures its class -/
structure DefS where
  at_ : PySem.W.Frag → Addr
  name : Str
  qual : Str
  params : Arguments
  body : List Stmt
  scope : Scope
  cls : PySem.W.Frag → Addr
  file : Str
/-- a function's words, whatever it captures -/
def fnB (K : PySem.W.Frag) (a : Addr) : He.FnW := match K.lookup a with
  | some ⟨_, _, .func fd, _⟩ => some (fd.name, fd.qualname, fd.params, fd.body, fd.scope, fd.globals, [], fd.builtins)
  | _ => none
def DefS.val (d : DefS) : He.FnW := some (d.name, d.qual, d.params, .stmts d.body, d.scope, mainGlobals, [], builtinsNs)
def cellB (K : PySem.W.Frag) (cc D : Addr) : Bool := match K.lookup cc with
  | some ⟨_, _, .cell (some (.ref D')), _⟩ => D' == D
  | _ => false
def cloB (K : PySem.W.Frag) (cl : List (Str × Addr)) (D : Addr) : Bool := match cl with
  | [(n, cc)] => n == "__class__" && cellB K cc D
  | _ => false
def fldB (vs : Array Value) (file : Str) : Bool := match (vs[2]? : Option Value) with
  | some (Value.str f _) => f == file
  | _ => false
def filB (K : PySem.W.Frag) (cd : Value) (file : Str) : Bool := match cd with
  | .ref c => (match K.lookup c with
    | some ⟨_, _, .fields vs, _⟩ => fldB vs file
    | _ => false)
  | _ => false
def nonB : Value → Bool
  | .none => true
  | _ => false
theorem nonB_ok {v : Value} (h : nonB v = true) : v = .none := by
  cases v <;> first | rfl | cases h
def DefS.ok (K : PySem.W.Frag) (d : DefS) : Bool := PySem.W.keepIn K (.ref (d.at_ K)) && (match K.lookup (d.at_ K) with
  | some ⟨_, _, .func fd, _⟩ => PySem.W.codeIn K fd.code d.qual && (nonB fd.defaults && (cloB K fd.closure (d.cls K) && filB K fd.code d.file))
  | _ => false)
theorem DefS.funS {K : PySem.W.Frag} {d : DefS} {P : Program} (e : fnB K (d.at_ K) = d.val) (c : d.ok K = true) (hf : ((P.main.file : Str) == d.file) = true) : ∃ fd, FunS K P d.name d.qual d.params d.body d.scope (d.cls K) (d.at_ K) fd := by
  obtain ⟨kp, c2⟩ := He.ba c
  unfold fnB at e
  cases q : K.lookup (d.at_ K) with
  | none =>
    rw [q] at c2
    cases c2
  | some o =>
    obtain ⟨oc, od, dt, osl⟩ := o
    rw [q] at c2 e
    cases dt with
    | func fd =>
      obtain ⟨n1, n2, n3, n4, n5, n6, n7, n8, n9, n10, n11, n12, n13, n14, n15⟩ := fd
      have e2 : (some (n1, n2, n3, n4, n5, n6, [], n15) : He.FnW) = some (d.name, d.qual, d.params, .stmts d.body, d.scope, mainGlobals, [], builtinsNs) := e
      simp only [Option.some.injEq, Prod.mk.injEq] at e2
      obtain ⟨h1, h2, h3, h4, h5, h6, _, h8⟩ := e2
      subst h1 h2 h3 h4 h5 h6 h8
      have c3 : (PySem.W.codeIn K n13 d.qual && (nonB n8 && (cloB K n7 (d.cls K) && filB K n13 d.file))) = true := c2
      obtain ⟨k1, k2⟩ := He.ba c3
      obtain ⟨k0, k5⟩ := He.ba k2
      obtain rfl := nonB_ok k0
      obtain ⟨k3, k4⟩ := He.ba k5
      obtain ⟨cc, ocl, rfl, l1, l2⟩ : ∃ cc ocl, n7 = [(("__class__" : Str), cc)] ∧ K.lookup cc = some ocl ∧ ocl.data = .cell (some (.ref (d.cls K))) := by
        unfold cloB at k3
        split at k3
        · rename_i n cc
          obtain ⟨a, b⟩ := He.ba k3
          unfold cellB at b
          split at b
          · rename_i x1 x2 D' x4 hl
            have a : n = "__class__" := by simpa using a
            have b : D' = d.cls K := by simpa using b
            subst a b
            exact ⟨cc, _, rfl, hl, rfl⟩
          · cases b
        · cases k3
      obtain ⟨cd, oco, vs, tf, rfl, m1, m2, m3⟩ : ∃ cd oco vs tf, n13 = .ref cd ∧ K.lookup cd = some oco ∧ oco.data = .fields vs ∧ vs[2]? = some (.str d.file tf) := by
        unfold filB at k4
        split at k4
        · rename_i cd
          split at k4
          · rename_i x1 x2 vs x4 hl
            unfold fldB at k4
            split at k4
            · rename_i f t hv
              have k4 : f = d.file := by simpa using k4
              subst k4
              exact ⟨cd, _, vs, t, rfl, hl, rfl, hv⟩
            · cases k4
          · cases k4
        · cases k4
      exact ⟨_, ⟨oc, od, n12, n9, n10, n11, n14, cd, cc, osl, ocl, oco, vs, d.file, tf, rfl, q, k1, l1, l2, m1, m2, m3, hf⟩, kp⟩
    | _ => cases c2
/-! ### the hook -/
def obsS (fa : List Chk) (fn : List He5.DefA) (fs : List DefS) (K : PySem.W.Frag) : He.AlD := (((fa.all fun f => f K) && fn.all fun d => d.ok K) && fs.all fun d => d.ok K, (fn.map fun d => He5.fnA K (d.at_ K)) ++ fs.map fun d => fnB K (d.at_ K))
def valS (fn : List He5.DefA) (fs : List DefS) : He.AlD := (true, fn.map He5.DefA.val ++ fs.map DefS.val)
def SaysS (fa : List Chk) (fn : List He5.DefA) (fs : List DefS) (K : PySem.W.Frag) : Prop := obsS fa fn fs K = valS fn fs
/-- the same over given addresses (ZL.lean finds those that are needed) -/
def obsSL (L : List Addr) (fa : List Chk) (fn : List He5.DefA) (fs : List DefS) (g : Addr → Option Obj) : He.AlD := obsS fa fn fs (He.frG g L)
def hookSL (L : List Addr) (fa : List Chk) (fn : List He5.DefA) (fs : List DefS) : PySem.W.Hook where
  α := He.AlD
  obs := fun z => obsSL L fa fn fs z.heap.get?
  val := fun _ => valS fn fs
  says := fun _ z => ∃ J : PySem.W.Frag, J.In z ∧ SaysS fa fn fs J
  of := fun _ _ e => ⟨_, He.frG_in, e⟩
  keeps := fun _ _ _ ⟨J, hJ, c⟩ k => ⟨J, PySem.W.Frag.In.keeps hJ k, c⟩
theorem obsSL_eq {L : List Addr} {fa : List Chk} {fn : List He5.DefA} {fs : List DefS} {g : Addr → Option Obj} {z : Shared} (h : ∀ a, g a = z.heap.get? a) : obsSL L fa fn fs g = (hookSL L fa fn fs).obs z := by
  have e : g = z.heap.get? := funext h
  rw [e] <;> rfl
section
variable {fa : List Chk} {fn : List He5.DefA} {fs : List DefS} {K : PySem.W.Frag}
theorem SaysS.parts (c : SaysS fa fn fs K) : SaysY fa fn K ∧ (fs.all fun d => d.ok K) = true ∧ (fs.map fun d => fnB K (d.at_ K)) = fs.map DefS.val := by
  have c1 : (((fa.all fun f => f K) && fn.all fun d => d.ok K) && fs.all fun d => d.ok K) = true := congrArg (fun z : He.AlD => z.1) c
  have c2 : (fn.map fun d => He5.fnA K (d.at_ K)) ++ fs.map (fun d => fnB K (d.at_ K)) = fn.map He5.DefA.val ++ fs.map DefS.val := congrArg (fun z : He.AlD => z.2) c
  obtain ⟨h1, h2⟩ := He.ba c1
  obtain ⟨e1, e2⟩ := List.append_inj c2 (by rw [List.length_map, List.length_map])
  exact ⟨Prod.ext h1 e1, h2, e2⟩
theorem SaysS.toY (c : SaysS fa fn fs K) : SaysY fa fn K := c.parts.1
theorem SaysS.sup (c : SaysS fa fn fs K) (P : Program) (i : Nat) {d : DefS} (hf : ((P.main.file : Str) == d.file) = true) (h : fs[i]? = some d := by rfl) : ∃ fd, FunS K P d.name d.qual d.params d.body d.scope (d.cls K) (d.at_ K) fd := by
  obtain ⟨_, c2, e⟩ := c.parts
  have e2 : (fs.map fun d => fnB K (d.at_ K))[i]? = (fs.map DefS.val)[i]? := by rw [e]
  rw [List.getElem?_map, List.getElem?_map, h] at e2
  exact DefS.funS (Option.some.inj e2) (List.all_eq_true.mp c2 d (List.mem_of_getElem? h)) hf
end
/-! ### the class behind -/
def aloB (K : PySem.W.Frag) (C D : Addr) (m : Str) (f2 : Addr) : Bool := match PySem.W.clsIn K C with
  | some cd => (match PySem.W.alongIn K m ((cd.mro.dropWhile (· != .ref D)).drop 1) with
    | some (some (.ref a)) => a == f2
    | _ => false)
  | _ => false
def mroB (K : PySem.W.Frag) (C D : Addr) : Bool := match PySem.W.mroIn K C (.ref D) with
  | some true => true
  | _ => false
def isClB (K : PySem.W.Frag) (D : Addr) : Bool := match K.lookup D with
  | some ⟨_, _, .cls _, _⟩ => true
  | _ => false
def isFuB (K : PySem.W.Frag) (f : Addr) : Bool := match K.lookup f with
  | some ⟨.type n, _, _, _⟩ => n == "function"
  | _ => false
def opqB (K : PySem.W.Frag) : Bool := match PySem.W.nsIn K cStatics "thirdparty.any" with
  | some none => true
  | _ => false
def supB (K : PySem.W.Frag) (C D : Addr) (m : Str) (f2 : Addr) : Bool := aloB K C D m f2 && (mroB K C D && (isClB K D && (isFuB K f2 && (PySem.W.fnIn K f2 && opqB K))))
theorem supB_ok {K : PySem.W.Frag} {C D f2 : Addr} {m : Str} (h : supB K C D m f2 = true) : SupTo K C D m f2 := by
  obtain ⟨h1, h⟩ := He.ba h
  obtain ⟨h2, h⟩ := He.ba h
  obtain ⟨h3, h⟩ := He.ba h
  obtain ⟨h4, h⟩ := He.ba h
  obtain ⟨h5, h6⟩ := He.ba h
  refine ⟨?_, ?_, ?_, ?_, h5, ?_⟩
  · unfold aloB at h1
    split at h1
    · rename_i cd hcd
      refine ⟨cd, hcd, ?_⟩
      split at h1
      · rename_i a ha
        have h1 : a = f2 := by simpa using h1
        rw [ha, h1]
      · cases h1
    · cases h1
  · unfold mroB at h2
    split at h2
    · assumption
    · cases h2
  · unfold isClB at h3
    split at h3
    · rename_i a b c d hl
      exact ⟨_, _, hl, rfl⟩
    · cases h3
  · unfold isFuB at h4
    split at h4
    · rename_i n b c d hl
      have h4 : n = "function" := by simpa using h4
      subst h4
      exact ⟨_, hl, rfl⟩
    · cases h4
  · unfold opqB at h6
    split at h6
    · assumption
    · cases h6
end G
set_option Elab.async false
set_option linter.all false
set_option maxRecDepth 100000
set_option maxHeartbeats 4000000
/-! C() of a class without __init__; o.m(..) on an object of one of several classes. -/
namespace G
open PySem PySem.Spec PyProof.Rows L2 NdefX
/-- a class of the text that has object's __init__ -/
structure Mk0 (K : PySem.W.Frag) (C : Addr) : Prop where
  makes : PySem.W.makesIn K C = true
  init : PySem.W.findIn K (.ref C) "__init__" = some (some (.builtin "object.__init__"))
  top : PySem.W.mroIn K C (.type "object") = some true
  kp : PySem.W.keepIn K (.ref C) = true
def mk0B (K : PySem.W.Frag) (C : Addr) : Bool := PySem.W.makesIn K C && ((match PySem.W.findIn K (.ref C) "__init__" with
  | some (some (.builtin n)) => n == "object.__init__"
  | _ => false) && ((match PySem.W.mroIn K C (.type "object") with
  | some true => true
  | _ => false) && PySem.W.keepIn K (.ref C)))
theorem mk0B_ok {K : PySem.W.Frag} {C : Addr} (h : mk0B K C = true) : Mk0 K C := by
  obtain ⟨h1, h⟩ := He.ba h
  obtain ⟨h2, h⟩ := He.ba h
  obtain ⟨h3, h4⟩ := He.ba h
  refine ⟨h1, ?_, ?_, h4⟩
  · split at h2
    · rename_i n hn
      have h2 : n = "object.__init__" := by simpa using h2
      rw [hn, h2]
    · cases h2
  · split at h3
    · assumption
    · cases h3
def tMk0 (C : Addr) : TE := fun _ H Q => ∀ x dx, H x = none → H dx = none → dx ≠ x → Q (.ref x) (upd (upd H dx (.own x)) x (.ins C dx []))
section
variable {X : Cx} {C : Addr} {x : Str} {p pos : Pos} {j : Nat}
theorem run_mk0 {pn : List (Addr × Obj)} {τ : L2.St} {H0 : Hp} {sh : Shared} {R : VK} (M : Mk0 X.K C) (I : Inv X pn τ H0 sh)
    (h : ∀ x dx, H0 x = none → H0 dx = none → dx ≠ x → R (.ref x) (upd (upd H0 dx (.own x)) x (.ins C dx []))) :
    wpAny (model X.prog X.w) X.A (call (.ref C) []) (EP X pn τ R) X.xe sh := by
  have q0 := h (sh.heap.objs.size + 1) sh.heap.objs.size (I.hok.fresh (Nat.le_succ _)) (I.hok.fresh (Nat.le_refl _)) (Nat.ne_of_lt (Nat.lt_succ_self _))
  have J := Inv.made (C := C) I
  refine wpAny_call (make_map0 I.kIn M.makes M.init (fun self => PySem.W.Looks.of_pure (PySem.W.oi_bind self)) ?_)
  obtain ⟨hh, g, d, t, os⟩ := sh
  have e2 : ((hh.push PySem.W.emptyDict).push (PySem.W.instObj C hh.objs.size)).get? (hh.objs.size + 1) = some (PySem.W.instObj C hh.objs.size) := by
    have := Heap.get?_push_size (hh.push PySem.W.emptyDict) (o := PySem.W.instObj C hh.objs.size) rfl
    rwa [Heap.size_push] at this
  have t1 : PySem.W.Looks (model X.prog X.w) ((hh.push PySem.W.emptyDict).push (PySem.W.instObj C hh.objs.size)) (typeOf (.ref (hh.objs.size + 1))) (.ref C) := (PySem.W.Looks.ld e2).andThen .now
  have t2 : PySem.W.Looks (model X.prog X.w) ((hh.push PySem.W.emptyDict).push (PySem.W.instObj C hh.objs.size)) (isInstance (.ref (hh.objs.size + 1)) (.type "object")) true := t1.andThen (PySem.W.looks_mroIn J.kIn M.top)
  refine codeAny_call_builtin PySem.W.oi_plain PySem.W.entry_oi (@PySem.W.check_slot (model X.prog X.w) _ _ _ "object.__init__" "object" "__init__" (.ref (hh.objs.size + 1)) [] [] _ PySem.W.oi_kind PySem.W.oi_split t2 (PySem.W.oi_args (.ref (hh.objs.size + 1))) ?_)
  rw [PySem.W.oi_run]
  exact wpAny_pure (And.intro rfl ⟨V.ref (hh.objs.size + 1), _, J, rfl, q0⟩)
theorem pe_mk0 (M : Mk0 X.K C) (hm : X.mg x = some (.ref C)) (hg : Gl X x := by rfl) (hdb : (x == ("__debug__" : Str)) = false := by decide) : PE X (.Call (.Name x p) [] [] pos) (tMk0 C) :=
  ⟨fun pn s τ H Q I h => wpAny_Call_Name_kw (ld_glob I hg hm (PySem.W.callWith_K0 I.kIn M.kp (run_mk0 M I h)) hdb)⟩
end
/-- o.m(..), o of one of the classes in L; each has its promise -/
def tMtD (L : List (Addr × Sp)) (m : Str) (E : L2.St → XK) (ta : TE) (t : TA) : TE := fun σ H Q => ta σ H fun x H1 => ∃ C sp, (C, sp) ∈ L ∧ ∃ a dx fs, x = .ref a ∧ H1 a = some (.ins C dx fs) ∧ fs.lookup m = none ∧ t σ H1 fun vs H2 => sp (x :: vs) H2 Q (E σ)
section
variable {X : Cx} {L : List (Addr × Sp)} {m : Str} {E : L2.St → XK} {ta : TE} {t : TA} {o e : Expr} {es : List Expr} {apos pos : Pos} {j k : Nat}
theorem pe_mtD {pl : Sem Bool} (c : ∀ q ∈ L, (∃ ps, Met X.prog X.w X.K X.mg X.base k q.1 m ps q.2) ∧ Cls X.K q.1) (hr : Room j X.A) (hk : k ≤ j) (hx : PAt X E) (he : PE X o ta) (ha : PA X (e :: es) t)
    (hst : starEach (e :: es) X.env = (false, eval e X.env) :: starEach es X.env := by rfl) (hpl : (backTo pos (starEach es X.env)).any (·.1) = false := by rfl)
    (ht : eval (.Call (.Attribute o m apos) (e :: es) [] pos) X.env = (do
      let ov ← eval o X.env
      standAt apos.atName
      let (f, first) ← holding [ov] (getMethod ov m pl)
      callWith pos f first (backTo pos (starEach (e :: es) X.env)) (backToKw pos (keywordEach [] X.env))) := by rfl) : PE X (.Call (.Attribute o m apos) (e :: es) [] pos) (tMtD L m E ta t) := by
  refine ⟨fun pins s σ H Q I h => PySem.W.methodCall_KW (pl := pl) (thn (he.run pins s σ H _ I h) fun u s1 hh => ?_) ht⟩
  obtain ⟨x, H1, I1, rx, C, sp, hC, a, dx, fs, ex, ea, l, q⟩ := hh
  obtain ⟨⟨ps, cm⟩, cl⟩ := c _ hC
  obtain ⟨f, fd, F, hm, hb⟩ := cm.ex
  subst ex
  obtain rfl : u = Value.ref a := rx
  refine getmeth_ok I1 ea cl hm l (PySem.W.callWith_K (first := [.ref a]) (h₀ := X.base) I.ok.mod.kin hm.kp (thn (ha.run pos pins s1 σ H1 _ I1 q) fun us s2 hh => ?_) hst hpl)
  obtain ⟨vs, H2, I2, r, q2⟩ := hh
  exact ⟨I2.kIn, run_fnS (us := .ref a :: us) (vs := .ref a :: vs) F (hr.mono hk) hb (hx σ) I2 (.cons rfl r) q2⟩
end
/-! ### text constants of a class, read by the class or by an object -/
def ccsB (x f : Str) (v : Str) (K : PySem.W.Frag) : Bool := PySem.W.readsIn K (He.ga K x) (.type "type") && (He.eqO (PySem.W.specialIn K (.ref (He.ga K x)) "__getattribute__") (some (some (.builtin "type.__getattribute__"))) &&
  (match PySem.W.findCls K (.ref (He.ga K x)) (.type "type") f with
  | some (.val (.str j _)) => decide (j = v)
  | _ => false))
theorem ccsB_ok {K : PySem.W.Frag} {x f v : Str} (q : ccsB x f v K = true) : ∃ mc u, ClX.CRead K (He.ga K x) mc ∧ ClX.CVal K (He.ga K x) mc f (.str v) u := by
  obtain ⟨q1, q⟩ := He.ba q
  obtain ⟨q2, q3⟩ := He.ba q
  have q4 : (match PySem.W.findCls K (.ref (He.ga K x)) (.type "type") f with
    | some (.val (.str j _)) => decide (j = v)
    | _ => false) = true := q3
  split at q4
  · rename_i j t e
    have ej : j = v := of_decide_eq_true q4
    subst ej
    exact ⟨_, _, ⟨q1, He.eqO_ok q2⟩, ⟨e, ⟨t, rfl⟩⟩⟩
  · cases q4
def conB (x f : Str) (v : Str) (K : PySem.W.Frag) : Bool := (match PySem.W.findIn K (.ref (He.ga K x)) f with
  | some (some (.str j t)) => decide (j = v) && (match PySem.W.specialIn K (.str j t) "__get__" with
    | some none => true
    | _ => false)
  | _ => false) && !PySem.W.copiedNames.contains f
theorem conB_ok {K : PySem.W.Frag} {x f v : Str} (q : conB x f v K = true) : ∃ u, Con K (He.ga K x) f (.str v) u := by
  obtain ⟨q1, q2⟩ := He.ba q
  split at q1
  · rename_i j t e
    obtain ⟨a, b⟩ := He.ba q1
    have ej : j = v := of_decide_eq_true a
    subst ej
    split at b
    · rename_i hs
      exact ⟨_, e, ⟨t, rfl⟩, hs, by simpa using q2⟩
    · cases b
  · cases q1
/-! ### the reading of a method that begins with y = super().m(..) -/
def tSup (K : PySem.W.Frag) (D : Addr) (m : Str) (f2 : Addr) (sp2 : Sp) (E : XK) (i : Nat) (t : TA) (u : TS) : TS := fun Dn σ H => ∃ x0 C dx fs, σ[0]? = some (some (.ref x0)) ∧ H x0 = some (.ins C dx fs) ∧ SupTo K C D m f2 ∧ t σ H fun us H1 => sp2 (.ref x0 :: us) H1 (fun v H2 => u Dn (σ.set i (some v)) H2) E
section
variable {P : Program} {w : World} {K : PySem.W.Frag} {mg : Str → Option Value} {base : Heap} {x qual m y sf : Str} {params : Arguments} {body rest : List Stmt} {scope : Scope} {D f f2 : Addr} {fd fd2 : FuncData} {N ps ps2 : List Str} {k k2 i : Nat} {sp sp2 : Sp} {e : Expr} {es : List Expr} {p0 p1 apos pos py pa : Pos} {ar : Arg}
theorem startF_0 {vs : List V} {x0 : V} {ws : List (Option V)} (hp : 0 < vs.length) (h : (startF N vs ws)[0]? = some (some x0)) : vs[0]? = some x0 := by
  unfold startF at h
  rw [List.getElem?_append_left (by rw [List.length_map]; exact hp), List.getElem?_map] at h
  cases z : vs[0]? with
  | none => rw [z] at h; cases h
  | some a => rw [z] at h; injection h
theorem FunS.okT (F : FunS K P x qual params body scope D f fd) (S : NScope N ps ["__class__"] scope) (len : ∀ vs H Q E, sp vs H Q E → vs.length = ps.length) (hp : 0 < ps.length)
    (hbody : body = .Assign [.Name y py] (.Call (.Attribute (.Call (.Name "super" p0) [] [] p1) m apos) (e :: es) [] pos) pa :: rest)
    (F2 : FnOk P w K mg base (L2N.CX P w) k2 f2 fd2 ps2 sp2) (hk : k2 ≤ k) (hb2 : Binds K fd2 ps2 [])
    (hpar : (params.posonlyargs ++ params.args).head? = some ar) (hsf : ar.arg = sf) (hN0 : N[0]? = some sf) (hsl : scope.names.lookup sf = some .local)
    (hks : scope.names.lookup ("super" : Str) = some .globalImplicit) (hgs : mg "super" = none) (htop : (P.main.scope.names.lookup ("super" : Str)).isSome = false)
    (hat : (m == ("__class__" : Str)) = false) (hi : N[i]? = some y) (hyl : scope.names.lookup y = some .local)
    (hsyn : ∀ X : Cx, X.env.scope = scope → starEach (e :: es) X.env = (false, eval e X.env) :: starEach es X.env ∧ (backTo pos (starEach es X.env)).any (·.1) = false ∧
        (∃ pl : Sem Bool, eval (.Call (.Attribute (.Call (.Name "super" p0) [] [] p1) m apos) (e :: es) [] pos) X.env = (do
          let ov ← attributeBase (.Call (.Name "super" p0) [] [] p1) m X.env (eval (.Call (.Name "super" p0) [] [] p1) X.env)
          standAt apos.atName
          let (g, first) ← holding [ov] (getMethod ov m pl)
          callWith pos g first (backTo pos (starEach (e :: es) X.env)) [])) ∧
        swapsWith (.Call (.Attribute (.Call (.Name "super" p0) [] [] p1) m apos) (e :: es) [] pos) (some (.Name y py)) pa.line X.env = pure false)
    (hrd : ∀ (c cc : Addr) (A : Around) (outer : List Env) (s : Shared) (H : Hp) (vs : List V) (Q : VK) (E : XK), Room k (A.deeper (envF (nfS x qual params body scope c cc) f s.heap.objs.size)) → sp vs H Q E →
      ∃ (t : TA) (u : TS), PA (ncx (L2N.CX P w) P w K mg base N (nfS x qual params body scope c cc) f A outer s H E) (e :: es) t ∧ PSs (ncx (L2N.CX P w) P w K mg base N (nfS x qual params body scope c cc) f A outer s H E) rest u ∧
        PAt (ncx (L2N.CX P w) P w K mg base N (nfS x qual params body scope c cc) f A outer s H E) (fun _ => E) ∧
        tSup K D m f2 sp2 E i t u { nx := fun _ H' => Q .non H', rt := Q } (startF N vs [some (.ref D)]) H) :
    FnOk P w K mg base (L2N.CX P w) (k + 1) f fd ps sp := by
  refine FunS.ok F S len hbody F2 hk hb2 hpar hsf hN0 hsl hks hgs htop hat hi hyl fun c cc A outer s H vs Q E hr hs => ?_
  obtain ⟨t, u, ha, hu, hx, x0, C, dx, fs, h0, hx0, st, q⟩ := hrd c cc A outer s H vs Q E hr hs
  obtain ⟨s1, s2, ⟨pl, s3⟩, s4⟩ := hsyn (ncx (L2N.CX P w) P w K mg base N (nfS x qual params body scope c cc) f A outer s H E) rfl
  exact ⟨t, u, x0, C, dx, fs, pl, ha, hu, hx, s1, s2, s3, s4, startF_0 (by rw [len _ _ _ _ hs]; exact hp) h0, hx0, st, q⟩
end
/-! ### four classes -/
theorem Met.up {P : Program} {w : World} {K : PySem.W.Frag} {mg : Str → Option Value} {base : Heap} {k j : Nat} {C : Addr} {m : Str} {ps : List Str} {sp : Sp} (c : Met P w K mg base k C m ps sp) (h : k ≤ j) : Met P w K mg base j C m ps sp := by
  obtain ⟨f, fd, F, hm, hb⟩ := c.ex
  exact ⟨f, fd, F.mono h, hm, hb⟩
theorem poly4 {P : Program} {w : World} {K : PySem.W.Frag} {mg : Str → Option Value} {base : Heap} {k1 k2 k3 k : Nat} {C1 C2 C3 C4 : Addr} {m : Str} {p1 p2 p3 p4 : List Str} {s1 s2 s3 s4 : Sp}
    (c1 : Met P w K mg base k1 C1 m p1 s1) (l1 : Cls K C1) (c2 : Met P w K mg base k2 C2 m p2 s2) (l2 : Cls K C2) (c3 : Met P w K mg base k3 C3 m p3 s3) (l3 : Cls K C3) (c4 : Met P w K mg base k C4 m p4 s4) (l4 : Cls K C4) (h1 : k1 ≤ k) (h2 : k2 ≤ k) (h3 : k3 ≤ k) :
    ∀ q ∈ [(C1, s1), (C2, s2), (C3, s3), (C4, s4)], (∃ ps, Met P w K mg base k q.1 m ps q.2) ∧ Cls K q.1 := by
  intro q hq
  simp only [List.mem_cons, List.not_mem_nil, or_false] at hq
  rcases hq with rfl | rfl | rfl | rfl
  · exact ⟨⟨_, c1.up h1⟩, l1⟩
  · exact ⟨⟨_, c2.up h2⟩, l2⟩
  · exact ⟨⟨_, c3.up h3⟩, l3⟩
  · exact ⟨⟨_, c4⟩, l4⟩
/-! ### C.m(..), m a plain def of the class C -/
structure Cfn (P : Program) (w : World) (K : PySem.W.Frag) (mg : Str → Option Value) (base : Heap) (k : Nat) (C : Addr) (m : Str) (ps : List Str) (sp : Sp) : Prop where
  ex : ∃ (f : Addr) (fd : FuncData), FnOk P w K mg base (L2N.CX P w) k f fd ps sp ∧ ClX.CRead K C (.type "type") ∧ PySem.W.findCls K (.ref C) (.type "type") m = some (.val (.ref f)) ∧ PySem.W.keepIn K (.ref f) = true ∧ Binds K fd ps []
section
variable {X : Cx} {j k : Nat} {m : Str} {ps : List Str} {sp : Sp} {C : Addr} {pos apos : Pos} {e o : Expr} {es : List Expr} {t : TA} {E : L2.St → XK}
theorem pe_cf {pl : Sem Bool} (c : Cfn X.prog X.w X.K X.mg X.base k C m ps sp) (hr : Room j X.A) (hk : k ≤ j) (hx : PAt X E) (he : PE X o (tC (.ref C))) (ha : PA X (e :: es) t)
    (hst : starEach (e :: es) X.env = (false, eval e X.env) :: starEach es X.env := by rfl) (hpl : (backTo pos (starEach es X.env)).any (·.1) = false := by rfl)
    (ht : eval (.Call (.Attribute o m apos) (e :: es) [] pos) X.env = (do
      let ov ← eval o X.env
      standAt apos.atName
      let (f, first) ← holding [ov] (getMethod ov m pl)
      callWith pos f first (backTo pos (starEach (e :: es) X.env)) (backToKw pos (keywordEach [] X.env))) := by rfl) : PE X (.Call (.Attribute o m apos) (e :: es) [] pos) (tCl sp E t) := by
  obtain ⟨f, fd, F, r, e1, kp, hb⟩ := c.ex
  refine ⟨fun pins s σ H Q I h => PySem.W.methodCall_KW (pl := pl) (thn (he.run pins s σ H (fun x H1 => x = V.ref C ∧ tCl sp E t σ H1 Q) I ⟨rfl, h⟩) fun u s1 hh => ?_) ht⟩
  obtain ⟨x, H1, I1, rx, ex, q⟩ := hh
  subst ex
  obtain rfl : u = Value.ref C := rx
  refine PySem.W.method_cls I1.kIn r.ga (PySem.W.cls_value I1.kIn r.rd e1 rfl ?_)
  have I2 := I1.tok (s1.toks + 1)
  refine PySem.W.callWith_K (first := []) (h₀ := X.base) I2.ok.mod.kin kp (thn (ha.run pos pins _ σ H1 _ I2 q) fun us s2 hh => ?_) hst hpl
  obtain ⟨vs, H2, I3, rv, q2⟩ := hh
  exact ⟨I3.kIn, run_fnS (E := E) (us := us) (vs := vs) F (hr.mono hk) hb (hx σ) I3 rv q2⟩
end
/-- C.m is the plain def at ma C m -/
def cfB (x m : Str) (K : PySem.W.Frag) : Bool := PySem.W.readsIn K (He.ga K x) (.type "type") && (He.eqO (PySem.W.specialIn K (.ref (He.ga K x)) "__getattribute__") (some (some (.builtin "type.__getattribute__"))) &&
  (match PySem.W.findCls K (.ref (He.ga K x)) (.type "type") m with
  | some (.val (.ref f)) => f == He.fAd K (x, some m)
  | _ => false))
theorem cfB_ok {K : PySem.W.Frag} {x m : Str} (q : cfB x m K = true) : ClX.CRead K (He.ga K x) (.type "type") ∧ PySem.W.findCls K (.ref (He.ga K x)) (.type "type") m = some (.val (.ref (He.fAd K (x, some m)))) := by
  obtain ⟨q1, q⟩ := He.ba q
  obtain ⟨q2, q3⟩ := He.ba q
  refine ⟨⟨q1, He.eqO_ok q2⟩, ?_⟩
  split at q3
  · rename_i f hf
    have q3 : f = He.fAd K (x, some m) := by simpa using q3
    rw [hf, q3]
  · cases q3
/-- the __init__ of an error with three fields that calls the __init__ of its base for the first two -/
theorem ini3b {K : PySem.W.Frag} {f g h : Str} {vs : List V} {H : Hp} {Q : VK} {E : XK} {N : List Str} (hN : N.length = 4) (hh : spIn K [f, g, h] vs H Q E) :
    (tSeq (tDrop (tCl (spIn K [f, g]) (fun _ => E) (tCons (tVar 0) (tCons (tVar 1) (tCons (tVar 2) tNil))))) (tOst K h (tVar 0) (tVar 3))) { nx := fun _ H' => Q .non H', rt := Q } (start N vs) H := by
  obtain ⟨a, C, us, rfl, hl, T, hno, ha, q⟩ := hh
  match us, hl with
  | [v1, v2, v3], _ =>
    match N, hN with
    | [_, _, _, _], _ =>
      refine ⟨_, rfl, _, rfl, _, rfl, ⟨a, C, [v1, v2], rfl, rfl, T, fun x hx => hno x (by simp at hx ⊢; rcases hx with r | r <;> simp [r]), ha, fun dx H' hd ne h1 h2 h3 => ?_⟩⟩
      refine ⟨_, rfl, _, rfl, a, C, rfl, T, hno h (by simp), Or.inr ⟨dx, [(g, v2), (f, v1)], h1, h2, by show 2 ≤ 900; decide, ?_⟩⟩
      refine q dx _ hd ne ?_ upd_same fun b n1 n2 => ?_
      · rw [upd_ne (Ne.symm ne)]
        exact h1
      · rw [upd_ne n2]
        exact h3 b n1 n2
end G
set_option Elab.async false
set_option linter.all false
set_option maxRecDepth 100000
set_option maxHeartbeats 4000000
/-! f(e, ..): a def with keyword-only parameters, called without them. -/
namespace G
open PySem PySem.Spec PyProof.Rows L2
structure CalD (P : Program) (w : World) (K : PySem.W.Frag) (mg : Str → Option Value) (base : Heap) (k : Nat) (x : Str) (ps : List Str) (n : Nat) (dvs : List V) (sp : Sp) : Prop where
  ex : ∃ (f : Addr) (fd : FuncData) (g : List Value → List Value → List Value), FnOk P w K mg base (L2N.CX P w) k f fd ps sp ∧ mg x = some (.ref f) ∧ PySem.W.keepIn K (.ref f) = true ∧ KBn K fd ps n [] g (fun vs _ => vs ++ dvs)
def tClD (n : Nat) (sp : Sp) (dvs : List V) (E : L2.St → XK) (t : TA) : TE := fun σ H Q => t σ H fun vs H1 => vs.length = n ∧ sp (vs ++ dvs) H1 Q (E σ)
section
variable {X : Cx} {j k n : Nat} {x : Str} {ps : List Str} {dvs : List V} {sp : Sp} {E : L2.St → XK} {p pos : Pos} {e : Expr} {es : List Expr} {t : TA}
theorem pe_clD (c : CalD X.prog X.w X.K X.mg X.base k x ps n dvs sp) (hr : Room j X.A) (hk : k ≤ j) (hx : PAt X E) (ha : PA X (e :: es) t) (hg : Gl X x := by rfl) (hdb : (x == ("__debug__" : Str)) = false := by decide)
    (he : starEach (e :: es) X.env = (false, eval e X.env) :: starEach es X.env := by rfl) (hpl : (backTo pos (starEach es X.env)).any (·.1) = false := by rfl) : PE X (.Call (.Name x p) (e :: es) [] pos) (tClD n sp dvs E t) := by
  obtain ⟨f, fd, g, F, hm, kp, hb⟩ := c.ex
  refine ⟨fun pn s τ H Q I h => wpAny_Call_Name_kw (ld_glob I hg hm ?_ hdb)⟩
  refine PySem.W.callWith_K (h₀ := X.base) I.ok.mod.kin kp (thn (ha.run pos pn s τ H _ I h) fun us s1 hh => ?_) he hpl
  obtain ⟨vs, H1, I1, r, l1, q⟩ := hh
  exact ⟨I1.kIn, run_fnK (ks := []) (ws := []) (zs := []) F (hr.mono hk) hb (hx τ) I1 r .nil l1 rfl q⟩
end
section
variable {K : PySem.W.Frag} {x qual : Str} {params : Arguments} {body : List Stmt} {scope : Scope} {kws : List (Str × V)} {f : Addr} {fd : FuncData} {ps : List Str}
theorem kbn_def (F : FunD K x qual params body scope [] kws f fd) (n : Nat) (hk : kws ≠ [])
    (h : ∀ (D : Addr) (doc pm : Value) (an : Option Addr) (cdv ct : Value) (us mv : List Value), us.length = n → mv.length = kws.length →
      KwChain D ((kws.map (·.1)).zip mv) (bindArgs (PySem.W.fnOf x qual params body scope .none (.ref D) doc pm an cdv ct) ⟨us, []⟩) (ps.zip (us ++ mv))) :
    ∃ g : List Value → List Value → List Value, KBn K fd ps n [] g (fun vs _ => vs ++ kws.map (·.2)) := by
  obtain ⟨mv, hb⟩ := F.kbinds0 n [] kws (fun us ms _ => us ++ ms) hk (fun q hq => hq) (fun r1 r2 _ => r1.append r2) fun D doc pm an cdv ct us mv ws l1 l2 l3 => h D doc pm an cdv ct us mv l1 l2
  exact ⟨_, hb⟩
end
end G
set_option Elab.async false
set_option linter.all false
set_option maxRecDepth 100000
set_option maxHeartbeats 4000000
namespace G
open PySem PySem.Spec PyProof.Rows L2
def top (i : Nat) : Stmt := PySem.Challenge.pw_latelink_k12_whole_first_refusals.main.body.getD i (.Pass ⟨0, 0, 0, 0⟩)
abbrev s_Links_is_out : Stmt := inClass (top 15) 9
abbrev s_Links_left : Stmt := inClass (top 15) 7
abbrev s_Links_right : Stmt := inClass (top 15) 8
abbrev s__has_fitting_neighbours : Stmt := top 45
abbrev s_Links_is_legal : Stmt := inClass (top 15) 11
abbrev s_check_operation : Stmt := top 17
abbrev s_Links_check : Stmt := inClass (top 15) 12
abbrev s_foreign_writes : Stmt := top 30
abbrev s_left_to : Stmt := top 31
abbrev s__leaves_a_gap_to_a_holder_that_is_in : Stmt := top 44
abbrev s_check_gap : Stmt := top 32
abbrev s_gap_state : Stmt := top 29
abbrev s__loses_a_gap : Stmt := top 43
abbrev s_FreeMode_refusal : Stmt := inClass (top 34) 1
abbrev s_SavingMode_refusal : Stmt := inClass (top 35) 1
abbrev s_GuardedMode_refusal : Stmt := inClass (top 36) 1
abbrev s_CheckedMode_refusal : Stmt := inClass (top 37) 1
abbrev s_check_size : Stmt := top 16
abbrev s_Links___init__ : Stmt := inClass (top 15) 1
abbrev s_Links_apply_at : Stmt := inClass (top 15) 14
abbrev s_Links_apply : Stmt := inClass (top 15) 13
abbrev s_all_modes : Stmt := top 39
abbrev s_mode_named : Stmt := top 38
abbrev s_Links_copy : Stmt := inClass (top 15) 19
abbrev s_play : Stmt := top 27
abbrev s_replay : Stmt := top 26
abbrev s_first_refusal : Stmt := top 41
abbrev s_check_admitted : Stmt := top 42
abbrev s_replay_in : Stmt := top 40
abbrev s__law_headless : Stmt := top 66
abbrev s__law_dump : Stmt := top 54
abbrev s__law_moved : Stmt := top 53
abbrev s__law_operation : Stmt := top 52
abbrev s__law_lost : Stmt := top 55
abbrev s__law_refusing : Stmt := top 56
abbrev s__law_whole : Stmt := top 51
abbrev s__law_fate : Stmt := top 61
abbrev s__law_first : Stmt := top 62
abbrev s_Links_outs : Stmt := inClass (top 15) 10
abbrev s__joined : Stmt := top 20
abbrev s_dump_of : Stmt := top 19
abbrev s_Links_dump : Stmt := inClass (top 15) 21
abbrev s__law_is : Stmt := top 50
abbrev s__law_log_error : Stmt := top 63
abbrev s__law_replayed : Stmt := top 64
abbrev s__law_plain : Stmt := top 67
abbrev s__law_told : Stmt := top 65
abbrev s__law_words : Stmt := top 49
abbrev s__law_judged : Stmt := top 69
abbrev s__law_purse : Stmt := top 47
abbrev s__law_take : Stmt := top 48
abbrev s__law_path : Stmt := top 58
abbrev s__law_steered : Stmt := top 57
abbrev s__law_row : Stmt := top 59
abbrev s__law_spoilt : Stmt := top 60
abbrev s__law_run : Stmt := top 68
abbrev s_law : Stmt := top 70
abbrev s_BadGap___init__ : Stmt := inClass (top 9) 0
abbrev s_BadMode___init__ : Stmt := inClass (top 10) 0
abbrev s_BadNode___init__ : Stmt := inClass (top 8) 0
abbrev s_BadSize___init__ : Stmt := inClass (top 7) 0
abbrev s_LogError___init__ : Stmt := inClass (top 3) 0
abbrev s_Refused___init__ : Stmt := inClass (top 6) 0
theorem sc_Links_is_out : FnScope ["self", "node"] ["self", "node"] (defScope s_Links_is_out) := ⟨rfl, rfl, rfl, by decide +kernel, rfl, by decide +kernel, by decide +kernel⟩
theorem sc_Links_left : FnScope ["self", "node"] ["self", "node"] (defScope s_Links_left) := ⟨rfl, rfl, rfl, by decide +kernel, rfl, by decide +kernel, by decide +kernel⟩
theorem sc_Links_right : FnScope ["self", "node"] ["self", "node"] (defScope s_Links_right) := ⟨rfl, rfl, rfl, by decide +kernel, rfl, by decide +kernel, by decide +kernel⟩
theorem sc__has_fitting_neighbours : FnScope ["links", "operation", "node", "low", "high"] ["links", "operation"] (defScope s__has_fitting_neighbours) := ⟨rfl, rfl, rfl, by decide +kernel, rfl, by decide +kernel, by decide +kernel⟩
theorem sc_Links_is_legal : FnScope ["self", "operation"] ["self", "operation"] (defScope s_Links_is_legal) := ⟨rfl, rfl, rfl, by decide +kernel, rfl, by decide +kernel, by decide +kernel⟩
theorem sc_check_operation : FnScope ["size", "operation", "index"] ["size", "operation", "index"] (defScope s_check_operation) := ⟨rfl, rfl, rfl, by decide +kernel, rfl, by decide +kernel, by decide +kernel⟩
theorem sc_Links_check : FnScope ["self", "operation", "index"] ["self", "operation", "index"] (defScope s_Links_check) := ⟨rfl, rfl, rfl, by decide +kernel, rfl, by decide +kernel, by decide +kernel⟩
theorem sc_foreign_writes : FnScope ["links", "operation", "node", "low", "high", "written"] ["links", "operation"] (defScope s_foreign_writes) := ⟨rfl, rfl, rfl, by decide +kernel, rfl, by decide +kernel, by decide +kernel⟩
theorem sc_left_to : FnScope ["operation", "gap"] ["operation", "gap"] (defScope s_left_to) := ⟨rfl, rfl, rfl, by decide +kernel, rfl, by decide +kernel, by decide +kernel⟩
theorem sc__leaves_a_gap_to_a_holder_that_is_in : FnScope ["links", "operation", "gap"] ["links", "operation"] (defScope s__leaves_a_gap_to_a_holder_that_is_in) := ⟨rfl, rfl, rfl, by decide +kernel, rfl, by decide +kernel, by decide +kernel⟩
theorem sc_check_gap : FnScope ["size", "gap"] ["size", "gap"] (defScope s_check_gap) := ⟨rfl, rfl, rfl, by decide +kernel, rfl, by decide +kernel, by decide +kernel⟩
theorem sc_gap_state : FnScope ["links", "gap", "is_held_left", "is_held_right"] ["links", "gap"] (defScope s_gap_state) := ⟨rfl, rfl, rfl, by decide +kernel, rfl, by decide +kernel, by decide +kernel⟩
theorem sc__loses_a_gap : FnScope ["links", "operation", "gap"] ["links", "operation"] (defScope s__loses_a_gap) := ⟨rfl, rfl, rfl, by decide +kernel, rfl, by decide +kernel, by decide +kernel⟩
theorem sc_FreeMode_refusal : FnScope ["self", "links", "operation"] ["self", "links", "operation"] (defScope s_FreeMode_refusal) := ⟨rfl, rfl, rfl, by decide +kernel, rfl, by decide +kernel, by decide +kernel⟩
theorem sc_SavingMode_refusal : NdefX.NScope ["self", "links", "operation", "__class__", "refusing"] ["self", "links", "operation"] ["__class__"] (defScope s_SavingMode_refusal) := NdefX.nscope_by (by decide +kernel)
theorem sc_GuardedMode_refusal : NdefX.NScope ["self", "links", "operation", "__class__", "refusing"] ["self", "links", "operation"] ["__class__"] (defScope s_GuardedMode_refusal) := NdefX.nscope_by (by decide +kernel)
theorem sc_CheckedMode_refusal : NdefX.NScope ["self", "links", "operation", "__class__", "refusing"] ["self", "links", "operation"] ["__class__"] (defScope s_CheckedMode_refusal) := NdefX.nscope_by (by decide +kernel)
theorem sc_check_size : FnScope ["size"] ["size"] (defScope s_check_size) := ⟨rfl, rfl, rfl, by decide +kernel, rfl, by decide +kernel, by decide +kernel⟩
theorem sc_Links___init__ : FnScope ["self", "size"] ["self", "size"] (defScope s_Links___init__) := ⟨rfl, rfl, rfl, by decide +kernel, rfl, by decide +kernel, by decide +kernel⟩
theorem sc_Links_apply_at : FnScope ["self", "operation", "index", "node", "low", "high", "is_unlink"] ["self", "operation", "index"] (defScope s_Links_apply_at) := ⟨rfl, rfl, rfl, by decide +kernel, rfl, by decide +kernel, by decide +kernel⟩
theorem sc_Links_apply : FnScope ["self", "operation"] ["self", "operation"] (defScope s_Links_apply) := ⟨rfl, rfl, rfl, by decide +kernel, rfl, by decide +kernel, by decide +kernel⟩
theorem sc_all_modes : FnScope [] [] (defScope s_all_modes) := ⟨rfl, rfl, rfl, by decide +kernel, rfl, by decide +kernel, by decide +kernel⟩
theorem sc_mode_named : FnScope ["mode", "known"] ["mode"] (defScope s_mode_named) := ⟨rfl, rfl, rfl, by decide +kernel, rfl, by decide +kernel, by decide +kernel⟩
theorem sc_Links_copy : FnScope ["self", "twin"] ["self"] (defScope s_Links_copy) := ⟨rfl, rfl, rfl, by decide +kernel, rfl, by decide +kernel, by decide +kernel⟩
theorem sc_play : FnScope ["links", "log", "after", "index", "operation"] ["links", "log"] (defScope s_play) := ⟨rfl, rfl, rfl, by decide +kernel, rfl, by decide +kernel, by decide +kernel⟩
theorem sc_replay : FnScope ["size", "log"] ["size", "log"] (defScope s_replay) := ⟨rfl, rfl, rfl, by decide +kernel, rfl, by decide +kernel, by decide +kernel⟩
theorem sc_first_refusal : FnScope ["size", "log", "mode", "judge", "links", "index", "operation"] ["size", "log", "mode"] (defScope s_first_refusal) := ⟨rfl, rfl, rfl, by decide +kernel, rfl, by decide +kernel, by decide +kernel⟩
theorem sc_check_admitted : FnScope ["links", "operation", "index", "judge", "refusing"] ["links", "operation", "index", "judge"] (defScope s_check_admitted) := ⟨rfl, rfl, rfl, by decide +kernel, rfl, by decide +kernel, by decide +kernel⟩
theorem sc_replay_in : FnScope ["size", "log", "mode", "links", "judge", "index", "operation"] ["size", "log", "mode"] (defScope s_replay_in) := ⟨rfl, rfl, rfl, by decide +kernel, rfl, by decide +kernel, by decide +kernel⟩
theorem sc__law_headless : FnScope ["way", "size", "row", "text", "raised", "good"] ["way", "size", "row", "text"] (defScope s__law_headless) := ⟨rfl, rfl, rfl, by decide +kernel, rfl, by decide +kernel, by decide +kernel⟩
theorem sc__law_dump : FnScope ["book", "size", "first", "second", "outs", "third", "link", "node"] ["book"] (defScope s__law_dump) := ⟨rfl, rfl, rfl, by decide +kernel, rfl, by decide +kernel, by decide +kernel⟩
theorem sc__law_moved : FnScope ["book", "node", "lefts", "rights", "flags", "lower", "upper"] ["book", "node"] (defScope s__law_moved) := ⟨rfl, rfl, rfl, by decide +kernel, rfl, by decide +kernel, by decide +kernel⟩
theorem sc__law_operation : FnScope ["book", "node"] ["book", "node"] (defScope s__law_operation) := ⟨rfl, rfl, rfl, by decide +kernel, rfl, by decide +kernel, by decide +kernel⟩
theorem sc__law_lost : FnScope ["book", "gap"] ["book"] (defScope s__law_lost) := ⟨rfl, rfl, rfl, by decide +kernel, rfl, by decide +kernel, by decide +kernel⟩
theorem sc__law_refusing : FnScope ["book", "node", "word", "known", "lower", "upper", "first", "second", "gap"] ["book", "node", "word"] (defScope s__law_refusing) := ⟨rfl, rfl, rfl, by decide +kernel, rfl, by decide +kernel, by decide +kernel⟩
theorem sc__law_whole : FnScope ["size", "lefts", "rights", "node"] ["size"] (defScope s__law_whole) := ⟨rfl, rfl, rfl, by decide +kernel, rfl, by decide +kernel, by decide +kernel⟩
theorem sc__law_fate : FnScope ["size", "row", "word", "book", "index", "operation", "node", "refusing"] ["size", "row", "word"] (defScope s__law_fate) := ⟨rfl, rfl, rfl, by decide +kernel, rfl, by decide +kernel, by decide +kernel⟩
theorem sc__law_first : FnScope ["size", "row", "word", "fate"] ["size", "row", "word"] (defScope s__law_first) := ⟨rfl, rfl, rfl, by decide +kernel, rfl, by decide +kernel, by decide +kernel⟩
theorem sc_Links_outs : FnScope ["self", "node"] ["self"] (defScope s_Links_outs) := ⟨rfl, rfl, rfl, by decide +kernel, rfl, by decide +kernel, by decide +kernel⟩
theorem sc__joined : FnScope ["numbers", "number"] ["numbers"] (defScope s__joined) := ⟨rfl, rfl, rfl, by decide +kernel, rfl, by decide +kernel, by decide +kernel⟩
theorem sc_dump_of : FnScope ["rights", "lefts", "outs"] ["rights", "lefts", "outs"] (defScope s_dump_of) := ⟨rfl, rfl, rfl, by decide +kernel, rfl, by decide +kernel, by decide +kernel⟩
theorem sc_Links_dump : FnScope ["self"] ["self"] (defScope s_Links_dump) := ⟨rfl, rfl, rfl, by decide +kernel, rfl, by decide +kernel, by decide +kernel⟩
theorem sc__law_is : FnScope ["told", "due"] ["told", "due"] (defScope s__law_is) := ⟨rfl, rfl, rfl, by decide +kernel, rfl, by decide +kernel, by decide +kernel⟩
theorem sc__law_log_error : FnScope ["raised", "operation", "index", "good"] ["raised", "operation", "index"] (defScope s__law_log_error) := ⟨rfl, rfl, rfl, by decide +kernel, rfl, by decide +kernel, by decide +kernel⟩
theorem sc__law_replayed : FnScope ["size", "row", "word", "told", "raised"] ["size", "row", "word"] (defScope s__law_replayed) := ⟨rfl, rfl, rfl, by decide +kernel, rfl, by decide +kernel, by decide +kernel⟩
theorem sc__law_plain : FnScope ["size", "row", "due", "told", "book", "operation", "node", "again"] ["size", "row"] (defScope s__law_plain) := ⟨rfl, rfl, rfl, by decide +kernel, rfl, by decide +kernel, by decide +kernel⟩
theorem sc__law_told : FnScope ["size", "row", "word", "told", "raised"] ["size", "row", "word"] (defScope s__law_told) := ⟨rfl, rfl, rfl, by decide +kernel, rfl, by decide +kernel, by decide +kernel⟩
theorem sc__law_words : FnScope [] [] (defScope s__law_words) := ⟨rfl, rfl, rfl, by decide +kernel, rfl, by decide +kernel, by decide +kernel⟩
theorem sc__law_judged : FnScope ["size", "row", "log", "word"] ["size", "row"] (defScope s__law_judged) := ⟨rfl, rfl, rfl, by decide +kernel, rfl, by decide +kernel, by decide +kernel⟩
theorem sc__law_purse : FnScope ["script", "cells", "seed", "cell"] ["script"] (defScope s__law_purse) := ⟨rfl, rfl, rfl, by decide +kernel, rfl, by decide +kernel, by decide +kernel⟩
theorem sc__law_take : FnScope ["purse", "many", "cells", "draw"] ["purse", "many"] (defScope s__law_take) := ⟨rfl, rfl, rfl, by decide +kernel, rfl, by decide +kernel, by decide +kernel⟩
theorem sc__law_path : FnScope ["purse", "wide", "paths", "path", "place"] ["purse", "wide"] (defScope s__law_path) := ⟨rfl, rfl, rfl, by decide +kernel, rfl, by decide +kernel, by decide +kernel⟩
theorem sc__law_steered : FnScope ["purse", "book", "shift", "word", "stop", "wide", "place", "steered", "k", "node"] ["purse", "book", "shift", "word", "stop"] (defScope s__law_steered) := ⟨rfl, rfl, rfl, by decide +kernel, rfl, by decide +kernel, by decide +kernel⟩
theorem sc__law_row : FnScope ["purse", "size", "shift", "many", "word", "book", "row", "late", "stop", "first", "turn", "sharp", "node"] ["purse", "size", "shift", "many", "word"] (defScope s__law_row) := ⟨rfl, rfl, rfl, by decide +kernel, rfl, by decide +kernel, by decide +kernel⟩
theorem sc__law_spoilt : FnScope ["purse", "size", "row", "place", "far", "pick", "wrong"] ["purse", "size", "row"] (defScope s__law_spoilt) := ⟨rfl, rfl, rfl, by decide +kernel, rfl, by decide +kernel, by decide +kernel⟩
theorem sc__law_run : FnScope ["purse", "wide", "size", "many", "shift", "row"] ["purse"] (defScope s__law_run) := ⟨rfl, rfl, rfl, by decide +kernel, rfl, by decide +kernel, by decide +kernel⟩
theorem sc_law : FnScope ["script", "purse", "turn", "made", "size", "row", "word", "text", "beyond", "way"] ["script"] (defScope s_law) := ⟨rfl, rfl, rfl, by decide +kernel, rfl, by decide +kernel, by decide +kernel⟩
theorem sc_BadGap___init__ : FnScope ["self", "gap"] ["self", "gap"] (defScope s_BadGap___init__) := ⟨rfl, rfl, rfl, by decide +kernel, rfl, by decide +kernel, by decide +kernel⟩
theorem sc_BadMode___init__ : FnScope ["self", "name"] ["self", "name"] (defScope s_BadMode___init__) := ⟨rfl, rfl, rfl, by decide +kernel, rfl, by decide +kernel, by decide +kernel⟩
theorem sc_BadNode___init__ : FnScope ["self", "node"] ["self", "node"] (defScope s_BadNode___init__) := ⟨rfl, rfl, rfl, by decide +kernel, rfl, by decide +kernel, by decide +kernel⟩
theorem sc_BadSize___init__ : FnScope ["self", "size"] ["self", "size"] (defScope s_BadSize___init__) := ⟨rfl, rfl, rfl, by decide +kernel, rfl, by decide +kernel, by decide +kernel⟩
theorem sc_LogError___init__ : FnScope ["self", "operation", "index"] ["self", "operation", "index"] (defScope s_LogError___init__) := ⟨rfl, rfl, rfl, by decide +kernel, rfl, by decide +kernel, by decide +kernel⟩
theorem sc_Refused___init__ : FnScope ["self", "operation", "index", "refusing"] ["self", "operation", "index", "refusing"] (defScope s_Refused___init__) := ⟨rfl, rfl, rfl, by decide +kernel, rfl, by decide +kernel, by decide +kernel⟩
def d_Links_is_out : He5.DefA := ⟨fun K => He.fAd K ("Links", some "is_out"), "is_out", "Links.is_out", defArgs s_Links_is_out, defBody s_Links_is_out, defScope s_Links_is_out, [], []⟩
def d_Links_left : He5.DefA := ⟨fun K => He.fAd K ("Links", some "left"), "left", "Links.left", defArgs s_Links_left, defBody s_Links_left, defScope s_Links_left, [], []⟩
def d_Links_right : He5.DefA := ⟨fun K => He.fAd K ("Links", some "right"), "right", "Links.right", defArgs s_Links_right, defBody s_Links_right, defScope s_Links_right, [], []⟩
def d__has_fitting_neighbours : He5.DefA := ⟨fun K => He.fAd K ("_has_fitting_neighbours", none), "_has_fitting_neighbours", "_has_fitting_neighbours", defArgs s__has_fitting_neighbours, defBody s__has_fitting_neighbours, defScope s__has_fitting_neighbours, [], []⟩
def d_Links_is_legal : He5.DefA := ⟨fun K => He.fAd K ("Links", some "is_legal"), "is_legal", "Links.is_legal", defArgs s_Links_is_legal, defBody s_Links_is_legal, defScope s_Links_is_legal, [], []⟩
def d_check_operation : He5.DefA := ⟨fun K => He.fAd K ("check_operation", none), "check_operation", "check_operation", defArgs s_check_operation, defBody s_check_operation, defScope s_check_operation, [], []⟩
def d_Links_check : He5.DefA := ⟨fun K => He.fAd K ("Links", some "check"), "check", "Links.check", defArgs s_Links_check, defBody s_Links_check, defScope s_Links_check, [], []⟩
def d_foreign_writes : He5.DefA := ⟨fun K => He.fAd K ("foreign_writes", none), "foreign_writes", "foreign_writes", defArgs s_foreign_writes, defBody s_foreign_writes, defScope s_foreign_writes, [], []⟩
def d_left_to : He5.DefA := ⟨fun K => He.fAd K ("left_to", none), "left_to", "left_to", defArgs s_left_to, defBody s_left_to, defScope s_left_to, [], []⟩
def d__leaves_a_gap_to_a_holder_that_is_in : He5.DefA := ⟨fun K => He.fAd K ("_leaves_a_gap_to_a_holder_that_is_in", none), "_leaves_a_gap_to_a_holder_that_is_in", "_leaves_a_gap_to_a_holder_that_is_in", defArgs s__leaves_a_gap_to_a_holder_that_is_in, defBody s__leaves_a_gap_to_a_holder_that_is_in, defScope s__leaves_a_gap_to_a_holder_that_is_in, [], []⟩
def d_check_gap : He5.DefA := ⟨fun K => He.fAd K ("check_gap", none), "check_gap", "check_gap", defArgs s_check_gap, defBody s_check_gap, defScope s_check_gap, [], []⟩
def d_gap_state : He5.DefA := ⟨fun K => He.fAd K ("gap_state", none), "gap_state", "gap_state", defArgs s_gap_state, defBody s_gap_state, defScope s_gap_state, [], []⟩
def d__loses_a_gap : He5.DefA := ⟨fun K => He.fAd K ("_loses_a_gap", none), "_loses_a_gap", "_loses_a_gap", defArgs s__loses_a_gap, defBody s__loses_a_gap, defScope s__loses_a_gap, [], []⟩
def d_FreeMode_refusal : He5.DefA := ⟨fun K => He.fAd K ("FreeMode", some "refusal"), "refusal", "FreeMode.refusal", defArgs s_FreeMode_refusal, defBody s_FreeMode_refusal, defScope s_FreeMode_refusal, [], []⟩
def d_SavingMode_refusal : DefS := ⟨fun K => He.fAd K ("SavingMode", some "refusal"), "refusal", "SavingMode.refusal", defArgs s_SavingMode_refusal, defBody s_SavingMode_refusal, defScope s_SavingMode_refusal, fun K => He.ga K "SavingMode", PySem.Challenge.pw_latelink_k12_whole_first_refusals.main.file⟩
def d_GuardedMode_refusal : DefS := ⟨fun K => He.fAd K ("GuardedMode", some "refusal"), "refusal", "GuardedMode.refusal", defArgs s_GuardedMode_refusal, defBody s_GuardedMode_refusal, defScope s_GuardedMode_refusal, fun K => He.ga K "GuardedMode", PySem.Challenge.pw_latelink_k12_whole_first_refusals.main.file⟩
def d_CheckedMode_refusal : DefS := ⟨fun K => He.fAd K ("CheckedMode", some "refusal"), "refusal", "CheckedMode.refusal", defArgs s_CheckedMode_refusal, defBody s_CheckedMode_refusal, defScope s_CheckedMode_refusal, fun K => He.ga K "CheckedMode", PySem.Challenge.pw_latelink_k12_whole_first_refusals.main.file⟩
def d_check_size : He5.DefA := ⟨fun K => He.fAd K ("check_size", none), "check_size", "check_size", defArgs s_check_size, defBody s_check_size, defScope s_check_size, [], []⟩
def d_Links___init__ : He5.DefA := ⟨fun K => He.fAd K ("Links", some "__init__"), "__init__", "Links.__init__", defArgs s_Links___init__, defBody s_Links___init__, defScope s_Links___init__, [], []⟩
def d_Links_apply_at : He5.DefA := ⟨fun K => He.fAd K ("Links", some "apply_at"), "apply_at", "Links.apply_at", defArgs s_Links_apply_at, defBody s_Links_apply_at, defScope s_Links_apply_at, [], []⟩
def d_Links_apply : He5.DefA := ⟨fun K => He.fAd K ("Links", some "apply"), "apply", "Links.apply", defArgs s_Links_apply, defBody s_Links_apply, defScope s_Links_apply, [], []⟩
def d_all_modes : He5.DefA := ⟨fun K => He.fAd K ("all_modes", none), "all_modes", "all_modes", defArgs s_all_modes, defBody s_all_modes, defScope s_all_modes, [], []⟩
def d_mode_named : He5.DefA := ⟨fun K => He.fAd K ("mode_named", none), "mode_named", "mode_named", defArgs s_mode_named, defBody s_mode_named, defScope s_mode_named, [], []⟩
def d_Links_copy : He5.DefA := ⟨fun K => He.fAd K ("Links", some "copy"), "copy", "Links.copy", defArgs s_Links_copy, defBody s_Links_copy, defScope s_Links_copy, [], []⟩
def d_play : He5.DefA := ⟨fun K => He.fAd K ("play", none), "play", "play", defArgs s_play, defBody s_play, defScope s_play, [], []⟩
def d_replay : He5.DefA := ⟨fun K => He.fAd K ("replay", none), "replay", "replay", defArgs s_replay, defBody s_replay, defScope s_replay, [], []⟩
def d_first_refusal : He5.DefA := ⟨fun K => He.fAd K ("first_refusal", none), "first_refusal", "first_refusal", defArgs s_first_refusal, defBody s_first_refusal, defScope s_first_refusal, [], [("mode", .str "free")]⟩
def d_check_admitted : He5.DefA := ⟨fun K => He.fAd K ("check_admitted", none), "check_admitted", "check_admitted", defArgs s_check_admitted, defBody s_check_admitted, defScope s_check_admitted, [], []⟩
def d_replay_in : He5.DefA := ⟨fun K => He.fAd K ("replay_in", none), "replay_in", "replay_in", defArgs s_replay_in, defBody s_replay_in, defScope s_replay_in, [], [("mode", .str "free")]⟩
def d__law_headless : He5.DefA := ⟨fun K => He.fAd K ("_law_headless", none), "_law_headless", "_law_headless", defArgs s__law_headless, defBody s__law_headless, defScope s__law_headless, [], []⟩
def d__law_dump : He5.DefA := ⟨fun K => He.fAd K ("_law_dump", none), "_law_dump", "_law_dump", defArgs s__law_dump, defBody s__law_dump, defScope s__law_dump, [], []⟩
def d__law_moved : He5.DefA := ⟨fun K => He.fAd K ("_law_moved", none), "_law_moved", "_law_moved", defArgs s__law_moved, defBody s__law_moved, defScope s__law_moved, [], []⟩
def d__law_operation : He5.DefA := ⟨fun K => He.fAd K ("_law_operation", none), "_law_operation", "_law_operation", defArgs s__law_operation, defBody s__law_operation, defScope s__law_operation, [], []⟩
def d__law_lost : He5.DefA := ⟨fun K => He.fAd K ("_law_lost", none), "_law_lost", "_law_lost", defArgs s__law_lost, defBody s__law_lost, defScope s__law_lost, [], []⟩
def d__law_refusing : He5.DefA := ⟨fun K => He.fAd K ("_law_refusing", none), "_law_refusing", "_law_refusing", defArgs s__law_refusing, defBody s__law_refusing, defScope s__law_refusing, [], []⟩
def d__law_whole : He5.DefA := ⟨fun K => He.fAd K ("_law_whole", none), "_law_whole", "_law_whole", defArgs s__law_whole, defBody s__law_whole, defScope s__law_whole, [], []⟩
def d__law_fate : He5.DefA := ⟨fun K => He.fAd K ("_law_fate", none), "_law_fate", "_law_fate", defArgs s__law_fate, defBody s__law_fate, defScope s__law_fate, [], []⟩
def d__law_first : He5.DefA := ⟨fun K => He.fAd K ("_law_first", none), "_law_first", "_law_first", defArgs s__law_first, defBody s__law_first, defScope s__law_first, [], []⟩
def d_Links_outs : He5.DefA := ⟨fun K => He.fAd K ("Links", some "outs"), "outs", "Links.outs", defArgs s_Links_outs, defBody s_Links_outs, defScope s_Links_outs, [], []⟩
def d__joined : He5.DefA := ⟨fun K => He.fAd K ("_joined", none), "_joined", "_joined", defArgs s__joined, defBody s__joined, defScope s__joined, [], []⟩
def d_dump_of : He5.DefA := ⟨fun K => He.fAd K ("dump_of", none), "dump_of", "dump_of", defArgs s_dump_of, defBody s_dump_of, defScope s_dump_of, [], []⟩
def d_Links_dump : He5.DefA := ⟨fun K => He.fAd K ("Links", some "dump"), "dump", "Links.dump", defArgs s_Links_dump, defBody s_Links_dump, defScope s_Links_dump, [], []⟩
def d__law_is : He5.DefA := ⟨fun K => He.fAd K ("_law_is", none), "_law_is", "_law_is", defArgs s__law_is, defBody s__law_is, defScope s__law_is, [], []⟩
def d__law_log_error : He5.DefA := ⟨fun K => He.fAd K ("_law_log_error", none), "_law_log_error", "_law_log_error", defArgs s__law_log_error, defBody s__law_log_error, defScope s__law_log_error, [], []⟩
def d__law_replayed : He5.DefA := ⟨fun K => He.fAd K ("_law_replayed", none), "_law_replayed", "_law_replayed", defArgs s__law_replayed, defBody s__law_replayed, defScope s__law_replayed, [], []⟩
def d__law_plain : He5.DefA := ⟨fun K => He.fAd K ("_law_plain", none), "_law_plain", "_law_plain", defArgs s__law_plain, defBody s__law_plain, defScope s__law_plain, [], []⟩
def d__law_told : He5.DefA := ⟨fun K => He.fAd K ("_law_told", none), "_law_told", "_law_told", defArgs s__law_told, defBody s__law_told, defScope s__law_told, [], []⟩
def d__law_words : He5.DefA := ⟨fun K => He.fAd K ("_law_words", none), "_law_words", "_law_words", defArgs s__law_words, defBody s__law_words, defScope s__law_words, [], []⟩
def d__law_judged : He5.DefA := ⟨fun K => He.fAd K ("_law_judged", none), "_law_judged", "_law_judged", defArgs s__law_judged, defBody s__law_judged, defScope s__law_judged, [], []⟩
def d__law_purse : He5.DefA := ⟨fun K => He.fAd K ("_law_purse", none), "_law_purse", "_law_purse", defArgs s__law_purse, defBody s__law_purse, defScope s__law_purse, [], []⟩
def d__law_take : He5.DefA := ⟨fun K => He.fAd K ("_law_take", none), "_law_take", "_law_take", defArgs s__law_take, defBody s__law_take, defScope s__law_take, [], []⟩
def d__law_path : He5.DefA := ⟨fun K => He.fAd K ("_law_path", none), "_law_path", "_law_path", defArgs s__law_path, defBody s__law_path, defScope s__law_path, [], []⟩
def d__law_steered : He5.DefA := ⟨fun K => He.fAd K ("_law_steered", none), "_law_steered", "_law_steered", defArgs s__law_steered, defBody s__law_steered, defScope s__law_steered, [], []⟩
def d__law_row : He5.DefA := ⟨fun K => He.fAd K ("_law_row", none), "_law_row", "_law_row", defArgs s__law_row, defBody s__law_row, defScope s__law_row, [], []⟩
def d__law_spoilt : He5.DefA := ⟨fun K => He.fAd K ("_law_spoilt", none), "_law_spoilt", "_law_spoilt", defArgs s__law_spoilt, defBody s__law_spoilt, defScope s__law_spoilt, [], []⟩
def d__law_run : He5.DefA := ⟨fun K => He.fAd K ("_law_run", none), "_law_run", "_law_run", defArgs s__law_run, defBody s__law_run, defScope s__law_run, [], []⟩
def d_law : He5.DefA := ⟨fun K => He.fAd K ("law", none), "law", "law", defArgs s_law, defBody s_law, defScope s_law, [], []⟩
def d_BadGap___init__ : He5.DefA := ⟨fun K => He.fAd K ("BadGap", some "__init__"), "__init__", "BadGap.__init__", defArgs s_BadGap___init__, defBody s_BadGap___init__, defScope s_BadGap___init__, [], []⟩
def d_BadMode___init__ : He5.DefA := ⟨fun K => He.fAd K ("BadMode", some "__init__"), "__init__", "BadMode.__init__", defArgs s_BadMode___init__, defBody s_BadMode___init__, defScope s_BadMode___init__, [], []⟩
def d_BadNode___init__ : He5.DefA := ⟨fun K => He.fAd K ("BadNode", some "__init__"), "__init__", "BadNode.__init__", defArgs s_BadNode___init__, defBody s_BadNode___init__, defScope s_BadNode___init__, [], []⟩
def d_BadSize___init__ : He5.DefA := ⟨fun K => He.fAd K ("BadSize", some "__init__"), "__init__", "BadSize.__init__", defArgs s_BadSize___init__, defBody s_BadSize___init__, defScope s_BadSize___init__, [], []⟩
def d_LogError___init__ : He5.DefA := ⟨fun K => He.fAd K ("LogError", some "__init__"), "__init__", "LogError.__init__", defArgs s_LogError___init__, defBody s_LogError___init__, defScope s_LogError___init__, [], []⟩
def d_Refused___init__ : He5.DefA := ⟨fun K => He.fAd K ("Refused", some "__init__"), "__init__", "Refused.__init__", defArgs s_Refused___init__, defBody s_Refused___init__, defScope s_Refused___init__, [], []⟩
def fnL : List He5.DefA := [d_Links_is_out, d_Links_left, d_Links_right, d__has_fitting_neighbours, d_Links_is_legal, d_check_operation, d_Links_check, d_foreign_writes, d_left_to, d__leaves_a_gap_to_a_holder_that_is_in, d_check_gap, d_gap_state, d__loses_a_gap, d_FreeMode_refusal, d_check_size, d_Links___init__, d_Links_apply_at, d_Links_apply, d_all_modes, d_mode_named, d_Links_copy, d_play, d_replay, d_first_refusal, d_check_admitted, d_replay_in, d__law_headless, d__law_dump, d__law_moved, d__law_operation, d__law_lost, d__law_refusing, d__law_whole, d__law_fate, d__law_first, d_Links_outs, d__joined, d_dump_of, d_Links_dump, d__law_is, d__law_log_error, d__law_replayed, d__law_plain, d__law_told, d__law_words, d__law_judged, d__law_purse, d__law_take, d__law_path, d__law_steered, d__law_row, d__law_spoilt, d__law_run, d_law, d_BadGap___init__, d_BadMode___init__, d_BadNode___init__, d_BadSize___init__, d_LogError___init__, d_Refused___init__]
def fsL : List DefS := [d_SavingMode_refusal, d_GuardedMode_refusal, d_CheckedMode_refusal]
def chkL : List Chk := [fa_ (.glo "LinkError"),
  fa_ (.glo "LogError"),
  fa_ (.glo "BadOperation"),
  fa_ (.glo "Illegal"),
  fa_ (.glo "Refused"),
  fa_ (.glo "BadSize"),
  fa_ (.glo "BadNode"),
  fa_ (.glo "BadGap"),
  fa_ (.glo "BadMode"),
  fa_ (.glo "BadDump"),
  fa_ (.glo "Links"),
  fa_ (.glo "FreeMode"),
  fa_ (.glo "SavingMode"),
  fa_ (.glo "GuardedMode"),
  fa_ (.glo "CheckedMode"),
  fa_ (.glo "_has_fitting_neighbours"),
  fa_ (.glo "check_operation"),
  fa_ (.glo "foreign_writes"),
  fa_ (.glo "left_to"),
  fa_ (.glo "_leaves_a_gap_to_a_holder_that_is_in"),
  fa_ (.glo "check_gap"),
  fa_ (.glo "gap_state"),
  fa_ (.glo "_loses_a_gap"),
  fa_ (.glo "check_size"),
  fa_ (.glo "all_modes"),
  fa_ (.glo "mode_named"),
  fa_ (.glo "play"),
  fa_ (.glo "replay"),
  fa_ (.glo "first_refusal"),
  fa_ (.glo "check_admitted"),
  fa_ (.glo "replay_in"),
  fa_ (.glo "_law_headless"),
  fa_ (.glo "_law_dump"),
  fa_ (.glo "_law_moved"),
  fa_ (.glo "_law_operation"),
  fa_ (.glo "_law_lost"),
  fa_ (.glo "_law_refusing"),
  fa_ (.glo "_law_whole"),
  fa_ (.glo "_law_fate"),
  fa_ (.glo "_law_first"),
  fa_ (.glo "_joined"),
  fa_ (.glo "dump_of"),
  fa_ (.glo "_law_is"),
  fa_ (.glo "_law_log_error"),
  fa_ (.glo "_law_replayed"),
  fa_ (.glo "_law_plain"),
  fa_ (.glo "_law_told"),
  fa_ (.glo "_law_words"),
  fa_ (.glo "_law_judged"),
  fa_ (.glo "_law_purse"),
  fa_ (.glo "_law_take"),
  fa_ (.glo "_law_path"),
  fa_ (.glo "_law_steered"),
  fa_ (.glo "_law_row"),
  fa_ (.glo "_law_spoilt"),
  fa_ (.glo "_law_run"),
  fa_ (.glo "law"),
  fa_ (.free "ValueError"),
  fa_ (.free "abs"),
  fa_ (.free "any"),
  fa_ (.free "bool"),
  fa_ (.free "enumerate"),
  fa_ (.free "int"),
  fa_ (.free "isinstance"),
  fa_ (.free "len"),
  fa_ (.free "list"),
  fa_ (.free "max"),
  fa_ (.free "min"),
  fa_ (.free "range"),
  fa_ (.free "str"),
  fa_ (.free "super"),
  fa_ (.free "tuple"),
  fa_ (.str "DIGITS" "0123456789"),
  fa_ (.int "MOST_DIGITS" 9),
  ccsB "CheckedMode" "NAME" "checked",
  ccsB "GuardedMode" "NAME" "guarded",
  ccB "Links" "MOST" 60,
  ccsB "SavingMode" "NAME" "saving",
  conB "CheckedMode" "NAME" "checked",
  conB "FreeMode" "NAME" "free",
  conB "GuardedMode" "NAME" "guarded",
  conB "SavingMode" "NAME" "saving",
  (fun K => mk0B K (He.ga K "CheckedMode")),
  (fun K => mk0B K (He.ga K "FreeMode")),
  (fun K => mk0B K (He.ga K "GuardedMode")),
  (fun K => mk0B K (He.ga K "SavingMode")),
  (fun K => supB K (He.ga K "SavingMode") (He.ga K "SavingMode") "refusal" (He.fAd K ("FreeMode", some "refusal"))),
  (fun K => supB K (He.ga K "GuardedMode") (He.ga K "SavingMode") "refusal" (He.fAd K ("FreeMode", some "refusal"))),
  (fun K => supB K (He.ga K "CheckedMode") (He.ga K "SavingMode") "refusal" (He.fAd K ("FreeMode", some "refusal"))),
  (fun K => supB K (He.ga K "GuardedMode") (He.ga K "GuardedMode") "refusal" (He.fAd K ("SavingMode", some "refusal"))),
  (fun K => supB K (He.ga K "CheckedMode") (He.ga K "GuardedMode") "refusal" (He.fAd K ("SavingMode", some "refusal"))),
  (fun K => supB K (He.ga K "CheckedMode") (He.ga K "CheckedMode") "refusal" (He.fAd K ("GuardedMode", some "refusal"))),
  fa_ (.cls "Links"),
  tyB "Links",
  fa_ (.noat "Links" "_lefts"),
  fa_ (.noat "Links" "_out"),
  fa_ (.noat "Links" "_rights"),
  fa_ (.noat "Links" "size"),
  fa_ (.meth "Links" "is_out"),
  fa_ (.meth "Links" "left"),
  fa_ (.meth "Links" "right"),
  fa_ (.meth "Links" "is_legal"),
  fa_ (.meth "Links" "check"),
  fa_ (.mkr "Links"),
  fa_ (.meth "Links" "apply_at"),
  fa_ (.meth "Links" "apply"),
  fa_ (.meth "Links" "copy"),
  fa_ (.meth "Links" "outs"),
  fa_ (.meth "Links" "dump"),
  fa_ (.cls "FreeMode"),
  tyB "FreeMode",
  fa_ (.meth "FreeMode" "refusal"),
  fa_ (.cls "SavingMode"),
  tyB "SavingMode",
  fa_ (.meth "SavingMode" "refusal"),
  fa_ (.cls "GuardedMode"),
  tyB "GuardedMode",
  fa_ (.meth "GuardedMode" "refusal"),
  fa_ (.cls "CheckedMode"),
  tyB "CheckedMode",
  fa_ (.meth "CheckedMode" "refusal"),
  cfB "LogError" "__init__",
  askB "BadDump",
  askB "BadGap",
  askB "BadMode",
  askB "BadNode",
  askB "BadOperation",
  askB "BadSize",
  askB "Illegal",
  askB "LinkError",
  askB "LogError",
  askB "Refused",
  excB "BadGap" ["gap"],
  iniB "BadGap",
  kitB2 "BadGap" "BadDump" false,
  kitB2 "BadGap" "BadGap" true,
  kitB2 "BadGap" "BadMode" false,
  exmB "BadGap" "BadMode" false,
  kitB2 "BadGap" "BadNode" false,
  kitB2 "BadGap" "BadOperation" false,
  exmB "BadGap" "BadOperation" false,
  kitB2 "BadGap" "BadSize" false,
  exmB "BadGap" "BadSize" false,
  kitB2 "BadGap" "Illegal" false,
  exmB "BadGap" "Illegal" false,
  kitB2 "BadGap" "LinkError" true,
  exmB "BadGap" "LinkError" true,
  kitB2 "BadGap" "LogError" false,
  kitB2 "BadGap" "Refused" false,
  exmB "BadGap" "Refused" false,
  kitT2 "BadGap" "ValueError" true,
  excB "BadMode" ["name"],
  iniB "BadMode",
  kitB2 "BadMode" "BadDump" false,
  kitB2 "BadMode" "BadGap" false,
  kitB2 "BadMode" "BadMode" true,
  exmB "BadMode" "BadMode" true,
  kitB2 "BadMode" "BadNode" false,
  kitB2 "BadMode" "BadOperation" false,
  exmB "BadMode" "BadOperation" false,
  kitB2 "BadMode" "BadSize" false,
  exmB "BadMode" "BadSize" false,
  kitB2 "BadMode" "Illegal" false,
  exmB "BadMode" "Illegal" false,
  kitB2 "BadMode" "LinkError" true,
  exmB "BadMode" "LinkError" true,
  kitB2 "BadMode" "LogError" false,
  kitB2 "BadMode" "Refused" false,
  exmB "BadMode" "Refused" false,
  kitT2 "BadMode" "ValueError" true,
  excB "BadNode" ["node"],
  iniB "BadNode",
  kitB2 "BadNode" "BadDump" false,
  kitB2 "BadNode" "BadGap" false,
  kitB2 "BadNode" "BadMode" false,
  exmB "BadNode" "BadMode" false,
  kitB2 "BadNode" "BadNode" true,
  kitB2 "BadNode" "BadOperation" false,
  exmB "BadNode" "BadOperation" false,
  kitB2 "BadNode" "BadSize" false,
  exmB "BadNode" "BadSize" false,
  kitB2 "BadNode" "Illegal" false,
  exmB "BadNode" "Illegal" false,
  kitB2 "BadNode" "LinkError" true,
  exmB "BadNode" "LinkError" true,
  kitB2 "BadNode" "LogError" false,
  kitB2 "BadNode" "Refused" false,
  exmB "BadNode" "Refused" false,
  kitT2 "BadNode" "ValueError" true,
  excB "BadOperation" ["operation", "index"],
  iniB "BadOperation",
  (fun K => decide (He.ma K (He.ga K "BadOperation") "__init__" = He.ma K (He.ga K "LogError") "__init__")),
  kitB2 "BadOperation" "BadDump" false,
  kitB2 "BadOperation" "BadGap" false,
  kitB2 "BadOperation" "BadMode" false,
  exmB "BadOperation" "BadMode" false,
  kitB2 "BadOperation" "BadNode" false,
  kitB2 "BadOperation" "BadOperation" true,
  exmB "BadOperation" "BadOperation" true,
  kitB2 "BadOperation" "BadSize" false,
  exmB "BadOperation" "BadSize" false,
  kitB2 "BadOperation" "Illegal" false,
  exmB "BadOperation" "Illegal" false,
  kitB2 "BadOperation" "LinkError" true,
  exmB "BadOperation" "LinkError" true,
  kitB2 "BadOperation" "LogError" true,
  kitB2 "BadOperation" "Refused" false,
  exmB "BadOperation" "Refused" false,
  kitT2 "BadOperation" "ValueError" true,
  excB "BadSize" ["size"],
  iniB "BadSize",
  kitB2 "BadSize" "BadDump" false,
  kitB2 "BadSize" "BadGap" false,
  kitB2 "BadSize" "BadMode" false,
  exmB "BadSize" "BadMode" false,
  kitB2 "BadSize" "BadNode" false,
  kitB2 "BadSize" "BadOperation" false,
  exmB "BadSize" "BadOperation" false,
  kitB2 "BadSize" "BadSize" true,
  exmB "BadSize" "BadSize" true,
  kitB2 "BadSize" "Illegal" false,
  exmB "BadSize" "Illegal" false,
  kitB2 "BadSize" "LinkError" true,
  exmB "BadSize" "LinkError" true,
  kitB2 "BadSize" "LogError" false,
  kitB2 "BadSize" "Refused" false,
  exmB "BadSize" "Refused" false,
  kitT2 "BadSize" "ValueError" true,
  excB "Illegal" ["operation", "index"],
  iniB "Illegal",
  (fun K => decide (He.ma K (He.ga K "Illegal") "__init__" = He.ma K (He.ga K "LogError") "__init__")),
  kitB2 "Illegal" "BadDump" false,
  kitB2 "Illegal" "BadGap" false,
  kitB2 "Illegal" "BadMode" false,
  exmB "Illegal" "BadMode" false,
  kitB2 "Illegal" "BadNode" false,
  kitB2 "Illegal" "BadOperation" false,
  exmB "Illegal" "BadOperation" false,
  kitB2 "Illegal" "BadSize" false,
  exmB "Illegal" "BadSize" false,
  kitB2 "Illegal" "Illegal" true,
  exmB "Illegal" "Illegal" true,
  kitB2 "Illegal" "LinkError" true,
  exmB "Illegal" "LinkError" true,
  kitB2 "Illegal" "LogError" true,
  kitB2 "Illegal" "Refused" false,
  exmB "Illegal" "Refused" false,
  kitT2 "Illegal" "ValueError" true,
  excB "Refused" ["operation", "index", "refusing"],
  iniB "Refused",
  kitB2 "Refused" "BadDump" false,
  kitB2 "Refused" "BadGap" false,
  kitB2 "Refused" "BadMode" false,
  exmB "Refused" "BadMode" false,
  kitB2 "Refused" "BadNode" false,
  kitB2 "Refused" "BadOperation" false,
  exmB "Refused" "BadOperation" false,
  kitB2 "Refused" "BadSize" false,
  exmB "Refused" "BadSize" false,
  kitB2 "Refused" "Illegal" false,
  exmB "Refused" "Illegal" false,
  kitB2 "Refused" "LinkError" true,
  exmB "Refused" "LinkError" true,
  kitB2 "Refused" "LogError" true,
  kitB2 "Refused" "Refused" true,
  exmB "Refused" "Refused" true,
  kitT2 "Refused" "ValueError" true]
abbrev R : PySem.W.OpenRow := PySem.W.OpenLaw.row PySem.Challenge.rw_latelink_k12_whole_first_refusals
def adL : List Addr := [2, 3, 30, 31, 47, 48, 50, 51, 62, 63, 74, 75, 90, 91, 93, 94, 109, 110, 112, 113, 128, 129, 131, 132, 147, 148, 150, 151, 166, 167, 169, 170, 188, 189, 204, 205, 249, 250, 256, 257, 263, 264, 268, 269, 275, 276, 282, 283, 289, 290, 296, 297, 331, 332, 345, 346, 348, 349, 359, 360, 366, 367, 378, 379, 383, 384, 410, 411, 417, 418, 424, 425, 431, 432, 438, 439, 445, 446, 459, 460, 462, 463, 471, 482, 483, 485, 486, 492, 503, 504, 506, 507, 513, 524, 525, 527, 528, 536, 537, 543, 544, 545, 551, 552, 553, 559, 560, 566, 567, 571, 572, 576, 577, 583, 584, 588, 589, 595, 596, 602, 603, 609, 610, 614, 615, 621, 622, 628, 629, 633, 634, 638, 639, 643, 644, 650, 651, 655, 656, 662, 663, 669, 670, 676, 677, 683, 684, 690, 691, 697, 698, 704, 705, 711, 712, 718, 719, 725, 726, 732, 733, 739, 740]
abbrev hk : PySem.W.Hook := hookSL adL chkL fnL fsL
def ob (s : PySem.W.SharedT) : He.AlD := obsSL adL chkL fnL fsL (HandSHeadRun.getT s)
theorem ob_eq (s : PySem.W.SharedT) : ob s = hk.obs s.abs := obsSL_eq (HandSHeadRun.getT_eq s)
def loose0 : List Str := ["_wall", "__name__", "LinkError", "LogError", "BadOperation", "Illegal", "Refused", "BadSize", "BadNode", "BadGap", "BadMode", "BadDump", "DIGITS", "MOST_DIGITS", "Links", "check_size", "check_operation", "is_positive", "dump_of", "_joined"]
def loose1 : List Str := ["_read_numbers", "_read_rights", "_read_lefts", "_read_outs", "replay", "play", "gap_state", "foreign_writes", "left_to", "check_gap", "FreeMode", "SavingMode", "GuardedMode", "CheckedMode", "mode_named", "all_modes", "replay_in", "first_refusal", "check_admitted", "_loses_a_gap"]
def loose2 : List Str := ["_leaves_a_gap_to_a_holder_that_is_in", "_has_fitting_neighbours", "_law_purse", "_law_take", "_law_words", "_law_is", "_law_whole", "_law_operation", "_law_moved", "_law_dump", "_law_lost", "_law_refusing", "_law_steered", "_law_path", "_law_row", "_law_spoilt", "_law_fate", "_law_first", "_law_log_error", "_law_replayed"]
def loose3 : List Str := ["_law_told", "_law_headless", "_law_plain", "_law_run", "_law_judged"]
def loose : List Str := loose0 ++ loose1 ++ loose2 ++ loose3
set_option maxHeartbeats 0 in
theorem run (w : World) : HandSHeadRun.RunEq R (PySem.W.view R.prog [70]) hk ob 8000 loose w := by
  intro os
  kernel_rfl
/-- what the top has written -/
structure Txt (K : PySem.W.Frag) (mg : Str → Option Value) : Prop where
  g_LinkError : mg "LinkError" = some (.ref (He.ga K "LinkError"))
  g_LogError : mg "LogError" = some (.ref (He.ga K "LogError"))
  g_BadOperation : mg "BadOperation" = some (.ref (He.ga K "BadOperation"))
  g_Illegal : mg "Illegal" = some (.ref (He.ga K "Illegal"))
  g_Refused : mg "Refused" = some (.ref (He.ga K "Refused"))
  g_BadSize : mg "BadSize" = some (.ref (He.ga K "BadSize"))
  g_BadNode : mg "BadNode" = some (.ref (He.ga K "BadNode"))
  g_BadGap : mg "BadGap" = some (.ref (He.ga K "BadGap"))
  g_BadMode : mg "BadMode" = some (.ref (He.ga K "BadMode"))
  g_BadDump : mg "BadDump" = some (.ref (He.ga K "BadDump"))
  g_Links : mg "Links" = some (.ref (He.ga K "Links"))
  g_FreeMode : mg "FreeMode" = some (.ref (He.ga K "FreeMode"))
  g_SavingMode : mg "SavingMode" = some (.ref (He.ga K "SavingMode"))
  g_GuardedMode : mg "GuardedMode" = some (.ref (He.ga K "GuardedMode"))
  g_CheckedMode : mg "CheckedMode" = some (.ref (He.ga K "CheckedMode"))
  gf__has_fitting_neighbours : mg "_has_fitting_neighbours" = some (.ref (He.ga K "_has_fitting_neighbours"))
  gf_check_operation : mg "check_operation" = some (.ref (He.ga K "check_operation"))
  gf_foreign_writes : mg "foreign_writes" = some (.ref (He.ga K "foreign_writes"))
  gf_left_to : mg "left_to" = some (.ref (He.ga K "left_to"))
  gf__leaves_a_gap_to_a_holder_that_is_in : mg "_leaves_a_gap_to_a_holder_that_is_in" = some (.ref (He.ga K "_leaves_a_gap_to_a_holder_that_is_in"))
  gf_check_gap : mg "check_gap" = some (.ref (He.ga K "check_gap"))
  gf_gap_state : mg "gap_state" = some (.ref (He.ga K "gap_state"))
  gf__loses_a_gap : mg "_loses_a_gap" = some (.ref (He.ga K "_loses_a_gap"))
  gf_check_size : mg "check_size" = some (.ref (He.ga K "check_size"))
  gf_all_modes : mg "all_modes" = some (.ref (He.ga K "all_modes"))
  gf_mode_named : mg "mode_named" = some (.ref (He.ga K "mode_named"))
  gf_play : mg "play" = some (.ref (He.ga K "play"))
  gf_replay : mg "replay" = some (.ref (He.ga K "replay"))
  gf_first_refusal : mg "first_refusal" = some (.ref (He.ga K "first_refusal"))
  gf_check_admitted : mg "check_admitted" = some (.ref (He.ga K "check_admitted"))
  gf_replay_in : mg "replay_in" = some (.ref (He.ga K "replay_in"))
  gf__law_headless : mg "_law_headless" = some (.ref (He.ga K "_law_headless"))
  gf__law_dump : mg "_law_dump" = some (.ref (He.ga K "_law_dump"))
  gf__law_moved : mg "_law_moved" = some (.ref (He.ga K "_law_moved"))
  gf__law_operation : mg "_law_operation" = some (.ref (He.ga K "_law_operation"))
  gf__law_lost : mg "_law_lost" = some (.ref (He.ga K "_law_lost"))
  gf__law_refusing : mg "_law_refusing" = some (.ref (He.ga K "_law_refusing"))
  gf__law_whole : mg "_law_whole" = some (.ref (He.ga K "_law_whole"))
  gf__law_fate : mg "_law_fate" = some (.ref (He.ga K "_law_fate"))
  gf__law_first : mg "_law_first" = some (.ref (He.ga K "_law_first"))
  gf__joined : mg "_joined" = some (.ref (He.ga K "_joined"))
  gf_dump_of : mg "dump_of" = some (.ref (He.ga K "dump_of"))
  gf__law_is : mg "_law_is" = some (.ref (He.ga K "_law_is"))
  gf__law_log_error : mg "_law_log_error" = some (.ref (He.ga K "_law_log_error"))
  gf__law_replayed : mg "_law_replayed" = some (.ref (He.ga K "_law_replayed"))
  gf__law_plain : mg "_law_plain" = some (.ref (He.ga K "_law_plain"))
  gf__law_told : mg "_law_told" = some (.ref (He.ga K "_law_told"))
  gf__law_words : mg "_law_words" = some (.ref (He.ga K "_law_words"))
  gf__law_judged : mg "_law_judged" = some (.ref (He.ga K "_law_judged"))
  gf__law_purse : mg "_law_purse" = some (.ref (He.ga K "_law_purse"))
  gf__law_take : mg "_law_take" = some (.ref (He.ga K "_law_take"))
  gf__law_path : mg "_law_path" = some (.ref (He.ga K "_law_path"))
  gf__law_steered : mg "_law_steered" = some (.ref (He.ga K "_law_steered"))
  gf__law_row : mg "_law_row" = some (.ref (He.ga K "_law_row"))
  gf__law_spoilt : mg "_law_spoilt" = some (.ref (He.ga K "_law_spoilt"))
  gf__law_run : mg "_law_run" = some (.ref (He.ga K "_law_run"))
  gf_law : mg "law" = some (.ref (He.ga K "law"))
  b_ValueError : mg "ValueError" = none
  b_abs : mg "abs" = none
  b_any : mg "any" = none
  b_bool : mg "bool" = none
  b_enumerate : mg "enumerate" = none
  b_int : mg "int" = none
  b_isinstance : mg "isinstance" = none
  b_len : mg "len" = none
  b_list : mg "list" = none
  b_max : mg "max" = none
  b_min : mg "min" = none
  b_range : mg "range" = none
  b_str : mg "str" = none
  b_super : mg "super" = none
  b_tuple : mg "tuple" = none
  k_DIGITS : ∃ t, mg "DIGITS" = some (.str "0123456789" t)
  k_MOST_DIGITS : ∃ t, mg "MOST_DIGITS" = some (.int 9 t)
  cc_CheckedMode_NAME : ∃ mc u, ClX.CRead K (He.ga K "CheckedMode") mc ∧ ClX.CVal K (He.ga K "CheckedMode") mc "NAME" (.str "checked") u
  cc_GuardedMode_NAME : ∃ mc u, ClX.CRead K (He.ga K "GuardedMode") mc ∧ ClX.CVal K (He.ga K "GuardedMode") mc "NAME" (.str "guarded") u
  cc_Links_MOST : ∃ mc u, ClX.CRead K (He.ga K "Links") mc ∧ ClX.CVal K (He.ga K "Links") mc "MOST" (.int 60) u
  cc_SavingMode_NAME : ∃ mc u, ClX.CRead K (He.ga K "SavingMode") mc ∧ ClX.CVal K (He.ga K "SavingMode") mc "NAME" (.str "saving") u
  con_CheckedMode_NAME : ∃ u, Con K (He.ga K "CheckedMode") "NAME" (.str "checked") u
  con_FreeMode_NAME : ∃ u, Con K (He.ga K "FreeMode") "NAME" (.str "free") u
  con_GuardedMode_NAME : ∃ u, Con K (He.ga K "GuardedMode") "NAME" (.str "guarded") u
  con_SavingMode_NAME : ∃ u, Con K (He.ga K "SavingMode") "NAME" (.str "saving") u
  mk0_CheckedMode : Mk0 K (He.ga K "CheckedMode")
  mk0_FreeMode : Mk0 K (He.ga K "FreeMode")
  mk0_GuardedMode : Mk0 K (He.ga K "GuardedMode")
  mk0_SavingMode : Mk0 K (He.ga K "SavingMode")
  sup_SavingMode_SavingMode_refusal : SupTo K (He.ga K "SavingMode") (He.ga K "SavingMode") "refusal" (He.fAd K ("FreeMode", some "refusal"))
  sup_GuardedMode_SavingMode_refusal : SupTo K (He.ga K "GuardedMode") (He.ga K "SavingMode") "refusal" (He.fAd K ("FreeMode", some "refusal"))
  sup_CheckedMode_SavingMode_refusal : SupTo K (He.ga K "CheckedMode") (He.ga K "SavingMode") "refusal" (He.fAd K ("FreeMode", some "refusal"))
  sup_GuardedMode_GuardedMode_refusal : SupTo K (He.ga K "GuardedMode") (He.ga K "GuardedMode") "refusal" (He.fAd K ("SavingMode", some "refusal"))
  sup_CheckedMode_GuardedMode_refusal : SupTo K (He.ga K "CheckedMode") (He.ga K "GuardedMode") "refusal" (He.fAd K ("SavingMode", some "refusal"))
  sup_CheckedMode_CheckedMode_refusal : SupTo K (He.ga K "CheckedMode") (He.ga K "CheckedMode") "refusal" (He.fAd K ("GuardedMode", some "refusal"))
  cl_Links : Cls K (He.ga K "Links")
  ty_Links : PySem.W.findIn K (.ref (He.ga K "Links")) "__class__" = some (some (.builtin "object.__class__")) ∧ PySem.W.mroIn K (He.ga K "Links") (.type "object") = some true
  na_Links__lefts : NoAttr K (He.ga K "Links") "_lefts"
  na_Links__out : NoAttr K (He.ga K "Links") "_out"
  na_Links__rights : NoAttr K (He.ga K "Links") "_rights"
  na_Links_size : NoAttr K (He.ga K "Links") "size"
  me_Links_is_out : Meth K (He.ga K "Links") "is_out" (He.ma K (He.ga K "Links") "is_out")
  me_Links_left : Meth K (He.ga K "Links") "left" (He.ma K (He.ga K "Links") "left")
  me_Links_right : Meth K (He.ga K "Links") "right" (He.ma K (He.ga K "Links") "right")
  me_Links_is_legal : Meth K (He.ga K "Links") "is_legal" (He.ma K (He.ga K "Links") "is_legal")
  me_Links_check : Meth K (He.ga K "Links") "check" (He.ma K (He.ga K "Links") "check")
  mk_Links : Mk K (He.ga K "Links") (He.ma K (He.ga K "Links") "__init__")
  me_Links_apply_at : Meth K (He.ga K "Links") "apply_at" (He.ma K (He.ga K "Links") "apply_at")
  me_Links_apply : Meth K (He.ga K "Links") "apply" (He.ma K (He.ga K "Links") "apply")
  me_Links_copy : Meth K (He.ga K "Links") "copy" (He.ma K (He.ga K "Links") "copy")
  me_Links_outs : Meth K (He.ga K "Links") "outs" (He.ma K (He.ga K "Links") "outs")
  me_Links_dump : Meth K (He.ga K "Links") "dump" (He.ma K (He.ga K "Links") "dump")
  cl_FreeMode : Cls K (He.ga K "FreeMode")
  ty_FreeMode : PySem.W.findIn K (.ref (He.ga K "FreeMode")) "__class__" = some (some (.builtin "object.__class__")) ∧ PySem.W.mroIn K (He.ga K "FreeMode") (.type "object") = some true
  me_FreeMode_refusal : Meth K (He.ga K "FreeMode") "refusal" (He.ma K (He.ga K "FreeMode") "refusal")
  cl_SavingMode : Cls K (He.ga K "SavingMode")
  ty_SavingMode : PySem.W.findIn K (.ref (He.ga K "SavingMode")) "__class__" = some (some (.builtin "object.__class__")) ∧ PySem.W.mroIn K (He.ga K "SavingMode") (.type "object") = some true
  me_SavingMode_refusal : Meth K (He.ga K "SavingMode") "refusal" (He.ma K (He.ga K "SavingMode") "refusal")
  cl_GuardedMode : Cls K (He.ga K "GuardedMode")
  ty_GuardedMode : PySem.W.findIn K (.ref (He.ga K "GuardedMode")) "__class__" = some (some (.builtin "object.__class__")) ∧ PySem.W.mroIn K (He.ga K "GuardedMode") (.type "object") = some true
  me_GuardedMode_refusal : Meth K (He.ga K "GuardedMode") "refusal" (He.ma K (He.ga K "GuardedMode") "refusal")
  cl_CheckedMode : Cls K (He.ga K "CheckedMode")
  ty_CheckedMode : PySem.W.findIn K (.ref (He.ga K "CheckedMode")) "__class__" = some (some (.builtin "object.__class__")) ∧ PySem.W.mroIn K (He.ga K "CheckedMode") (.type "object") = some true
  me_CheckedMode_refusal : Meth K (He.ga K "CheckedMode") "refusal" (He.ma K (He.ga K "CheckedMode") "refusal")
  cf_LogError : ClX.CRead K (He.ga K "LogError") (.type "type") ∧ PySem.W.findCls K (.ref (He.ga K "LogError")) (.type "type") "__init__" = some (.val (.ref (He.fAd K ("LogError", some "__init__"))))
  ex_BadDump : ExK K (He.ga K "BadDump")
  ex_BadGap : ExK K (He.ga K "BadGap")
  ex_BadMode : ExK K (He.ga K "BadMode")
  ex_BadNode : ExK K (He.ga K "BadNode")
  ex_BadOperation : ExK K (He.ga K "BadOperation")
  ex_BadSize : ExK K (He.ga K "BadSize")
  ex_Illegal : ExK K (He.ga K "Illegal")
  ex_LinkError : ExK K (He.ga K "LinkError")
  ex_LogError : ExK K (He.ga K "LogError")
  ex_Refused : ExK K (He.ga K "Refused")
  oe_BadGap : OexC K (He.ga K "BadGap") ∧ ∀ f ∈ (["gap"] : List Str), PySem.W.findIn K (.ref (He.ga K "BadGap")) f = some none
  in_BadGap : PySem.W.findIn K (.ref (He.ga K "BadGap")) "__init__" = some (some (.ref (He.ma K (He.ga K "BadGap") "__init__"))) ∧ PySem.W.typeIn K (.ref (He.ma K (He.ga K "BadGap") "__init__")) = some (.type "function")
  kit_BadGap_BadDump : PySem.W.kitOne K (.ref (He.ga K "BadGap")) (.ref (He.ga K "BadDump")) = some false
  kit_BadGap_BadGap : PySem.W.kitOne K (.ref (He.ga K "BadGap")) (.ref (He.ga K "BadGap")) = some true
  kit_BadGap_BadMode : PySem.W.kitOne K (.ref (He.ga K "BadGap")) (.ref (He.ga K "BadMode")) = some false
  exm_BadGap_BadMode : PySem.W.exmOne K (.ref (He.ga K "BadGap")) (.ref (He.ga K "BadMode")) = some false
  kit_BadGap_BadNode : PySem.W.kitOne K (.ref (He.ga K "BadGap")) (.ref (He.ga K "BadNode")) = some false
  kit_BadGap_BadOperation : PySem.W.kitOne K (.ref (He.ga K "BadGap")) (.ref (He.ga K "BadOperation")) = some false
  exm_BadGap_BadOperation : PySem.W.exmOne K (.ref (He.ga K "BadGap")) (.ref (He.ga K "BadOperation")) = some false
  kit_BadGap_BadSize : PySem.W.kitOne K (.ref (He.ga K "BadGap")) (.ref (He.ga K "BadSize")) = some false
  exm_BadGap_BadSize : PySem.W.exmOne K (.ref (He.ga K "BadGap")) (.ref (He.ga K "BadSize")) = some false
  kit_BadGap_Illegal : PySem.W.kitOne K (.ref (He.ga K "BadGap")) (.ref (He.ga K "Illegal")) = some false
  exm_BadGap_Illegal : PySem.W.exmOne K (.ref (He.ga K "BadGap")) (.ref (He.ga K "Illegal")) = some false
  kit_BadGap_LinkError : PySem.W.kitOne K (.ref (He.ga K "BadGap")) (.ref (He.ga K "LinkError")) = some true
  exm_BadGap_LinkError : PySem.W.exmOne K (.ref (He.ga K "BadGap")) (.ref (He.ga K "LinkError")) = some true
  kit_BadGap_LogError : PySem.W.kitOne K (.ref (He.ga K "BadGap")) (.ref (He.ga K "LogError")) = some false
  kit_BadGap_Refused : PySem.W.kitOne K (.ref (He.ga K "BadGap")) (.ref (He.ga K "Refused")) = some false
  exm_BadGap_Refused : PySem.W.exmOne K (.ref (He.ga K "BadGap")) (.ref (He.ga K "Refused")) = some false
  kit_BadGap_ValueError : PySem.W.kitOne K (.ref (He.ga K "BadGap")) (.type "ValueError") = some true
  oe_BadMode : OexC K (He.ga K "BadMode") ∧ ∀ f ∈ (["name"] : List Str), PySem.W.findIn K (.ref (He.ga K "BadMode")) f = some none
  in_BadMode : PySem.W.findIn K (.ref (He.ga K "BadMode")) "__init__" = some (some (.ref (He.ma K (He.ga K "BadMode") "__init__"))) ∧ PySem.W.typeIn K (.ref (He.ma K (He.ga K "BadMode") "__init__")) = some (.type "function")
  kit_BadMode_BadDump : PySem.W.kitOne K (.ref (He.ga K "BadMode")) (.ref (He.ga K "BadDump")) = some false
  kit_BadMode_BadGap : PySem.W.kitOne K (.ref (He.ga K "BadMode")) (.ref (He.ga K "BadGap")) = some false
  kit_BadMode_BadMode : PySem.W.kitOne K (.ref (He.ga K "BadMode")) (.ref (He.ga K "BadMode")) = some true
  exm_BadMode_BadMode : PySem.W.exmOne K (.ref (He.ga K "BadMode")) (.ref (He.ga K "BadMode")) = some true
  kit_BadMode_BadNode : PySem.W.kitOne K (.ref (He.ga K "BadMode")) (.ref (He.ga K "BadNode")) = some false
  kit_BadMode_BadOperation : PySem.W.kitOne K (.ref (He.ga K "BadMode")) (.ref (He.ga K "BadOperation")) = some false
  exm_BadMode_BadOperation : PySem.W.exmOne K (.ref (He.ga K "BadMode")) (.ref (He.ga K "BadOperation")) = some false
  kit_BadMode_BadSize : PySem.W.kitOne K (.ref (He.ga K "BadMode")) (.ref (He.ga K "BadSize")) = some false
  exm_BadMode_BadSize : PySem.W.exmOne K (.ref (He.ga K "BadMode")) (.ref (He.ga K "BadSize")) = some false
  kit_BadMode_Illegal : PySem.W.kitOne K (.ref (He.ga K "BadMode")) (.ref (He.ga K "Illegal")) = some false
  exm_BadMode_Illegal : PySem.W.exmOne K (.ref (He.ga K "BadMode")) (.ref (He.ga K "Illegal")) = some false
  kit_BadMode_LinkError : PySem.W.kitOne K (.ref (He.ga K "BadMode")) (.ref (He.ga K "LinkError")) = some true
  exm_BadMode_LinkError : PySem.W.exmOne K (.ref (He.ga K "BadMode")) (.ref (He.ga K "LinkError")) = some true
  kit_BadMode_LogError : PySem.W.kitOne K (.ref (He.ga K "BadMode")) (.ref (He.ga K "LogError")) = some false
  kit_BadMode_Refused : PySem.W.kitOne K (.ref (He.ga K "BadMode")) (.ref (He.ga K "Refused")) = some false
  exm_BadMode_Refused : PySem.W.exmOne K (.ref (He.ga K "BadMode")) (.ref (He.ga K "Refused")) = some false
  kit_BadMode_ValueError : PySem.W.kitOne K (.ref (He.ga K "BadMode")) (.type "ValueError") = some true
  oe_BadNode : OexC K (He.ga K "BadNode") ∧ ∀ f ∈ (["node"] : List Str), PySem.W.findIn K (.ref (He.ga K "BadNode")) f = some none
  in_BadNode : PySem.W.findIn K (.ref (He.ga K "BadNode")) "__init__" = some (some (.ref (He.ma K (He.ga K "BadNode") "__init__"))) ∧ PySem.W.typeIn K (.ref (He.ma K (He.ga K "BadNode") "__init__")) = some (.type "function")
  kit_BadNode_BadDump : PySem.W.kitOne K (.ref (He.ga K "BadNode")) (.ref (He.ga K "BadDump")) = some false
  kit_BadNode_BadGap : PySem.W.kitOne K (.ref (He.ga K "BadNode")) (.ref (He.ga K "BadGap")) = some false
  kit_BadNode_BadMode : PySem.W.kitOne K (.ref (He.ga K "BadNode")) (.ref (He.ga K "BadMode")) = some false
  exm_BadNode_BadMode : PySem.W.exmOne K (.ref (He.ga K "BadNode")) (.ref (He.ga K "BadMode")) = some false
  kit_BadNode_BadNode : PySem.W.kitOne K (.ref (He.ga K "BadNode")) (.ref (He.ga K "BadNode")) = some true
  kit_BadNode_BadOperation : PySem.W.kitOne K (.ref (He.ga K "BadNode")) (.ref (He.ga K "BadOperation")) = some false
  exm_BadNode_BadOperation : PySem.W.exmOne K (.ref (He.ga K "BadNode")) (.ref (He.ga K "BadOperation")) = some false
  kit_BadNode_BadSize : PySem.W.kitOne K (.ref (He.ga K "BadNode")) (.ref (He.ga K "BadSize")) = some false
  exm_BadNode_BadSize : PySem.W.exmOne K (.ref (He.ga K "BadNode")) (.ref (He.ga K "BadSize")) = some false
  kit_BadNode_Illegal : PySem.W.kitOne K (.ref (He.ga K "BadNode")) (.ref (He.ga K "Illegal")) = some false
  exm_BadNode_Illegal : PySem.W.exmOne K (.ref (He.ga K "BadNode")) (.ref (He.ga K "Illegal")) = some false
  kit_BadNode_LinkError : PySem.W.kitOne K (.ref (He.ga K "BadNode")) (.ref (He.ga K "LinkError")) = some true
  exm_BadNode_LinkError : PySem.W.exmOne K (.ref (He.ga K "BadNode")) (.ref (He.ga K "LinkError")) = some true
  kit_BadNode_LogError : PySem.W.kitOne K (.ref (He.ga K "BadNode")) (.ref (He.ga K "LogError")) = some false
  kit_BadNode_Refused : PySem.W.kitOne K (.ref (He.ga K "BadNode")) (.ref (He.ga K "Refused")) = some false
  exm_BadNode_Refused : PySem.W.exmOne K (.ref (He.ga K "BadNode")) (.ref (He.ga K "Refused")) = some false
  kit_BadNode_ValueError : PySem.W.kitOne K (.ref (He.ga K "BadNode")) (.type "ValueError") = some true
  oe_BadOperation : OexC K (He.ga K "BadOperation") ∧ ∀ f ∈ (["operation", "index"] : List Str), PySem.W.findIn K (.ref (He.ga K "BadOperation")) f = some none
  in_BadOperation : PySem.W.findIn K (.ref (He.ga K "BadOperation")) "__init__" = some (some (.ref (He.ma K (He.ga K "BadOperation") "__init__"))) ∧ PySem.W.typeIn K (.ref (He.ma K (He.ga K "BadOperation") "__init__")) = some (.type "function")
  sm_BadOperation : He.ma K (He.ga K "BadOperation") "__init__" = He.ma K (He.ga K "LogError") "__init__"
  kit_BadOperation_BadDump : PySem.W.kitOne K (.ref (He.ga K "BadOperation")) (.ref (He.ga K "BadDump")) = some false
  kit_BadOperation_BadGap : PySem.W.kitOne K (.ref (He.ga K "BadOperation")) (.ref (He.ga K "BadGap")) = some false
  kit_BadOperation_BadMode : PySem.W.kitOne K (.ref (He.ga K "BadOperation")) (.ref (He.ga K "BadMode")) = some false
  exm_BadOperation_BadMode : PySem.W.exmOne K (.ref (He.ga K "BadOperation")) (.ref (He.ga K "BadMode")) = some false
  kit_BadOperation_BadNode : PySem.W.kitOne K (.ref (He.ga K "BadOperation")) (.ref (He.ga K "BadNode")) = some false
  kit_BadOperation_BadOperation : PySem.W.kitOne K (.ref (He.ga K "BadOperation")) (.ref (He.ga K "BadOperation")) = some true
  exm_BadOperation_BadOperation : PySem.W.exmOne K (.ref (He.ga K "BadOperation")) (.ref (He.ga K "BadOperation")) = some true
  kit_BadOperation_BadSize : PySem.W.kitOne K (.ref (He.ga K "BadOperation")) (.ref (He.ga K "BadSize")) = some false
  exm_BadOperation_BadSize : PySem.W.exmOne K (.ref (He.ga K "BadOperation")) (.ref (He.ga K "BadSize")) = some false
  kit_BadOperation_Illegal : PySem.W.kitOne K (.ref (He.ga K "BadOperation")) (.ref (He.ga K "Illegal")) = some false
  exm_BadOperation_Illegal : PySem.W.exmOne K (.ref (He.ga K "BadOperation")) (.ref (He.ga K "Illegal")) = some false
  kit_BadOperation_LinkError : PySem.W.kitOne K (.ref (He.ga K "BadOperation")) (.ref (He.ga K "LinkError")) = some true
  exm_BadOperation_LinkError : PySem.W.exmOne K (.ref (He.ga K "BadOperation")) (.ref (He.ga K "LinkError")) = some true
  kit_BadOperation_LogError : PySem.W.kitOne K (.ref (He.ga K "BadOperation")) (.ref (He.ga K "LogError")) = some true
  kit_BadOperation_Refused : PySem.W.kitOne K (.ref (He.ga K "BadOperation")) (.ref (He.ga K "Refused")) = some false
  exm_BadOperation_Refused : PySem.W.exmOne K (.ref (He.ga K "BadOperation")) (.ref (He.ga K "Refused")) = some false
  kit_BadOperation_ValueError : PySem.W.kitOne K (.ref (He.ga K "BadOperation")) (.type "ValueError") = some true
  oe_BadSize : OexC K (He.ga K "BadSize") ∧ ∀ f ∈ (["size"] : List Str), PySem.W.findIn K (.ref (He.ga K "BadSize")) f = some none
  in_BadSize : PySem.W.findIn K (.ref (He.ga K "BadSize")) "__init__" = some (some (.ref (He.ma K (He.ga K "BadSize") "__init__"))) ∧ PySem.W.typeIn K (.ref (He.ma K (He.ga K "BadSize") "__init__")) = some (.type "function")
  kit_BadSize_BadDump : PySem.W.kitOne K (.ref (He.ga K "BadSize")) (.ref (He.ga K "BadDump")) = some false
  kit_BadSize_BadGap : PySem.W.kitOne K (.ref (He.ga K "BadSize")) (.ref (He.ga K "BadGap")) = some false
  kit_BadSize_BadMode : PySem.W.kitOne K (.ref (He.ga K "BadSize")) (.ref (He.ga K "BadMode")) = some false
  exm_BadSize_BadMode : PySem.W.exmOne K (.ref (He.ga K "BadSize")) (.ref (He.ga K "BadMode")) = some false
  kit_BadSize_BadNode : PySem.W.kitOne K (.ref (He.ga K "BadSize")) (.ref (He.ga K "BadNode")) = some false
  kit_BadSize_BadOperation : PySem.W.kitOne K (.ref (He.ga K "BadSize")) (.ref (He.ga K "BadOperation")) = some false
  exm_BadSize_BadOperation : PySem.W.exmOne K (.ref (He.ga K "BadSize")) (.ref (He.ga K "BadOperation")) = some false
  kit_BadSize_BadSize : PySem.W.kitOne K (.ref (He.ga K "BadSize")) (.ref (He.ga K "BadSize")) = some true
  exm_BadSize_BadSize : PySem.W.exmOne K (.ref (He.ga K "BadSize")) (.ref (He.ga K "BadSize")) = some true
  kit_BadSize_Illegal : PySem.W.kitOne K (.ref (He.ga K "BadSize")) (.ref (He.ga K "Illegal")) = some false
  exm_BadSize_Illegal : PySem.W.exmOne K (.ref (He.ga K "BadSize")) (.ref (He.ga K "Illegal")) = some false
  kit_BadSize_LinkError : PySem.W.kitOne K (.ref (He.ga K "BadSize")) (.ref (He.ga K "LinkError")) = some true
  exm_BadSize_LinkError : PySem.W.exmOne K (.ref (He.ga K "BadSize")) (.ref (He.ga K "LinkError")) = some true
  kit_BadSize_LogError : PySem.W.kitOne K (.ref (He.ga K "BadSize")) (.ref (He.ga K "LogError")) = some false
  kit_BadSize_Refused : PySem.W.kitOne K (.ref (He.ga K "BadSize")) (.ref (He.ga K "Refused")) = some false
  exm_BadSize_Refused : PySem.W.exmOne K (.ref (He.ga K "BadSize")) (.ref (He.ga K "Refused")) = some false
  kit_BadSize_ValueError : PySem.W.kitOne K (.ref (He.ga K "BadSize")) (.type "ValueError") = some true
  oe_Illegal : OexC K (He.ga K "Illegal") ∧ ∀ f ∈ (["operation", "index"] : List Str), PySem.W.findIn K (.ref (He.ga K "Illegal")) f = some none
  in_Illegal : PySem.W.findIn K (.ref (He.ga K "Illegal")) "__init__" = some (some (.ref (He.ma K (He.ga K "Illegal") "__init__"))) ∧ PySem.W.typeIn K (.ref (He.ma K (He.ga K "Illegal") "__init__")) = some (.type "function")
  sm_Illegal : He.ma K (He.ga K "Illegal") "__init__" = He.ma K (He.ga K "LogError") "__init__"
  kit_Illegal_BadDump : PySem.W.kitOne K (.ref (He.ga K "Illegal")) (.ref (He.ga K "BadDump")) = some false
  kit_Illegal_BadGap : PySem.W.kitOne K (.ref (He.ga K "Illegal")) (.ref (He.ga K "BadGap")) = some false
  kit_Illegal_BadMode : PySem.W.kitOne K (.ref (He.ga K "Illegal")) (.ref (He.ga K "BadMode")) = some false
  exm_Illegal_BadMode : PySem.W.exmOne K (.ref (He.ga K "Illegal")) (.ref (He.ga K "BadMode")) = some false
  kit_Illegal_BadNode : PySem.W.kitOne K (.ref (He.ga K "Illegal")) (.ref (He.ga K "BadNode")) = some false
  kit_Illegal_BadOperation : PySem.W.kitOne K (.ref (He.ga K "Illegal")) (.ref (He.ga K "BadOperation")) = some false
  exm_Illegal_BadOperation : PySem.W.exmOne K (.ref (He.ga K "Illegal")) (.ref (He.ga K "BadOperation")) = some false
  kit_Illegal_BadSize : PySem.W.kitOne K (.ref (He.ga K "Illegal")) (.ref (He.ga K "BadSize")) = some false
  exm_Illegal_BadSize : PySem.W.exmOne K (.ref (He.ga K "Illegal")) (.ref (He.ga K "BadSize")) = some false
  kit_Illegal_Illegal : PySem.W.kitOne K (.ref (He.ga K "Illegal")) (.ref (He.ga K "Illegal")) = some true
  exm_Illegal_Illegal : PySem.W.exmOne K (.ref (He.ga K "Illegal")) (.ref (He.ga K "Illegal")) = some true
  kit_Illegal_LinkError : PySem.W.kitOne K (.ref (He.ga K "Illegal")) (.ref (He.ga K "LinkError")) = some true
  exm_Illegal_LinkError : PySem.W.exmOne K (.ref (He.ga K "Illegal")) (.ref (He.ga K "LinkError")) = some true
  kit_Illegal_LogError : PySem.W.kitOne K (.ref (He.ga K "Illegal")) (.ref (He.ga K "LogError")) = some true
  kit_Illegal_Refused : PySem.W.kitOne K (.ref (He.ga K "Illegal")) (.ref (He.ga K "Refused")) = some false
  exm_Illegal_Refused : PySem.W.exmOne K (.ref (He.ga K "Illegal")) (.ref (He.ga K "Refused")) = some false
  kit_Illegal_ValueError : PySem.W.kitOne K (.ref (He.ga K "Illegal")) (.type "ValueError") = some true
  oe_Refused : OexC K (He.ga K "Refused") ∧ ∀ f ∈ (["operation", "index", "refusing"] : List Str), PySem.W.findIn K (.ref (He.ga K "Refused")) f = some none
  in_Refused : PySem.W.findIn K (.ref (He.ga K "Refused")) "__init__" = some (some (.ref (He.ma K (He.ga K "Refused") "__init__"))) ∧ PySem.W.typeIn K (.ref (He.ma K (He.ga K "Refused") "__init__")) = some (.type "function")
  kit_Refused_BadDump : PySem.W.kitOne K (.ref (He.ga K "Refused")) (.ref (He.ga K "BadDump")) = some false
  kit_Refused_BadGap : PySem.W.kitOne K (.ref (He.ga K "Refused")) (.ref (He.ga K "BadGap")) = some false
  kit_Refused_BadMode : PySem.W.kitOne K (.ref (He.ga K "Refused")) (.ref (He.ga K "BadMode")) = some false
  exm_Refused_BadMode : PySem.W.exmOne K (.ref (He.ga K "Refused")) (.ref (He.ga K "BadMode")) = some false
  kit_Refused_BadNode : PySem.W.kitOne K (.ref (He.ga K "Refused")) (.ref (He.ga K "BadNode")) = some false
  kit_Refused_BadOperation : PySem.W.kitOne K (.ref (He.ga K "Refused")) (.ref (He.ga K "BadOperation")) = some false
  exm_Refused_BadOperation : PySem.W.exmOne K (.ref (He.ga K "Refused")) (.ref (He.ga K "BadOperation")) = some false
  kit_Refused_BadSize : PySem.W.kitOne K (.ref (He.ga K "Refused")) (.ref (He.ga K "BadSize")) = some false
  exm_Refused_BadSize : PySem.W.exmOne K (.ref (He.ga K "Refused")) (.ref (He.ga K "BadSize")) = some false
  kit_Refused_Illegal : PySem.W.kitOne K (.ref (He.ga K "Refused")) (.ref (He.ga K "Illegal")) = some false
  exm_Refused_Illegal : PySem.W.exmOne K (.ref (He.ga K "Refused")) (.ref (He.ga K "Illegal")) = some false
  kit_Refused_LinkError : PySem.W.kitOne K (.ref (He.ga K "Refused")) (.ref (He.ga K "LinkError")) = some true
  exm_Refused_LinkError : PySem.W.exmOne K (.ref (He.ga K "Refused")) (.ref (He.ga K "LinkError")) = some true
  kit_Refused_LogError : PySem.W.kitOne K (.ref (He.ga K "Refused")) (.ref (He.ga K "LogError")) = some true
  kit_Refused_Refused : PySem.W.kitOne K (.ref (He.ga K "Refused")) (.ref (He.ga K "Refused")) = some true
  exm_Refused_Refused : PySem.W.exmOne K (.ref (He.ga K "Refused")) (.ref (He.ga K "Refused")) = some true
  kit_Refused_ValueError : PySem.W.kitOne K (.ref (He.ga K "Refused")) (.type "ValueError") = some true
theorem txt_of {K : PySem.W.Frag} {h : Heap} {mg : Str → Option Value} (X : K.In h) (G : h.Ns mainGlobals mg) (c : SaysY chkL fnL K) : Txt K mg where
  g_LinkError := He.glo_ok X G (c.fact 0 (f := fa_ (.glo "LinkError")) rfl)
  g_LogError := He.glo_ok X G (c.fact 1 (f := fa_ (.glo "LogError")) rfl)
  g_BadOperation := He.glo_ok X G (c.fact 2 (f := fa_ (.glo "BadOperation")) rfl)
  g_Illegal := He.glo_ok X G (c.fact 3 (f := fa_ (.glo "Illegal")) rfl)
  g_Refused := He.glo_ok X G (c.fact 4 (f := fa_ (.glo "Refused")) rfl)
  g_BadSize := He.glo_ok X G (c.fact 5 (f := fa_ (.glo "BadSize")) rfl)
  g_BadNode := He.glo_ok X G (c.fact 6 (f := fa_ (.glo "BadNode")) rfl)
  g_BadGap := He.glo_ok X G (c.fact 7 (f := fa_ (.glo "BadGap")) rfl)
  g_BadMode := He.glo_ok X G (c.fact 8 (f := fa_ (.glo "BadMode")) rfl)
  g_BadDump := He.glo_ok X G (c.fact 9 (f := fa_ (.glo "BadDump")) rfl)
  g_Links := He.glo_ok X G (c.fact 10 (f := fa_ (.glo "Links")) rfl)
  g_FreeMode := He.glo_ok X G (c.fact 11 (f := fa_ (.glo "FreeMode")) rfl)
  g_SavingMode := He.glo_ok X G (c.fact 12 (f := fa_ (.glo "SavingMode")) rfl)
  g_GuardedMode := He.glo_ok X G (c.fact 13 (f := fa_ (.glo "GuardedMode")) rfl)
  g_CheckedMode := He.glo_ok X G (c.fact 14 (f := fa_ (.glo "CheckedMode")) rfl)
  gf__has_fitting_neighbours := He.glo_ok X G (c.fact 15 (f := fa_ (.glo "_has_fitting_neighbours")) rfl)
  gf_check_operation := He.glo_ok X G (c.fact 16 (f := fa_ (.glo "check_operation")) rfl)
  gf_foreign_writes := He.glo_ok X G (c.fact 17 (f := fa_ (.glo "foreign_writes")) rfl)
  gf_left_to := He.glo_ok X G (c.fact 18 (f := fa_ (.glo "left_to")) rfl)
  gf__leaves_a_gap_to_a_holder_that_is_in := He.glo_ok X G (c.fact 19 (f := fa_ (.glo "_leaves_a_gap_to_a_holder_that_is_in")) rfl)
  gf_check_gap := He.glo_ok X G (c.fact 20 (f := fa_ (.glo "check_gap")) rfl)
  gf_gap_state := He.glo_ok X G (c.fact 21 (f := fa_ (.glo "gap_state")) rfl)
  gf__loses_a_gap := He.glo_ok X G (c.fact 22 (f := fa_ (.glo "_loses_a_gap")) rfl)
  gf_check_size := He.glo_ok X G (c.fact 23 (f := fa_ (.glo "check_size")) rfl)
  gf_all_modes := He.glo_ok X G (c.fact 24 (f := fa_ (.glo "all_modes")) rfl)
  gf_mode_named := He.glo_ok X G (c.fact 25 (f := fa_ (.glo "mode_named")) rfl)
  gf_play := He.glo_ok X G (c.fact 26 (f := fa_ (.glo "play")) rfl)
  gf_replay := He.glo_ok X G (c.fact 27 (f := fa_ (.glo "replay")) rfl)
  gf_first_refusal := He.glo_ok X G (c.fact 28 (f := fa_ (.glo "first_refusal")) rfl)
  gf_check_admitted := He.glo_ok X G (c.fact 29 (f := fa_ (.glo "check_admitted")) rfl)
  gf_replay_in := He.glo_ok X G (c.fact 30 (f := fa_ (.glo "replay_in")) rfl)
  gf__law_headless := He.glo_ok X G (c.fact 31 (f := fa_ (.glo "_law_headless")) rfl)
  gf__law_dump := He.glo_ok X G (c.fact 32 (f := fa_ (.glo "_law_dump")) rfl)
  gf__law_moved := He.glo_ok X G (c.fact 33 (f := fa_ (.glo "_law_moved")) rfl)
  gf__law_operation := He.glo_ok X G (c.fact 34 (f := fa_ (.glo "_law_operation")) rfl)
  gf__law_lost := He.glo_ok X G (c.fact 35 (f := fa_ (.glo "_law_lost")) rfl)
  gf__law_refusing := He.glo_ok X G (c.fact 36 (f := fa_ (.glo "_law_refusing")) rfl)
  gf__law_whole := He.glo_ok X G (c.fact 37 (f := fa_ (.glo "_law_whole")) rfl)
  gf__law_fate := He.glo_ok X G (c.fact 38 (f := fa_ (.glo "_law_fate")) rfl)
  gf__law_first := He.glo_ok X G (c.fact 39 (f := fa_ (.glo "_law_first")) rfl)
  gf__joined := He.glo_ok X G (c.fact 40 (f := fa_ (.glo "_joined")) rfl)
  gf_dump_of := He.glo_ok X G (c.fact 41 (f := fa_ (.glo "dump_of")) rfl)
  gf__law_is := He.glo_ok X G (c.fact 42 (f := fa_ (.glo "_law_is")) rfl)
  gf__law_log_error := He.glo_ok X G (c.fact 43 (f := fa_ (.glo "_law_log_error")) rfl)
  gf__law_replayed := He.glo_ok X G (c.fact 44 (f := fa_ (.glo "_law_replayed")) rfl)
  gf__law_plain := He.glo_ok X G (c.fact 45 (f := fa_ (.glo "_law_plain")) rfl)
  gf__law_told := He.glo_ok X G (c.fact 46 (f := fa_ (.glo "_law_told")) rfl)
  gf__law_words := He.glo_ok X G (c.fact 47 (f := fa_ (.glo "_law_words")) rfl)
  gf__law_judged := He.glo_ok X G (c.fact 48 (f := fa_ (.glo "_law_judged")) rfl)
  gf__law_purse := He.glo_ok X G (c.fact 49 (f := fa_ (.glo "_law_purse")) rfl)
  gf__law_take := He.glo_ok X G (c.fact 50 (f := fa_ (.glo "_law_take")) rfl)
  gf__law_path := He.glo_ok X G (c.fact 51 (f := fa_ (.glo "_law_path")) rfl)
  gf__law_steered := He.glo_ok X G (c.fact 52 (f := fa_ (.glo "_law_steered")) rfl)
  gf__law_row := He.glo_ok X G (c.fact 53 (f := fa_ (.glo "_law_row")) rfl)
  gf__law_spoilt := He.glo_ok X G (c.fact 54 (f := fa_ (.glo "_law_spoilt")) rfl)
  gf__law_run := He.glo_ok X G (c.fact 55 (f := fa_ (.glo "_law_run")) rfl)
  gf_law := He.glo_ok X G (c.fact 56 (f := fa_ (.glo "law")) rfl)
  b_ValueError := He.free_ok X G (c.fact 57 (f := fa_ (.free "ValueError")) rfl)
  b_abs := He.free_ok X G (c.fact 58 (f := fa_ (.free "abs")) rfl)
  b_any := He.free_ok X G (c.fact 59 (f := fa_ (.free "any")) rfl)
  b_bool := He.free_ok X G (c.fact 60 (f := fa_ (.free "bool")) rfl)
  b_enumerate := He.free_ok X G (c.fact 61 (f := fa_ (.free "enumerate")) rfl)
  b_int := He.free_ok X G (c.fact 62 (f := fa_ (.free "int")) rfl)
  b_isinstance := He.free_ok X G (c.fact 63 (f := fa_ (.free "isinstance")) rfl)
  b_len := He.free_ok X G (c.fact 64 (f := fa_ (.free "len")) rfl)
  b_list := He.free_ok X G (c.fact 65 (f := fa_ (.free "list")) rfl)
  b_max := He.free_ok X G (c.fact 66 (f := fa_ (.free "max")) rfl)
  b_min := He.free_ok X G (c.fact 67 (f := fa_ (.free "min")) rfl)
  b_range := He.free_ok X G (c.fact 68 (f := fa_ (.free "range")) rfl)
  b_str := He.free_ok X G (c.fact 69 (f := fa_ (.free "str")) rfl)
  b_super := He.free_ok X G (c.fact 70 (f := fa_ (.free "super")) rfl)
  b_tuple := He.free_ok X G (c.fact 71 (f := fa_ (.free "tuple")) rfl)
  k_DIGITS := He.str_ok X G (c.fact 72 (f := fa_ (.str "DIGITS" "0123456789")) rfl)
  k_MOST_DIGITS := He.int_ok X G (c.fact 73 (f := fa_ (.int "MOST_DIGITS" 9)) rfl)
  cc_CheckedMode_NAME := ccsB_ok (c.fact 74 (f := ccsB "CheckedMode" "NAME" "checked") rfl)
  cc_GuardedMode_NAME := ccsB_ok (c.fact 75 (f := ccsB "GuardedMode" "NAME" "guarded") rfl)
  cc_Links_MOST := ccB_ok (c.fact 76 (f := ccB "Links" "MOST" 60) rfl)
  cc_SavingMode_NAME := ccsB_ok (c.fact 77 (f := ccsB "SavingMode" "NAME" "saving") rfl)
  con_CheckedMode_NAME := conB_ok (c.fact 78 (f := conB "CheckedMode" "NAME" "checked") rfl)
  con_FreeMode_NAME := conB_ok (c.fact 79 (f := conB "FreeMode" "NAME" "free") rfl)
  con_GuardedMode_NAME := conB_ok (c.fact 80 (f := conB "GuardedMode" "NAME" "guarded") rfl)
  con_SavingMode_NAME := conB_ok (c.fact 81 (f := conB "SavingMode" "NAME" "saving") rfl)
  mk0_CheckedMode := mk0B_ok (c.fact 82 (f := (fun K => mk0B K (He.ga K "CheckedMode"))) rfl)
  mk0_FreeMode := mk0B_ok (c.fact 83 (f := (fun K => mk0B K (He.ga K "FreeMode"))) rfl)
  mk0_GuardedMode := mk0B_ok (c.fact 84 (f := (fun K => mk0B K (He.ga K "GuardedMode"))) rfl)
  mk0_SavingMode := mk0B_ok (c.fact 85 (f := (fun K => mk0B K (He.ga K "SavingMode"))) rfl)
  sup_SavingMode_SavingMode_refusal := supB_ok (c.fact 86 (f := (fun K => supB K (He.ga K "SavingMode") (He.ga K "SavingMode") "refusal" (He.fAd K ("FreeMode", some "refusal")))) rfl)
  sup_GuardedMode_SavingMode_refusal := supB_ok (c.fact 87 (f := (fun K => supB K (He.ga K "GuardedMode") (He.ga K "SavingMode") "refusal" (He.fAd K ("FreeMode", some "refusal")))) rfl)
  sup_CheckedMode_SavingMode_refusal := supB_ok (c.fact 88 (f := (fun K => supB K (He.ga K "CheckedMode") (He.ga K "SavingMode") "refusal" (He.fAd K ("FreeMode", some "refusal")))) rfl)
  sup_GuardedMode_GuardedMode_refusal := supB_ok (c.fact 89 (f := (fun K => supB K (He.ga K "GuardedMode") (He.ga K "GuardedMode") "refusal" (He.fAd K ("SavingMode", some "refusal")))) rfl)
  sup_CheckedMode_GuardedMode_refusal := supB_ok (c.fact 90 (f := (fun K => supB K (He.ga K "CheckedMode") (He.ga K "GuardedMode") "refusal" (He.fAd K ("SavingMode", some "refusal")))) rfl)
  sup_CheckedMode_CheckedMode_refusal := supB_ok (c.fact 91 (f := (fun K => supB K (He.ga K "CheckedMode") (He.ga K "CheckedMode") "refusal" (He.fAd K ("GuardedMode", some "refusal")))) rfl)
  cl_Links := He.cls_ok (c.fact 92 (f := fa_ (.cls "Links")) rfl)
  ty_Links := tyB_ok (c.fact 93 (f := tyB "Links") rfl)
  na_Links__lefts := He.noat_ok (c.fact 94 (f := fa_ (.noat "Links" "_lefts")) rfl)
  na_Links__out := He.noat_ok (c.fact 95 (f := fa_ (.noat "Links" "_out")) rfl)
  na_Links__rights := He.noat_ok (c.fact 96 (f := fa_ (.noat "Links" "_rights")) rfl)
  na_Links_size := He.noat_ok (c.fact 97 (f := fa_ (.noat "Links" "size")) rfl)
  me_Links_is_out := He.meth_ok (c.fact 98 (f := fa_ (.meth "Links" "is_out")) rfl)
  me_Links_left := He.meth_ok (c.fact 99 (f := fa_ (.meth "Links" "left")) rfl)
  me_Links_right := He.meth_ok (c.fact 100 (f := fa_ (.meth "Links" "right")) rfl)
  me_Links_is_legal := He.meth_ok (c.fact 101 (f := fa_ (.meth "Links" "is_legal")) rfl)
  me_Links_check := He.meth_ok (c.fact 102 (f := fa_ (.meth "Links" "check")) rfl)
  mk_Links := He.mkr_ok (c.fact 103 (f := fa_ (.mkr "Links")) rfl)
  me_Links_apply_at := He.meth_ok (c.fact 104 (f := fa_ (.meth "Links" "apply_at")) rfl)
  me_Links_apply := He.meth_ok (c.fact 105 (f := fa_ (.meth "Links" "apply")) rfl)
  me_Links_copy := He.meth_ok (c.fact 106 (f := fa_ (.meth "Links" "copy")) rfl)
  me_Links_outs := He.meth_ok (c.fact 107 (f := fa_ (.meth "Links" "outs")) rfl)
  me_Links_dump := He.meth_ok (c.fact 108 (f := fa_ (.meth "Links" "dump")) rfl)
  cl_FreeMode := He.cls_ok (c.fact 109 (f := fa_ (.cls "FreeMode")) rfl)
  ty_FreeMode := tyB_ok (c.fact 110 (f := tyB "FreeMode") rfl)
  me_FreeMode_refusal := He.meth_ok (c.fact 111 (f := fa_ (.meth "FreeMode" "refusal")) rfl)
  cl_SavingMode := He.cls_ok (c.fact 112 (f := fa_ (.cls "SavingMode")) rfl)
  ty_SavingMode := tyB_ok (c.fact 113 (f := tyB "SavingMode") rfl)
  me_SavingMode_refusal := He.meth_ok (c.fact 114 (f := fa_ (.meth "SavingMode" "refusal")) rfl)
  cl_GuardedMode := He.cls_ok (c.fact 115 (f := fa_ (.cls "GuardedMode")) rfl)
  ty_GuardedMode := tyB_ok (c.fact 116 (f := tyB "GuardedMode") rfl)
  me_GuardedMode_refusal := He.meth_ok (c.fact 117 (f := fa_ (.meth "GuardedMode" "refusal")) rfl)
  cl_CheckedMode := He.cls_ok (c.fact 118 (f := fa_ (.cls "CheckedMode")) rfl)
  ty_CheckedMode := tyB_ok (c.fact 119 (f := tyB "CheckedMode") rfl)
  me_CheckedMode_refusal := He.meth_ok (c.fact 120 (f := fa_ (.meth "CheckedMode" "refusal")) rfl)
  cf_LogError := cfB_ok (c.fact 121 (f := cfB "LogError" "__init__") rfl)
  ex_BadDump := askB_ok (c.fact 122 (f := askB "BadDump") rfl)
  ex_BadGap := askB_ok (c.fact 123 (f := askB "BadGap") rfl)
  ex_BadMode := askB_ok (c.fact 124 (f := askB "BadMode") rfl)
  ex_BadNode := askB_ok (c.fact 125 (f := askB "BadNode") rfl)
  ex_BadOperation := askB_ok (c.fact 126 (f := askB "BadOperation") rfl)
  ex_BadSize := askB_ok (c.fact 127 (f := askB "BadSize") rfl)
  ex_Illegal := askB_ok (c.fact 128 (f := askB "Illegal") rfl)
  ex_LinkError := askB_ok (c.fact 129 (f := askB "LinkError") rfl)
  ex_LogError := askB_ok (c.fact 130 (f := askB "LogError") rfl)
  ex_Refused := askB_ok (c.fact 131 (f := askB "Refused") rfl)
  oe_BadGap := excB_ok (c.fact 132 (f := excB "BadGap" ["gap"]) rfl)
  in_BadGap := iniB_ok (c.fact 133 (f := iniB "BadGap") rfl)
  kit_BadGap_BadDump := of_decide_eq_true (c.fact 134 (f := kitB2 "BadGap" "BadDump" false) rfl)
  kit_BadGap_BadGap := of_decide_eq_true (c.fact 135 (f := kitB2 "BadGap" "BadGap" true) rfl)
  kit_BadGap_BadMode := of_decide_eq_true (c.fact 136 (f := kitB2 "BadGap" "BadMode" false) rfl)
  exm_BadGap_BadMode := of_decide_eq_true (c.fact 137 (f := exmB "BadGap" "BadMode" false) rfl)
  kit_BadGap_BadNode := of_decide_eq_true (c.fact 138 (f := kitB2 "BadGap" "BadNode" false) rfl)
  kit_BadGap_BadOperation := of_decide_eq_true (c.fact 139 (f := kitB2 "BadGap" "BadOperation" false) rfl)
  exm_BadGap_BadOperation := of_decide_eq_true (c.fact 140 (f := exmB "BadGap" "BadOperation" false) rfl)
  kit_BadGap_BadSize := of_decide_eq_true (c.fact 141 (f := kitB2 "BadGap" "BadSize" false) rfl)
  exm_BadGap_BadSize := of_decide_eq_true (c.fact 142 (f := exmB "BadGap" "BadSize" false) rfl)
  kit_BadGap_Illegal := of_decide_eq_true (c.fact 143 (f := kitB2 "BadGap" "Illegal" false) rfl)
  exm_BadGap_Illegal := of_decide_eq_true (c.fact 144 (f := exmB "BadGap" "Illegal" false) rfl)
  kit_BadGap_LinkError := of_decide_eq_true (c.fact 145 (f := kitB2 "BadGap" "LinkError" true) rfl)
  exm_BadGap_LinkError := of_decide_eq_true (c.fact 146 (f := exmB "BadGap" "LinkError" true) rfl)
  kit_BadGap_LogError := of_decide_eq_true (c.fact 147 (f := kitB2 "BadGap" "LogError" false) rfl)
  kit_BadGap_Refused := of_decide_eq_true (c.fact 148 (f := kitB2 "BadGap" "Refused" false) rfl)
  exm_BadGap_Refused := of_decide_eq_true (c.fact 149 (f := exmB "BadGap" "Refused" false) rfl)
  kit_BadGap_ValueError := of_decide_eq_true (c.fact 150 (f := kitT2 "BadGap" "ValueError" true) rfl)
  oe_BadMode := excB_ok (c.fact 151 (f := excB "BadMode" ["name"]) rfl)
  in_BadMode := iniB_ok (c.fact 152 (f := iniB "BadMode") rfl)
  kit_BadMode_BadDump := of_decide_eq_true (c.fact 153 (f := kitB2 "BadMode" "BadDump" false) rfl)
  kit_BadMode_BadGap := of_decide_eq_true (c.fact 154 (f := kitB2 "BadMode" "BadGap" false) rfl)
  kit_BadMode_BadMode := of_decide_eq_true (c.fact 155 (f := kitB2 "BadMode" "BadMode" true) rfl)
  exm_BadMode_BadMode := of_decide_eq_true (c.fact 156 (f := exmB "BadMode" "BadMode" true) rfl)
  kit_BadMode_BadNode := of_decide_eq_true (c.fact 157 (f := kitB2 "BadMode" "BadNode" false) rfl)
  kit_BadMode_BadOperation := of_decide_eq_true (c.fact 158 (f := kitB2 "BadMode" "BadOperation" false) rfl)
  exm_BadMode_BadOperation := of_decide_eq_true (c.fact 159 (f := exmB "BadMode" "BadOperation" false) rfl)
  kit_BadMode_BadSize := of_decide_eq_true (c.fact 160 (f := kitB2 "BadMode" "BadSize" false) rfl)
  exm_BadMode_BadSize := of_decide_eq_true (c.fact 161 (f := exmB "BadMode" "BadSize" false) rfl)
  kit_BadMode_Illegal := of_decide_eq_true (c.fact 162 (f := kitB2 "BadMode" "Illegal" false) rfl)
  exm_BadMode_Illegal := of_decide_eq_true (c.fact 163 (f := exmB "BadMode" "Illegal" false) rfl)
  kit_BadMode_LinkError := of_decide_eq_true (c.fact 164 (f := kitB2 "BadMode" "LinkError" true) rfl)
  exm_BadMode_LinkError := of_decide_eq_true (c.fact 165 (f := exmB "BadMode" "LinkError" true) rfl)
  kit_BadMode_LogError := of_decide_eq_true (c.fact 166 (f := kitB2 "BadMode" "LogError" false) rfl)
  kit_BadMode_Refused := of_decide_eq_true (c.fact 167 (f := kitB2 "BadMode" "Refused" false) rfl)
  exm_BadMode_Refused := of_decide_eq_true (c.fact 168 (f := exmB "BadMode" "Refused" false) rfl)
  kit_BadMode_ValueError := of_decide_eq_true (c.fact 169 (f := kitT2 "BadMode" "ValueError" true) rfl)
  oe_BadNode := excB_ok (c.fact 170 (f := excB "BadNode" ["node"]) rfl)
  in_BadNode := iniB_ok (c.fact 171 (f := iniB "BadNode") rfl)
  kit_BadNode_BadDump := of_decide_eq_true (c.fact 172 (f := kitB2 "BadNode" "BadDump" false) rfl)
  kit_BadNode_BadGap := of_decide_eq_true (c.fact 173 (f := kitB2 "BadNode" "BadGap" false) rfl)
  kit_BadNode_BadMode := of_decide_eq_true (c.fact 174 (f := kitB2 "BadNode" "BadMode" false) rfl)
  exm_BadNode_BadMode := of_decide_eq_true (c.fact 175 (f := exmB "BadNode" "BadMode" false) rfl)
  kit_BadNode_BadNode := of_decide_eq_true (c.fact 176 (f := kitB2 "BadNode" "BadNode" true) rfl)
  kit_BadNode_BadOperation := of_decide_eq_true (c.fact 177 (f := kitB2 "BadNode" "BadOperation" false) rfl)
  exm_BadNode_BadOperation := of_decide_eq_true (c.fact 178 (f := exmB "BadNode" "BadOperation" false) rfl)
  kit_BadNode_BadSize := of_decide_eq_true (c.fact 179 (f := kitB2 "BadNode" "BadSize" false) rfl)
  exm_BadNode_BadSize := of_decide_eq_true (c.fact 180 (f := exmB "BadNode" "BadSize" false) rfl)
  kit_BadNode_Illegal := of_decide_eq_true (c.fact 181 (f := kitB2 "BadNode" "Illegal" false) rfl)
  exm_BadNode_Illegal := of_decide_eq_true (c.fact 182 (f := exmB "BadNode" "Illegal" false) rfl)
  kit_BadNode_LinkError := of_decide_eq_true (c.fact 183 (f := kitB2 "BadNode" "LinkError" true) rfl)
  exm_BadNode_LinkError := of_decide_eq_true (c.fact 184 (f := exmB "BadNode" "LinkError" true) rfl)
  kit_BadNode_LogError := of_decide_eq_true (c.fact 185 (f := kitB2 "BadNode" "LogError" false) rfl)
  kit_BadNode_Refused := of_decide_eq_true (c.fact 186 (f := kitB2 "BadNode" "Refused" false) rfl)
  exm_BadNode_Refused := of_decide_eq_true (c.fact 187 (f := exmB "BadNode" "Refused" false) rfl)
  kit_BadNode_ValueError := of_decide_eq_true (c.fact 188 (f := kitT2 "BadNode" "ValueError" true) rfl)
  oe_BadOperation := excB_ok (c.fact 189 (f := excB "BadOperation" ["operation", "index"]) rfl)
  in_BadOperation := iniB_ok (c.fact 190 (f := iniB "BadOperation") rfl)
  sm_BadOperation := of_decide_eq_true (c.fact 191 (f := (fun K => decide (He.ma K (He.ga K "BadOperation") "__init__" = He.ma K (He.ga K "LogError") "__init__"))) rfl)
  kit_BadOperation_BadDump := of_decide_eq_true (c.fact 192 (f := kitB2 "BadOperation" "BadDump" false) rfl)
  kit_BadOperation_BadGap := of_decide_eq_true (c.fact 193 (f := kitB2 "BadOperation" "BadGap" false) rfl)
  kit_BadOperation_BadMode := of_decide_eq_true (c.fact 194 (f := kitB2 "BadOperation" "BadMode" false) rfl)
  exm_BadOperation_BadMode := of_decide_eq_true (c.fact 195 (f := exmB "BadOperation" "BadMode" false) rfl)
  kit_BadOperation_BadNode := of_decide_eq_true (c.fact 196 (f := kitB2 "BadOperation" "BadNode" false) rfl)
  kit_BadOperation_BadOperation := of_decide_eq_true (c.fact 197 (f := kitB2 "BadOperation" "BadOperation" true) rfl)
  exm_BadOperation_BadOperation := of_decide_eq_true (c.fact 198 (f := exmB "BadOperation" "BadOperation" true) rfl)
  kit_BadOperation_BadSize := of_decide_eq_true (c.fact 199 (f := kitB2 "BadOperation" "BadSize" false) rfl)
  exm_BadOperation_BadSize := of_decide_eq_true (c.fact 200 (f := exmB "BadOperation" "BadSize" false) rfl)
  kit_BadOperation_Illegal := of_decide_eq_true (c.fact 201 (f := kitB2 "BadOperation" "Illegal" false) rfl)
  exm_BadOperation_Illegal := of_decide_eq_true (c.fact 202 (f := exmB "BadOperation" "Illegal" false) rfl)
  kit_BadOperation_LinkError := of_decide_eq_true (c.fact 203 (f := kitB2 "BadOperation" "LinkError" true) rfl)
  exm_BadOperation_LinkError := of_decide_eq_true (c.fact 204 (f := exmB "BadOperation" "LinkError" true) rfl)
  kit_BadOperation_LogError := of_decide_eq_true (c.fact 205 (f := kitB2 "BadOperation" "LogError" true) rfl)
  kit_BadOperation_Refused := of_decide_eq_true (c.fact 206 (f := kitB2 "BadOperation" "Refused" false) rfl)
  exm_BadOperation_Refused := of_decide_eq_true (c.fact 207 (f := exmB "BadOperation" "Refused" false) rfl)
  kit_BadOperation_ValueError := of_decide_eq_true (c.fact 208 (f := kitT2 "BadOperation" "ValueError" true) rfl)
  oe_BadSize := excB_ok (c.fact 209 (f := excB "BadSize" ["size"]) rfl)
  in_BadSize := iniB_ok (c.fact 210 (f := iniB "BadSize") rfl)
  kit_BadSize_BadDump := of_decide_eq_true (c.fact 211 (f := kitB2 "BadSize" "BadDump" false) rfl)
  kit_BadSize_BadGap := of_decide_eq_true (c.fact 212 (f := kitB2 "BadSize" "BadGap" false) rfl)
  kit_BadSize_BadMode := of_decide_eq_true (c.fact 213 (f := kitB2 "BadSize" "BadMode" false) rfl)
  exm_BadSize_BadMode := of_decide_eq_true (c.fact 214 (f := exmB "BadSize" "BadMode" false) rfl)
  kit_BadSize_BadNode := of_decide_eq_true (c.fact 215 (f := kitB2 "BadSize" "BadNode" false) rfl)
  kit_BadSize_BadOperation := of_decide_eq_true (c.fact 216 (f := kitB2 "BadSize" "BadOperation" false) rfl)
  exm_BadSize_BadOperation := of_decide_eq_true (c.fact 217 (f := exmB "BadSize" "BadOperation" false) rfl)
  kit_BadSize_BadSize := of_decide_eq_true (c.fact 218 (f := kitB2 "BadSize" "BadSize" true) rfl)
  exm_BadSize_BadSize := of_decide_eq_true (c.fact 219 (f := exmB "BadSize" "BadSize" true) rfl)
  kit_BadSize_Illegal := of_decide_eq_true (c.fact 220 (f := kitB2 "BadSize" "Illegal" false) rfl)
  exm_BadSize_Illegal := of_decide_eq_true (c.fact 221 (f := exmB "BadSize" "Illegal" false) rfl)
  kit_BadSize_LinkError := of_decide_eq_true (c.fact 222 (f := kitB2 "BadSize" "LinkError" true) rfl)
  exm_BadSize_LinkError := of_decide_eq_true (c.fact 223 (f := exmB "BadSize" "LinkError" true) rfl)
  kit_BadSize_LogError := of_decide_eq_true (c.fact 224 (f := kitB2 "BadSize" "LogError" false) rfl)
  kit_BadSize_Refused := of_decide_eq_true (c.fact 225 (f := kitB2 "BadSize" "Refused" false) rfl)
  exm_BadSize_Refused := of_decide_eq_true (c.fact 226 (f := exmB "BadSize" "Refused" false) rfl)
  kit_BadSize_ValueError := of_decide_eq_true (c.fact 227 (f := kitT2 "BadSize" "ValueError" true) rfl)
  oe_Illegal := excB_ok (c.fact 228 (f := excB "Illegal" ["operation", "index"]) rfl)
  in_Illegal := iniB_ok (c.fact 229 (f := iniB "Illegal") rfl)
  sm_Illegal := of_decide_eq_true (c.fact 230 (f := (fun K => decide (He.ma K (He.ga K "Illegal") "__init__" = He.ma K (He.ga K "LogError") "__init__"))) rfl)
  kit_Illegal_BadDump := of_decide_eq_true (c.fact 231 (f := kitB2 "Illegal" "BadDump" false) rfl)
  kit_Illegal_BadGap := of_decide_eq_true (c.fact 232 (f := kitB2 "Illegal" "BadGap" false) rfl)
  kit_Illegal_BadMode := of_decide_eq_true (c.fact 233 (f := kitB2 "Illegal" "BadMode" false) rfl)
  exm_Illegal_BadMode := of_decide_eq_true (c.fact 234 (f := exmB "Illegal" "BadMode" false) rfl)
  kit_Illegal_BadNode := of_decide_eq_true (c.fact 235 (f := kitB2 "Illegal" "BadNode" false) rfl)
  kit_Illegal_BadOperation := of_decide_eq_true (c.fact 236 (f := kitB2 "Illegal" "BadOperation" false) rfl)
  exm_Illegal_BadOperation := of_decide_eq_true (c.fact 237 (f := exmB "Illegal" "BadOperation" false) rfl)
  kit_Illegal_BadSize := of_decide_eq_true (c.fact 238 (f := kitB2 "Illegal" "BadSize" false) rfl)
  exm_Illegal_BadSize := of_decide_eq_true (c.fact 239 (f := exmB "Illegal" "BadSize" false) rfl)
  kit_Illegal_Illegal := of_decide_eq_true (c.fact 240 (f := kitB2 "Illegal" "Illegal" true) rfl)
  exm_Illegal_Illegal := of_decide_eq_true (c.fact 241 (f := exmB "Illegal" "Illegal" true) rfl)
  kit_Illegal_LinkError := of_decide_eq_true (c.fact 242 (f := kitB2 "Illegal" "LinkError" true) rfl)
  exm_Illegal_LinkError := of_decide_eq_true (c.fact 243 (f := exmB "Illegal" "LinkError" true) rfl)
  kit_Illegal_LogError := of_decide_eq_true (c.fact 244 (f := kitB2 "Illegal" "LogError" true) rfl)
  kit_Illegal_Refused := of_decide_eq_true (c.fact 245 (f := kitB2 "Illegal" "Refused" false) rfl)
  exm_Illegal_Refused := of_decide_eq_true (c.fact 246 (f := exmB "Illegal" "Refused" false) rfl)
  kit_Illegal_ValueError := of_decide_eq_true (c.fact 247 (f := kitT2 "Illegal" "ValueError" true) rfl)
  oe_Refused := excB_ok (c.fact 248 (f := excB "Refused" ["operation", "index", "refusing"]) rfl)
  in_Refused := iniB_ok (c.fact 249 (f := iniB "Refused") rfl)
  kit_Refused_BadDump := of_decide_eq_true (c.fact 250 (f := kitB2 "Refused" "BadDump" false) rfl)
  kit_Refused_BadGap := of_decide_eq_true (c.fact 251 (f := kitB2 "Refused" "BadGap" false) rfl)
  kit_Refused_BadMode := of_decide_eq_true (c.fact 252 (f := kitB2 "Refused" "BadMode" false) rfl)
  exm_Refused_BadMode := of_decide_eq_true (c.fact 253 (f := exmB "Refused" "BadMode" false) rfl)
  kit_Refused_BadNode := of_decide_eq_true (c.fact 254 (f := kitB2 "Refused" "BadNode" false) rfl)
  kit_Refused_BadOperation := of_decide_eq_true (c.fact 255 (f := kitB2 "Refused" "BadOperation" false) rfl)
  exm_Refused_BadOperation := of_decide_eq_true (c.fact 256 (f := exmB "Refused" "BadOperation" false) rfl)
  kit_Refused_BadSize := of_decide_eq_true (c.fact 257 (f := kitB2 "Refused" "BadSize" false) rfl)
  exm_Refused_BadSize := of_decide_eq_true (c.fact 258 (f := exmB "Refused" "BadSize" false) rfl)
  kit_Refused_Illegal := of_decide_eq_true (c.fact 259 (f := kitB2 "Refused" "Illegal" false) rfl)
  exm_Refused_Illegal := of_decide_eq_true (c.fact 260 (f := exmB "Refused" "Illegal" false) rfl)
  kit_Refused_LinkError := of_decide_eq_true (c.fact 261 (f := kitB2 "Refused" "LinkError" true) rfl)
  exm_Refused_LinkError := of_decide_eq_true (c.fact 262 (f := exmB "Refused" "LinkError" true) rfl)
  kit_Refused_LogError := of_decide_eq_true (c.fact 263 (f := kitB2 "Refused" "LogError" true) rfl)
  kit_Refused_Refused := of_decide_eq_true (c.fact 264 (f := kitB2 "Refused" "Refused" true) rfl)
  exm_Refused_Refused := of_decide_eq_true (c.fact 265 (f := exmB "Refused" "Refused" true) rfl)
  kit_Refused_ValueError := of_decide_eq_true (c.fact 266 (f := kitT2 "Refused" "ValueError" true) rfl)
end G
set_option Elab.async false
set_option linter.all false
set_option maxRecDepth 100000
set_option maxHeartbeats 4000000
/-! k21: certificates of loss. -/
namespace G
open PySem PySem.Spec PyProof.Rows L2
theorem jl : ¬ (("joined" : Str) = "lost") := by decide +kernel
theorem ll : ¬ (("left" : Str) = "lost") := by decide +kernel
theorem rl_ : ¬ (("right" : Str) = "lost") := by decide +kernel
theorem jl2 : ¬ (("left" : Str) = "joined") := by decide +kernel
theorem jr2 : ¬ (("right" : Str) = "joined") := by decide +kernel
theorem jx2 : ¬ (("lost" : Str) = "joined") := by decide +kernel
theorem stT_joined {s : Sd} {g : Nat} : stT s g = "joined" ↔ gI s.R g = (g : Int) + 1 ∧ gI s.L (g + 1) = (g : Int) := by
  unfold stT
  split <;> split <;> rename_i a b
  · exact ⟨fun _ => ⟨a, b⟩, fun _ => rfl⟩
  · exact ⟨fun z => absurd z jl2, fun z => absurd z.2 b⟩
  · exact ⟨fun z => absurd z jr2, fun z => absurd z.1 a⟩
  · exact ⟨fun z => absurd z jx2, fun z => absurd z.1 a⟩
theorem stT_lost2 {s : Sd} {g : Nat} : stT s g = "lost" ↔ ¬ gI s.R g = (g : Int) + 1 ∧ ¬ gI s.L (g + 1) = (g : Int) := by
  unfold stT
  split <;> split <;> rename_i a b
  · exact ⟨fun z => absurd z jl, fun z => absurd a z.1⟩
  · exact ⟨fun z => absurd z ll, fun z => absurd a z.1⟩
  · exact ⟨fun z => absurd z rl_, fun z => absurd b z.2⟩
  · exact ⟨fun _ => ⟨a, b⟩, fun _ => rfl⟩
/-! ### triples -/
abbrev Ct := Int × Int × Int
def ctV (t : Ct) : List V := [.int t.1, .int t.2.1, .int t.2.2]
def CPs (H : Hp) (xs : List V) (es : List Ct) : Prop := xs.length = es.length ∧ ∀ (i : Nat) (e : Ct), es[i]? = some e → ∃ a, xs[i]? = some (.ref a) ∧ H a = some (.tup (ctV e))
theorem CPs.kp {S : List Addr} {H H' : Hp} {xs : List V} {es : List Ct} (h : CPs H xs es) (k : Kp S H H') (hS : ∀ b ∈ S, ∀ ys, H b ≠ some (.tup ys)) : CPs H' xs es := by
  refine ⟨h.1, fun i t e => ?_⟩
  obtain ⟨a, h1, h2⟩ := h.2 i t e
  exact ⟨a, h1, k _ _ (fun z => hS a z _ h2) h2⟩
theorem CPs.k0 {H H' : Hp} {xs : List V} {es : List Ct} (h : CPs H xs es) (k : Kp [] H H') : CPs H' xs es := h.kp k (by simp)
theorem CPs.one {H : Hp} {a : Addr} {t : Ct} (ha : H a = some (.tup (ctV t))) : CPs H [.ref a] [t] := by
  refine ⟨rfl, fun i u e => ?_⟩
  match i, e with
  | 0, e =>
    have eu : t = u := by simpa using e
    subst eu
    exact ⟨a, rfl, ha⟩
  | i + 1, e => simp at e
theorem CPs.nil {H : Hp} : CPs H [] [] := ⟨rfl, fun i t e => by simp at e⟩
theorem CPs.tail {H : Hp} {x : V} {xs : List V} {e : Ct} {es : List Ct} (h : CPs H (x :: xs) (e :: es)) : CPs H xs es := by
  have := h.1
  refine ⟨by simpa using this, fun i u z => ?_⟩
  obtain ⟨a, h1, h2⟩ := h.2 (i + 1) u (by simpa using z)
  exact ⟨a, by simpa using h1, h2⟩
/-! ### the law's things -/
structure Bk5 (H : Hp) (w l r o : Addr) (s : Sd) : Prop where
  ob : H w = some (.lst [.int s.n, .ref l, .ref r, .ref o])
  hl : ∃ L' : List Int, H l = some (.lst (L'.map V.int)) ∧ L'.length = s.n + 2 ∧ ∀ v, 1 ≤ v → v ≤ s.n + 1 → gI L' v = gI s.L v
  hr : ∃ R' : List Int, H r = some (.lst (R'.map V.int)) ∧ R'.length = s.n + 2 ∧ ∀ v, v ≤ s.n → gI R' v = gI s.R v
  ho : H o = some (.lst (s.O.map V.bl))
  ne : l ≠ r ∧ l ≠ o ∧ r ≠ o ∧ w ≠ l ∧ w ≠ r ∧ w ≠ o
  wf : Wf s
theorem Bk5.kp {H H' : Hp} {w l r o : Addr} {s : Sd} {S : List Addr} (a : Bk5 H w l r o s) (k : Kp S H H') (h1 : w ∉ S) (h2 : l ∉ S) (h3 : r ∉ S) (h4 : o ∉ S) : Bk5 H' w l r o s := by
  obtain ⟨L', e1, e2⟩ := a.hl
  obtain ⟨R', f1, f2⟩ := a.hr
  exact ⟨k _ _ h1 a.ob, ⟨L', k _ _ h2 e1, e2⟩, ⟨R', k _ _ h3 f1, f2⟩, k _ _ h4 a.ho, a.ne, a.wf⟩
theorem Bk5.k0 {H H' : Hp} {w l r o : Addr} {s : Sd} (a : Bk5 H w l r o s) (k : Kp [] H H') : Bk5 H' w l r o s := a.kp k (by simp) (by simp) (by simp) (by simp)
theorem Bk5.fr {H : Hp} {w l r o x : Addr} {s : Sd} (a : Bk5 H w l r o s) (n : H x = none) : w ≠ x ∧ l ≠ x ∧ r ≠ x ∧ o ≠ x := by
  obtain ⟨L', e1, e2⟩ := a.hl
  obtain ⟨R', f1, f2⟩ := a.hr
  exact ⟨ne_of_none a.ob n, ne_of_none e1 n, ne_of_none f1 n, ne_of_none a.ho n⟩
theorem legO_ok' {s : Sd} {v : Nat} (h1 : 1 ≤ v) (h2 : v ≤ s.n) : OkOp s (legO s v) ∧ (legO s v).natAbs = v := by
  unfold legO
  by_cases c : gB s.O v = true
  · rw [if_pos c]
    refine ⟨⟨⟨by omega, by omega⟩, ?_⟩, by omega⟩
    rw [Int.natAbs_natCast, c]
    symm
    exact decide_eq_true (by omega)
  · rw [if_neg c]
    refine ⟨⟨⟨by omega, by omega⟩, ?_⟩, by omega⟩
    rw [Int.natAbs_neg, Int.natAbs_natCast, Bool.not_eq_true] at *
    rw [c]
    symm
    exact decide_eq_false (by omega)
structure Bag5 (H : Hp) (b c : Addr) : Prop where
  ob : ∃ p q m t : Int, H b = some (.lst [.ref c, .int p, .int q, .int m, .int t]) ∧ 0 ≤ p
  hc : ∃ ns : List Int, H c = some (.lst (ns.map V.int)) ∧ ns.length ≤ 63
theorem Bag5.ne {H : Hp} {b c : Addr} (h : Bag5 H b c) : b ≠ c := by
  obtain ⟨p, q, m, t, h1, _⟩ := h.ob
  obtain ⟨ns, h2, _⟩ := h.hc
  rintro rfl
  rw [h1] at h2
  injection h2 with h2
  injection h2 with h2
  cases ns with
  | nil => cases h2
  | cons x ns =>
    injection h2 with h2
    cases h2
theorem Bag5.kp {H H' : Hp} {b c : Addr} {S : List Addr} (a : Bag5 H b c) (k : Kp S H H') (h1 : b ∉ S) (h2 : c ∉ S) : Bag5 H' b c := by
  obtain ⟨p, q, m, t, e1, p0⟩ := a.ob
  obtain ⟨ns, e2, e3⟩ := a.hc
  exact ⟨⟨p, q, m, t, k _ _ h1 e1, p0⟩, ⟨ns, k _ _ h2 e2, e3⟩⟩
theorem Bag5.k0 {H H' : Hp} {b c : Addr} (a : Bag5 H b c) (k : Kp [] H H') : Bag5 H' b c := a.kp k (by simp) (by simp)
theorem Bag5.fr {H : Hp} {b c x : Addr} (a : Bag5 H b c) (n : H x = none) : x ≠ b ∧ x ≠ c := by
  obtain ⟨_, _, _, _, e1, _⟩ := a.ob
  obtain ⟨_, e2, _⟩ := a.hc
  exact ⟨(ne_of_none e1 n).symm, (ne_of_none e2 n).symm⟩
structure ValS (b : Addr) (H : Hp) (v : V) : Prop where
  ex : ∃ d, Vl b H v d ∧ SeqAt.shaped d = true
theorem ValS.k1 {b : Addr} {H H' : Hp} {v : V} (h : ValS b H v) (k : Kp [b] H H') : ValS b H' v := by
  obtain ⟨d, h1, h2⟩ := h.ex
  exact ⟨d, Vl.kp k d v h1, h2⟩
theorem ValS.k0 {b : Addr} {H H' : Hp} {v : V} (h : ValS b H v) (k : Kp [] H H') : ValS b H' v := h.k1 k.all
/-! ### promises -/
section
def sp__law_operation (K : PySem.W.Frag) : Sp := fun vs H Q E => ∃ (w l r o : Addr) (s : Sd) (v : Nat), vs = [.ref w, .int (v : Int)] ∧ Bk5 H w l r o s ∧ v ≤ s.n + 1 ∧ Q (.int (legO s v)) H
end
end G
set_option Elab.async false
set_option linter.all false
set_option maxRecDepth 100000
set_option maxHeartbeats 4000000
/-! k06: sole holders; promises. -/
namespace G
open PySem PySem.Spec PyProof.Rows L2
/-- v holds a gap alone -/
def soleB (s : Sd) (v : Nat) : Bool := decide (stT s v = "left") || decide (stT s (v - 1) = "right")
/-! ### promises -/
end G
set_option Elab.async false
set_option linter.all false
set_option maxRecDepth 100000
set_option maxHeartbeats 4000000
/-! k00: promises. -/
namespace G
open PySem PySem.Spec PyProof.Rows L2 TL
/-- the law's box of draws: cells, place, number, seed, count -/
structure BxI (H : Hp) (b c : Addr) : Prop where
  ob : ∃ p q m t : Int, H b = some (.lst [.ref c, .int p, .int q, .int m, .int t]) ∧ 0 ≤ p
  hc : ∃ ns : List Int, H c = some (.lst (ns.map V.int)) ∧ ns.length ≤ 63
theorem BxI.ne {H : Hp} {b c : Addr} (h : BxI H b c) : b ≠ c := by
  obtain ⟨p, q, m, t, h1, _⟩ := h.ob
  obtain ⟨ns, h2, _⟩ := h.hc
  rintro rfl
  rw [h1] at h2
  injection h2 with h2
  injection h2 with h2
  cases ns with
  | nil => cases h2
  | cons x ns =>
    injection h2 with h2
    cases h2
theorem BxI.kp {H H' : Hp} {b c : Addr} {S : List Addr} (a : BxI H b c) (k : Kp S H H') (h1 : b ∉ S) (h2 : c ∉ S) : BxI H' b c := by
  obtain ⟨p, q, m, t, e1, p0⟩ := a.ob
  obtain ⟨ns, e2, e3⟩ := a.hc
  exact ⟨⟨p, q, m, t, k _ _ h1 e1, p0⟩, ⟨ns, k _ _ h2 e2, e3⟩⟩
theorem BxI.k0 {H H' : Hp} {b c : Addr} (a : BxI H b c) (k : Kp [] H H') : BxI H' b c := a.kp k (by simp) (by simp)
theorem BxI.fr {H : Hp} {b c x : Addr} (a : BxI H b c) (n : H x = none) : x ≠ b ∧ x ≠ c := by
  obtain ⟨_, _, _, _, e1, _⟩ := a.ob
  obtain ⟨_, e2, _⟩ := a.hc
  exact ⟨(ne_of_none e1 n).symm, (ne_of_none e2 n).symm⟩
/-- what a reading of the text is due to tell -/
def DueA (H : Hp) (t : Str) (xs : List V) : Prop := (∃ k : Nat, badW (wordsT t) = some k ∧ xs = [.bl false, .int (k : Int)]) ∨ (badW (wordsT t) = none ∧ ∃ l, xs = [.bl true, .ref l] ∧ H l = some (.lst (((wordsT t).map valW).map V.int)))
theorem DueA.k0 {H H' : Hp} {t : Str} {xs : List V} (h : DueA H t xs) (k : Kp [] H H') : DueA H' t xs := by
  rcases h with h | ⟨h, l, e, hl⟩
  · exact .inl h
  · exact .inr ⟨h, l, e, k.at0 hl⟩
end G
set_option Elab.async false
set_option linter.all false
set_option maxRecDepth 100000
set_option maxHeartbeats 4000000
/-! k03: dumps of any form. -/
namespace G
open PySem PySem.Spec PyProof.Rows L2 TL NumText
/-! ### canonical digits -/
def numZ (w : Str) : Int := if tl w = [48] then 0 else if posL (tl w) = true then ((digitsVal (tl w) : Nat) : Int) else -1
/-! ### what is split is joined again -/
/-! ### the parts of a dump -/
def nz (t : Str) : List Int := (Txt.split t spS).map numZ
theorem nz_len (t : Str) : (nz t).length = (Txt.split t spS).length := List.length_map ..
theorem nz_ne (t : Str) : nz t ≠ [] := fun z => (split_sum t).2.2 (by
  have := nz_len t
  rw [z] at this
  exact List.length_eq_zero_iff.mp this.symm)
def okR (R : List Int) : Prop := R.length ≤ 61 ∧ ∀ v, v < R.length → (v : Int) < gI R v ∧ gI R v ≤ R.length
def okL (L : List Int) (n : Nat) : Prop := L.length = n + 1 ∧ ∀ v, v ≤ n → 0 ≤ gI L v ∧ gI L v ≤ v
def okO (O : List Int) (n : Nat) : Prop := ∀ i, i < O.length → gI (0 :: O) i < gI O i ∧ gI O i ≤ n
def prt (t : Str) (i : Nat) : Str := (Txt.split t barS ++ (["", ""] : List Str)).getD i ""
def szT (t : Str) : Nat := (nz (prt t 0)).length - 1
def osT (t : Str) : List Int := if prt t 2 = noneS then [] else nz (prt t 2)
def bitsO (n : Nat) (O : List Int) : List Bool := (List.range (n + 2)).map fun (v : Nat) => decide ((v : Int) ∈ O)
def sdT (t : Str) : Sd := ⟨szT t, nz (prt t 0), 0 :: nz (prt t 1), bitsO (szT t) (osT t)⟩
theorem bits_len (n : Nat) (O : List Int) : (bitsO n O).length = n + 2 := by
  unfold bitsO
  rw [List.length_map, List.length_range]
/-- a right text -/
structure RightT (t : Str) : Prop where
  r : okR (nz (prt t 0))
  l : okL (nz (prt t 1)) (szT t)
  o : okO (osT t) (szT t)
theorem RightT.wf {t : Str} (h : RightT t) : Wf (sdT t) := by
  have hn := List.length_pos_iff.mpr (nz_ne (prt t 0))
  have e : (nz (prt t 0)).length = szT t + 1 := by
    unfold szT
    omega
  refine ⟨?_, e, by show (nz (prt t 1)).length + 1 = _; rw [h.l.1] <;> rfl, bits_len _ _, fun v hv => ?_, fun v h1 h2 => ?_⟩
  · have := h.r.1
    show szT t ≤ 60
    omega
  · have := h.r.2 v (by rw [e]; exact Nat.lt_succ_of_le hv)
    rw [e] at this
    exact this
  · obtain ⟨u, rfl⟩ : ∃ u, v = u + 1 := ⟨v - 1, by omega⟩
    have := h.l.2 u (by show u ≤ szT t; have : u + 1 ≤ szT t + 1 := h2; omega)
    show 0 ≤ gI (nz (prt t 1)) u ∧ gI (nz (prt t 1)) u < _
    omega
end G
set_option Elab.async false
set_option linter.all false
set_option maxRecDepth 100000
set_option maxHeartbeats 4000000
/-! k03: promises. -/
namespace G
open PySem PySem.Spec PyProof.Rows L2 TL
/-- the law's lists of links -/
structure WdZ (H : Hp) (r l o : Addr) (n : Nat) (R L : List Int) (O : List Bool) : Prop where
  hr : H r = some (.lst (R.map V.int))
  hl : H l = some (.lst (L.map V.int))
  ho : H o = some (.lst (O.map V.bl))
  ne : r ≠ l ∧ r ≠ o ∧ l ≠ o
  lR : R.length = n + 1
  lL : L.length = n + 2
  lO : O.length = n + 2
  rb : ∀ v : Nat, v ≤ n → (v : Int) < gI R v ∧ gI R v ≤ (n : Int) + 1
  lb : ∀ v : Nat, 1 ≤ v → v ≤ n + 1 → 0 ≤ gI L v ∧ gI L v < (v : Int)
  o0 : gB O 0 = false
  o1 : gB O (n + 1) = false
theorem WdZ.kp {H H' : Hp} {r l o : Addr} {n : Nat} {R L : List Int} {O : List Bool} {S : List Addr} (a : WdZ H r l o n R L O) (k : Kp S H H') (h1 : r ∉ S) (h2 : l ∉ S) (h3 : o ∉ S) : WdZ H' r l o n R L O :=
  ⟨k _ _ h1 a.hr, k _ _ h2 a.hl, k _ _ h3 a.ho, a.ne, a.lR, a.lL, a.lO, a.rb, a.lb, a.o0, a.o1⟩
theorem WdZ.k0 {H H' : Hp} {r l o : Addr} {n : Nat} {R L : List Int} {O : List Bool} (a : WdZ H r l o n R L O) (k : Kp [] H H') : WdZ H' r l o n R L O := a.kp k (by simp) (by simp) (by simp)
section
def sp03_Links_is_out (K : PySem.W.Frag) : Sp := fun vs H Q E => ∃ (p r l o : Addr) (s : Sd) (v : Nat), vs = [.ref p, .int (v : Int)] ∧ LinksAt K H p r l o s ∧ v ≤ s.n + 1 ∧ Q (.bl (gB s.O v)) H
end
end G
set_option Elab.async false
set_option linter.all false
set_option maxRecDepth 100000
set_option maxHeartbeats 4000000
/-! k02: mathematics and promises. -/
namespace G
open PySem PySem.Spec PyProof.Rows L2 TL
/-! ### the standing of the law's lists -/
def wS (n : Nat) (R L : List Int) (O : List Bool) : Sd := ⟨n, R, 0 :: L.drop 1, O⟩
theorem gI_wL {L : List Int} {v : Nat} (h : 1 ≤ v) : gI (0 :: L.drop 1) v = gI L v := by
  obtain ⟨u, rfl⟩ : ∃ u, v = u + 1 := ⟨v - 1, by omega⟩
  show (L.drop 1).getD u 0 = L.getD (u + 1) 0
  rw [List.getD_eq_getElem?_getD, List.getD_eq_getElem?_getD, List.getElem?_drop, Nat.add_comm]
theorem WdZ.wf {H : Hp} {r l o : Addr} {n : Nat} {R L : List Int} {O : List Bool} (a : WdZ H r l o n R L O) (hn : n ≤ 60) : Wf (wS n R L O) := by
  refine ⟨hn, a.lR, ?_, a.lO, a.rb, fun v h1 h2 => ?_⟩
  · show (L.drop 1).length + 1 = n + 2
    rw [List.length_drop, a.lL]
    omega
  · show 0 ≤ gI (0 :: L.drop 1) v ∧ gI (0 :: L.drop 1) v < _
    rw [gI_wL h1]
    exact a.lb v h1 h2
/-! ### dumps are alike exactly if the standings are -/
end G
set_option Elab.async false
set_option linter.all false
set_option maxRecDepth 100000
set_option maxHeartbeats 4000000
/-! k02: promises. -/
set_option Elab.async false
set_option linter.all false
set_option maxRecDepth 100000
set_option maxHeartbeats 4000000
/-! k04: mathematics. -/
namespace G
open PySem PySem.Spec PyProof.Rows L2 TL
/-! ### walks -/
/-! ### sound, whole -/
/-! ### the mirror -/
theorem step_gB {s : Sd} (w : Wf s) {op : Int} (h : IsOp s.n op) (v : Nat) : gB (stepS s op).O v = if v = op.natAbs then decide (op < 0) else gB s.O v := by
  show gB (s.O.set op.natAbs (decide (op < 0))) v = _
  have := w.lO
  have := h.2
  rw [gB_set (by omega)]
theorem step_gI {s : Sd} (w : Wf s) {op : Int} (h : IsOp s.n op) (v : Nat) : gI (stepS s op).R v = (if v = (gI s.L op.natAbs).toNat then (if op < 0 then gI s.R op.natAbs else (op.natAbs : Int)) else gI s.R v) ∧ gI (stepS s op).L v = (if v = (gI s.R op.natAbs).toNat then (if op < 0 then gI s.L op.natAbs else (op.natAbs : Int)) else gI s.L v) := by
  have h1 := h.1
  have h2 := h.2
  have rb := w.rb op.natAbs h2
  have lb := w.lb op.natAbs h1 (by omega)
  have l1 := w.lR
  have l2 := w.lL
  refine ⟨?_, ?_⟩
  · show gI (s.R.set _ _) v = _
    rw [gI_set (by omega)]
  · show gI (s.L.set _ _) v = _
    rw [gI_set (by omega)]
end G
set_option Elab.async false
set_option linter.all false
set_option maxRecDepth 100000
set_option maxHeartbeats 4000000
/-! k16: due nodes, debts, finishing by relinks: mathematics. -/
namespace G
open PySem PySem.Spec PyProof.Rows L2
def dueB (s : Sd) (v : Nat) : Bool := gB s.O v || soleB s v
def dueL (s : Sd) : List Int := (((List.range s.n).map fun (v : Nat) => v + 1).filter fun v => dueB s v).map fun (v : Nat) => (v : Int)
/-! ### finishing by relinks alone -/
/-! ### rows -/
end G
set_option Elab.async false
set_option linter.all false
set_option maxRecDepth 100000
set_option maxHeartbeats 4000000
/-! k16: promises. -/
namespace G
open PySem PySem.Spec PyProof.Rows L2
/-- the rows on the heap, none of them anything of z -/
def RowAt (H : Hp) (z w : Addr) (t : Sd) : Prop := ∃ l r o, Bk5 H w l r o t ∧ Snd t ∧ w ≠ z ∧ l ≠ z ∧ r ≠ z ∧ o ≠ z
theorem RowAt.kz {H H' : Hp} {z w : Addr} {t : Sd} (h : RowAt H z w t) (k : Kp [z] H H') : RowAt H' z w t := by
  obtain ⟨l, r, o, b, d, h1, h2, h3, h4⟩ := h
  exact ⟨l, r, o, b.kp k (by simpa using h1) (by simpa using h2) (by simpa using h3) (by simpa using h4), d, h1, h2, h3, h4⟩
def RowsAt (H : Hp) (z : Addr) (ws : List Addr) (ts : List Sd) : Prop := ws.length = ts.length ∧ ∀ (i : Nat) (w : Addr) (t : Sd), ws[i]? = some w → ts[i]? = some t → RowAt H z w t
theorem RowsAt.kz {H H' : Hp} {z : Addr} {ws : List Addr} {ts : List Sd} (h : RowsAt H z ws ts) (k : Kp [z] H H') : RowsAt H' z ws ts := ⟨h.1, fun i w t a b => (h.2 i w t a b).kz k⟩
theorem RowsAt.k0 {H H' : Hp} {z : Addr} {ws : List Addr} {ts : List Sd} (h : RowsAt H z ws ts) (k : Kp [] H H') : RowsAt H' z ws ts := h.kz k.all
theorem RowsAt.nil (H : Hp) (z : Addr) : RowsAt H z [] [] := ⟨rfl, fun i w t a _ => by simp at a⟩
theorem RowsAt.snoc {H : Hp} {z w : Addr} {t : Sd} {ws : List Addr} {ts : List Sd} (h : RowsAt H z ws ts) (r : RowAt H z w t) : RowsAt H z (ws ++ [w]) (ts ++ [t]) := by
  refine ⟨by rw [List.length_append, List.length_append, h.1]; rfl, fun i u q a b => ?_⟩
  rcases Nat.lt_or_ge i ws.length with c | c
  · rw [List.getElem?_append_left c] at a
    rw [List.getElem?_append_left (by rw [← h.1]; exact c)] at b
    exact h.2 i u q a b
  · rw [List.getElem?_append_right c] at a
    rw [List.getElem?_append_right (by rw [← h.1]; exact c)] at b
    have c2 : i - ws.length = 0 := by
      have := (List.getElem?_eq_some_iff.mp a).1
      simp at this
      omega
    rw [c2] at a
    rw [← h.1, c2] at b
    injection a with a
    injection b with b
    subst a b
    exact r
def NotRep (K : PySem.W.Frag) (s : Sd) (E : XK) (H : Hp) : Prop := ∀ (g : Nat) (gs : List Nat), lostL s = g :: gs → ∀ H', Kp [] H H' → Ex K "NotRepairable" [("gap", .int (g : Int))] E H'
theorem NotRep.k0 {K : PySem.W.Frag} {s : Sd} {E : XK} {H H1 : Hp} (h : NotRep K s E H) (k : Kp [] H H1) : NotRep K s E H1 := fun g gs e H' k' => h g gs e H' (k.trans k')
section
def sp16__law_lost (K : PySem.W.Frag) : Sp := fun vs H Q E => ∃ (w l r o : Addr) (s : Sd), vs = [.ref w] ∧ Bk5 H w l r o s ∧ NewL H (((lostL s).map fun (v : Nat) => (v : Int)).map V.int) Q
end
end G
set_option Elab.async false
set_option linter.all false
set_option maxRecDepth 100000
set_option maxHeartbeats 4000000
/-! k05: the mathematics of squeezed logs. -/
set_option Elab.async false
set_option linter.all false
set_option maxRecDepth 100000
set_option maxHeartbeats 4000000
/-! k17: first repairs: mathematics. -/
namespace G
open PySem PySem.Spec PyProof.Rows L2
/-! ### lowering operations -/
abbrev gA (s : Sd) (g : Nat) : Prop := gI s.R g = (g : Int) + 1
abbrev gBk (s : Sd) (g : Nat) : Prop := gI s.L (g + 1) = (g : Int)
/-- no gap of the left, of the right is spoilt -/
def okLB (s : Sd) (v : Nat) : Bool := decide (gI s.L v = (v : Int) - 1) || (!decide (gI s.R (gI s.L v).toNat = gI s.L v + 1) || (decide (gI s.L (gI s.L v + 1).toNat = gI s.L v) && dueB s (gI s.L v + 1).toNat))
def okRB (s : Sd) (v : Nat) : Bool := decide (gI s.R v = (v : Int) + 1) || (!decide (gI s.L (gI s.R v).toNat = gI s.R v - 1) || (decide (gI s.R (gI s.R v - 1).toNat = gI s.R v) && dueB s (gI s.R v - 1).toNat))
def okB (s : Sd) (v : Nat) : Bool := okLB s v && okRB s v
/-- where a node's links stand -/
theorem low_at {s : Sd} (w : Wf s) {v : Nat} (hv : v + 1 ≤ s.n) : ∃ l h : Nat, gI s.L (v + 1) = (l : Int) ∧ gI s.R (v + 1) = (h : Int) + 1 ∧ l ≤ v ∧ v < h ∧ h ≤ s.n := by
  obtain ⟨a, b⟩ := w.lb (v + 1) (by omega) (by omega)
  obtain ⟨c, d⟩ := w.rb (v + 1) hv
  exact ⟨(gI s.L (v + 1)).toNat, (gI s.R (v + 1)).toNat - 1, by omega, by omega, by omega, by omega, by omega⟩
/-! ### the first repair -/
def stepsL (s : Sd) : List Int := ((dueL s).map fun v => legO s v.toNat).filter fun op => okB s op.natAbs
def grd : Nat → Sd → List Int
  | 0, _ => []
  | k + 1, s => match stepsL s with
    | [] => []
    | op :: _ => op :: grd k (stepS s op)
end G
set_option Elab.async false
set_option linter.all false
set_option maxRecDepth 100000
set_option maxHeartbeats 4000000
/-! k17: promises. -/
namespace G
open PySem PySem.Spec PyProof.Rows L2
def ltI (v : Nat) (g : Int) : Int := if g < (v : Int) then g + 1 else g
def Dj (A B : List Addr) : Prop := ∀ x ∈ A, x ∉ B
theorem Dj.hd {A B : List Addr} {b : Addr} (d : Dj A (b :: B)) : Dj A [b] := fun x hx z => d x hx (by rw [List.mem_singleton.mp z]; exact List.mem_cons_self ..)
theorem Dj.tl {A B : List Addr} {p : Addr} (d : Dj (p :: A) B) : Dj B A := fun x hx z => d x (List.mem_cons_of_mem _ z) hx
theorem Dj.tr {A B : List Addr} {p : Addr} (d : Dj A (p :: B)) : Dj A B := fun x hx z => d x hx (List.mem_cons_of_mem _ z)
section
def sp17_left_to (K : PySem.W.Frag) : Sp := fun vs H Q E => ∃ op g : Int, vs = [.int op, .int g] ∧ Q (.int (ltI op.natAbs g)) H
end
end G
set_option Elab.async false
set_option linter.all false
set_option maxRecDepth 100000
set_option maxHeartbeats 4000000
/-! k22: once-only logs, late writes. -/
namespace G
open PySem PySem.Spec PyProof.Rows L2
def OnceA (log : List Int) : Prop := ∀ (i : Nat) (op : Int), log[i]? = some op → op < 0 → op ∉ log.take i
theorem OnceA.take {log : List Int} (h : OnceA log) (k : Nat) : OnceA (log.take k) := by
  intro i op hi ho
  have hk : i < (log.take k).length := (List.getElem?_eq_some_iff.mp hi).1
  rw [List.length_take] at hk
  rw [List.getElem?_take_of_lt (by omega)] at hi
  rw [List.take_take, Nat.min_eq_left (by omega)]
  exact h i op hi ho
theorem OnceA.snoc {log : List Int} {op : Int} (h : OnceA log) (ho : op < 0 → op ∉ log) : OnceA (log ++ [op]) := by
  intro i x hi hx
  by_cases c : i < log.length
  · rw [List.getElem?_append_left c] at hi
    rw [List.take_append_of_le_length (by omega)]
    exact h i x hi hx
  · have hl := (List.getElem?_eq_some_iff.mp hi).1
    rw [List.length_append] at hl
    have ei : i = log.length := by simp at hl; omega
    subst ei
    rw [List.getElem?_append_right (Nat.le_refl _), Nat.sub_self] at hi
    have e : op = x := by simpa using hi
    subst e
    rw [List.take_left' rfl]
    exact ho hx
/-- 0: has not acted, 1: out, 2: back -/
def stgF (log : List Int) (v : Nat) : Nat := match log.reverse.find? (fun x => decide (x.natAbs = v)) with
  | some x => if x < 0 then 1 else 2
  | none => 0
/-! ### late writes -/
def lateL (s : Sd) (earlier : List Int) (x : Nat) : List Int :=
  (if gI s.L x ≠ (x : Int) - 1 ∧ gI s.L x + 1 ∈ earlier then [gI s.L x] else []) ++ (if gI s.R x ≠ (x : Int) + 1 ∧ gI s.R x - 1 ∈ earlier then [gI s.R x - 1] else [])
/-! ### faults -/
/-- the first second unlink -/
def TwiceAt (log : List Int) (i : Nat) : Prop := ∃ op, log[i]? = some op ∧ op < 0 ∧ op ∈ log.take i ∧ OnceA (log.take i)
structure OnE (K : PySem.W.Frag) (H : Hp) (size : Int) (log : List Int) (E : XK) : Prop where
  re : RepE K H size log E
  tw : SizeOk size → Leg (wholeS size.toNat) log → ∀ i, TwiceAt log i → ∀ H', Kp [] H H' → Ex K "NotOnce" [("index", .int (i : Int))] E H'
theorem OnE.kp {K : PySem.W.Frag} {H H1 : Hp} {size : Int} {log : List Int} {E : XK} (r : OnE K H size log E) (k : Kp [] H H1) : OnE K H1 size log E := ⟨r.re.kp k, fun a b i t H' k' => r.tw a b i t H' (k.trans k')⟩
/-! ### the law's things -/
/-- the law's book: left links, right links, stages -/
structure LB (H : Hp) (w l r g : Addr) (n : Nat) (log : List Int) : Prop where
  ob : H w = some (.lst [.ref l, .ref r, .ref g])
  hl : ∃ L' : List Int, H l = some (.lst (L'.map V.int)) ∧ L'.length = n + 2 ∧ ∀ v, 1 ≤ v → v ≤ n + 1 → gI L' v = gI (runS (wholeS n) log).L v
  hr : ∃ R' : List Int, H r = some (.lst (R'.map V.int)) ∧ R'.length = n + 2 ∧ ∀ v, v ≤ n → gI R' v = gI (runS (wholeS n) log).R v
  hg : ∃ G' : List Int, H g = some (.lst (G'.map V.int)) ∧ G'.length = n + 2 ∧ (∀ v, 1 ≤ v → v ≤ n → gI G' v = (stgF log v : Int)) ∧ gI G' 0 = 0 ∧ gI G' (n + 1) = 0
  ne : l ≠ r ∧ l ≠ g ∧ r ≠ g ∧ w ≠ l ∧ w ≠ r ∧ w ≠ g
  le : Leg (wholeS n) log
  oo : OnceA log
  n60 : n ≤ 60
theorem LB.kp {H H' : Hp} {w l r g : Addr} {n : Nat} {log : List Int} {S : List Addr} (a : LB H w l r g n log) (k : Kp S H H') (h1 : w ∉ S) (h2 : l ∉ S) (h3 : r ∉ S) (h4 : g ∉ S) : LB H' w l r g n log := by
  obtain ⟨L', e1, e2⟩ := a.hl
  obtain ⟨R', f1, f2⟩ := a.hr
  obtain ⟨G', g1, g2⟩ := a.hg
  exact ⟨k _ _ h1 a.ob, ⟨L', k _ _ h2 e1, e2⟩, ⟨R', k _ _ h3 f1, f2⟩, ⟨G', k _ _ h4 g1, g2⟩, a.ne, a.le, a.oo, a.n60⟩
theorem LB.k0 {H H' : Hp} {w l r g : Addr} {n : Nat} {log : List Int} (a : LB H w l r g n log) (k : Kp [] H H') : LB H' w l r g n log := a.kp k (by simp) (by simp) (by simp) (by simp)
/-- the law's box of draws -/
structure BoxI (H : Hp) (b c : Addr) : Prop where
  ob : ∃ x y z : Int, H b = some (.lst [.int x, .int y, .int z, .ref c])
  hc : ∃ ns : List Int, H c = some (.lst (ns.map V.int)) ∧ ns.length ≤ 63
theorem BoxI.ne {H : Hp} {b c : Addr} (h : BoxI H b c) : b ≠ c := by
  obtain ⟨x, y, z, h1⟩ := h.ob
  obtain ⟨ns, h2, _⟩ := h.hc
  rintro rfl
  rw [h1] at h2
  injection h2 with h2
  injection h2 with h2
  match ns, h2 with
  | [_, _, _, d], h2 =>
    simp at h2
theorem BoxI.kp {H H' : Hp} {b c : Addr} {S : List Addr} (a : BoxI H b c) (k : Kp S H H') (h1 : b ∉ S) (h2 : c ∉ S) : BoxI H' b c := by
  obtain ⟨x, y, z, e1⟩ := a.ob
  obtain ⟨ns, e2, e3⟩ := a.hc
  exact ⟨⟨x, y, z, k _ _ h1 e1⟩, ⟨ns, k _ _ h2 e2, e3⟩⟩
theorem BoxI.k0 {H H' : Hp} {b c : Addr} (a : BoxI H b c) (k : Kp [] H H') : BoxI H' b c := a.kp k (by simp) (by simp)
theorem BoxI.fr {H : Hp} {b c x : Addr} (a : BoxI H b c) (n : H x = none) : x ≠ b ∧ x ≠ c := by
  obtain ⟨_, _, _, e1⟩ := a.ob
  obtain ⟨_, e2, _⟩ := a.hc
  exact ⟨(ne_of_none e1 n).symm, (ne_of_none e2 n).symm⟩
/-- pairs of numbers -/
def PPs (H : Hp) (xs : List V) (es : List (Int × Int)) : Prop := xs.length = es.length ∧ ∀ (i : Nat) (e : Int × Int), es[i]? = some e → ∃ a, xs[i]? = some (.ref a) ∧ H a = some (.tup [.int e.1, .int e.2])
theorem PPs.kp {S : List Addr} {H H' : Hp} {xs : List V} {es : List (Int × Int)} (h : PPs H xs es) (k : Kp S H H') (hS : ∀ b ∈ S, ∀ ys, H b ≠ some (.tup ys)) : PPs H' xs es := by
  refine ⟨h.1, fun i t e => ?_⟩
  obtain ⟨a, h1, h2⟩ := h.2 i t e
  exact ⟨a, h1, k _ _ (fun z => hS a z _ h2) h2⟩
theorem PPs.k0 {H H' : Hp} {xs : List V} {es : List (Int × Int)} (h : PPs H xs es) (k : Kp [] H H') : PPs H' xs es := h.kp k (by simp)
theorem PPs.one {H : Hp} {a : Addr} {t : Int × Int} (ha : H a = some (.tup [.int t.1, .int t.2])) : PPs H [.ref a] [t] := by
  refine ⟨rfl, fun i u e => ?_⟩
  match i, e with
  | 0, e =>
    have eu : t = u := by simpa using e
    subst eu
    exact ⟨a, rfl, ha⟩
  | i + 1, e => simp at e
theorem PPs.nil {H : Hp} : PPs H [] [] := ⟨rfl, fun i t e => by simp at e⟩
/-! ### promises -/
section
/-- a log that is legal and once-only -/
structure LgO (n : Nat) (ds : List Int) : Prop where
  ops : ∀ x ∈ ds, IsOp n x
  alt : Alt ds
  one : OnceA ds
  len : ds.length ≤ 120
end
end G
set_option Elab.async false
set_option linter.all false
set_option maxRecDepth 100000
set_option maxHeartbeats 4000000
/-! k23: the main fact about once-only logs: mathematics. -/
namespace G
open PySem PySem.Spec PyProof.Rows L2
def LateG (n : Nat) (log : List Int) (g : Nat) : Prop := ∃ i op, log[i]? = some op ∧ (g : Int) ∈ lateL (runS (wholeS n) (log.take i)) (log.take i) op.natAbs
theorem lateG_snoc {n : Nat} {log : List Int} {op : Int} {g : Nat} : LateG n (log ++ [op]) g ↔ LateG n log g ∨ (g : Int) ∈ lateL (runS (wholeS n) log) log op.natAbs := by
  constructor
  · rintro ⟨i, x, hi, h⟩
    by_cases c : i < log.length
    · rw [List.getElem?_append_left c] at hi
      rw [List.take_append_of_le_length (by omega)] at h
      exact .inl ⟨i, x, hi, h⟩
    · have hl := (List.getElem?_eq_some_iff.mp hi).1
      rw [List.length_append] at hl
      have ei : i = log.length := by simp at hl; omega
      subst ei
      rw [List.getElem?_append_right (Nat.le_refl _), Nat.sub_self] at hi
      have e : op = x := by simpa using hi
      subst e
      rw [List.take_left' rfl] at h
      exact .inr h
  · rintro (⟨i, x, hi, h⟩ | h)
    · have hl := (List.getElem?_eq_some_iff.mp hi).1
      exact ⟨i, x, by rw [List.getElem?_append_left hl]; exact hi, by rw [List.take_append_of_le_length (by omega)]; exact h⟩
    · exact ⟨log.length, op, by simp, by rw [List.take_left' rfl]; exact h⟩
theorem whole_links {n u : Nat} (h : u ≤ n) : gI (wholeS n).R u = (u : Int) + 1 ∧ gI (wholeS n).L (u + 1) = (u : Int) := by
  constructor
  · show gI (rgI 1 (n + 1)) u = _
    rw [gI_range (by omega)]
    omega
  · show gI (rgI 0 (n + 1)) u = _
    rw [gI_range (by omega)]
    omega
/-! ### what follows -/
end G
set_option Elab.async false
set_option linter.all false
set_option maxRecDepth 100000
set_option maxHeartbeats 4000000
/-! k23: promises. -/
namespace G
open PySem PySem.Spec PyProof.Rows L2
/-- no late write in the log at all; all that act are back -/
def Calm (n : Nat) (log : List Int) : Prop := ∀ g, g ≤ n → ¬ LateG n log g
end G
set_option Elab.async false
set_option linter.all false
set_option maxRecDepth 100000
set_option maxHeartbeats 4000000
/-! k23: whole lists, late writes as pairs, debts. -/
namespace G
open PySem PySem.Spec PyProof.Rows L2
theorem LgO.take {n : Nat} {log : List Int} (L : LgO n log) (k : Nat) : LgO n (log.take k) := by
  refine ⟨fun x hx => L.ops x (List.mem_of_mem_take hx), fun i op hi => ?_, L.one.take k, by rw [List.length_take]; have := L.len; omega⟩
  have hk : i < (log.take k).length := (List.getElem?_eq_some_iff.mp hi).1
  rw [List.length_take] at hk
  rw [List.getElem?_take_of_lt (by omega)] at hi
  rw [List.take_take, Nat.min_eq_left (by omega)]
  exact L.alt i op hi
theorem Calm.take {n : Nat} {log : List Int} (c : Calm n log) (k : Nat) : Calm n (log.take k) := by
  rintro g hg ⟨i, op, hi, h⟩
  have hk : i < (log.take k).length := (List.getElem?_eq_some_iff.mp hi).1
  rw [List.length_take] at hk
  rw [List.getElem?_take_of_lt (by omega)] at hi
  rw [List.take_take, Nat.min_eq_left (by omega)] at h
  exact c g hg ⟨i, op, hi, h⟩
theorem Calm.snoc {n : Nat} {log : List Int} {op : Int} (c : Calm n log) (h : lateL (runS (wholeS n) log) log op.natAbs = []) : Calm n (log ++ [op]) := by
  intro g hg z
  rcases lateG_snoc.mp z with z | z
  · exact c g hg z
  · rw [h] at z
    cases z
end G
set_option Elab.async false
set_option linter.all false
set_option maxRecDepth 100000
set_option maxHeartbeats 4000000
/-! k48: an operation lowers the debt exactly if it spoils nothing. -/
set_option Elab.async false
set_option linter.all false
set_option maxRecDepth 100000
set_option maxHeartbeats 4000000
/-! k48: the law's things; promises. -/
namespace G
open PySem PySem.Spec PyProof.Rows L2
/-- the law's state of a list: right links, left links, who is out -/
structure St3 (H : Hp) (w r l o : Addr) (s : Sd) : Prop where
  ob : H w = some (.lst [.ref r, .ref l, .ref o])
  hr : H r = some (.lst (s.R.map V.int))
  hl : H l = some (.lst (((-1 : Int) :: s.L.tail).map V.int))
  ho : H o = some (.lst (s.O.map V.bl))
  ne : r ≠ l ∧ r ≠ o ∧ l ≠ o ∧ w ≠ r ∧ w ≠ l ∧ w ≠ o
  wf : Wf s
  sn : Snd s
theorem St3.kp {H H' : Hp} {w r l o : Addr} {s : Sd} {S : List Addr} (a : St3 H w r l o s) (k : Kp S H H') (h1 : w ∉ S) (h2 : r ∉ S) (h3 : l ∉ S) (h4 : o ∉ S) : St3 H' w r l o s :=
  ⟨k _ _ h1 a.ob, k _ _ h2 a.hr, k _ _ h3 a.hl, k _ _ h4 a.ho, a.ne, a.wf, a.sn⟩
theorem St3.k0 {H H' : Hp} {w r l o : Addr} {s : Sd} (a : St3 H w r l o s) (k : Kp [] H H') : St3 H' w r l o s := a.kp k (by simp) (by simp) (by simp) (by simp)
theorem St3.fr {H : Hp} {w r l o x : Addr} {s : Sd} (a : St3 H w r l o s) (n : H x = none) : w ≠ x ∧ r ≠ x ∧ l ≠ x ∧ o ≠ x := ⟨ne_of_none a.ob n, ne_of_none a.hr n, ne_of_none a.hl n, ne_of_none a.ho n⟩
/-- the law's box of draws: a list of great cells, three counters -/
structure Bx8 (N : Nat) (H : Hp) (b c : Addr) : Prop where
  ob : ∃ (x y z : Int) (ns : List Int), H b = some (.lst [.ref c, .int x, .int y, .int z]) ∧ H c = some (.lst (ns.map V.int)) ∧ ns.length ≤ 63 ∧ 0 ≤ z ∧ z ≤ N
theorem Bx8.mono {N M : Nat} {H : Hp} {b c : Addr} (a : Bx8 N H b c) (h : N ≤ M) : Bx8 M H b c := by
  obtain ⟨x, y, z, ns, h1, h2, h3, h4, h5⟩ := a.ob
  exact ⟨x, y, z, ns, h1, h2, h3, h4, by omega⟩
theorem Bx8.kp {N : Nat} {H H' : Hp} {b c : Addr} {S : List Addr} (a : Bx8 N H b c) (k : Kp S H H') (h1 : b ∉ S) (h2 : c ∉ S) : Bx8 N H' b c := by
  obtain ⟨x, y, z, ns, e1, e2, e3⟩ := a.ob
  exact ⟨x, y, z, ns, k _ _ h1 e1, k _ _ h2 e2, e3⟩
theorem Bx8.k0 {N : Nat} {H H' : Hp} {b c : Addr} (a : Bx8 N H b c) (k : Kp [] H H') : Bx8 N H' b c := a.kp k (by simp) (by simp)
theorem Bx8.fr {N : Nat} {H : Hp} {b c x : Addr} (a : Bx8 N H b c) (n : H x = none) : x ≠ b ∧ x ≠ c := by
  obtain ⟨_, _, _, ns, h1, h2, _⟩ := a.ob
  exact ⟨(ne_of_none h1 n).symm, (ne_of_none h2 n).symm⟩
theorem Bx8.ne {N : Nat} {H : Hp} {b c : Addr} (a : Bx8 N H b c) : b ≠ c := by
  obtain ⟨_, _, _, ns, h1, h2, _⟩ := a.ob
  rintro rfl
  rw [h1] at h2
  injection h2 with h2
  injection h2 with h2
  match ns, h2 with
  | u :: _, h2 => injection h2 with h2; cases h2
/-- the list of great cells behind draws: the old one or a new one -/
def Nx8 (H : Hp) (c c' : Addr) : Prop := c' = c ∨ H c' = none
theorem Nx8.trans {N : Nat} {H H' : Hp} {b c c' c'' : Addr} (x : Nx8 H c c') (y : Nx8 H' c' c'') (k : Kp [b] H H') (bx : Bx8 N H' b c') : Nx8 H c c'' := by
  rcases y with rfl | y
  · exact x
  · refine .inr ?_
    by_cases e : c'' = b
    · obtain ⟨_, _, _, _, h1, _⟩ := bx.ob
      rw [e, h1] at y
      cases y
    · exact k.free (by simpa using e) y
/-- alike data, to a depth -/
def Atom : V → Prop
  | .non => True
  | .bl _ => True
  | .int _ => True
  | .str _ => True
  | _ => False
def SamV : Nat → Hp → V → V → Prop
  | 0, _, _, _ => False
  | n + 1, H, x, y => (x = y ∧ Atom x) ∨ ∃ (a b : Addr) (xs ys : List V), x = .ref a ∧ y = .ref b ∧ ((H a = some (.lst xs) ∧ H b = some (.lst ys)) ∨ (H a = some (.tup xs) ∧ H b = some (.tup ys))) ∧ xs.length = ys.length ∧ ys.length ≤ 1000 ∧
      ∀ (i : Nat) u v, xs[i]? = some u → ys[i]? = some v → SamV n H u v
theorem SamV.tup {n : Nat} {H : Hp} {a b : Addr} {xs ys : List V} (h1 : H a = some (.tup xs)) (h2 : H b = some (.tup ys)) (hl : xs.length = ys.length) (hm : ys.length ≤ 1000) (h : ∀ (i : Nat) u v, xs[i]? = some u → ys[i]? = some v → SamV n H u v) : SamV (n + 1) H (.ref a) (.ref b) :=
  .inr ⟨a, b, xs, ys, rfl, rfl, .inr ⟨h1, h2⟩, hl, hm, h⟩
end G
set_option Elab.async false
set_option linter.all false
set_option maxRecDepth 100000
set_option maxHeartbeats 4000000
/-! k48: what is lost stays lost; logs that lead to the whole list; == of nested rows. -/
set_option Elab.async false
set_option linter.all false
set_option maxRecDepth 100000
set_option maxHeartbeats 4000000
/-! k48: the book of a log, gap by gap. -/
set_option Elab.async false
set_option linter.all false
set_option maxRecDepth 100000
set_option maxHeartbeats 4000000
/-! k48: the losses in time are the certificates of loss; the least of them. -/
set_option Elab.async false
set_option linter.all false
set_option maxRecDepth 100000
set_option maxHeartbeats 4000000
/-! k48: the ends. -/
set_option Elab.async false
set_option linter.all false
set_option maxRecDepth 100000
set_option maxHeartbeats 4000000
/-! The modes: what an operation does to gaps that are another's; runs that keep every sole holder out. -/
namespace G
open PySem PySem.Spec PyProof.Rows L2
/-- an operation, gap by gap -/
structure AbS (s : Sd) (op : Int) (m l h : Nat) : Prop where
  x : op.natAbs = m + 1
  el : gI s.L (m + 1) = (l : Int)
  er : gI s.R (m + 1) = (h : Int) + 1
  lm : l ≤ m
  mh : m < h
  hn : h ≤ s.n
  a : ∀ g, gA (stepS s op) g ↔ (g = l ∧ 0 < op ∧ l = m) ∨ (g ≠ l ∧ gA s g)
  b : ∀ g, gBk (stepS s op) g ↔ (g = h ∧ 0 < op ∧ m + 1 = h) ∨ (g ≠ h ∧ gBk s g)
  o : ∀ u, gB (stepS s op).O u = if u = m + 1 then decide (op < 0) else gB s.O u
theorem ab_step {s : Sd} (w : Wf s) {op : Int} (io : IsOp s.n op) : ∃ m l h : Nat, AbS s op m l h := by
  obtain ⟨m, hm⟩ : ∃ m, op.natAbs = m + 1 := ⟨op.natAbs - 1, by have := io.1; omega⟩
  obtain ⟨l, h, e1, e2, e3, e4, e5⟩ := low_at w (v := m) (by have := io.2; omega)
  refine ⟨m, l, h, hm, e1, e2, e3, e4, e5, fun g => ?_, fun g => ?_, fun u => ?_⟩
  · unfold gA
    rw [(step_gI w io g).1, hm, e1, e2, Int.toNat_natCast]
    by_cases c : g = l
    · rw [if_pos c]
      by_cases o : op < 0
      · rw [if_pos o]; omega
      · rw [if_neg o]; omega
    · rw [if_neg c]; omega
  · unfold gBk
    rw [(step_gI w io (g + 1)).2, hm, e1, e2, show ((h : Int) + 1).toNat = h + 1 by omega]
    by_cases c : g = h
    · rw [if_pos (by omega)]
      by_cases o : op < 0
      · rw [if_pos o]; omega
      · rw [if_neg o]; omega
    · rw [if_neg (by omega)]; omega
  · rw [step_gB w io u, hm]
def svB (s : Sd) (x : Nat) : Bool := (forW s x).any fun g => !decide (stT s g.toNat = "joined")
def gdB (s : Sd) (x : Nat) : Bool := (forW s x).any fun g => !gB s.O (ltI x g).toNat
def fitB (s : Sd) (op : Int) : Bool := !(gB s.O (gI s.L op.natAbs).toNat || gB s.O (gI s.R op.natAbs).toNat) &&
  (if op < 0 then decide (gI s.R (gI s.L op.natAbs).toNat = (op.natAbs : Int)) && decide (gI s.L (gI s.R op.natAbs).toNat = (op.natAbs : Int))
  else decide (gI s.R (gI s.L op.natAbs).toNat = gI s.R op.natAbs) && decide (gI s.L (gI s.R op.natAbs).toNat = gI s.L op.natAbs))
theorem for_ab {s : Sd} {op : Int} {m l h : Nat} (t : AbS s op m l h) : forW s op.natAbs = (if l ≠ m ∧ gA s l then [(l : Int)] else []) ++ (if h ≠ m + 1 ∧ gBk s h then [(h : Int)] else []) := by
  unfold forW
  rw [t.x, t.el, t.er, Int.toNat_natCast, show ((h : Int) + 1).toNat = h + 1 by omega, show (h : Int) + 1 - 1 = (h : Int) by omega]
  congr 1
  · by_cases c : l ≠ m ∧ gA s l
    · rw [if_pos c, if_pos ⟨by have := c.1; omega, c.2⟩]
    · rw [if_neg c, if_neg (fun z => c ⟨by have := z.1; omega, z.2⟩)]
  · by_cases c : h ≠ m + 1 ∧ gBk s h
    · rw [if_pos c, if_pos ⟨by have := c.1; omega, c.2⟩]
    · rw [if_neg c, if_neg (fun z => c ⟨by have := z.1; omega, z.2⟩)]
theorem any_two {P Q : Prop} [Decidable P] [Decidable Q] {a b : Int} {f : Int → Bool} : (((if P then [a] else []) ++ (if Q then [b] else [])).any f = true) ↔ (P ∧ f a = true) ∨ (Q ∧ f b = true) := by
  by_cases c : P <;> by_cases d : Q <;> simp [c, d]
theorem sv_ab {s : Sd} {op : Int} {m l h : Nat} (t : AbS s op m l h) : svB s op.natAbs = true ↔ (l ≠ m ∧ gA s l ∧ ¬ gBk s l) ∨ (h ≠ m + 1 ∧ gBk s h ∧ ¬ gA s h) := by
  unfold svB
  rw [for_ab t, any_two, Int.toNat_natCast, Int.toNat_natCast, Bool.not_eq_true', Bool.not_eq_true', decide_eq_false_iff_not, decide_eq_false_iff_not, stT_joined, stT_joined]
  constructor
  · rintro (⟨⟨a, b⟩, c⟩ | ⟨⟨a, b⟩, c⟩)
    · exact .inl ⟨a, b, fun z => c ⟨b, z⟩⟩
    · exact .inr ⟨a, b, fun z => c ⟨z, b⟩⟩
  · rintro (⟨a, b, c⟩ | ⟨a, b, c⟩)
    · exact .inl ⟨⟨a, b⟩, fun z => c z.2⟩
    · exact .inr ⟨⟨a, b⟩, fun z => c z.1⟩
theorem gd_ab {s : Sd} {op : Int} {m l h : Nat} (t : AbS s op m l h) : gdB s op.natAbs = true ↔ (l ≠ m ∧ gA s l ∧ gB s.O (l + 1) = false) ∨ (h ≠ m + 1 ∧ gBk s h ∧ gB s.O h = false) := by
  unfold gdB
  have e1 : l ≠ m → ltI op.natAbs (l : Int) = ((l + 1 : Nat) : Int) := fun z => by
    have := t.lm
    unfold ltI
    rw [t.x, if_pos (by omega)]
    omega
  have e2 : ltI op.natAbs (h : Int) = (h : Int) := by
    have := t.mh
    unfold ltI
    rw [t.x, if_neg (by omega)]
  rw [for_ab t, any_two, e2, Int.toNat_natCast, Bool.not_eq_true', Bool.not_eq_true']
  constructor
  · rintro (⟨⟨a, b⟩, c⟩ | ⟨⟨a, b⟩, c⟩)
    · rw [e1 a, Int.toNat_natCast] at c
      exact .inl ⟨a, b, c⟩
    · exact .inr ⟨a, b, c⟩
  · rintro (⟨a, b, c⟩ | ⟨a, b, c⟩)
    · exact .inl ⟨⟨a, b⟩, by rw [e1 a, Int.toNat_natCast]; exact c⟩
    · exact .inr ⟨⟨a, b⟩, c⟩
/-- newly lost exactly if it takes a gap from its only holder -/
theorem sv_new {s : Sd} (w : Wf s) {op : Int} (io : IsOp s.n op) : (∃ g, g ≤ s.n ∧ stT s g ≠ "lost" ∧ stT (stepS s op) g = "lost") ↔ svB s op.natAbs = true := by
  obtain ⟨m, l, h, t⟩ := ab_step w io
  rw [sv_ab t]
  have tl := t.lm
  have th := t.mh
  have tn := t.hn
  have L : ∀ g, stT s g = "lost" ↔ ¬ gA s g ∧ ¬ gBk s g := fun g => stT_lost2
  have L' : ∀ g, stT (stepS s op) g = "lost" ↔ ¬ gA (stepS s op) g ∧ ¬ gBk (stepS s op) g := fun g => stT_lost2
  have om : gBk s m ↔ l = m := by unfold gBk; rw [t.el]; omega
  have oh : gA s (m + 1) ↔ h = m + 1 := by unfold gA; rw [t.er]; omega
  constructor
  · rintro ⟨g, hg, h1, h2⟩
    rw [ne_eq, L] at h1
    rw [L', t.a, t.b] at h2
    by_cases c1 : g = l
    · by_cases c2 : l = m
      · subst c2
        subst c1
        exfalso
        by_cases c3 : g = h
        · omega
        · exact h2.2 (.inr ⟨c3, om.mpr rfl⟩)
      · refine .inl ⟨c2, ?_⟩
        subst c1
        have : ¬ gBk s g := fun z => h2.2 (.inr ⟨by omega, z⟩)
        exact ⟨Classical.byContradiction fun z => h1 ⟨z, this⟩, this⟩
    · have na : ¬ gA s g := fun z => h2.1 (.inr ⟨c1, z⟩)
      by_cases c3 : g = h
      · subst c3
        have nb : gBk s g := Classical.byContradiction fun z => h1 ⟨na, z⟩
        exact .inr ⟨fun z => na (by rw [z]; exact oh.mpr z), nb, na⟩
      · exact absurd ⟨na, fun z => h2.2 (.inr ⟨c3, z⟩)⟩ h1
  · rintro (⟨a, b, c⟩ | ⟨a, b, c⟩)
    · refine ⟨l, by omega, fun z => ((L l).mp z).1 b, (L' l).mpr ⟨?_, ?_⟩⟩
      · rw [t.a]
        rintro (⟨_, _, z⟩ | ⟨z, _⟩)
        · exact a z
        · exact z rfl
      · rw [t.b]
        rintro (⟨z, _⟩ | ⟨_, z⟩)
        · omega
        · exact c z
    · refine ⟨h, by omega, fun z => ((L h).mp z).2 b, (L' h).mpr ⟨?_, ?_⟩⟩
      · rw [t.a]
        rintro (⟨z, _⟩ | ⟨_, z⟩)
        · omega
        · exact c z
      · rw [t.b]
        rintro (⟨_, _, z⟩ | ⟨z, _⟩)
        · omega
        · exact z rfl
/-! ### the debt -/
end G
set_option Elab.async false
set_option linter.all false
set_option maxRecDepth 100000
set_option maxHeartbeats 4000000
/-! The modes: what they refuse; promises of the program's defs. -/
namespace G
open PySem PySem.Spec PyProof.Rows L2
/-- the name of the weakest mode up to the level c that refuses -/
def refS (c : Nat) (s : Sd) (op : Int) : Str := if 1 ≤ c ∧ svB s op.natAbs = true then "saving" else if 2 ≤ c ∧ gdB s op.natAbs = true then "guarded" else if 3 ≤ c ∧ fitB s op = false then "checked" else ""
def mdN : Nat → Str
  | 0 => "free"
  | 1 => "saving"
  | 2 => "guarded"
  | _ => "checked"
def mdC (K : PySem.W.Frag) : Nat → Addr
  | 0 => He.ga K "FreeMode"
  | 1 => He.ga K "SavingMode"
  | 2 => He.ga K "GuardedMode"
  | _ => He.ga K "CheckedMode"
structure MdAt (K : PySem.W.Frag) (H : Hp) (x : Addr) (c : Nat) : Prop where
  ob : ∃ dx, H x = some (.ins (mdC K c) dx [])
  c3 : c ≤ 3
theorem MdAt.kp {K : PySem.W.Frag} {H H' : Hp} {x : Addr} {c : Nat} {S : List Addr} (a : MdAt K H x c) (k : Kp S H H') (h : x ∉ S) : MdAt K H' x c := by
  obtain ⟨dx, e⟩ := a.ob
  exact ⟨⟨dx, k _ _ h e⟩, a.c3⟩
theorem MdAt.k0 {K : PySem.W.Frag} {H H' : Hp} {x : Addr} {c : Nat} (a : MdAt K H x c) (k : Kp [] H H') : MdAt K H' x c := a.kp k (by simp)
theorem MdAt.fr {K : PySem.W.Frag} {H : Hp} {x y : Addr} {c : Nat} (a : MdAt K H x c) (n : H y = none) : x ≠ y := by
  obtain ⟨dx, e⟩ := a.ob
  exact ne_of_none e n
theorem ne_md : ("saving" : Str) ≠ "" ∧ ("guarded" : Str) ≠ "" ∧ ("checked" : Str) ≠ "" := ⟨by decide +kernel, by decide +kernel, by decide +kernel⟩
theorem mdN_inj {c d : Nat} (hc : c ≤ 3) (hd : d ≤ 3) (h : mdN c = mdN d) : c = d := by
  have d01 : ("free" : Str) ≠ "saving" := by decide +kernel
  have d02 : ("free" : Str) ≠ "guarded" := by decide +kernel
  have d03 : ("free" : Str) ≠ "checked" := by decide +kernel
  have d12 : ("saving" : Str) ≠ "guarded" := by decide +kernel
  have d13 : ("saving" : Str) ≠ "checked" := by decide +kernel
  have d23 : ("guarded" : Str) ≠ "checked" := by decide +kernel
  match c, d, hc, hd with
  | 0, 0, _, _ => rfl
  | 1, 1, _, _ => rfl
  | 2, 2, _, _ => rfl
  | 3, 3, _, _ => rfl
  | 0, 1, _, _ => exact absurd h d01
  | 0, 2, _, _ => exact absurd h d02
  | 0, 3, _, _ => exact absurd h d03
  | 1, 2, _, _ => exact absurd h d12
  | 1, 3, _, _ => exact absurd h d13
  | 2, 3, _, _ => exact absurd h d23
  | 1, 0, _, _ => exact absurd h d01.symm
  | 2, 0, _, _ => exact absurd h d02.symm
  | 3, 0, _, _ => exact absurd h d03.symm
  | 2, 1, _, _ => exact absurd h d12.symm
  | 3, 1, _, _ => exact absurd h d13.symm
  | 3, 2, _, _ => exact absurd h d23.symm
theorem refS_0 (s : Sd) (op : Int) : refS 0 s op = "" := by
  unfold refS
  rw [if_neg (by omega), if_neg (by omega), if_neg (by omega)]
theorem refS_1 (s : Sd) (op : Int) : refS 1 s op = if svB s op.natAbs = true then ("saving" : Str) else "" := by
  unfold refS
  by_cases c : svB s op.natAbs = true
  · rw [if_pos ⟨by omega, c⟩, if_pos c]
  · rw [if_neg (fun z => c z.2), if_neg (by omega), if_neg (by omega), if_neg c]
theorem refS_2 (s : Sd) (op : Int) : refS 2 s op = if refS 1 s op = "" ∧ gdB s op.natAbs = true then ("guarded" : Str) else refS 1 s op := by
  rw [refS_1]
  unfold refS
  by_cases c : svB s op.natAbs = true
  · rw [if_pos ⟨by omega, c⟩, if_pos c, if_neg (fun z => ne_md.1 z.1)]
  · rw [if_neg (fun z => c z.2), if_neg c]
    by_cases d : gdB s op.natAbs = true
    · rw [if_pos ⟨by omega, d⟩, if_pos ⟨rfl, d⟩]
    · rw [if_neg (fun z => d z.2), if_neg (by omega), if_neg (fun z => d z.2)]
theorem refS_3 (s : Sd) (op : Int) : refS 3 s op = if refS 2 s op = "" ∧ fitB s op = false then ("checked" : Str) else refS 2 s op := by
  rw [refS_2, refS_1]
  unfold refS
  by_cases c : svB s op.natAbs = true
  · rw [if_pos ⟨by omega, c⟩, if_pos c, if_neg (show ¬ (("saving" : Str) = "" ∧ gdB s op.natAbs = true) from fun z => ne_md.1 z.1), if_neg (fun z => ne_md.1 z.1)]
  · rw [if_neg (fun z => c z.2), if_neg c]
    by_cases d : gdB s op.natAbs = true
    · rw [if_pos ⟨by omega, d⟩, if_pos (show ("" : Str) = "" ∧ gdB s op.natAbs = true from ⟨rfl, d⟩), if_neg (fun z => ne_md.2.1 z.1)]
    · rw [if_neg (fun z => d z.2), if_neg (show ¬ (("" : Str) = "" ∧ gdB s op.natAbs = true) from fun z => d z.2)]
      by_cases e : fitB s op = false
      · rw [if_pos ⟨by omega, e⟩, if_pos ⟨rfl, e⟩]
      · rw [if_neg (fun z => e z.2), if_neg (fun z => e z.2)]
/-- every operation is legal and admitted in turn -/
def Adm (c : Nat) (s : Sd) (log : List Int) : Prop := ∀ i op, log[i]? = some op → OkOp (runS s (log.take i)) op ∧ refS c (runS s (log.take i)) op = ""
theorem Adm.leg {c : Nat} {s : Sd} {log : List Int} (h : Adm c s log) : Leg s log := fun i op e => (h i op e).1
theorem adm_nil (c : Nat) (s : Sd) : Adm c s [] := fun i op h => by simp at h
theorem Adm.take {c : Nat} {s : Sd} {log : List Int} (h : Adm c s log) (k : Nat) : Adm c s (log.take k) := by
  intro i op hp
  have hi : i < (log.take k).length := (List.getElem?_eq_some_iff.mp hp).1
  rw [List.length_take] at hi
  rw [List.getElem?_take_of_lt (by omega)] at hp
  rw [List.take_take, Nat.min_eq_left (by omega)]
  exact h i op hp
theorem Adm.snoc {c : Nat} {s : Sd} {log : List Int} {op : Int} (h : Adm c s log) (o : OkOp (runS s log) op) (r : refS c (runS s log) op = "") : Adm c s (log ++ [op]) := by
  intro i p hp
  by_cases hi : i < log.length
  · rw [List.getElem?_append_left hi] at hp
    rw [List.take_append_of_le_length (by omega)]
    exact h i p hp
  · rw [List.getElem?_append_right (by omega)] at hp
    have e : i = log.length := by
      have := (List.getElem?_eq_some_iff.mp hp).1
      simp at this
      omega
    subst e
    have : p = op := by simpa using hp.symm
    subst this
    rw [List.take_left' rfl]
    exact ⟨o, r⟩
/-! ### promises -/
section
variable (K : PySem.W.Frag)
/-- a method refusal of the class of level d, called on an object of a level c -/
def spRf (d : Nat) : Sp := fun vs H Q E => ∃ (x p r l o : Addr) (s : Sd) (op : Int) (c : Nat), vs = [.ref x, .ref p, .int op] ∧ MdAt K H x c ∧ d ≤ c ∧ LinksAt K H p r l o s ∧ (OkOp s op → Any H (.str (refS d s op)) Q) ∧ (¬ OkOp s op → OpE K s.n op 0 E H)
def sp_FreeMode_refusal : Sp := spRf K 0
def sp_SavingMode_refusal : Sp := spRf K 1
def sp_GuardedMode_refusal : Sp := spRf K 2
def sp_CheckedMode_refusal : Sp := spRf K 3
def sp__loses_a_gap : Sp := fun vs H Q E => ∃ (p r l o : Addr) (s : Sd) (op : Int), vs = [.ref p, .int op] ∧ LinksAt K H p r l o s ∧ OkOp s op ∧ Any H (.bl (svB s op.natAbs)) Q
def sp__leaves_a_gap_to_a_holder_that_is_in : Sp := fun vs H Q E => ∃ (p r l o : Addr) (s : Sd) (op : Int), vs = [.ref p, .int op] ∧ LinksAt K H p r l o s ∧ OkOp s op ∧ Any H (.bl (gdB s op.natAbs)) Q
def sp__has_fitting_neighbours : Sp := fun vs H Q E => ∃ (p r l o : Addr) (s : Sd) (op : Int), vs = [.ref p, .int op] ∧ LinksAt K H p r l o s ∧ OkOp s op ∧ Any H (.bl (fitB s op)) Q
def sp_all_modes : Sp := fun vs H Q E => vs = [] ∧ ∀ (q x0 x1 x2 x3 : Addr) H', H q = none → H x0 = none → H x1 = none → H x2 = none → H x3 = none → Kp [] H H' → H' q = some (.lst [.ref x0, .ref x1, .ref x2, .ref x3]) → MdAt K H' x0 0 → MdAt K H' x1 1 → MdAt K H' x2 2 → MdAt K H' x3 3 → Q (.ref q) H'
/-- the text is no mode's name -/
def NoMd (m : Str) : Prop := ∀ c, c ≤ 3 → m ≠ mdN c
def BadM (m : Str) (E : XK) (H : Hp) : Prop := NoMd m → ∀ H', Kp [] H H' → Ex K "BadMode" [("name", .str m)] E H'
def sp_mode_named : Sp := fun vs H Q E => ∃ m : Str, vs = [.str m] ∧ (∀ c, c ≤ 3 → m = mdN c → ∀ x H', H x = none → Kp [] H H' → MdAt K H' x c → Q (.ref x) H') ∧ BadM K m E H
def sp_check_admitted : Sp := fun vs H Q E => ∃ (x p r l o : Addr) (s : Sd) (op i : Int) (c : Nat), vs = [.ref p, .int op, .int i, .ref x] ∧ MdAt K H x c ∧ LinksAt K H p r l o s ∧
  (OkOp s op → refS c s op = "" → Any H .non Q) ∧ (OkOp s op → refS c s op ≠ "" → ∀ H', Kp [] H H' → Ex K "Refused" [("refusing", .str (refS c s op)), ("index", .int i), ("operation", .int op)] E H') ∧ (¬ OkOp s op → OpE K s.n op i E H)
/-- errors of a log that is done step by step in a mode -/
def AdmE (c : Nat) (s : Sd) (log : List Int) (E : XK) (H : Hp) : Prop := ∀ i op, log[i]? = some op → Adm c s (log.take i) →
  (¬ OkOp (runS s (log.take i)) op → ∀ H', Kp [] H H' → OpE K s.n op i E H') ∧
  (OkOp (runS s (log.take i)) op → refS c (runS s (log.take i)) op ≠ "" → ∀ H', Kp [] H H' → Ex K "Refused" [("refusing", .str (refS c (runS s (log.take i)) op)), ("index", .int (i : Int)), ("operation", .int op)] E H')
def BadZ (size : Int) (E : XK) (H : Hp) : Prop := ¬ SizeOk size → ∀ H', Kp [] H H' → Ex K "BadSize" [("size", .int size)] E H'
def sp_replay_in : Sp := fun vs H Q E => ∃ (a : Addr) (size : Int) (log : List Int) (m : Str), vs = [.int size, .ref a, .str m] ∧ SqL K H a (log.map V.int) ∧ BadZ K size E H ∧ (SizeOk size → BadM K m E H) ∧
  (SizeOk size → ∀ c, c ≤ 3 → m = mdN c → (Adm c (wholeS size.toNat) log → NewS K H (runS (wholeS size.toNat) log) Q) ∧ AdmE K c (wholeS size.toNat) log E H)
/-- the first operation that is refused -/
def FstR (c : Nat) (s : Sd) (log : List Int) (i : Nat) : Prop := ∃ op, log[i]? = some op ∧ Adm c s (log.take i) ∧ refS c (runS s (log.take i)) op ≠ ""
def sp_first_refusal : Sp := fun vs H Q E => ∃ (a : Addr) (size : Int) (log : List Int) (m : Str), vs = [.int size, .ref a, .str m] ∧ SqL K H a (log.map V.int) ∧ BadZ K size E H ∧ (SizeOk size → BadM K m E H) ∧
  (SizeOk size → ∀ c, c ≤ 3 → m = mdN c → LogE K (wholeS size.toNat) log E H ∧ (Leg (wholeS size.toNat) log → (Adm c (wholeS size.toNat) log → Any H .non Q) ∧ ∀ i, FstR c (wholeS size.toNat) log i → Any H (.int (i : Int)) Q))
end
end G
set_option Elab.async false
set_option linter.all false
set_option maxRecDepth 100000
set_option maxHeartbeats 4000000
/-! k04: runs, outs, promises. -/
set_option Elab.async false
set_option linter.all false
set_option maxRecDepth 100000
set_option maxHeartbeats 4000000
/-! k13: what the modes keep: mathematics and promises. -/
namespace G
open PySem PySem.Spec PyProof.Rows L2
/-! ### what each mode keeps -/
/-! ### promises -/
/-- the law's purse of draws -/
structure Pu (H : Hp) (b c : Addr) : Prop where
  ob : ∃ (x y z : Int) (ns : List Int), H b = some (.lst [.ref c, .int x, .int y, .int z]) ∧ H c = some (.lst (ns.map V.int)) ∧ ns.length ≤ 63
theorem Pu.kp {H H' : Hp} {b c : Addr} {S : List Addr} (a : Pu H b c) (k : Kp S H H') (h1 : b ∉ S) (h2 : c ∉ S) : Pu H' b c := by
  obtain ⟨x, y, z, ns, e1, e2, e3⟩ := a.ob
  exact ⟨x, y, z, ns, k _ _ h1 e1, k _ _ h2 e2, e3⟩
theorem Pu.k0 {H H' : Hp} {b c : Addr} (a : Pu H b c) (k : Kp [] H H') : Pu H' b c := a.kp k (by simp) (by simp)
theorem Pu.fr {H : Hp} {b c x : Addr} (a : Pu H b c) (n : H x = none) : x ≠ b ∧ x ≠ c := by
  obtain ⟨_, _, _, ns, h1, h2, _⟩ := a.ob
  exact ⟨(ne_of_none h1 n).symm, (ne_of_none h2 n).symm⟩
theorem Pu.ne {H : Hp} {b c : Addr} (a : Pu H b c) : b ≠ c := by
  obtain ⟨_, _, _, ns, h1, h2, _⟩ := a.ob
  rintro rfl
  rw [h1] at h2
  injection h2 with h2
  injection h2 with h2
  match ns, h2 with
  | u :: _, h2 => injection h2 with h2; cases h2
/-- a new book -/
def NewB (H : Hp) (s : Sd) (Q : VK) : Prop := ∀ w l r o H', H w = none → H l = none → H r = none → H o = none → Kp [] H H' → Bk5 H' w l r o s → Q (.ref w) H'
section
def sp13__law_purse (K : PySem.W.Frag) : Sp := fun vs H Q E => ∃ (a : Addr) (ns : List Int), vs = [.ref a] ∧ SqL K H a (ns.map V.int) ∧ ns.length ≤ 63 ∧ ∀ b c H', H b = none → H c = none → Kp [] H H' → Pu H' b c → Q (.ref b) H'
def sp13__law_take (K : PySem.W.Frag) : Sp := fun vs H Q E => ∃ (b c : Addr) (many : Int), vs = [.ref b, .int many] ∧ 0 < many ∧ many < 2 ^ 30 ∧ Pu H b c ∧ ∀ (d : Int) H', 0 ≤ d → d < many → Kp [b, c] H H' → Pu H' b c → Q (.int d) H'
def sp13__law_words (K : PySem.W.Frag) : Sp := fun vs H Q E => vs = [] ∧ NewL H [.str (mdN 0), .str (mdN 1), .str (mdN 2), .str (mdN 3)] Q
def sp13__law_is (K : PySem.W.Frag) : Sp := fun vs H Q E => ∃ i : Int, vs = [.int i, .int i] ∧ Q (.bl true) H
def sp13__law_whole (K : PySem.W.Frag) : Sp := fun vs H Q E => ∃ n : Nat, vs = [.int (n : Int)] ∧ n ≤ 60 ∧ NewB H (wholeS n) Q
def sp13__law_moved (K : PySem.W.Frag) : Sp := fun vs H Q E => ∃ (w l r o : Addr) (s : Sd) (v : Nat), vs = [.ref w, .int (v : Int)] ∧ Bk5 H w l r o s ∧ 1 ≤ v ∧ v ≤ s.n ∧ NewB H (stepS s (legO s v)) Q
def sp13__law_dump (K : PySem.W.Frag) : Sp := fun vs H Q E => ∃ (w l r o : Addr) (s : Sd), vs = [.ref w] ∧ Bk5 H w l r o s ∧ Any H (.str (dumpS s)) Q
end
end G
set_option Elab.async false
set_option linter.all false
set_option maxRecDepth 100000
set_option maxHeartbeats 4000000
/-! A try with any clauses. -/
namespace G
open PySem PySem.Spec PyProof.Rows L2
/-- the clauses do with an error what W says -/
def HsOk (Y : Cx) (D : Ends) (hds : List ExceptHandler) (W : WX) : Prop := ∀ {pp : List (Addr × Obj)} {τ : L2.St} {G0 : Hp} {e : Addr} {kc : Value} {dd : Option Addr} {B : Heap} {u0 u : Shared} {g : Heap}, Down Y pp τ G0 e kc dd B u0 u g → W kc dd τ G0 → After Y pp D e hds u g
section
variable {Y : Cx} {y : Str} {k : Nat} {D : Ends} {Wo W : WX} {hd : ExceptHandler} {hds : List ExceptHandler} {kl : Value} {su : Addr → Value → Option Addr → TS}
theorem hs_nil (sk : Y.stack = Y.env :: Y.outer) (fr : Y.env.frame = some Y.env.locals) (tk : L2N.Takes Y Wo) : HsOk Y D [] Wo := fun d w => after_none sk fr tk d w
theorem hs_as (nd : Y.N.Nodup) (at_ : Y.N[k]? = some y) (lo : Y.env.kindOf y = some .local) (c : Cls1 Y y hd kl su) (h : HsOk Y D hds W) : HsOk Y D (hd :: hds) (wAs Y.K kl k su W D) := fun d w => after_one nd at_ lo c (fun _ d2 w2 => h d2 w2) d w
theorem hs_only (c : Cls0 Y hd kl su) (h : HsOk Y D hds W) : HsOk Y D (hd :: hds) (wOnly Y.K kl su W D) := fun d w => after_bare c (fun _ d2 w2 => h d2 w2) d w
theorem ps_trys {body : List Stmt} {h1 : ExceptHandler} {pos : Pos} {tb : WX → TS} {F : Ends → WX} (sk : Y.stack = Y.env :: Y.outer) (fr : Y.env.frame = some Y.env.locals)
    (hb : ∀ (W : WX) (pn : List (Addr × Obj)) (xe : Value → Shared → Prop), L2N.Takes (Y.tr pn xe) W → PassesOwn (model Y.prog Y.w) Y.A Y.env xe → PSs (Y.tr pn xe) body (tb W))
    (hs : ∀ D, HsOk Y D (h1 :: hds) (F D)) : PS Y (.Try body (h1 :: hds) [] [] pos) (fun D σ H => tb (F D) D σ H) := by
  refine ⟨fun pp u τ G0 D I q => ?_⟩
  have ok := I.ok
  refine wpAny_Try_except (wpAny_mono ((hb (F D) (Y.pn ++ pp) (fun v v1 => wpAny (model Y.prog Y.w) Y.A (noteFrame v Y.env) (fun _ v2 => wpAny (model Y.prog Y.w) Y.A (setFlight v none) (fun _ v3 =>
    wpAny (model Y.prog Y.w) Y.A (handleBy v Y.env (h1 :: hds)) (SP Y pp D) Y.xe v3) Y.xe v2) Y.xe v1) (fun v u' air => ?_) PassesOwn.looking).run [] u τ G0 D (I.toTry _) q) (fun fl v1 sp => ?_) fun _ _ z => z)
  · obtain ⟨e, B, u0, pp', τ1, G1, kc, dd, rfl, J', keep, up, sky, na, os, ag, w⟩ := air
    have J : Inv Y pp τ1 G1 u0 := J'.ofTry ok
    refine L2N.Sky.land L2N.Zn.steady (by rw [ok.frames, sk]) fr (sk ▸ sky) fun g f1 up1 => ?_
    obtain ⟨ob, fs, hob, -, hfs⟩ := f1.there
    have off : e ∉ frs (Y.env :: Y.outer) := fun hm => by
      obtain ⟨-, o', e', nf⟩ := f1.2.2.1.mem hm
      rw [hob] at e'
      cases e'
      exact nf _ hfs
    have d0 : Down Y pp τ1 G1 e kc dd B u0 u' g := ⟨J, keep, up.trans up1, f1, na, os, ag, fun z => off (List.mem_filterMap.mpr ⟨Y.env, List.mem_cons_self, by rw [fr, z]⟩), fun hm => by
      obtain ⟨v, hv, q⟩ := List.mem_filterMap.mp hm
      exact off (List.mem_filterMap.mpr ⟨v, List.mem_cons_of_mem _ hv, q⟩)⟩
    exact hs D d0 w
  · rcases fl with _ | _ | _ | v
    · obtain ⟨τ1, G1, j1, q1⟩ := sp
      exact wpAny_execs_nil ⟨τ1, G1, j1.ofTry ok, q1⟩
    · obtain ⟨τ1, G1, j1, q1⟩ := sp
      exact ⟨τ1, G1, j1.ofTry ok, q1⟩
    · obtain ⟨τ1, G1, j1, q1⟩ := sp
      exact ⟨τ1, G1, j1.ofTry ok, q1⟩
    · obtain ⟨v1, τ1, G1, j1, r1, q1⟩ := sp
      exact ⟨v1, τ1, G1, j1.ofTry ok, r1, q1⟩
end
end G
set_option Elab.async false
set_option linter.all false
set_option maxRecDepth 100000
set_option maxHeartbeats 4000000
/-! k11: the texts that name no mode; what refuses; promises. -/
namespace G
open PySem PySem.Spec PyProof.Rows L2
/-! ### the refusing mode by the lists -/
/-- the gaps that are newly lost -/
def newL (s : Sd) (v : Nat) : List Int := ((lostL (stepS s (legO s v))).map fun (g : Nat) => (g : Int)).filter fun g => !decide (g ∈ (lostL s).map fun (g : Nat) => (g : Int))
theorem mem_lost11 {s : Sd} {g : Nat} : g ∈ lostL s ↔ g ≤ s.n ∧ stT s g = "lost" := by
  unfold lostL
  rw [List.mem_filter, List.mem_range, decide_eq_true_iff, Nat.lt_succ_iff]
theorem newL_sv {s : Sd} (w : Wf s) {v : Nat} (h1 : 1 ≤ v) (h2 : v ≤ s.n) : (newL s v).isEmpty = !svB s v := by
  obtain ⟨ok, ev⟩ := legO_ok' (s := s) h1 h2
  have sv := sv_new w ok.1
  rw [ev] at sv
  have key : newL s v ≠ [] ↔ svB s v = true := by
    rw [← sv]
    constructor
    · intro h
      obtain ⟨x, hx⟩ := List.exists_mem_of_ne_nil _ h
      obtain ⟨m1, m2⟩ := List.mem_filter.mp hx
      obtain ⟨g, hg, rfl⟩ := List.mem_map.mp m1
      obtain ⟨g1, g2⟩ := mem_lost11.mp hg
      refine ⟨g, g1, fun z => ?_, g2⟩
      rw [Bool.not_eq_true', decide_eq_false_iff_not] at m2
      exact m2 (List.mem_map.mpr ⟨g, mem_lost11.mpr ⟨g1, z⟩, rfl⟩)
    · rintro ⟨g, g1, g2, g3⟩
      refine List.ne_nil_of_mem (a := (g : Int)) (List.mem_filter.mpr ⟨List.mem_map.mpr ⟨g, mem_lost11.mpr ⟨g1, g3⟩, rfl⟩, ?_⟩)
      rw [Bool.not_eq_true', decide_eq_false_iff_not]
      intro z
      obtain ⟨g', hg', e⟩ := List.mem_map.mp z
      have : g' = g := by omega
      subst this
      exact g2 (mem_lost11.mp hg').2
  cases e : newL s v with
  | nil =>
    rw [e] at key
    cases c : svB s v with
    | true => exact absurd rfl (key.mpr c)
    | false => rfl
  | cons a b =>
    rw [e] at key
    rw [key.mp (by simp)]
    rfl
/-- the guarded mode's own question, gap by gap -/
theorem gd_two {s : Sd} (w : Wf s) {v lo hi : Nat} (h1 : 1 ≤ v) (h2 : v ≤ s.n) (el : gI s.L v = (lo : Int)) (er : gI s.R v = (hi : Int)) :
    gdB s v = true ↔ ((lo : Int) ≠ (v : Int) - 1 ∧ gI s.R lo = (lo : Int) + 1 ∧ gB s.O (lo + 1) = false) ∨ ((hi : Int) ≠ (v : Int) + 1 ∧ gI s.L hi = (hi : Int) - 1 ∧ gB s.O (hi - 1) = false) := by
  obtain ⟨ok, ev⟩ := legO_ok' (s := s) h1 h2
  obtain ⟨m, l, h, t⟩ := ab_step w ok.1
  have x := t.x
  rw [ev] at x
  subst x
  have e1 : l = lo := by have := t.el; omega
  have e2 : h + 1 = hi := by have := t.er; omega
  subst e1
  subst e2
  have := gd_ab t
  rw [ev] at this
  rw [this]
  unfold gA gBk
  have tl := t.lm
  have th := t.mh
  have q1 : (l : Int) ≠ ((m + 1 : Nat) : Int) - 1 ↔ l ≠ m := by omega
  have q2 : ((h + 1 : Nat) : Int) ≠ ((m + 1 : Nat) : Int) + 1 ↔ h ≠ m + 1 := by omega
  have q3 : ((h + 1 : Nat) : Int) - 1 = (h : Int) := by omega
  rw [q1, q2, q3, Nat.add_sub_cancel]
/-- the checked mode's own question -/
theorem fit_two {s : Sd} {v lo hi : Nat} (h1 : 1 ≤ v) (h2 : v ≤ s.n) (el : gI s.L v = (lo : Int)) (er : gI s.R v = (hi : Int)) :
    fitB s (legO s v) = false ↔ gB s.O lo = true ∨ gB s.O hi = true ∨ gI s.R lo ≠ (if gB s.O v = true then (hi : Int) else (v : Int)) ∨ gI s.L hi ≠ (if gB s.O v = true then (lo : Int) else (v : Int)) := by
  obtain ⟨ok, ev⟩ := legO_ok' (s := s) h1 h2
  unfold fitB
  rw [ev, el, er, Int.toNat_natCast, Int.toNat_natCast]
  have lg : legO s v < 0 ↔ ¬ gB s.O v = true := by
    unfold legO
    cases gB s.O v <;> simp <;> omega
  by_cases c : gB s.O v = true
  · rw [if_neg (fun z => lg.mp z c), if_pos c, if_pos c]
    cases gB s.O lo <;> cases gB s.O hi <;> simp <;> by_cases a : gI s.R lo = (hi : Int) <;> simp [a]
  · rw [if_pos (lg.mpr c), if_neg c, if_neg c]
    cases gB s.O lo <;> cases gB s.O hi <;> simp <;> by_cases a : gI s.R lo = (v : Int) <;> simp [a]
/-! ### promises -/
/-- the four modes in a list -/
structure Kds (K : PySem.W.Frag) (H : Hp) (q : Addr) (x : Nat → Addr) : Prop where
  hq : H q = some (.lst [.ref (x 0), .ref (x 1), .ref (x 2), .ref (x 3)])
  md : ∀ c, c ≤ 3 → MdAt K H (x c) c
section
variable {K : PySem.W.Frag} {H H' : Hp} {q : Addr} {x : Nat → Addr}
theorem Kds.kp {S : List Addr} (a : Kds K H q x) (k : Kp S H H') (h1 : q ∉ S) (h2 : ∀ c, c ≤ 3 → x c ∉ S) : Kds K H' q x := ⟨k _ _ h1 a.hq, fun c c3 => (a.md c c3).kp k (h2 c c3)⟩
theorem Kds.k0 (a : Kds K H q x) (k : Kp [] H H') : Kds K H' q x := a.kp k (by simp) (fun _ _ => by simp)
theorem ref_ne_int {b y : Addr} {t : List V} {l : List Int} (h1 : H q = some (.lst (.ref y :: t))) (h2 : H b = some (.lst (l.map V.int))) : q ≠ b := by
  rintro rfl
  rw [h1] at h2
  injection h2 with h2
  injection h2 with h2
  match l, h2 with
  | u :: _, h2 => injection h2 with h2; cases h2
theorem ins_ne {b C dx : Addr} {fs : List (Str × V)} {l : List V} (h1 : H q = some (.ins C dx fs)) (h2 : H b = some (.lst l)) : q ≠ b := by
  rintro rfl
  rw [h1] at h2
  cases h2
/-- the draws leave the modes -/
theorem Kds.draw {b d : Addr} (a : Kds K H q x) (pu : Pu H b d) (k : Kp [b, d] H H') : Kds K H' q x := by
  obtain ⟨u, y, z, ns, h1, h2, _⟩ := pu.ob
  refine a.kp k ?_ fun c c3 => ?_
  · have n1 : q ≠ b := by
      intro e
      have h := a.hq
      rw [e, h1] at h
      injection h with h
      injection h with h
      injection h with _ h
      injection h with h
      cases h
    have n2 : q ≠ d := ref_ne_int a.hq h2
    simp [n1, n2]
  · obtain ⟨dx, e⟩ := (a.md c c3).ob
    simp [ins_ne e h1, ins_ne e h2]
end
/-- apart from S -/
def Ap (xs S : List Addr) : Prop := ∀ x ∈ xs, x ∉ S
noncomputable def wrE (n : Nat) (op : Int) : Str := if IsOp n op then "illegal" else "bad"
section
def sp11__law_refusing (K : PySem.W.Frag) : Sp := fun vs H Q E => ∃ (w l r o : Addr) (s : Sd) (v c : Nat), vs = [.ref w, .int (v : Int), .str (mdN c)] ∧ c ≤ 3 ∧ Bk5 H w l r o s ∧ 1 ≤ v ∧ v ≤ s.n ∧ Any H (.str (refS c s (legO s v))) Q
end
end G
set_option Elab.async false
set_option linter.all false
set_option maxRecDepth 100000
set_option maxHeartbeats 4000000
/-! A def that is handed the exception that is being handled. -/
namespace G
open PySem PySem.Spec PyProof.Rows L2
/-- a promise that knows the exception: where it stands, its class, its dict -/
abbrev SpX := Addr → Value → Option Addr → Sp
structure FnX (P : Program) (w : World) (K : PySem.W.Frag) (mg : Str → Option Value) (base : Heap) (CX : CXT) (k : Nat) (f : Addr) (fd : FuncData) (ps : List Str) (sx : SpX) : Prop where
  ln : ∀ a cls d vs H Q E, sx a cls d vs H Q E → vs.length = ps.length
  go : ∀ (A : Around) (out : List Env) (u : Shared) (H : Hp) (ar : Args) (us : List Value) (vs : List V) (Q : VK) (E : XK) (p : Addr × Obj) (cls : Value) (d : Option Addr), L2H.RoomH k A → L2H.Hot1 A p → L2H.PinOk out H u p → L2N.Zn cls d p.2 → (∃ g, p.2.data = .fields g) →
    Env0 P w K mg base A out u H → BindsTo u fd ar (ps.zip us) → Vals vs us → sx p.1 cls d vs H Q E → codeAny (model P w) A (.call (.ref f) ar) (CR CX out P w H u Q E) u
theorem okX {P : Program} {w : World} {K : PySem.W.Frag} {mg : Str → Option Value} {base : Heap} {CX : CXT} {x qual : Str} {params : Arguments} {body : List Stmt} {scope : Scope} {dvs : List V} {kws : List (Str × V)} {f : Addr} {fd : FuncData} {N ps : List Str} {k : Nat} {sx : SpX}
    (F : FunD K x qual params body scope dvs kws f fd) (S : FnScope N ps scope) (ln : ∀ a cls d vs H Q E, sx a cls d vs H Q E → vs.length = ps.length)
    (hb : ∀ (cdv : Value) (A : Around) (out : List Env) (u : Shared) (H : Hp) (vs : List V) (Q : VK) (E : XK) (p : Addr × Obj) (cls : Value) (d : Option Addr), L2H.Hot1 A p → L2N.Zn cls d p.2 → (∃ g, p.2.data = .fields g) → L2H.RoomH k (A.deeper (envOfC qual scope u.heap.objs.size f cdv)) → sx p.1 cls d vs H Q E →
      ∃ t, PSs (L2H.cxH CX P w K mg base N qual scope f cdv A out u H E p) body t ∧ t { nx := fun _ G1 => Q .non G1, rt := Q } (start N vs) H) : FnX P w K mg base CX (k + 1) f fd ps sx := by
  obtain ⟨oc, od, dV, kV, doc, pm, an, cdv, ct, osl, rfl, lk, hcd, _, _⟩ := F.ex
  refine ⟨ln, ?_⟩
  intro A out u H ar us vs Q E p cls d rm ht pn hz hf e0 bt rv hs
  have lv := ln p.1 cls d vs H Q E hs
  have kin : K.In u.heap := e0.mod.kin.keeps (fun a ob z => (e0.bs a ob z).1)
  have nol : u.heap.NoLimit := e0.mod.nolimit.keeps (fun a ob z => (e0.bs a ob z).1)
  have kinds : ∀ y ∈ ps.zip us, scope.names.lookup y.1 = some .local ∨ (scope.names.lookup y.1 = some .cell ∧ ((cellsFrom (u.heap.objs.size + 1) scope.names []).lookup y.1).isSome = true) := by
    rintro ⟨n, v⟩ hy
    exact (S.par n (List.of_mem_zip hy).1).elim (fun z => .inl z) (fun z => .inr ⟨z, PySem.W.cellsFrom_some _ _ _ (.inl z)⟩)
  apply codeAny_call_function rm.depth (kin _ _ lk) rfl S.co S.gen rfl (PySem.W.codeRec_of kin hcd)
  apply bt
  apply wpAny_newFunctionEnv_cells S.kind kinds
  intro env he u1 xx
  subst he
  refine ⟨nol.keeps xx.toInCall.keep, ?_⟩
  apply codeAny_func
  obtain ⟨t, dt, qt⟩ := hb cdv A out u H vs Q E p cls d ht hz hf (rm.deeper _) hs
  have I1 := L2H.inv_startH (CX := CX) (E := E) S pn e0 lv rv xx
  apply wpAny_mono (dt.run [] u1 (start N vs) H _ I1 qt)
  · intro fl u2 hs2
    cases fl with
    | ret z =>
      obtain ⟨v, _, G1, J, rz, qz⟩ := hs2
      exact ⟨v, G1, J.os, J.bare, J.base, J.hok, rz, qz⟩
    | next =>
      obtain ⟨_, G1, J, qz⟩ := hs2
      exact ⟨V.non, G1, J.os, J.bare, J.base, J.hok, rfl, qz⟩
    | brk =>
      obtain ⟨_, _, _, qz⟩ := hs2
      exact qz.elim
    | cont =>
      obtain ⟨_, _, _, qz⟩ := hs2
      exact qz.elim
  · exact fun _ _ z => z
structure CalX (P : Program) (w : World) (K : PySem.W.Frag) (mg : Str → Option Value) (base : Heap) (k : Nat) (x : Str) (ps : List Str) (sx : SpX) : Prop where
  ex : ∃ (f : Addr) (fd : FuncData), FnX P w K mg base (L2N.CX P w) k f fd ps sx ∧ mg x = some (.ref f) ∧ PySem.W.keepIn K (.ref f) = true ∧ Binds K fd ps []
section
variable {X : Cx} {j k : Nat} {x : Str} {ps : List Str} {sx : SpX} {p pos : Pos} {e : Expr} {es : List Expr} {t : TA} {E : L2.St → XK} {a : Addr} {oe : Obj} {cls : Value} {d : Option Addr}
theorem run_fnX {f : Addr} {fd : FuncData} {pins : List (Addr × Obj)} {σ : L2.St} {H : Hp} {u : Shared} {Q : VK} {us : List Value} {vs : List V} (F : FnX X.prog X.w X.K X.mg X.base (L2N.CX X.prog X.w) k f fd ps sx) (hr : L2H.RoomH k X.A) (hm : (a, oe) ∈ X.pn) (hh : L2H.Hot1 X.A (a, oe))
    (hz : L2N.Zn cls d oe) (hf : ∃ g, oe.data = .fields g) (hb : Binds X.K fd ps []) (hx : PassesAt (L2N.CX X.prog X.w) X σ (E σ)) (I : Inv X pins σ H u) (r : Vals vs us) (q : sx a cls d vs H Q (E σ)) : wpAny (model X.prog X.w) X.A (call (.ref f) us) (EP X pins σ Q) X.xe u := by
  have lu : (us ++ []).length = ps.length := by
    rw [List.append_nil, ← r.length]
    exact F.ln _ _ _ _ _ _ _ q
  have bb := hb u us I.kIn (by rwa [List.append_nil] at lu ⊢)
  rw [List.append_nil] at bb
  obtain ⟨z1, z2, z3, z4, z5⟩ := I.pin (a, oe) (List.mem_append_left _ hm)
  have pk : L2H.PinOk X.stack H u (a, oe) := ⟨z1, z2, fun mm => by
    rcases List.mem_cons.mp (I.stkSub a mm) with y | y
    · exact z3 y
    · exact z4 y, z5⟩
  apply wpAny_call
  refine codeAny_mono (F.go X.A X.stack u H ⟨us, []⟩ us vs Q (E σ) (a, oe) cls d hr hh pk hz hf I.env0 bb r q) ?_
  intro rs u2 hq
  match rs, hq with
  | .error er, hq => exact hx pins H u er u2 I hq
  | .ok (.ret z), hq => exact I.after hq
  | .ok .next, hq => exact hq.elim
  | .ok .brk, hq => exact hq.elim
  | .ok .cont, hq => exact hq.elim
theorem pe_clX (c : CalX X.prog X.w X.K X.mg X.base k x ps sx) (hr : L2H.RoomH j X.A) (hk : k ≤ j) (hm : (a, oe) ∈ X.pn) (hh : L2H.Hot1 X.A (a, oe)) (hz : L2N.Zn cls d oe) (hf : ∃ g, oe.data = .fields g) (hx : PAt X E) (ha : PA X (e :: es) t) (hg : Gl X x := by rfl) (hdb : (x == ("__debug__" : Str)) = false := by decide)
    (he : starEach (e :: es) X.env = (false, eval e X.env) :: starEach es X.env := by rfl) (hpl : (backTo pos (starEach es X.env)).any (·.1) = false := by rfl) : PE X (.Call (.Name x p) (e :: es) [] pos) (tCl (sx a cls d) E t) := by
  obtain ⟨f, fd, F, gl, kp, hb⟩ := c.ex
  constructor
  intro pn u σ H Q I h
  apply wpAny_Call_Name_kw
  refine ld_glob I hg gl ?_ hdb
  refine PySem.W.callWith_K (h₀ := X.base) I.ok.mod.kin kp (thn (ha.run pos pn u σ H _ I h) ?_) he hpl
  rintro us u1 ⟨vs, G1, I1, r, q⟩
  exact ⟨I1.kIn, run_fnX F (hr.mono hk) hm hh hz hf hb (hx σ) I1 r q⟩
/-- isinstance of the exception that stands among the pins -/
theorem call_isP (hm : (a, oe) ∈ X.pn) (hz : Zc cls d oe) (hf : ∃ g, oe.data = .fields g) : CallR X (.builtin "isinstance") (rIsX X.K cls d a) := by
  rintro pins s σ H xs us Q I r ⟨D, dd, fs, c, u, b, ec, ed, hd, T, rfl, k, e, q⟩
  obtain ⟨u1, u2, rfl, r1, r2⟩ := vals2 r
  cases (show u1 = Value.ref a from r1)
  obtain rfl := k.eq r2
  obtain ⟨hget, _⟩ := I.pin (a, oe) (List.mem_append_left _ hm)
  obtain ⟨vs, hv⟩ := hf
  obtain ⟨mA, hns, hr⟩ := (show ObjOk X.prog X.w H s.heap dd (.xd fs) from I.hok dd _ hd)
  obtain ⟨od, ho, hl⟩ := lookIn_ns hns
  have J : PySem.W.InstAt s.heap a oe D (some od) := ⟨hget, hz.1.trans ec, by
    unfold PySem.W.notCls
    rw [hv] <;> rfl, by
    rw [hz.2, ed]
    exact ho⟩
  exact PySem.W.kia_one (PySem.W.kitx_exc T.cl T.ga T.gg T.be T.cc T.gs T.tk T.mo) I.kIn J e (fun z => nomatch z) fun tk => ⟨.bl b, H, I.tok tk, rfl, q⟩
end
/-- where the suite of a clause calls -/
theorem hot1_suite {X : Cx} {a : Addr} {oe : Obj} {cls : Value} {d : Option Addr} {pn : List (Addr × Obj)} (hz : L2N.Zn cls d oe) (hf : ∃ vs, oe.data = .fields vs) : L2H.Hot1 (X.suite a ((a, oe) :: pn)).A (a, oe) := by
  obtain ⟨vs, hv⟩ := hf
  exact ⟨rfl, vs, hv, hz.2.2 vs hv⟩
end G
set_option Elab.async false
set_option linter.all false
set_option maxRecDepth 100000
set_option maxHeartbeats 4000000
/-! k12: what becomes of a log in a mode; promises. -/
namespace G
open PySem PySem.Spec PyProof.Rows L2
/-! ### texts of dumps are plain -/
theorem so_tl (z : Str) : PyData.strOk z = (TL.tl z).all fun c => decide (c < 0x110000) := by
  unfold PyData.strOk TL.tl
  rw [Array.all_toList]
theorem so_join (y : Str) (hy : PyData.strOk y = true) : ∀ ps : List Str, (∀ w ∈ ps, PyData.strOk w = true) → PyData.strOk (Str.join y ps) = true
  | [], _ => by rw [so_tl, TL.tl_join] <;> rfl
  | [a], h => by
    have := h a (by simp)
    rw [so_tl] at *
    rw [TL.tl_join]
    exact this
  | a :: b :: r, h => by
    have h1 := h a (by simp)
    have h2 := so_join y hy (b :: r) fun w hw => h w (List.mem_cons_of_mem _ hw)
    rw [so_tl] at *
    rw [TL.tl_join] at *
    show (TL.tl a ++ (TL.tl y ++ TL.joinL (TL.tl y) ((b :: r).map TL.tl))).all _ = true
    rw [List.all_append, List.all_append, h1, hy, h2]
    rfl
theorem so_joinI (l : List Int) : PyData.strOk (joinI l) = true := by
  unfold joinI
  rw [TL.join_eq]
  refine so_join _ (by decide +kernel) _ fun w hw => ?_
  obtain ⟨i, _, rfl⟩ := List.mem_map.mp hw
  exact strOk_of _
theorem so_dump (s : Sd) : PyData.strOk (dumpS s) = true := by
  unfold dumpS
  rw [TL.join_eq]
  refine so_join _ (by decide +kernel) _ fun w hw => ?_
  simp only [List.mem_cons, List.not_mem_nil, or_false] at hw
  rcases hw with rfl | rfl | rfl
  · exact so_joinI _
  · exact so_joinI _
  · unfold outsT
    split
    · decide +kernel
    · exact so_joinI _
theorem so_ref (c : Nat) (s : Sd) (op : Int) : PyData.strOk (refS c s op) = true := by
  unfold refS
  repeat' split
  all_goals decide +kernel
theorem so_wr (n : Nat) (op : Int) : PyData.strOk (wrE n op) = true := by
  unfold wrE
  split <;> decide +kernel
/-! ### what becomes of a log -/
noncomputable def fateT (c : Nat) : Sd → Nat → List Int → List V
  | s, _, [] => [.str "standing", .int 0, .int 0, .str (dumpS s)]
  | s, i, op :: l => open Classical in if OkOp s op then (if refS c s op = "" then fateT c (stepS s op) (i + 1) l else [.str "refused", .int op, .int (i : Int), .str (refS c s op)]) else [.str (wrE s.n op), .int op, .int (i : Int), .str ""]
theorem fate_nil (c : Nat) (s : Sd) (i : Nat) : fateT c s i [] = [.str "standing", .int 0, .int 0, .str (dumpS s)] := by rw [fateT]
theorem fate_ok {c : Nat} {s : Sd} {i : Nat} {op : Int} {l : List Int} (h : OkOp s op) (r : refS c s op = "") : fateT c s i (op :: l) = fateT c (stepS s op) (i + 1) l := by rw [fateT, if_pos h, if_pos r]
theorem fate_ref {c : Nat} {s : Sd} {i : Nat} {op : Int} {l : List Int} (h : OkOp s op) (r : ¬ refS c s op = "") : fateT c s i (op :: l) = [.str "refused", .int op, .int (i : Int), .str (refS c s op)] := by rw [fateT, if_pos h, if_neg r]
theorem fate_bad {c : Nat} {s : Sd} {i : Nat} {op : Int} {l : List Int} (h : ¬ OkOp s op) : fateT c s i (op :: l) = [.str (wrE s.n op), .int op, .int (i : Int), .str ""] := by rw [fateT, if_neg h]
theorem fate_app {c : Nat} {s : Sd} {k : Nat} : ∀ {a : List Int} (b : List Int), Adm c s a → fateT c s k (a ++ b) = fateT c (runS s a) (k + a.length) b := by
  intro a
  induction a using snoc_ind with
  | h0 => exact fun b _ => rfl
  | h1 l x ih =>
    intro b h
    have h1 : Adm c s l := by
      have := h.take l.length
      rwa [List.take_left' rfl] at this
    have h2 := h l.length x (by simp)
    rw [List.take_left' rfl] at h2
    rw [List.append_assoc, ih _ h1]
    show fateT c (runS s l) (k + l.length) (x :: b) = _
    rw [fate_ok h2.1 h2.2, runS_snoc, List.length_append]
    rfl
theorem cut_at {log : List Int} {i : Nat} {op : Int} (h : log[i]? = some op) : log = log.take i ++ op :: log.drop (i + 1) ∧ (log.take i).length = i := by
  have li := (List.getElem?_eq_some_iff.mp h).1
  have ev := (List.getElem?_eq_some_iff.mp h).2
  refine ⟨?_, by rw [List.length_take]; omega⟩
  rw [← ev, ← List.drop_eq_getElem_cons li, List.take_append_drop]
theorem fate_all {c : Nat} {s : Sd} {log : List Int} (h : Adm c s log) : fateT c s 0 log = [.str "standing", .int 0, .int 0, .str (dumpS (runS s log))] := by
  have := fate_app (k := 0) [] h
  rwa [List.append_nil, fate_nil] at this
theorem fate_badAt {c : Nat} {s : Sd} {log : List Int} {i : Nat} {op : Int} (h : log[i]? = some op) (a : Adm c s (log.take i)) (b : ¬ OkOp (runS s (log.take i)) op) : fateT c s 0 log = [.str (wrE s.n op), .int op, .int (i : Int), .str ""] := by
  obtain ⟨e, l⟩ := cut_at h
  rw [e, fate_app _ a, fate_bad b, l, Nat.zero_add, runS_n]
theorem fate_refAt {c : Nat} {s : Sd} {log : List Int} {i : Nat} {op : Int} (h : log[i]? = some op) (a : Adm c s (log.take i)) (o : OkOp (runS s (log.take i)) op) (b : refS c (runS s (log.take i)) op ≠ "") : fateT c s 0 log = [.str "refused", .int op, .int (i : Int), .str (refS c (runS s (log.take i)) op)] := by
  obtain ⟨e, l⟩ := cut_at h
  conv => lhs; rw [e]
  rw [fate_app _ a, fate_ref o b, l, Nat.zero_add]
theorem fate_cases (c : Nat) (s : Sd) (log : List Int) : Adm c s log ∨ ∃ i op, log[i]? = some op ∧ Adm c s (log.take i) ∧ (¬ OkOp (runS s (log.take i)) op ∨ (OkOp (runS s (log.take i)) op ∧ refS c (runS s (log.take i)) op ≠ "")) := by
  induction log using snoc_ind with
  | h0 => exact .inl (adm_nil c s)
  | h1 l x ih =>
    rcases ih with a | ⟨i, op, h1, h2, h3⟩
    · by_cases o : OkOp (runS s l) x
      · by_cases r : refS c (runS s l) x = ""
        · exact .inl (a.snoc o r)
        · exact .inr ⟨l.length, x, by simp, by rw [List.take_left' rfl]; exact a, by rw [List.take_left' rfl]; exact .inr ⟨o, r⟩⟩
      · exact .inr ⟨l.length, x, by simp, by rw [List.take_left' rfl]; exact a, by rw [List.take_left' rfl]; exact .inl o⟩
    · have li := (List.getElem?_eq_some_iff.mp h1).1
      refine .inr ⟨i, op, by rw [List.getElem?_append_left li]; exact h1, ?_⟩
      rw [List.take_append_of_le_length (by omega)]
      exact ⟨h2, h3⟩
theorem adm0 {s : Sd} {log : List Int} : Adm 0 s log ↔ Leg s log := ⟨fun h => h.leg, fun h i op hp => ⟨h i op hp, refS_0 _ _⟩⟩
theorem ne_stand (n : Nat) (op : Int) : wrE n op ≠ "standing" ∧ wrE n op ≠ "refused" := by
  unfold wrE
  split <;> exact ⟨by decide +kernel, by decide +kernel⟩
/-- the first refusal of a log -/
noncomputable def firstT (c : Nat) (s : Sd) (log : List Int) : List V := open Classical in
  if Leg s log then (if Adm c s log then [.str "none", .int 0, .int 0, .str ""] else [.str "index", .int 0, (fateT c s 0 log).getD 2 .non, .str ""]) else fateT 0 s 0 log
theorem first_ok {c : Nat} {s : Sd} {log : List Int} (h : Adm c s log) : firstT c s log = [.str "none", .int 0, .int 0, .str ""] := by
  unfold firstT
  rw [if_pos h.leg, if_pos h]
theorem first_ix {c : Nat} {s : Sd} {log : List Int} {i : Nat} (l : Leg s log) (h : FstR c s log i) : firstT c s log = [.str "index", .int 0, .int (i : Int), .str ""] := by
  obtain ⟨op, h1, h2, h3⟩ := h
  unfold firstT
  rw [if_pos l, if_neg (fun a => h3 (a i op h1).2), fate_refAt h1 h2 (l i op h1) h3]
  rfl
theorem first_bad {c : Nat} {s : Sd} {log : List Int} {i : Nat} {op : Int} (h : log[i]? = some op) (a : Leg s (log.take i)) (b : ¬ OkOp (runS s (log.take i)) op) : firstT c s log = [.str (wrE s.n op), .int op, .int (i : Int), .str ""] := by
  unfold firstT
  rw [if_neg (fun l => b (l i op h)), fate_badAt h (adm0.mpr a) b]
theorem leg_or (s : Sd) (log : List Int) : Leg s log ∨ ∃ i op, log[i]? = some op ∧ Leg s (log.take i) ∧ ¬ OkOp (runS s (log.take i)) op := by
  rcases fate_cases 0 s log with a | ⟨i, op, h1, h2, h3⟩
  · exact .inl (adm0.mp a)
  · refine .inr ⟨i, op, h1, adm0.mp h2, ?_⟩
    rcases h3 with h3 | ⟨_, h3⟩
    · exact h3
    · exact absurd (refS_0 _ _) h3
theorem adm_or {c : Nat} {s : Sd} {log : List Int} (l : Leg s log) : Adm c s log ∨ ∃ i, FstR c s log i := by
  rcases fate_cases c s log with a | ⟨i, op, h1, h2, h3⟩
  · exact .inl a
  · refine .inr ⟨i, op, h1, h2, ?_⟩
    rcases h3 with h3 | ⟨_, h3⟩
    · exact absurd (l i op h1) h3
    · exact h3
/-- of the form that is compared -/
def Row4 (xs : List V) : Prop := ∃ (x y : Str) (i j : Int), xs = [.str x, .int i, .int j, .str y] ∧ PyData.strOk x = true ∧ PyData.strOk y = true
theorem fate_row (c : Nat) (s : Sd) (log : List Int) : Row4 (fateT c s 0 log) := by
  rcases fate_cases c s log with a | ⟨i, op, h1, h2, h3 | ⟨h3, h4⟩⟩
  · exact ⟨_, _, _, _, fate_all a, by decide +kernel, so_dump _⟩
  · exact ⟨_, _, _, _, fate_badAt h1 h2 h3, so_wr _ _, by decide +kernel⟩
  · exact ⟨_, _, _, _, fate_refAt h1 h2 h3 h4, by decide +kernel, so_ref _ _ _⟩
theorem first_row (c : Nat) (s : Sd) (log : List Int) : Row4 (firstT c s log) := by
  rcases leg_or s log with l | ⟨i, op, h1, h2, h3⟩
  · rcases adm_or (c := c) l with a | ⟨i, h⟩
    · exact ⟨_, _, _, _, first_ok a, by decide +kernel, by decide +kernel⟩
    · exact ⟨_, _, _, _, first_ix l h, by decide +kernel, by decide +kernel⟩
  · exact ⟨_, _, _, _, first_bad h1 h2 h3, so_wr _ _, by decide +kernel⟩
/-! ### promises -/
section
def sp12__law_steered (K : PySem.W.Frag) : Sp := fun vs H Q E => ∃ (b d w l r o : Addr) (s : Sd) (sh c : Nat) (e : Str), vs = [.ref b, .ref w, .int (sh : Int), .str (mdN c), .str e] ∧ c ≤ 3 ∧ 1 ≤ s.n ∧ sh + min s.n 6 ≤ s.n ∧ Pu H b d ∧ Bk5 H w l r o s ∧ Ap [w, l, r, o] [b, d] ∧
  ∀ (v : Nat) H', 1 ≤ v → v ≤ s.n → Kp [b, d] H H' → Pu H' b d → Q (.int (v : Int)) H'
def sp12__law_path (K : PySem.W.Frag) : Sp := fun vs H Q E => ∃ (b d : Addr) (m : Nat), vs = [.ref b, .int (m : Int)] ∧ m ≤ 6 ∧ Pu H b d ∧ ∀ (ps : List Int) q H', H q = none → (∀ y ∈ ps, 1 ≤ y ∧ y ≤ (m : Int)) → ps.length ≤ 8 → q ∉ [b, d] → Kp [b, d] H H' → Pu H' b d → H' q = some (.lst (ps.map V.int)) → Q (.ref q) H'
def sp12__law_row (K : PySem.W.Frag) : Sp := fun vs H Q E => ∃ (b d : Addr) (n sh m c : Nat), vs = [.ref b, .int (n : Int), .int (sh : Int), .int (m : Int), .str (mdN c)] ∧ n ≤ 60 ∧ m ≤ 25 ∧ c ≤ 3 ∧ sh + min n 6 ≤ n ∧ Pu H b d ∧
  ∀ (row : List Int) q H', row.length ≤ 25 → q ∉ [b, d] → Kp [b, d] H H' → Pu H' b d → H' q = some (.lst (row.map V.int)) → Q (.ref q) H'
def sp12__law_spoilt (K : PySem.W.Frag) : Sp := fun vs H Q E => ∃ (b d a : Addr) (n : Nat) (row : List Int), vs = [.ref b, .int (n : Int), .ref a] ∧ n ≤ 60 ∧ row.length ≤ 30 ∧ a ∉ [b, d] ∧ H a = some (.lst (row.map V.int)) ∧ Pu H b d ∧
  ∀ (row' : List Int) q H', row'.length ≤ row.length + 1 → q ∉ [b, d] → Kp [b, d] H H' → Pu H' b d → H' q = some (.lst (row'.map V.int)) → Q (.ref q) H'
def sp12__law_fate (K : PySem.W.Frag) : Sp := fun vs H Q E => ∃ (a : Addr) (n c : Nat) (log : List Int), vs = [.int (n : Int), .ref a, .str (mdN c)] ∧ n ≤ 60 ∧ c ≤ 3 ∧ log.length ≤ 1000 ∧ H a = some (.lst (log.map V.int)) ∧ ∀ t H', Kp [] H H' → H' t = some (.tup (fateT c (wholeS n) 0 log)) → Q (.ref t) H'
def sp12__law_first (K : PySem.W.Frag) : Sp := fun vs H Q E => ∃ (a : Addr) (n c : Nat) (log : List Int), vs = [.int (n : Int), .ref a, .str (mdN c)] ∧ n ≤ 60 ∧ c ≤ 3 ∧ log.length ≤ 1000 ∧ H a = some (.lst (log.map V.int)) ∧ ∀ t H', Kp [] H H' → H' t = some (.tup (firstT c (wholeS n) log)) → Q (.ref t) H'
def sp12__law_log_error (K : PySem.W.Frag) : SpX := fun a cls d vs H Q E => ∃ (x : Str) (dd : Addr) (fs : List (Str × V)) (i j : Int), (x = "BadOperation" ∨ x = "Illegal" ∨ x = "Refused") ∧ cls = .ref (He.ga K x) ∧ d = some dd ∧ H dd = some (.xd fs) ∧ vs = [.ref a, .int i, .int j] ∧ Q (.bl true) H
def sp12__law_replayed (K : PySem.W.Frag) : Sp := fun vs H Q E => ∃ (a : Addr) (n c : Nat) (log : List Int), vs = [.int (n : Int), .ref a, .str (mdN c)] ∧ n ≤ 60 ∧ c ≤ 3 ∧ H a = some (.lst (log.map V.int)) ∧ ∀ t H', Kp [] H H' → H' t = some (.tup (fateT c (wholeS n) 0 log)) → Q (.ref t) H'
def sp12__law_told (K : PySem.W.Frag) : Sp := fun vs H Q E => ∃ (a : Addr) (n c : Nat) (log : List Int), vs = [.int (n : Int), .ref a, .str (mdN c)] ∧ n ≤ 60 ∧ c ≤ 3 ∧ H a = some (.lst (log.map V.int)) ∧ ∀ t H', Kp [] H H' → H' t = some (.tup (firstT c (wholeS n) log)) → Q (.ref t) H'
def sp12__law_headless (K : PySem.W.Frag) : Sp := fun vs H Q E => ∃ (a : Addr) (way : Nat) (z : Int) (m : Str) (log : List Int), vs = [.int (way : Int), .int z, .ref a, .str m] ∧ way ≤ 1 ∧ H a = some (.lst (log.map V.int)) ∧ (¬ SizeOk z ∨ NoMd m) ∧
  (¬ SizeOk z → ∀ t H', Kp [] H H' → H' t = some (.tup [.str "size", .bl true, .int z]) → Q (.ref t) H') ∧ (SizeOk z → ∀ t H', Kp [] H H' → H' t = some (.tup [.str "text", .bl true, .str m]) → Q (.ref t) H')
def sp12__law_plain (K : PySem.W.Frag) : Sp := fun vs H Q E => ∃ (a : Addr) (n : Nat) (log : List Int), vs = [.int (n : Int), .ref a] ∧ n ≤ 60 ∧ log.length ≤ 1000 ∧ H a = some (.lst (log.map V.int)) ∧ Any H (.bl true) Q
def sp12__law_judged (K : PySem.W.Frag) : Sp := fun vs H Q E => ∃ (a : Addr) (n : Nat) (log : List Int), vs = [.int (n : Int), .ref a] ∧ n ≤ 60 ∧ log.length ≤ 1000 ∧ H a = some (.lst (log.map V.int)) ∧ Any H (.bl true) Q
def sp12__law_run (K : PySem.W.Frag) : Sp := fun vs H Q E => ∃ (b d : Addr), vs = [.ref b] ∧ Pu H b d ∧ ∀ t q (n : Nat) (row : List Int) H', n ≤ 60 → row.length ≤ 40 → q ∉ [b, d] → Kp [b, d] H H' → Pu H' b d → H' t = some (.tup [.int (n : Int), .ref q]) → H' q = some (.lst (row.map V.int)) → Q (.ref t) H'
end
end G
set_option Elab.async false
set_option linter.all false
set_option maxRecDepth 100000
set_option maxHeartbeats 4000000
namespace G
open PySem PySem.Spec PyProof.Rows L2
abbrev L_refusal (K : PySem.W.Frag) : List (Addr × Sp) := [(He.ga K "FreeMode", sp_FreeMode_refusal K), (He.ga K "SavingMode", sp_SavingMode_refusal K), (He.ga K "GuardedMode", sp_GuardedMode_refusal K), (He.ga K "CheckedMode", sp_CheckedMode_refusal K)]
def t_Links_is_out (K : PySem.W.Frag) (E : XK) : TS :=
  tSeq (tIfS (tNot (tTest (tChain rLeA rLeA (tC (.int 0)) (tVar 1) (tOp rAddA (tFld K (tVar 0) "size") (tC (.int 1)))))) (tRz (He.ga K "BadNode") ["node"] (fun cls d _ H => E cls d H) (tCons (tVar 1) (tNil))) (tNext)) (tRet (tOp (rIx K) (tFld K (tVar 0) "_out") (tVar 1)))
def t_Links_left (K : PySem.W.Frag) (E : XK) : TS :=
  tSeq (tIfS (tNot (tTest (tChain rLeA rLeA (tC (.int 1)) (tVar 1) (tOp rAddA (tFld K (tVar 0) "size") (tC (.int 1)))))) (tRz (He.ga K "BadNode") ["node"] (fun cls d _ H => E cls d H) (tCons (tVar 1) (tNil))) (tNext)) (tRet (tOp (rIx K) (tFld K (tVar 0) "_lefts") (tVar 1)))
def t_Links_right (K : PySem.W.Frag) (E : XK) : TS :=
  tSeq (tIfS (tNot (tTest (tChain rLeA rLeA (tC (.int 0)) (tVar 1) (tFld K (tVar 0) "size")))) (tRz (He.ga K "BadNode") ["node"] (fun cls d _ H => E cls d H) (tCons (tVar 1) (tNil))) (tNext)) (tRet (tOp (rIx K) (tFld K (tVar 0) "_rights") (tVar 1)))
def t__has_fitting_neighbours (K : PySem.W.Frag) (E : XK) : TS :=
  tSeq (tAsg (tCB rAbsA (tCons (tVar 1) (tNil))) (gName 2)) (tSeq (tAsg (tMt (He.ga K "Links") "left" (sp_Links_left K) (fun _ => E) (tVar 0) (tCons (tVar 2) (tNil))) (gName 3)) (tSeq (tAsg (tMt (He.ga K "Links") "right" (sp_Links_right K) (fun _ => E) (tVar 0) (tCons (tVar 2) (tNil))) (gName 4)) (tSeq (tIfS (tOr (tB (tMt (He.ga K "Links") "is_out" (sp03_Links_is_out K) (fun _ => E) (tVar 0) (tCons (tVar 3) (tNil)))) (tB (tMt (He.ga K "Links") "is_out" (sp03_Links_is_out K) (fun _ => E) (tVar 0) (tCons (tVar 4) (tNil))))) (tRet (tC (.bl false))) (tNext)) (tSeq (tIfS (tTest (tOp rLtA (tVar 1) (tC (.int 0)))) (tRet (tAndV (tOp (rEqA K) (tMt (He.ga K "Links") "right" (sp_Links_right K) (fun _ => E) (tVar 0) (tCons (tVar 3) (tNil))) (tVar 2)) (tOp (rEqA K) (tMt (He.ga K "Links") "left" (sp_Links_left K) (fun _ => E) (tVar 0) (tCons (tVar 4) (tNil))) (tVar 2)))) (tNext)) (tRet (tAndV (tOp (rEqA K) (tMt (He.ga K "Links") "right" (sp_Links_right K) (fun _ => E) (tVar 0) (tCons (tVar 3) (tNil))) (tVar 4)) (tOp (rEqA K) (tMt (He.ga K "Links") "left" (sp_Links_left K) (fun _ => E) (tVar 0) (tCons (tVar 4) (tNil))) (tVar 3))))))))
def t_Links_is_legal (K : PySem.W.Frag) (E : XK) : TS :=
  tRet (tOp (rEqA K) (tOp (rIx K) (tFld K (tVar 0) "_out") (tCB rAbsA (tCons (tVar 1) (tNil)))) (tOp rGtA (tVar 1) (tC (.int 0))))
def t_check_operation (K : PySem.W.Frag) (E : XK) : TS :=
  tIfS (tNot (tTest (tChain rLeA rLeA (tC (.int 1)) (tCB rAbsA (tCons (tVar 1) (tNil))) (tVar 0)))) (tRz (He.ga K "BadOperation") ["operation", "index"] (fun cls d _ H => E cls d H) (tCons (tVar 1) (tCons (tVar 2) (tNil)))) (tNext)
def t_Links_check (K : PySem.W.Frag) (E : XK) : TS :=
  tSeq (tDrop (tCl (sp_check_operation K) (fun _ => E) (tCons (tFld K (tVar 0) "size") (tCons (tVar 1) (tCons (tVar 2) (tNil)))))) (tIfS (tNot (tB (tMt (He.ga K "Links") "is_legal" (sp_Links_is_legal K) (fun _ => E) (tVar 0) (tCons (tVar 1) (tNil))))) (tRz (He.ga K "Illegal") ["operation", "index"] (fun cls d _ H => E cls d H) (tCons (tVar 1) (tCons (tVar 2) (tNil)))) (tNext))
def t_foreign_writes (K : PySem.W.Frag) (E : XK) : TS :=
  tSeq (tDrop (tMt (He.ga K "Links") "check" (sp_Links_check K) (fun _ => E) (tVar 0) (tCons (tVar 1) (tCons (tC (.int 0)) (tNil))))) (tSeq (tAsg (tCB rAbsA (tCons (tVar 1) (tNil))) (gName 2)) (tSeq (tAsg (tMt (He.ga K "Links") "left" (sp_Links_left K) (fun _ => E) (tVar 0) (tCons (tVar 2) (tNil))) (gName 3)) (tSeq (tAsg (tMt (He.ga K "Links") "right" (sp_Links_right K) (fun _ => E) (tVar 0) (tCons (tVar 2) (tNil))) (gName 4)) (tSeq (tAsg (tLst (tNil)) (gName 5)) (tSeq (tIfS (tAnd (tTest (tOp (rNeA K) (tVar 3) (tOp rSubA (tVar 2) (tC (.int 1))))) (tTest (tOp (rEqA K) (tMt (He.ga K "Links") "right" (sp_Links_right K) (fun _ => E) (tVar 0) (tCons (tVar 3) (tNil))) (tOp rAddA (tVar 3) (tC (.int 1)))))) (tDrop (tBM K "list" rAppend (tVar 5) (tCons (tVar 3) (tNil)))) (tNext)) (tSeq (tIfS (tAnd (tTest (tOp (rNeA K) (tVar 4) (tOp rAddA (tVar 2) (tC (.int 1))))) (tTest (tOp (rEqA K) (tMt (He.ga K "Links") "left" (sp_Links_left K) (fun _ => E) (tVar 0) (tCons (tVar 4) (tNil))) (tOp rSubA (tVar 4) (tC (.int 1)))))) (tDrop (tBM K "list" rAppend (tVar 5) (tCons (tOp rSubA (tVar 4) (tC (.int 1))) (tNil)))) (tNext)) (tRet (tVar 5))))))))
def t_left_to (K : PySem.W.Frag) (E : XK) : TS :=
  tRet (tIf (tTest (tOp rLtA (tVar 1) (tCB rAbsA (tCons (tVar 0) (tNil))))) (tOp rAddA (tVar 1) (tC (.int 1))) (tVar 1))
def t__leaves_a_gap_to_a_holder_that_is_in (K : PySem.W.Frag) (E : XK) : TS :=
  tRet (tCB (rAny K) (tCons (tLc (iList K (tCl (sp_foreign_writes K) (fun _ => E) (tCons (tVar 0) (tCons (tVar 1) (tNil))))) (gName 2) (tYes) (tNotV (tMt (He.ga K "Links") "is_out" (sp03_Links_is_out K) (fun _ => E0) (tVar 0) (tCons (tCl (sp17_left_to K) (fun _ => E0) (tCons (tVar 1) (tCons (tVar 2) (tNil)))) (tNil)))) [2]) (tNil)))
def t_check_gap (K : PySem.W.Frag) (E : XK) : TS :=
  tIfS (tNot (tTest (tChain rLeA rLeA (tC (.int 0)) (tVar 1) (tVar 0)))) (tRz (He.ga K "BadGap") ["gap"] (fun cls d _ H => E cls d H) (tCons (tVar 1) (tNil))) (tNext)
def t_gap_state (K : PySem.W.Frag) (E : XK) : TS :=
  tSeq (tDrop (tCl (sp_check_gap K) (fun _ => E) (tCons (tFld K (tVar 0) "size") (tCons (tVar 1) (tNil))))) (tSeq (tAsg (tOp (rEqA K) (tMt (He.ga K "Links") "right" (sp_Links_right K) (fun _ => E) (tVar 0) (tCons (tVar 1) (tNil))) (tOp rAddA (tVar 1) (tC (.int 1)))) (gName 2)) (tSeq (tAsg (tOp (rEqA K) (tMt (He.ga K "Links") "left" (sp_Links_left K) (fun _ => E) (tVar 0) (tCons (tOp rAddA (tVar 1) (tC (.int 1))) (tNil))) (tVar 1)) (gName 3)) (tSeq (tIfS (tB (tVar 2)) (tRet (tIf (tB (tVar 3)) (tC (.str "joined")) (tC (.str "left")))) (tNext)) (tRet (tIf (tB (tVar 3)) (tC (.str "right")) (tC (.str "lost")))))))
def t__loses_a_gap (K : PySem.W.Frag) (E : XK) : TS :=
  tRet (tCB (rAny K) (tCons (tLc (iList K (tCl (sp_foreign_writes K) (fun _ => E) (tCons (tVar 0) (tCons (tVar 1) (tNil))))) (gName 2) (tYes) (tOp (rNeA K) (tCl (sp_gap_state K) (fun _ => E0) (tCons (tVar 0) (tCons (tVar 2) (tNil)))) (tC (.str "joined"))) [2]) (tNil)))
def t_FreeMode_refusal (K : PySem.W.Frag) (E : XK) : TS :=
  tSeq (tDrop (tMt (He.ga K "Links") "check" (sp_Links_check K) (fun _ => E) (tVar 1) (tCons (tVar 2) (tCons (tC (.int 0)) (tNil))))) (tRet (tC (.str "")))
def t_SavingMode_refusal (K : PySem.W.Frag) (E : XK) : TS :=
  tSup K (He.ga K "SavingMode") "refusal" (He.fAd K ("FreeMode", some "refusal")) (sp_FreeMode_refusal K) E 4 (tCons (tVar 1) (tCons (tVar 2) (tNil))) (tSeq (tIfS (tAnd (tTest (tOp (rEqA K) (tVar 4) (tC (.str "")))) (tB (tCl (sp__loses_a_gap K) (fun _ => E) (tCons (tVar 1) (tCons (tVar 2) (tNil)))))) (tRet (tC (.str "saving"))) (tNext)) (tRet (tVar 4)))
def t_GuardedMode_refusal (K : PySem.W.Frag) (E : XK) : TS :=
  tSup K (He.ga K "GuardedMode") "refusal" (He.fAd K ("SavingMode", some "refusal")) (sp_SavingMode_refusal K) E 4 (tCons (tVar 1) (tCons (tVar 2) (tNil))) (tSeq (tIfS (tAnd (tTest (tOp (rEqA K) (tVar 4) (tC (.str "")))) (tB (tCl (sp__leaves_a_gap_to_a_holder_that_is_in K) (fun _ => E) (tCons (tVar 1) (tCons (tVar 2) (tNil)))))) (tRet (tC (.str "guarded"))) (tNext)) (tRet (tVar 4)))
def t_CheckedMode_refusal (K : PySem.W.Frag) (E : XK) : TS :=
  tSup K (He.ga K "CheckedMode") "refusal" (He.fAd K ("GuardedMode", some "refusal")) (sp_GuardedMode_refusal K) E 4 (tCons (tVar 1) (tCons (tVar 2) (tNil))) (tSeq (tIfS (tAnd (tTest (tOp (rEqA K) (tVar 4) (tC (.str "")))) (tNot (tB (tCl (sp__has_fitting_neighbours K) (fun _ => E) (tCons (tVar 1) (tCons (tVar 2) (tNil))))))) (tRet (tC (.str "checked"))) (tNext)) (tRet (tVar 4)))
def t_check_size (K : PySem.W.Frag) (E : XK) : TS :=
  tIfS (tNot (tTest (tChain rLeA rLeA (tC (.int 0)) (tVar 0) (tC (.int 60))))) (tRz (He.ga K "BadSize") ["size"] (fun cls d _ H => E cls d H) (tCons (tVar 0) (tNil))) (tNext)
def t_Links___init__ (K : PySem.W.Frag) (E : XK) : TS :=
  tSeq (tDrop (tCl (sp_check_size K) (fun _ => E) (tCons (tVar 1) (tNil)))) (tSeq (sFld K (tVar 0) (tVar 1) "size") (tSeq (sFld K (tVar 0) (tLstRg (tRg2 (tC (.int 1)) (tOp rAddA (tVar 1) (tC (.int 2))))) "_rights") (tSeq (sFld K (tVar 0) (tOp rAddA (tLst (tCons (tC (.int 0)) (tNil))) (tLstRg (tRg1 (tOp rAddA (tVar 1) (tC (.int 1)))))) "_lefts") (sFld K (tVar 0) (tOp rMulA (tLst (tCons (tC (.bl false)) (tNil))) (tOp rAddA (tVar 1) (tC (.int 2)))) "_out"))))
def t_Links_apply_at (K : PySem.W.Frag) (E : XK) : TS :=
  tSeq (tDrop (tMt (He.ga K "Links") "check" (sp_Links_check K) (fun _ => E) (tVar 0) (tCons (tVar 1) (tCons (tVar 2) (tNil))))) (tSeq (tAsg (tCB rAbsA (tCons (tVar 1) (tNil))) (gName 3)) (tSeq (tAsg (tOp (rIx K) (tFld K (tVar 0) "_lefts") (tVar 3)) (gName 4)) (tSeq (tAsg (tOp (rIx K) (tFld K (tVar 0) "_rights") (tVar 3)) (gName 5)) (tSeq (tAsg (tOp rLtA (tVar 1) (tC (.int 0))) (gName 6)) (tSeq (tAsg (tIf (tB (tVar 6)) (tVar 5) (tVar 3)) (gSub (tFld K (tVar 0) "_rights") (tVar 4) rSetL)) (tSeq (tAsg (tIf (tB (tVar 6)) (tVar 4) (tVar 3)) (gSub (tFld K (tVar 0) "_lefts") (tVar 5) rSetL)) (tAsg (tVar 6) (gSub (tFld K (tVar 0) "_out") (tVar 3) rSetL))))))))
def t_Links_apply (K : PySem.W.Frag) (E : XK) : TS :=
  tDrop (tMt (He.ga K "Links") "apply_at" (sp_Links_apply_at K) (fun _ => E) (tVar 0) (tCons (tVar 1) (tCons (tC (.int 0)) (tNil))))
def t_all_modes (K : PySem.W.Frag) (E : XK) : TS :=
  tRet (tLst (tCons (tMk0 (He.ga K "FreeMode")) (tCons (tMk0 (He.ga K "SavingMode")) (tCons (tMk0 (He.ga K "GuardedMode")) (tCons (tMk0 (He.ga K "CheckedMode")) (tNil))))))
def t_mode_named (K : PySem.W.Frag) (E : XK) : TS :=
  tSeq (tFor (iList K (tCl (sp_all_modes K) (fun _ => E) tNil)) (gName 1) (tIfS (tTest (tOp (rEqA K) (tCon K (tVar 1) "NAME") (tVar 0))) (tRet (tVar 1)) (tNext))) (tRz (He.ga K "BadMode") ["name"] (fun cls d _ H => E cls d H) (tCons (tVar 0) (tNil)))
def t_Links_copy (K : PySem.W.Frag) (E : XK) : TS :=
  tSeq (tAsg (tMk (He.ga K "Links") (sp_Links___init__ K) (fun _ => E) (tCons (tFld K (tVar 0) "size") (tNil))) (gName 1)) (tSeq (sFld K (tVar 1) (tCB (rListA K) (tCons (tFld K (tVar 0) "_rights") (tNil))) "_rights") (tSeq (sFld K (tVar 1) (tCB (rListA K) (tCons (tFld K (tVar 0) "_lefts") (tNil))) "_lefts") (tSeq (sFld K (tVar 1) (tCB (rListA K) (tCons (tFld K (tVar 0) "_out") (tNil))) "_out") (tRet (tVar 1)))))
def t_play (K : PySem.W.Frag) (E : XK) : TS :=
  tSeq (tAsg (tMt (He.ga K "Links") "copy" (sp_Links_copy K) (fun _ => E) (tVar 0) tNil) (gName 2)) (tSeq (tFor (iEnum K (tCons (tVar 1) (tNil))) (gTup K 2 (gCons (gName 3) (gCons (gName 4) (gNil)))) (tDrop (tMt (He.ga K "Links") "apply_at" (sp_Links_apply_at K) (fun _ => E) (tVar 2) (tCons (tVar 4) (tCons (tVar 3) (tNil)))))) (tRet (tVar 2)))
def t_replay (K : PySem.W.Frag) (E : XK) : TS :=
  tRet (tCl (sp_play K) (fun _ => E) (tCons (tMk (He.ga K "Links") (sp_Links___init__ K) (fun _ => E) (tCons (tVar 0) (tNil))) (tCons (tVar 1) (tNil))))
def t_first_refusal (K : PySem.W.Frag) (E : XK) : TS :=
  tSeq (tDrop (tCl (sp_check_size K) (fun _ => E) (tCons (tVar 0) (tNil)))) (tSeq (tAsg (tCl (sp_mode_named K) (fun _ => E) (tCons (tVar 2) (tNil))) (gName 3)) (tSeq (tDrop (tCl (sp_replay K) (fun _ => E) (tCons (tVar 0) (tCons (tVar 1) (tNil))))) (tSeq (tAsg (tMk (He.ga K "Links") (sp_Links___init__ K) (fun _ => E) (tCons (tVar 0) (tNil))) (gName 4)) (tSeq (tFor (iEnum K (tCons (tVar 1) (tNil))) (gTup K 2 (gCons (gName 5) (gCons (gName 6) (gNil)))) (tSeq (tIfS (tTest (tOp (rNeA K) (tMtD (L_refusal K) "refusal" (fun _ => E) (tVar 3) (tCons (tVar 4) (tCons (tVar 6) (tNil)))) (tC (.str "")))) (tRet (tVar 5)) (tNext)) (tDrop (tMt (He.ga K "Links") "apply" (sp_Links_apply K) (fun _ => E) (tVar 4) (tCons (tVar 6) (tNil)))))) (tRet (tC .non))))))
def t_check_admitted (K : PySem.W.Frag) (E : XK) : TS :=
  tSeq (tDrop (tMt (He.ga K "Links") "check" (sp_Links_check K) (fun _ => E) (tVar 0) (tCons (tVar 1) (tCons (tVar 2) (tNil))))) (tSeq (tAsg (tMtD (L_refusal K) "refusal" (fun _ => E) (tVar 3) (tCons (tVar 0) (tCons (tVar 1) (tNil)))) (gName 4)) (tIfS (tTest (tOp (rNeA K) (tVar 4) (tC (.str "")))) (tRz (He.ga K "Refused") ["operation", "index", "refusing"] (fun cls d _ H => E cls d H) (tCons (tVar 1) (tCons (tVar 2) (tCons (tVar 4) (tNil))))) (tNext)))
def t_replay_in (K : PySem.W.Frag) (E : XK) : TS :=
  tSeq (tAsg (tMk (He.ga K "Links") (sp_Links___init__ K) (fun _ => E) (tCons (tVar 0) (tNil))) (gName 3)) (tSeq (tAsg (tCl (sp_mode_named K) (fun _ => E) (tCons (tVar 2) (tNil))) (gName 4)) (tSeq (tFor (iEnum K (tCons (tVar 1) (tNil))) (gTup K 2 (gCons (gName 5) (gCons (gName 6) (gNil)))) (tSeq (tDrop (tCl (sp_check_admitted K) (fun _ => E) (tCons (tVar 3) (tCons (tVar 6) (tCons (tVar 5) (tCons (tVar 4) (tNil))))))) (tDrop (tMt (He.ga K "Links") "apply" (sp_Links_apply K) (fun _ => E) (tVar 3) (tCons (tVar 6) (tNil)))))) (tRet (tVar 3))))
def t__law_headless (K : PySem.W.Frag) (E : XK) : TS :=
  tSeq ((fun D σ H => (fun (W : WX) => tSeq (tIfS (tTest (tOp (rEqA K) (tVar 0) (tC (.int 0)))) (tDrop (tClK 2 (["mode"] : List Str).length (sp_replay_in K) (WE W) (tCons (tVar 1) (tCons (tVar 2) (tNil))) (tCons (tVar 3) (tNil)))) (tNext)) (tIfS (tTest (tOp (rEqA K) (tVar 0) (tC (.int 1)))) (tDrop (tClK 2 (["mode"] : List Str).length (sp_first_refusal K) (WE W) (tCons (tVar 1) (tCons (tVar 2) (tNil))) (tCons (tVar 3) (tNil)))) (tNext))) (wAs K (.ref (He.ga K "BadSize")) 4 (fun a cls d => tSeq (tAsg (tAndV (tCB (rIsX K cls d a) (tCons (tVar 4) (tCons (tC (.ref (He.ga K "LinkError"))) (tNil)))) (tNotV (tCB (rIsX K cls d a) (tCons (tVar 4) (tCons (tC (.ref (He.ga K "LogError"))) (tNil)))))) (gName 5)) (tRet (tTup (tCons (tC (.str "size")) (tCons (tAndV (tVar 5) (tCB (rIsi K) (tCons (tXat K a cls d "size" (tVar 4)) (tCons (tC (.ty "int")) (tNil))))) (tCons (tXat K a cls d "size" (tVar 4)) (tNil))))))) (wAs K (.ref (He.ga K "BadMode")) 4 (fun a cls d => tSeq (tAsg (tAndV (tCB (rIsX K cls d a) (tCons (tVar 4) (tCons (tC (.ref (He.ga K "LinkError"))) (tNil)))) (tNotV (tCB (rIsX K cls d a) (tCons (tVar 4) (tCons (tC (.ref (He.ga K "LogError"))) (tNil)))))) (gName 5)) (tRet (tTup (tCons (tC (.str "text")) (tCons (tAndV (tVar 5) (tCB (rIsi K) (tCons (tXat K a cls d "name" (tVar 4)) (tCons (tC (.ty "str")) (tNil))))) (tCons (tXat K a cls d "name" (tVar 4)) (tNil))))))) (wOnly K (.ref (He.ga K "LinkError")) (fun a cls d => tRet (tTup (tCons (tC (.str "other")) (tCons (tC (.bl false)) (tCons (tC (.int 0)) (tNil)))))) (fun cls d _ H => E cls d H) D) D) D) D σ H)) (tRet (tTup (tCons (tC (.str "none")) (tCons (tC (.bl false)) (tCons (tC (.int 0)) (tNil))))))
def t__law_dump (K : PySem.W.Frag) (E : XK) : TS :=
  tSeq (tAsg (tOp (rIx K) (tVar 0) (tC (.int 0))) (gName 1)) (tSeq (tAsg (tM1 (rJoin K) (tC (.str " ")) (tLc (iList K (tSl (rSlL K) (tOp (rIx K) (tVar 0) (tC (.int 2))) (tNoPart) (tPart (tOp rAddA (tVar 1) (tC (.int 1)))))) (gName 6) (tYes) (tCB rStrA (tCons (tVar 6) (tNil))) [6])) (gName 2)) (tSeq (tAsg (tM1 (rJoin K) (tC (.str " ")) (tLc (iList K (tSl (rSlL K) (tOp (rIx K) (tVar 0) (tC (.int 1))) (tPart (tC (.int 1))) (tNoPart))) (gName 6) (tYes) (tCB rStrA (tCons (tVar 6) (tNil))) [6])) (gName 3)) (tSeq (tAsg (tLc (iRng2 (tCons (tC (.int 1)) (tCons (tOp rAddA (tVar 1) (tC (.int 1))) (tNil)))) (gName 7) (tB (tOp (rIx K) (tOp (rIx K) (tVar 0) (tC (.int 3))) (tVar 7))) (tCB rStrA (tCons (tVar 7) (tNil))) [7]) (gName 4)) (tSeq (tAsg (tC (.str "none")) (gName 5)) (tSeq (tIfS (tTr K (tVar 4)) (tAsg (tM1 (rJoin K) (tC (.str " ")) (tVar 4)) (gName 5)) (tNext)) (tRet (tOp rAddA (tOp rAddA (tOp rAddA (tOp rAddA (tVar 2) (tC (.str " | "))) (tVar 3)) (tC (.str " | "))) (tVar 5))))))))
def t__law_moved (K : PySem.W.Frag) (E : XK) : TS :=
  tSeq (tAsg (tCB (rListA K) (tCons (tOp (rIx K) (tVar 0) (tC (.int 1))) (tNil))) (gName 2)) (tSeq (tAsg (tCB (rListA K) (tCons (tOp (rIx K) (tVar 0) (tC (.int 2))) (tNil))) (gName 3)) (tSeq (tAsg (tCB (rListA K) (tCons (tOp (rIx K) (tVar 0) (tC (.int 3))) (tNil))) (gName 4)) (tSeq (tAsg (tOp (rIx K) (tVar 2) (tVar 1)) (gName 5)) (tSeq (tAsg (tOp (rIx K) (tVar 3) (tVar 1)) (gName 6)) (tSeq (tIfS (tB (tOp (rIx K) (tVar 4) (tVar 1))) (tSeq (tAsg (tVar 1) (gSub (tVar 3) (tVar 5) rSetL)) (tAsg (tVar 1) (gSub (tVar 2) (tVar 6) rSetL))) (tSeq (tAsg (tVar 6) (gSub (tVar 3) (tVar 5) rSetL)) (tAsg (tVar 5) (gSub (tVar 2) (tVar 6) rSetL)))) (tSeq (tAsg (tNotV (tOp (rIx K) (tVar 4) (tVar 1))) (gSub (tVar 4) (tVar 1) rSetL)) (tRet (tLst (tCons (tOp (rIx K) (tVar 0) (tC (.int 0))) (tCons (tVar 2) (tCons (tVar 3) (tCons (tVar 4) (tNil)))))))))))))
def t__law_operation (K : PySem.W.Frag) (E : XK) : TS :=
  tSeq (tIfS (tB (tOp (rIx K) (tOp (rIx K) (tVar 0) (tC (.int 3))) (tVar 1))) (tRet (tVar 1)) (tNext)) (tRet (tUn rNegA (tVar 1)))
def t__law_lost (K : PySem.W.Frag) (E : XK) : TS :=
  tRet (tLc (iRng1 (tCons (tOp rAddA (tOp (rIx K) (tVar 0) (tC (.int 0))) (tC (.int 1))) (tNil))) (gName 1) (tAnd (tTest (tOp (rNeA K) (tOp (rIx K) (tOp (rIx K) (tVar 0) (tC (.int 2))) (tVar 1)) (tOp rAddA (tVar 1) (tC (.int 1))))) (tTest (tOp (rNeA K) (tOp (rIx K) (tOp (rIx K) (tVar 0) (tC (.int 1))) (tOp rAddA (tVar 1) (tC (.int 1)))) (tVar 1)))) (tVar 1) [1])
def t__law_refusing (K : PySem.W.Frag) (E : XK) : TS :=
  tSeq (tIfS (tTest (tOp (rEqA K) (tVar 2) (tC (.str "free")))) (tRet (tC (.str ""))) (tNext)) (tSeq (tAsg (tCl (sp16__law_lost K) (fun _ => E) (tCons (tVar 0) (tNil))) (gName 3)) (tSeq (tIfS (tTr K (tLc (iList K (tCl (sp16__law_lost K) (fun _ => E) (tCons (tCl (sp13__law_moved K) (fun _ => E) (tCons (tVar 0) (tCons (tVar 1) (tNil)))) (tNil)))) (gName 8) (tTest (tOp (rIn K true) (tVar 8) (tVar 3))) (tVar 8) [8])) (tRet (tC (.str "saving"))) (tNext)) (tSeq (tIfS (tTest (tOp (rEqA K) (tVar 2) (tC (.str "saving")))) (tRet (tC (.str ""))) (tNext)) (tSeq (tAsg (tOp (rIx K) (tOp (rIx K) (tVar 0) (tC (.int 1))) (tVar 1)) (gName 4)) (tSeq (tAsg (tOp (rIx K) (tOp (rIx K) (tVar 0) (tC (.int 2))) (tVar 1)) (gName 5)) (tSeq (tIfS (tAnd (tTest (tOp (rNeA K) (tVar 4) (tOp rSubA (tVar 1) (tC (.int 1))))) (tAnd (tTest (tOp (rEqA K) (tOp (rIx K) (tOp (rIx K) (tVar 0) (tC (.int 2))) (tVar 4)) (tOp rAddA (tVar 4) (tC (.int 1))))) (tNot (tB (tOp (rIx K) (tOp (rIx K) (tVar 0) (tC (.int 3))) (tOp rAddA (tVar 4) (tC (.int 1)))))))) (tRet (tC (.str "guarded"))) (tNext)) (tSeq (tIfS (tAnd (tTest (tOp (rNeA K) (tVar 5) (tOp rAddA (tVar 1) (tC (.int 1))))) (tAnd (tTest (tOp (rEqA K) (tOp (rIx K) (tOp (rIx K) (tVar 0) (tC (.int 1))) (tVar 5)) (tOp rSubA (tVar 5) (tC (.int 1))))) (tNot (tB (tOp (rIx K) (tOp (rIx K) (tVar 0) (tC (.int 3))) (tOp rSubA (tVar 5) (tC (.int 1)))))))) (tRet (tC (.str "guarded"))) (tNext)) (tSeq (tIfS (tTest (tOp (rEqA K) (tVar 2) (tC (.str "guarded")))) (tRet (tC (.str ""))) (tNext)) (tSeq (tAsg (tVar 5) (gName 6)) (tSeq (tAsg (tVar 4) (gName 7)) (tSeq (tIfS (tNot (tB (tOp (rIx K) (tOp (rIx K) (tVar 0) (tC (.int 3))) (tVar 1)))) (tSeq (tAsg (tVar 1) (gName 6)) (tAsg (tVar 1) (gName 7))) (tNext)) (tSeq (tIfS (tOr (tB (tOp (rIx K) (tOp (rIx K) (tVar 0) (tC (.int 3))) (tVar 4))) (tOr (tB (tOp (rIx K) (tOp (rIx K) (tVar 0) (tC (.int 3))) (tVar 5))) (tOr (tTest (tOp (rNeA K) (tOp (rIx K) (tOp (rIx K) (tVar 0) (tC (.int 2))) (tVar 4)) (tVar 6))) (tTest (tOp (rNeA K) (tOp (rIx K) (tOp (rIx K) (tVar 0) (tC (.int 1))) (tVar 5)) (tVar 7)))))) (tRet (tC (.str "checked"))) (tNext)) (tRet (tC (.str "")))))))))))))))
def t__law_whole (K : PySem.W.Frag) (E : XK) : TS :=
  tSeq (tAsg (tLc (iRng1 (tCons (tOp rAddA (tVar 0) (tC (.int 2))) (tNil))) (gName 3) (tYes) (tOp rSubA (tVar 3) (tC (.int 1))) [3]) (gName 1)) (tSeq (tAsg (tLc (iRng1 (tCons (tOp rAddA (tVar 0) (tC (.int 2))) (tNil))) (gName 3) (tYes) (tOp rAddA (tVar 3) (tC (.int 1))) [3]) (gName 2)) (tRet (tLst (tCons (tVar 0) (tCons (tVar 1) (tCons (tVar 2) (tCons (tLc (iRng1 (tCons (tOp rAddA (tVar 0) (tC (.int 2))) (tNil))) (gName 3) (tYes) (tC (.bl false)) [3]) (tNil))))))))
def t__law_fate (K : PySem.W.Frag) (E : XK) : TS :=
  tSeq (tAsg (tCl (sp13__law_whole K) (fun _ => E) (tCons (tVar 0) (tNil))) (gName 3)) (tSeq (tFor (iRng1 (tCons (tCB (rLenA K) (tCons (tVar 1) (tNil))) (tNil))) (gName 4) (tSeq (tAsg (tOp (rIx K) (tVar 1) (tVar 4)) (gName 5)) (tSeq (tAsg (tCB rAbsA (tCons (tVar 5) (tNil))) (gName 6)) (tSeq (tIfS (tOr (tTest (tOp rLtA (tVar 6) (tC (.int 1)))) (tTest (tOp rGtA (tVar 6) (tVar 0)))) (tRet (tTup (tCons (tC (.str "bad")) (tCons (tVar 5) (tCons (tVar 4) (tCons (tC (.str "")) (tNil))))))) (tNext)) (tSeq (tIfS (tTest (tOp (rNeA K) (tVar 5) (tCl (sp__law_operation K) (fun _ => E) (tCons (tVar 3) (tCons (tVar 6) (tNil)))))) (tRet (tTup (tCons (tC (.str "illegal")) (tCons (tVar 5) (tCons (tVar 4) (tCons (tC (.str "")) (tNil))))))) (tNext)) (tSeq (tAsg (tCl (sp11__law_refusing K) (fun _ => E) (tCons (tVar 3) (tCons (tVar 6) (tCons (tVar 2) (tNil))))) (gName 7)) (tSeq (tIfS (tTest (tOp (rNeA K) (tVar 7) (tC (.str "")))) (tRet (tTup (tCons (tC (.str "refused")) (tCons (tVar 5) (tCons (tVar 4) (tCons (tVar 7) (tNil))))))) (tNext)) (tAsg (tCl (sp13__law_moved K) (fun _ => E) (tCons (tVar 3) (tCons (tVar 6) (tNil)))) (gName 3))))))))) (tRet (tTup (tCons (tC (.str "standing")) (tCons (tC (.int 0)) (tCons (tC (.int 0)) (tCons (tCl (sp13__law_dump K) (fun _ => E) (tCons (tVar 3) (tNil))) (tNil))))))))
def t__law_first (K : PySem.W.Frag) (E : XK) : TS :=
  tSeq (tAsg (tCl (sp12__law_fate K) (fun _ => E) (tCons (tVar 0) (tCons (tVar 1) (tCons (tC (.str "free")) (tNil))))) (gName 3)) (tSeq (tIfS (tTest (tOp (rNeA K) (tOp (rIx K) (tVar 3) (tC (.int 0))) (tC (.str "standing")))) (tRet (tVar 3)) (tNext)) (tSeq (tAsg (tCl (sp12__law_fate K) (fun _ => E) (tCons (tVar 0) (tCons (tVar 1) (tCons (tVar 2) (tNil))))) (gName 3)) (tSeq (tIfS (tTest (tOp (rEqA K) (tOp (rIx K) (tVar 3) (tC (.int 0))) (tC (.str "refused")))) (tRet (tTup (tCons (tC (.str "index")) (tCons (tC (.int 0)) (tCons (tOp (rIx K) (tVar 3) (tC (.int 2))) (tCons (tC (.str "")) (tNil))))))) (tNext)) (tRet (tTup (tCons (tC (.str "none")) (tCons (tC (.int 0)) (tCons (tC (.int 0)) (tCons (tC (.str "")) (tNil))))))))))
def t_Links_outs (K : PySem.W.Frag) (E : XK) : TS :=
  tRet (tLc (iRng2 (tCons (tC (.int 1)) (tCons (tOp rAddA (tFld K (tVar 0) "size") (tC (.int 1))) (tNil)))) (gName 1) (tB (tOp (rIx K) (tFld K (tVar 0) "_out") (tVar 1))) (tVar 1) [1])
def t__joined (K : PySem.W.Frag) (E : XK) : TS :=
  tRet (tM1 (rJoin K) (tC (.str " ")) (tLc (iList K (tVar 0)) (gName 1) (tYes) (tCB rStrA (tCons (tVar 1) (tNil))) [1]))
def t_dump_of (K : PySem.W.Frag) (E : XK) : TS :=
  tRet (tM1 (rJoin K) (tC (.str " | ")) (tLst (tCons (tCl (sp__joined K) (fun _ => E) (tCons (tVar 0) (tNil))) (tCons (tCl (sp__joined K) (fun _ => E) (tCons (tVar 1) (tNil))) (tCons (tIf (tTr K (tVar 2)) (tCl (sp__joined K) (fun _ => E) (tCons (tVar 2) (tNil))) (tC (.str "none"))) (tNil))))))
def t_Links_dump (K : PySem.W.Frag) (E : XK) : TS :=
  tRet (tCl (sp_dump_of K) (fun _ => E) (tCons (tFld K (tVar 0) "_rights") (tCons (tSl (rSlL K) (tFld K (tVar 0) "_lefts") (tPart (tC (.int 1))) (tNoPart)) (tCons (tMt (He.ga K "Links") "outs" (sp_Links_outs K) (fun _ => E) (tVar 0) tNil) (tNil)))))
def t__law_is (K : PySem.W.Frag) (E : XK) : TS :=
  tRet (tAndV (tCB (rIsi K) (tCons (tVar 0) (tCons (tC (.ty "int")) (tNil)))) (tAndV (tNotV (tCB (rIsi K) (tCons (tVar 0) (tCons (tC (.ty "bool")) (tNil))))) (tOp (rEqA K) (tVar 0) (tVar 1))))
def t__law_log_error (K : PySem.W.Frag) (a : Addr) (cls : Value) (d : Option Addr) (E : XK) : TS :=
  tSeq (tAsg (tAndV (tCB (rIsX K cls d a) (tCons (tVar 0) (tCons (tC (.ref (He.ga K "LogError"))) (tNil)))) (tAndV (tCB (rIsX K cls d a) (tCons (tVar 0) (tCons (tC (.ref (He.ga K "LinkError"))) (tNil)))) (tCB (rIsX K cls d a) (tCons (tVar 0) (tCons (tC (.ty "ValueError")) (tNil)))))) (gName 3)) (tRet (tAndV (tVar 3) (tAndV (tCl (sp13__law_is K) (fun _ => E0) (tCons (tVar 1) (tCons (tVar 1) (tNil)))) (tCl (sp13__law_is K) (fun _ => E0) (tCons (tVar 2) (tCons (tVar 2) (tNil)))))))
def t__law_replayed (K : PySem.W.Frag) (E : XK) : TS :=
  tSeq ((fun D σ H => (fun (W : WX) => tAsg (tClK 2 (["mode"] : List Str).length (sp_replay_in K) (WE W) (tCons (tVar 0) (tCons (tVar 1) (tNil))) (tCons (tVar 2) (tNil))) (gName 3)) (wAs K (.ref (He.ga K "BadOperation")) 4 (fun a cls d => tSeq (tIfS (tB (tCl (sp12__law_log_error K a cls d) (fun _ => E0) (tCons (tVar 4) (tCons (tXat K a cls d "operation" (tVar 4)) (tCons (tXat K a cls d "index" (tVar 4)) (tNil)))))) (tRet (tTup (tCons (tC (.str "bad")) (tCons (tXat K a cls d "operation" (tVar 4)) (tCons (tXat K a cls d "index" (tVar 4)) (tCons (tC (.str "")) (tNil))))))) (tNext)) (tRet (tTup (tCons (tC (.str "other")) (tCons (tC (.int 0)) (tCons (tC (.int 0)) (tCons (tC (.str "")) (tNil)))))))) (wAs K (.ref (He.ga K "Illegal")) 4 (fun a cls d => tSeq (tIfS (tB (tCl (sp12__law_log_error K a cls d) (fun _ => E0) (tCons (tVar 4) (tCons (tXat K a cls d "operation" (tVar 4)) (tCons (tXat K a cls d "index" (tVar 4)) (tNil)))))) (tRet (tTup (tCons (tC (.str "illegal")) (tCons (tXat K a cls d "operation" (tVar 4)) (tCons (tXat K a cls d "index" (tVar 4)) (tCons (tC (.str "")) (tNil))))))) (tNext)) (tRet (tTup (tCons (tC (.str "other")) (tCons (tC (.int 0)) (tCons (tC (.int 0)) (tCons (tC (.str "")) (tNil)))))))) (wAs K (.ref (He.ga K "Refused")) 4 (fun a cls d => tSeq (tIfS (tAnd (tB (tCl (sp12__law_log_error K a cls d) (fun _ => E0) (tCons (tVar 4) (tCons (tXat K a cls d "operation" (tVar 4)) (tCons (tXat K a cls d "index" (tVar 4)) (tNil)))))) (tB (tCB (rIsi K) (tCons (tXat K a cls d "refusing" (tVar 4)) (tCons (tC (.ty "str")) (tNil)))))) (tRet (tTup (tCons (tC (.str "refused")) (tCons (tXat K a cls d "operation" (tVar 4)) (tCons (tXat K a cls d "index" (tVar 4)) (tCons (tXat K a cls d "refusing" (tVar 4)) (tNil))))))) (tNext)) (tRet (tTup (tCons (tC (.str "other")) (tCons (tC (.int 0)) (tCons (tC (.int 0)) (tCons (tC (.str "")) (tNil)))))))) (wOnly K (.ref (He.ga K "LinkError")) (fun a cls d => tRet (tTup (tCons (tC (.str "other")) (tCons (tC (.int 0)) (tCons (tC (.int 0)) (tCons (tC (.str "")) (tNil))))))) (fun cls d _ H => E cls d H) D) D) D) D) D σ H)) (tSeq (tIfS (tOr (tNot (tB (tCB (rIsi K) (tCons (tVar 3) (tCons (tC (.ref (He.ga K "Links"))) (tNil)))))) (tNot (tB (tCl (sp13__law_is K) (fun _ => E) (tCons (tFld K (tVar 3) "size") (tCons (tVar 0) (tNil))))))) (tRet (tTup (tCons (tC (.str "other")) (tCons (tC (.int 0)) (tCons (tC (.int 0)) (tCons (tC (.str "")) (tNil))))))) (tNext)) (tRet (tTup (tCons (tC (.str "standing")) (tCons (tC (.int 0)) (tCons (tC (.int 0)) (tCons (tMt (He.ga K "Links") "dump" (sp_Links_dump K) (fun _ => E) (tVar 3) tNil) (tNil))))))))
def t__law_plain (K : PySem.W.Frag) (E : XK) : TS :=
  tSeq (tAsg (tCl (sp12__law_fate K) (fun _ => E) (tCons (tVar 0) (tCons (tVar 1) (tCons (tC (.str "free")) (tNil))))) (gName 2)) (tSeq (tIfS (tTest (tOp (rNeA K) (tOp (rIx K) (tVar 2) (tC (.int 0))) (tC (.str "standing")))) (tRet (tOp (rEqA K) (tCl (sp12__law_replayed K) (fun _ => E) (tCons (tVar 0) (tCons (tVar 1) (tCons (tC (.str "free")) (tNil))))) (tVar 2))) (tNext)) (tSeq (tAsg (tClD 2 (sp_replay_in K) [.str "free"] (fun _ => E) (tCons (tVar 0) (tCons (tVar 1) (tNil)))) (gName 3)) (tSeq (tIfS (tOr (tNot (tB (tCB (rIsi K) (tCons (tVar 3) (tCons (tC (.ref (He.ga K "Links"))) (tNil)))))) (tOr (tTest (tOp (rNeA K) (tMt (He.ga K "Links") "dump" (sp_Links_dump K) (fun _ => E) (tVar 3) tNil) (tOp (rIx K) (tVar 2) (tC (.int 3))))) (tTest (tOp rNotNA (tClD 2 (sp_first_refusal K) [.str "free"] (fun _ => E) (tCons (tVar 0) (tCons (tVar 1) (tNil)))) (tC .non))))) (tRet (tC (.bl false))) (tNext)) (tSeq (tAsg (tCl (sp13__law_whole K) (fun _ => E) (tCons (tVar 0) (tNil))) (gName 4)) (tSeq (tFor (iList K (tVar 1)) (gName 5) (tAsg (tCl (sp13__law_moved K) (fun _ => E) (tCons (tVar 4) (tCons (tCB rAbsA (tCons (tVar 5) (tNil))) (tNil)))) (gName 4))) (tSeq (tFor (iRng2 (tCons (tC (.int 1)) (tCons (tOp rAddA (tCB rMin2A (tCons (tVar 0) (tCons (tC (.int 6)) (tNil)))) (tC (.int 1))) (tNil)))) (gName 6) (tDrop (tMt (He.ga K "Links") "apply" (sp_Links_apply K) (fun _ => E) (tVar 3) (tCons (tCl (sp__law_operation K) (fun _ => E) (tCons (tVar 4) (tCons (tVar 6) (tNil)))) (tNil))))) (tSeq (tAsg (tClD 2 (sp_replay_in K) [.str "free"] (fun _ => E) (tCons (tVar 0) (tCons (tVar 1) (tNil)))) (gName 7)) (tRet (tOp (rEqA K) (tMt (He.ga K "Links") "dump" (sp_Links_dump K) (fun _ => E) (tVar 7) tNil) (tOp (rIx K) (tVar 2) (tC (.int 3))))))))))))
def t__law_told (K : PySem.W.Frag) (E : XK) : TS :=
  tSeq ((fun D σ H => (fun (W : WX) => tAsg (tClK 2 (["mode"] : List Str).length (sp_first_refusal K) (WE W) (tCons (tVar 0) (tCons (tVar 1) (tNil))) (tCons (tVar 2) (tNil))) (gName 3)) (wOnly K (.ref (He.ga K "Refused")) (fun a cls d => tRet (tTup (tCons (tC (.str "other")) (tCons (tC (.int 0)) (tCons (tC (.int 0)) (tCons (tC (.str "")) (tNil))))))) (wAs K (.ref (He.ga K "Illegal")) 4 (fun a cls d => tSeq (tIfS (tB (tCl (sp12__law_log_error K a cls d) (fun _ => E0) (tCons (tVar 4) (tCons (tXat K a cls d "operation" (tVar 4)) (tCons (tXat K a cls d "index" (tVar 4)) (tNil)))))) (tRet (tTup (tCons (tC (.str "illegal")) (tCons (tXat K a cls d "operation" (tVar 4)) (tCons (tXat K a cls d "index" (tVar 4)) (tCons (tC (.str "")) (tNil))))))) (tNext)) (tRet (tTup (tCons (tC (.str "other")) (tCons (tC (.int 0)) (tCons (tC (.int 0)) (tCons (tC (.str "")) (tNil)))))))) (wAs K (.ref (He.ga K "BadOperation")) 4 (fun a cls d => tSeq (tIfS (tB (tCl (sp12__law_log_error K a cls d) (fun _ => E0) (tCons (tVar 4) (tCons (tXat K a cls d "operation" (tVar 4)) (tCons (tXat K a cls d "index" (tVar 4)) (tNil)))))) (tRet (tTup (tCons (tC (.str "bad")) (tCons (tXat K a cls d "operation" (tVar 4)) (tCons (tXat K a cls d "index" (tVar 4)) (tCons (tC (.str "")) (tNil))))))) (tNext)) (tRet (tTup (tCons (tC (.str "other")) (tCons (tC (.int 0)) (tCons (tC (.int 0)) (tCons (tC (.str "")) (tNil)))))))) (wOnly K (.ref (He.ga K "LinkError")) (fun a cls d => tRet (tTup (tCons (tC (.str "other")) (tCons (tC (.int 0)) (tCons (tC (.int 0)) (tCons (tC (.str "")) (tNil))))))) (fun cls d _ H => E cls d H) D) D) D) D) D σ H)) (tSeq (tIfS (tTest (tOp rIsNA (tVar 3) (tC .non))) (tRet (tTup (tCons (tC (.str "none")) (tCons (tC (.int 0)) (tCons (tC (.int 0)) (tCons (tC (.str "")) (tNil))))))) (tNext)) (tSeq (tIfS (tOr (tNot (tB (tCB (rIsi K) (tCons (tVar 3) (tCons (tC (.ty "int")) (tNil)))))) (tB (tCB (rIsi K) (tCons (tVar 3) (tCons (tC (.ty "bool")) (tNil)))))) (tRet (tTup (tCons (tC (.str "other")) (tCons (tC (.int 0)) (tCons (tC (.int 0)) (tCons (tC (.str "")) (tNil))))))) (tNext)) (tRet (tTup (tCons (tC (.str "index")) (tCons (tC (.int 0)) (tCons (tVar 3) (tCons (tC (.str "")) (tNil)))))))))
def t__law_words (K : PySem.W.Frag) (E : XK) : TS :=
  tRet (tLst (tCons (tC (.str "free")) (tCons (tC (.str "saving")) (tCons (tC (.str "guarded")) (tCons (tC (.str "checked")) (tNil))))))
def t__law_judged (K : PySem.W.Frag) (E : XK) : TS :=
  tSeq (tAsg (tCB (rListA K) (tCons (tVar 1) (tNil))) (gName 2)) (tSeq (tFor (iList K (tCl (sp13__law_words K) (fun _ => E) tNil)) (gName 3) (tSeq (tIfS (tTest (tOp (rNeA K) (tCl (sp12__law_replayed K) (fun _ => E) (tCons (tVar 0) (tCons (tVar 2) (tCons (tVar 3) (tNil))))) (tCl (sp12__law_fate K) (fun _ => E) (tCons (tVar 0) (tCons (tVar 1) (tCons (tVar 3) (tNil))))))) (tRet (tC (.bl false))) (tNext)) (tIfS (tTest (tOp (rNeA K) (tCl (sp12__law_told K) (fun _ => E) (tCons (tVar 0) (tCons (tVar 2) (tCons (tVar 3) (tNil))))) (tCl (sp12__law_first K) (fun _ => E) (tCons (tVar 0) (tCons (tVar 1) (tCons (tVar 3) (tNil))))))) (tRet (tC (.bl false))) (tNext)))) (tRet (tAndV (tCl (sp12__law_plain K) (fun _ => E) (tCons (tVar 0) (tCons (tVar 2) (tNil)))) (tOp (rEqA K) (tVar 2) (tVar 1)))))
def t__law_purse (K : PySem.W.Frag) (E : XK) : TS :=
  tSeq (tAsg (tLc (iList K (tSl (rSlL K) (tVar 0) (tNoPart) (tPart (tC (.int 63))))) (gName 3) (tTest (tOp rGeA (tCB rAbsA (tCons (tVar 3) (tNil))) (tOp rPowA (tC (.int 10)) (tC (.int 18))))) (tCB rAbsA (tCons (tVar 3) (tNil))) [3]) (gName 1)) (tSeq (tAsg (tC (.int 1368)) (gName 2)) (tSeq (tFor (iList K (tSl (rSlL K) (tVar 0) (tNoPart) (tPart (tC (.int 63))))) (gName 3) (tAsg (tOp rModA (tCB rIntA (tCons (tOp rAddA (tOp rAddA (tOp rMulA (tVar 2) (tC (.int 8191))) (tOp rModA (tCB rIntA (tCons (tVar 3) (tNil))) (tC (.int 2147483629)))) (tC (.int 3))) (tNil))) (tC (.int 2147483647))) (gName 2))) (tRet (tLst (tCons (tVar 1) (tCons (tVar 2) (tCons (tC (.int 1)) (tCons (tC (.int 0)) (tNil)))))))))
def t__law_take (K : PySem.W.Frag) (E : XK) : TS :=
  tSeq (tAsg (tOp rAddA (tOp (rIx K) (tVar 0) (tC (.int 3))) (tC (.int 1))) (gSub (tVar 0) (tC (.int 3)) rSetL)) (tSeq (tAsg (tOp (rIx K) (tVar 0) (tC (.int 0))) (gName 2)) (tSeq (tIfS (tTr K (tVar 2)) (tSeq (tAsg (tOp rModA (tCB rIntA (tCons (tOp (rIx K) (tVar 2) (tC (.int 0))) (tNil))) (tVar 1)) (gName 3)) (tSeq (tAsg (tOp rDivA (tOp (rIx K) (tVar 2) (tC (.int 0))) (tVar 1)) (gSub (tVar 2) (tC (.int 0)) rSetL)) (tSeq (tIfS (tTest (tOp (rEqA K) (tOp (rIx K) (tVar 2) (tC (.int 0))) (tC (.int 0)))) (tDrop (tBM K "list" rPopAt (tVar 2) (tCons (tC (.int 0)) (tNil)))) (tNext)) (tRet (tVar 3))))) (tNext)) (tSeq (tAsg (tOp rModA (tCB rIntA (tCons (tOp rAddA (tOp rAddA (tOp rMulA (tOp (rIx K) (tVar 0) (tC (.int 1))) (tC (.int 48271))) (tOp rMulA (tOp (rIx K) (tVar 0) (tC (.int 3))) (tC (.int 69621)))) (tC (.int 11))) (tNil))) (tC (.int 2147483647))) (gSub (tVar 0) (tC (.int 1)) rSetL)) (tSeq (tAsg (tOp rModA (tCB rIntA (tCons (tOp rAddA (tOp rAddA (tOp rMulA (tOp (rIx K) (tVar 0) (tC (.int 2))) (tC (.int 39373))) (tOp rDivA (tOp (rIx K) (tVar 0) (tC (.int 1))) (tC (.int 128)))) (tC (.int 5))) (tNil))) (tC (.int 2147483629))) (gSub (tVar 0) (tC (.int 2)) rSetL)) (tRet (tOp rModA (tCB rIntA (tCons (tOp rAddA (tOp rDivA (tOp (rIx K) (tVar 0) (tC (.int 1))) (tC (.int 7))) (tOp (rIx K) (tVar 0) (tC (.int 2)))) (tNil))) (tVar 1)))))))
def t__law_path (K : PySem.W.Frag) (E : XK) : TS :=
  tSeq (tIfS (tOr (tTest (tOp rLtA (tVar 1) (tC (.int 4)))) (tTest (tOp (rEqA K) (tCl (sp13__law_take K) (fun _ => E) (tCons (tVar 0) (tCons (tC (.int 2)) (tNil)))) (tC (.int 0))))) (tRet (tLst (tNil))) (tNext)) (tSeq (tAsg (tLst (tCons (tLst (tCons (tC (.int 2)) (tCons (tC (.int 3)) (tCons (tC (.int 2)) (tCons (tC (.int 1)) (tCons (tC (.int 4)) (tNil))))))) (tCons (tLst (tCons (tC (.int 2)) (tCons (tC (.int 3)) (tCons (tC (.int 4)) (tCons (tC (.int 2)) (tCons (tC (.int 1)) (tCons (tC (.int 4)) (tNil)))))))) (tCons (tLst (tCons (tC (.int 2)) (tCons (tC (.int 3)) (tCons (tC (.int 2)) (tCons (tC (.int 1)) (tCons (tC (.int 2)) (tCons (tC (.int 1)) (tCons (tC (.int 4)) (tNil))))))))) (tCons (tLst (tCons (tC (.int 2)) (tCons (tC (.int 3)) (tCons (tC (.int 4)) (tCons (tC (.int 2)) (tCons (tC (.int 1)) (tCons (tC (.int 2)) (tCons (tC (.int 1)) (tCons (tC (.int 4)) (tNil)))))))))) (tNil)))))) (gName 2)) (tSeq (tAsg (tOp (rIx K) (tVar 2) (tCl (sp13__law_take K) (fun _ => E) (tCons (tVar 0) (tCons (tC (.int 4)) (tNil))))) (gName 3)) (tSeq (tIfS (tTest (tOp (rEqA K) (tCl (sp13__law_take K) (fun _ => E) (tCons (tVar 0) (tCons (tC (.int 2)) (tNil)))) (tC (.int 0)))) (tRet (tVar 3)) (tNext)) (tRet (tLc (iList K (tVar 3)) (gName 4) (tYes) (tOp rSubA (tOp rAddA (tVar 1) (tC (.int 1))) (tVar 4)) [4])))))
def t__law_steered (K : PySem.W.Frag) (E : XK) : TS :=
  tSeq (tAsg (tCB rMin2A (tCons (tOp (rIx K) (tVar 1) (tC (.int 0))) (tCons (tC (.int 6)) (tNil)))) (gName 5)) (tSeq (tAsg (tCl (sp13__law_take K) (fun _ => E) (tCons (tVar 0) (tCons (tVar 5) (tNil)))) (gName 6)) (tSeq (tAsg (tOp rGtA (tCl (sp13__law_take K) (fun _ => E) (tCons (tVar 0) (tCons (tC (.int 8)) (tNil)))) (tC (.int 0))) (gName 7)) (tSeq (tFor (iRng1 (tCons (tVar 5) (tNil))) (gName 8) (tSeq (tAsg (tOp rAddA (tOp rAddA (tC (.int 1)) (tVar 2)) (tOp rModA (tOp rAddA (tVar 6) (tVar 8)) (tVar 5))) (gName 9)) (tIfS (tAnd (tTest (tOp (rNeA K) (tVar 4) (tC (.str "")))) (tTest (tOp (rEqA K) (tCl (sp11__law_refusing K) (fun _ => E) (tCons (tVar 1) (tCons (tVar 9) (tCons (tC (.str "checked")) (tNil))))) (tVar 4)))) (tRet (tVar 9)) (tNext)))) (tSeq (tFor (iRng1 (tCons (tVar 5) (tNil))) (gName 8) (tSeq (tAsg (tOp rAddA (tOp rAddA (tC (.int 1)) (tVar 2)) (tOp rModA (tOp rAddA (tVar 6) (tVar 8)) (tVar 5))) (gName 9)) (tIfS (tAnd (tB (tVar 7)) (tTest (tOp (rEqA K) (tCl (sp11__law_refusing K) (fun _ => E) (tCons (tVar 1) (tCons (tVar 9) (tCons (tVar 3) (tNil))))) (tC (.str ""))))) (tRet (tVar 9)) (tNext)))) (tRet (tOp rAddA (tOp rAddA (tC (.int 1)) (tVar 2)) (tVar 6)))))))
def t__law_row (K : PySem.W.Frag) (E : XK) : TS :=
  tSeq (tAsg (tCl (sp13__law_whole K) (fun _ => E) (tCons (tVar 1) (tNil))) (gName 5)) (tSeq (tAsg (tLst (tNil)) (gName 6)) (tSeq (tAsg (tCl (sp13__law_take K) (fun _ => E) (tCons (tVar 0) (tCons (tC (.int 8)) (tNil)))) (gName 7)) (tSeq (tAsg (tOp (rIx K) (tLst (tCons (tC (.str "")) (tCons (tC (.str "saving")) (tCons (tC (.str "guarded")) (tCons (tC (.str "checked")) (tNil)))))) (tCl (sp13__law_take K) (fun _ => E) (tCons (tVar 0) (tCons (tC (.int 4)) (tNil))))) (gName 8)) (tSeq (tAsg (tCl (sp12__law_path K) (fun _ => E) (tCons (tVar 0) (tCons (tCB rMin2A (tCons (tVar 1) (tCons (tC (.int 6)) (tNil)))) (tNil)))) (gName 9)) (tSeq (tFor (iRng1 (tCons (tCB rMax2A (tCons (tVar 3) (tCons (tCB (rLenA K) (tCons (tVar 9) (tNil))) (tNil)))) (tNil))) (gName 10) (tIfS (tTest (tOp rGtA (tVar 1) (tC (.int 0)))) (tSeq (tAsg (tC (.str "")) (gName 11)) (tSeq (tIfS (tTest (tOp rGeA (tVar 10) (tVar 7))) (tAsg (tVar 8) (gName 11)) (tNext)) (tSeq (tIfS (tTest (tOp rLtA (tVar 10) (tCB (rLenA K) (tCons (tVar 9) (tNil))))) (tAsg (tOp rAddA (tVar 2) (tOp (rIx K) (tVar 9) (tVar 10))) (gName 12)) (tAsg (tCl (sp12__law_steered K) (fun _ => E) (tCons (tVar 0) (tCons (tVar 5) (tCons (tVar 2) (tCons (tVar 4) (tCons (tVar 11) (tNil))))))) (gName 12))) (tSeq (tDrop (tBM K "list" rAppend (tVar 6) (tCons (tCl (sp__law_operation K) (fun _ => E) (tCons (tVar 5) (tCons (tVar 12) (tNil)))) (tNil)))) (tAsg (tCl (sp13__law_moved K) (fun _ => E) (tCons (tVar 5) (tCons (tVar 12) (tNil)))) (gName 5)))))) (tNext))) (tRet (tVar 6)))))))
def t__law_spoilt (K : PySem.W.Frag) (E : XK) : TS :=
  tSeq (tAsg (tCl (sp13__law_take K) (fun _ => E) (tCons (tVar 0) (tCons (tOp rAddA (tCB (rLenA K) (tCons (tVar 2) (tNil))) (tC (.int 1))) (tNil)))) (gName 3)) (tSeq (tAsg (tOp rAddA (tOp rAddA (tVar 1) (tC (.int 1))) (tCl (sp13__law_take K) (fun _ => E) (tCons (tVar 0) (tCons (tC (.int 9)) (tNil))))) (gName 4)) (tSeq (tAsg (tCl (sp13__law_take K) (fun _ => E) (tCons (tVar 0) (tCons (tC (.int 8)) (tNil)))) (gName 5)) (tSeq (tAsg (tOp (rIx K) (tLst (tCons (tC (.int 0)) (tCons (tVar 4) (tCons (tUn rNegA (tVar 4)) (tCons (tOp rAddA (tOp rPowA (tC (.int 10)) (tC (.int 9))) (tVar 4)) (tNil)))))) (tOp rModA (tVar 5) (tC (.int 4)))) (gName 6)) (tSeq (tIfS (tAnd (tTest (tOp rGtA (tVar 5) (tC (.int 3)))) (tTest (tOp rGtA (tVar 1) (tC (.int 0))))) (tSeq (tAsg (tOp rAddA (tC (.int 1)) (tCl (sp13__law_take K) (fun _ => E) (tCons (tVar 0) (tCons (tVar 1) (tNil))))) (gName 6)) (tIfS (tTest (tOp rGtA (tVar 3) (tC (.int 0)))) (tAsg (tOp (rIx K) (tVar 2) (tOp rSubA (tVar 3) (tC (.int 1)))) (gName 6)) (tNext))) (tNext)) (tRet (tOp rAddA (tOp rAddA (tSl (rSlL K) (tVar 2) (tNoPart) (tPart (tVar 3))) (tLst (tCons (tVar 6) (tNil)))) (tSl (rSlL K) (tVar 2) (tPart (tVar 3)) (tNoPart))))))))
def t__law_run (K : PySem.W.Frag) (E : XK) : TS :=
  tSeq (tAsg (tOp (rEqA K) (tCl (sp13__law_take K) (fun _ => E) (tCons (tVar 0) (tCons (tC (.int 16)) (tNil)))) (tC (.int 0))) (gName 1)) (tSeq (tAsg (tOp (rIx K) (tLst (tCons (tC (.int 0)) (tCons (tC (.int 1)) (tCons (tC (.int 2)) (tCons (tC (.int 3)) (tCons (tC (.int 3)) (tCons (tC (.int 4)) (tCons (tC (.int 4)) (tCons (tC (.int 5)) (tCons (tC (.int 5)) (tCons (tC (.int 6)) (tNil)))))))))))) (tCl (sp13__law_take K) (fun _ => E) (tCons (tVar 0) (tCons (tC (.int 10)) (tNil))))) (gName 2)) (tSeq (tAsg (tCl (sp13__law_take K) (fun _ => E) (tCons (tVar 0) (tCons (tC (.int 15)) (tNil)))) (gName 3)) (tSeq (tIfS (tB (tVar 1)) (tSeq (tAsg (tOp rAddA (tC (.int 7)) (tCl (sp13__law_take K) (fun _ => E) (tCons (tVar 0) (tCons (tC (.int 54)) (tNil))))) (gName 2)) (tAsg (tOp rAddA (tVar 3) (tCl (sp13__law_take K) (fun _ => E) (tCons (tVar 0) (tCons (tC (.int 11)) (tNil))))) (gName 3))) (tNext)) (tSeq (tAsg (tCl (sp13__law_take K) (fun _ => E) (tCons (tVar 0) (tCons (tCB rMax2A (tCons (tC (.int 1)) (tCons (tOp rSubA (tVar 2) (tC (.int 5))) (tNil)))) (tNil)))) (gName 4)) (tSeq (tAsg (tCl (sp12__law_row K) (fun _ => E) (tCons (tVar 0) (tCons (tVar 2) (tCons (tVar 4) (tCons (tVar 3) (tCons (tOp (rIx K) (tCl (sp13__law_words K) (fun _ => E) tNil) (tCl (sp13__law_take K) (fun _ => E) (tCons (tVar 0) (tCons (tC (.int 4)) (tNil))))) (tNil))))))) (gName 5)) (tSeq (tIfS (tTest (tOp (rEqA K) (tCl (sp13__law_take K) (fun _ => E) (tCons (tVar 0) (tCons (tC (.int 3)) (tNil)))) (tC (.int 0)))) (tSeq (tAsg (tCl (sp12__law_spoilt K) (fun _ => E) (tCons (tVar 0) (tCons (tVar 2) (tCons (tVar 5) (tNil))))) (gName 5)) (tIfS (tTest (tOp (rEqA K) (tCl (sp13__law_take K) (fun _ => E) (tCons (tVar 0) (tCons (tC (.int 2)) (tNil)))) (tC (.int 0)))) (tAsg (tCl (sp12__law_spoilt K) (fun _ => E) (tCons (tVar 0) (tCons (tVar 2) (tCons (tVar 5) (tNil))))) (gName 5)) (tNext))) (tNext)) (tRet (tTup (tCons (tVar 2) (tCons (tVar 5) (tNil)))))))))))
def t_law (K : PySem.W.Frag) (E : XK) : TS :=
  tSeq (tAsg (tCl (sp13__law_purse K) (fun _ => E) (tCons (tVar 0) (tNil))) (gName 1)) (tSeq (tFor (iRng1 (tCons (tC (.int 3)) (tNil))) (gName 2) (tSeq (tAsg (tCl (sp12__law_run K) (fun _ => E) (tCons (tVar 1) (tNil))) (gName 3)) (tSeq (tAsg (tOp (rIx K) (tVar 3) (tC (.int 0))) (gName 4)) (tSeq (tAsg (tOp (rIx K) (tVar 3) (tC (.int 1))) (gName 5)) (tSeq (tIfS (tNot (tB (tCl (sp12__law_judged K) (fun _ => E) (tCons (tVar 4) (tCons (tVar 5) (tNil)))))) (tRet (tC (.bl false))) (tNext)) (tSeq (tAsg (tOp (rIx K) (tCl (sp13__law_words K) (fun _ => E) tNil) (tCl (sp13__law_take K) (fun _ => E) (tCons (tVar 1) (tCons (tC (.int 4)) (tNil))))) (gName 6)) (tSeq (tAsg (tOp (rIx K) (tLst (tCons (tC (.str "")) (tCons (tC (.str "Free")) (tCons (tC (.str "frees")) (tCons (tC (.str "check")) (tCons (tC (.str " saving")) (tCons (tC (.str "guarded ")) (tNil)))))))) (tCl (sp13__law_take K) (fun _ => E) (tCons (tVar 1) (tCons (tC (.int 6)) (tNil))))) (gName 7)) (tSeq (tAsg (tOp (rIx K) (tLst (tCons (tOp rSubA (tUn rNegA (tC (.int 1))) (tCl (sp13__law_take K) (fun _ => E) (tCons (tVar 1) (tCons (tC (.int 50)) (tNil))))) (tCons (tOp rAddA (tC (.int 61)) (tCl (sp13__law_take K) (fun _ => E) (tCons (tVar 1) (tCons (tC (.int 50)) (tNil))))) (tNil)))) (tCl (sp13__law_take K) (fun _ => E) (tCons (tVar 1) (tCons (tC (.int 2)) (tNil))))) (gName 8)) (tFor (iRng1 (tCons (tC (.int 2)) (tNil))) (gName 9) (tSeq (tIfS (tTest (tOp (rNeA K) (tCl (sp12__law_headless K) (fun _ => E) (tCons (tVar 9) (tCons (tVar 8) (tCons (tVar 5) (tCons (tVar 6) (tNil)))))) (tTup (tCons (tC (.str "size")) (tCons (tC (.bl true)) (tCons (tVar 8) (tNil))))))) (tRet (tC (.bl false))) (tNext)) (tSeq (tIfS (tTest (tOp (rNeA K) (tCl (sp12__law_headless K) (fun _ => E) (tCons (tVar 9) (tCons (tVar 8) (tCons (tVar 5) (tCons (tVar 7) (tNil)))))) (tTup (tCons (tC (.str "size")) (tCons (tC (.bl true)) (tCons (tVar 8) (tNil))))))) (tRet (tC (.bl false))) (tNext)) (tIfS (tTest (tOp (rNeA K) (tCl (sp12__law_headless K) (fun _ => E) (tCons (tVar 9) (tCons (tVar 4) (tCons (tVar 5) (tCons (tVar 7) (tNil)))))) (tTup (tCons (tC (.str "text")) (tCons (tC (.bl true)) (tCons (tVar 7) (tNil))))))) (tRet (tC (.bl false))) (tNext))))))))))))) (tRet (tC (.bl true))))
end G
set_option Elab.async false
set_option linter.all false
set_option maxRecDepth 100000
set_option maxHeartbeats 1000000
namespace G
--#FAM KB
open PySem PySem.Spec PyProof.Rows L2
local macro_rules
  | `(tactic| walk_at "1") => `(tactic| first
    | with_reducible refine w_seq ?_
    | with_reducible refine w_asg ?_
    | with_reducible refine w_asgS ?_
    | with_reducible refine w_asf ?_
    | with_reducible refine w_drop ?_
    | with_reducible refine w_ret ?_
    | with_reducible refine w_if ?_
    | with_reducible refine w_not ?_
    | with_reducible refine w_and ?_
    | with_reducible refine w_or ?_
    | with_reducible refine w_test ?_
    | with_reducible refine w_tb ?_
    | with_reducible refine w_chain ?_
    | with_reducible refine w_op ?_
    | with_reducible refine w_un ?_
    | with_reducible refine w_andV ?_
    | with_reducible refine w_orV ?_
    | with_reducible refine w_notV ?_
    | with_reducible refine w_ifE ?_
    | with_reducible refine w_cons ?_
    | with_reducible refine w_nil ?_
    | with_reducible refine w_cb ?_
    | with_reducible refine w_cl ?_
    | with_reducible refine w_mt ?_
    | with_reducible refine w_fld ?_
    | with_reducible refine w_tupN ?_
    | with_reducible refine w_lstN ?_
    | with_reducible refine w_bm ?_
    | with_reducible refine w_bm0 ?_
    | with_reducible refine w_for ?_
    | with_reducible refine w_lc ?_
    | with_reducible refine w_iR1 ?_
    | with_reducible refine w_iR2 ?_
    | with_reducible refine w_iL ?_
    | with_reducible refine w_iT ?_
    | with_reducible refine w_iE ?_
    | with_reducible refine w_iZ ?_
    | with_reducible refine w_var (by with_unfolding_all rfl) ?_
    | with_reducible refine w_c ?_
    | with_reducible refine w_next ?_
    | with_reducible refine w_i0 ?_
    | with_reducible refine w_u1 ?_
    | with_reducible refine w_addI ?_
    | with_reducible refine w_eqI ?_
    | with_reducible refine w_eqS ?_
    | with_reducible refine w_eqB ?_
    | with_reducible refine w_neI ?_
    | with_reducible refine w_neS ?_
    | with_reducible refine w_neB ?_
    | with_reducible refine w_abs ?_
    | with_reducible refine w_intI ?_
    | with_reducible refine w_min2 ?_
    | with_reducible refine w_max2 ?_
    | with_reducible refine w_isN0 ?_
    | with_reducible refine w_isN1 ref_ne ?_
    | with_reducible refine w_isN1 int_ne ?_
    | with_reducible refine w_notN0 ?_
    | with_reducible refine w_notN1 ref_ne ?_
    | with_reducible refine w_notN1 int_ne ?_
    | with_reducible refine w_ex1 ?_
    | with_reducible refine w_n1 ?_
    | with_reducible refine w_n2 ?_
    | with_reducible refine w_tT ?_
    | with_reducible refine w_tF ?_
    | with_reducible refine w_nT ?_
    | with_reducible refine w_nF ?_
    | with_reducible refine w_rz ?_
    | with_reducible refine w_mkN ?_
    | with_reducible refine w_lrgN ?_
    | with_reducible refine w_rg1 ?_
    | with_reducible refine w_rg2 ?_
    | with_reducible refine w_sl ?_
    | with_reducible refine w_np ?_
    | with_reducible refine w_pt ?_
    | with_reducible refine w_tr ?_
    | with_reducible refine w_gn ?_
    | with_reducible refine w_yes ?_
    | with_reducible refine w_m1 ?_
    | with_reducible refine w_asu ?_
    | with_reducible refine w_exS ?_
    | with_reducible refine w_iS ?_
    | with_reducible refine w_g1 ?_
    | with_reducible refine w_gc ?_
    | with_reducible refine w_gt (SqT.of upd_same) rfl ?_)
local macro_rules
  | `(tactic| walk_at "g") => `(tactic| repeat walk_at "1")
local macro_rules
  | `(tactic| walk_at "j1") => `(tactic| first
    | with_reducible refine w_seqI ?_
    | walk_at "1")
local macro_rules
  | `(tactic| walk_at "j") => `(tactic| repeat walk_at "j1")
section
variable {K : PySem.W.Frag} {mg : Str → Option Value}
theorem len_Links_apply_at (K : PySem.W.Frag) : ∀ vs H Q E, sp_Links_apply_at K vs H Q E → vs.length = (["self", "operation", "index"] : List Str).length := by
  rintro vs H Q E ⟨_, _, _, _, _, _, _, rfl, _⟩
  rfl
theorem rd_Links_apply_at (T : Txt K mg) (vs : List V) (H : Hp) (Q : VK) (E : XK) (h : sp_Links_apply_at K vs H Q E) : t_Links_apply_at K E { nx := fun _ H' => Q .non H', rt := Q } (start ["self", "operation", "index", "node", "low", "high", "is_unlink"] vs) H := by
  obtain ⟨p, r, l, o, s, op, i, rfl, a, h1, h2⟩ := h
  unfold t_Links_apply_at
  walk_at "g"
  refine w_me a no_m ?_
  walk_at "g"
  refine ⟨p, r, l, o, s, op, i, rfl, a, fun ok => ?_, h2⟩
  have hi := ok.1
  obtain ⟨i1, i2⟩ := hi
  have w := a.wf
  obtain ⟨r1, r2⟩ := w.rb op.natAbs (by omega)
  obtain ⟨l1, l2⟩ := w.lb op.natAbs i1 (by omega)
  obtain ⟨pr, pl, po⟩ := a.pr
  walk_at "g"
  rw [natAbs_if]
  refine w_fL T.cl_Links T.na_Links__lefts a ?_
  walk_at "g"
  refine w_ixL (SqL.of a.hl) (at_I (by omega) (by rw [w.lL]; omega)) ?_
  walk_at "g"
  refine w_fR T.cl_Links T.na_Links__rights a ?_
  walk_at "g"
  refine w_ixL (SqL.of a.hr) (at_I (by omega) (by rw [w.lR]; omega)) ?_
  walk_at "g"
  have fin : ∀ x y : Int, x = (if op < 0 then gI s.R op.natAbs else (op.natAbs : Int)) → y = (if op < 0 then gI s.L op.natAbs else (op.natAbs : Int)) →
      Q .non (upd (upd (upd H r (.lst ((s.R.map V.int).set (gI s.L op.natAbs).toNat (.int x)))) l (.lst ((s.L.map V.int).set (gI s.R op.natAbs).toNat (.int y)))) o (.lst ((s.O.map V.bl).set op.natAbs (.bl (decide (op < 0)))))) := by
    intro x y ex ey
    refine h1 ok _ ((((Kp.refl _ H).trans (Kp.put (by simp))).trans (Kp.put (by simp))).trans (Kp.put (by simp))) ?_
    obtain ⟨dx, ob⟩ := a.ob
    rw [set_I, set_I, set_B]
    refine ⟨⟨dx, ?_⟩, ?_, ?_, ?_, a.rl, a.ro, a.lo, w.step ok.1⟩
    · rw [upd_ne po, upd_ne pl, upd_ne pr]
      exact ob
    · rw [upd_ne a.ro, upd_ne a.rl, upd_same, ex] <;> rfl
    · rw [upd_ne a.lo, upd_same, ey] <;> rfl
    · rw [upd_same] <;> rfl
  obtain ⟨dx, ob⟩ := a.ob
  have e1 : (op.natAbs : Int).toNat = op.natAbs := Int.toNat_natCast _
  have il : ixN (List.map V.int s.R).length (gI s.L op.natAbs) = some (gI s.L op.natAbs).toNat := ixN_pos (by omega) (by rw [List.length_map, w.lR]; omega)
  have ir : ixN (List.map V.int s.L).length (gI s.R op.natAbs) = some (gI s.R op.natAbs).toNat := ixN_pos (by omega) (by rw [List.length_map, w.lL]; omega)
  have io : ixN (List.map V.bl s.O).length (op.natAbs : Int) = some op.natAbs := by
    rw [ixN_pos (by omega) (by rw [List.length_map, w.lO]; omega), e1]
  rw [e1]
  refine w_iteD (fun c => ?_) (fun c => ?_)
  all_goals
    walk_at "g"
    refine w_oR T.cl_Links T.na_Links__rights ob ?_
    walk_at "g"
    refine w_setL a.hr il ?_
    walk_at "g"
    first
      | refine w_iteD (fun _ => ?_) (fun z => absurd c z)
      | refine w_iteD (fun z => absurd z c) (fun _ => ?_)
    walk_at "g"
    refine w_oL T.cl_Links T.na_Links__lefts (H := upd H r _) (by rw [upd_ne pr]; exact ob) ?_
    walk_at "g"
    refine w_setL (H := upd H r _) (by rw [upd_ne (Ne.symm a.rl)]; exact a.hl) ir ?_
    walk_at "g"
    refine w_oO T.cl_Links T.na_Links__out (H := upd (upd H r _) l _) (by rw [upd_ne pl, upd_ne pr]; exact ob) ?_
    walk_at "g"
    refine w_setL (H := upd (upd H r _) l _) (by rw [upd_ne (Ne.symm a.lo), upd_ne (Ne.symm a.ro)]; exact a.ho) io ?_
    walk_at "g"
  · exact fin _ _ (if_pos c).symm (if_pos c).symm
  · exact fin _ _ (if_neg c).symm (if_neg c).symm
theorem len_Links_apply (K : PySem.W.Frag) : ∀ vs H Q E, sp_Links_apply K vs H Q E → vs.length = (["self", "operation"] : List Str).length := by
  rintro vs H Q E ⟨_, _, _, _, _, _, rfl, _⟩
  rfl
theorem rd_Links_apply (T : Txt K mg) (vs : List V) (H : Hp) (Q : VK) (E : XK) (h : sp_Links_apply K vs H Q E) : t_Links_apply K E { nx := fun _ H' => Q .non H', rt := Q } (start ["self", "operation"] vs) H := by
  obtain ⟨p, r, l, o, s, op, rfl, a, h1, h2⟩ := h
  unfold t_Links_apply
  walk_at "g"
  refine w_me a no_m ?_
  walk_at "g"
  exact ⟨p, r, l, o, s, op, 0, rfl, a, h1, h2⟩
theorem len_Links_left (K : PySem.W.Frag) : ∀ vs H Q E, sp_Links_left K vs H Q E → vs.length = (["self", "node"] : List Str).length := by
  rintro vs H Q E ⟨_, _, _, _, _, _, rfl, _⟩
  rfl
theorem rd_Links_left (T : Txt K mg) (vs : List V) (H : Hp) (Q : VK) (E : XK) (h : sp_Links_left K vs H Q E) : t_Links_left K E { nx := fun _ H' => Q .non H', rt := Q } (start ["self", "node"] vs) H := by
  obtain ⟨p, r, l, o, s, v, rfl, a, h1, h2, h3⟩ := h
  unfold t_Links_left
  walk_at "g"
  refine w_iteD (fun c1 => ?_) (fun c1 => absurd (by omega) c1)
  walk_at "g"
  refine w_fS T.cl_Links T.na_Links_size a ?_
  walk_at "g"
  refine w_iteN (fun c1 => absurd (by omega) c1) (fun c1 => ?_)
  walk_at "g"
  refine w_fL T.cl_Links T.na_Links__lefts a ?_
  walk_at "g"
  refine w_ixL (SqL.of a.hl) (at_I (by omega) (by rw [a.wf.lL]; omega)) ?_
  exact h3
theorem len_Links_right (K : PySem.W.Frag) : ∀ vs H Q E, sp_Links_right K vs H Q E → vs.length = (["self", "node"] : List Str).length := by
  rintro vs H Q E ⟨_, _, _, _, _, _, rfl, _⟩
  rfl
theorem rd_Links_right (T : Txt K mg) (vs : List V) (H : Hp) (Q : VK) (E : XK) (h : sp_Links_right K vs H Q E) : t_Links_right K E { nx := fun _ H' => Q .non H', rt := Q } (start ["self", "node"] vs) H := by
  obtain ⟨p, r, l, o, s, v, rfl, a, h2, h3⟩ := h
  unfold t_Links_right
  walk_at "g"
  refine w_iteD (fun c1 => ?_) (fun c1 => absurd (by omega) c1)
  walk_at "g"
  refine w_fS T.cl_Links T.na_Links_size a ?_
  walk_at "g"
  refine w_iteN (fun c1 => absurd (by omega) c1) (fun c1 => ?_)
  walk_at "g"
  refine w_fR T.cl_Links T.na_Links__rights a ?_
  walk_at "g"
  refine w_ixL (SqL.of a.hr) (at_I (by omega) (by rw [a.wf.lR]; omega)) ?_
  exact h3
theorem len_gap_state (K : PySem.W.Frag) : ∀ vs H Q E, sp_gap_state K vs H Q E → vs.length = (["links", "gap"] : List Str).length := by
  rintro vs H Q E ⟨_, _, _, _, _, _, rfl, _⟩
  rfl
theorem rd_gap_state (T : Txt K mg) (vs : List V) (H : Hp) (Q : VK) (E : XK) (h : sp_gap_state K vs H Q E) : t_gap_state K E { nx := fun _ H' => Q .non H', rt := Q } (start ["links", "gap", "is_held_left", "is_held_right"] vs) H := by
  obtain ⟨p, r, l, o, s, g, rfl, a, h1, h2⟩ := h
  unfold t_gap_state
  walk_at "g"
  refine w_fS T.cl_Links T.na_Links_size a ?_
  walk_at "g"
  refine ⟨s.n, g, rfl, fun c => ?_, h2⟩
  obtain ⟨v, rfl⟩ : ∃ v : Nat, g = (v : Int) := ⟨g.toNat, by omega⟩
  walk_at "g"
  refine w_me a no_m ?_
  walk_at "g"
  refine ⟨p, r, l, o, s, v, rfl, a, by omega, ?_⟩
  walk_at "g"
  refine w_me a no_m ?_
  walk_at "g"
  refine ⟨p, r, l, o, s, v + 1, rfl, a, by omega, by omega, ?_⟩
  walk_at "g"
  have k := h1 c
  rw [Int.toNat_natCast] at k
  unfold stT at k
  refine w_iteD (fun c1 => ?_) (fun c1 => ?_)
  · rw [if_pos c1] at k
    walk_at "g"
    refine w_iteD (fun c2 => ?_) (fun c2 => ?_)
    · rw [if_pos c2] at k
      walk_at "g"
      exact k
    · rw [if_neg c2] at k
      walk_at "g"
      exact k
  · rw [if_neg c1] at k
    walk_at "g"
    refine w_iteD (fun c2 => ?_) (fun c2 => ?_)
    · rw [if_pos c2] at k
      walk_at "g"
      exact k
    · rw [if_neg c2] at k
      walk_at "g"
      exact k
theorem rg_nat (n : Nat) : rgV 0 (n : Int) = (rgI 0 n).map V.int := by
  unfold rgV rgI
  rw [show ((n : Int) - 0).toNat = n by omega, List.map_map] <;> rfl
theorem rg_one (n : Nat) : rgV 1 ((n : Int) + 1) = (rgI 1 n).map V.int := by
  unfold rgV rgI
  rw [show ((n : Int) + 1 - 1).toNat = n by omega, List.map_map] <;> rfl
theorem rg_one' (n : Nat) : rgV 1 ((n : Int) + 2) = (rgI 1 (n + 1)).map V.int := by
  rw [← rg_one (n + 1)]
  congr 1
theorem rg_nat' (n : Nat) : rgV 0 ((n : Int) + 1) = (rgI 0 (n + 1)).map V.int := by
  rw [← rg_nat (n + 1)] <;> rfl
theorem rep_flat {α : Type} (n : Nat) (x : α) : (List.replicate n [x]).flatten = List.replicate n x := by
  induction n with
  | zero => rfl
  | succ n ih => rw [List.replicate_succ, List.flatten_cons, ih, List.replicate_succ] <;> rfl
theorem rep_mapB (n : Nat) (x : Bool) : (List.replicate n x).map V.bl = List.replicate n (V.bl x) := by rw [List.map_replicate]
theorem putF_len (f : Str) (v : V) : ∀ fs : List (Str × V), (putF f v fs).length ≤ fs.length + 1
  | [] => Nat.le_refl _
  | (g, w) :: fs => by
    have ih := putF_len f v fs
    unfold putF
    split
    · exact Nat.le_succ _
    · exact Nat.succ_le_succ ih
theorem pl1 (a : Str) (x : V) : (putF a x []).length < 1000 := Nat.lt_of_le_of_lt (putF_len _ _ _) (Nat.le_of_ble_eq_true rfl)
theorem pl2 (a b : Str) (x y : V) : (putF b y (putF a x [])).length < 1000 := Nat.lt_of_le_of_lt (putF_len _ _ _) (by
  have := putF_len a x []
  show (putF a x []).length + 1 < 1000
  have e : ([] : List (Str × V)).length = 0 := rfl
  omega)
theorem pl3 (a b c : Str) (x y z : V) : (putF c z (putF b y (putF a x []))).length < 1000 := Nat.lt_of_le_of_lt (putF_len _ _ _) (by
  have h1 := putF_len b y (putF a x [])
  have h2 := putF_len a x []
  have e : ([] : List (Str × V)).length = 0 := rfl
  omega)
theorem len_Links___init__ (K : PySem.W.Frag) : ∀ vs H Q E, sp_Links___init__ K vs H Q E → vs.length = (["self", "size"] : List Str).length := by
  rintro vs H Q E ⟨_, _, _, rfl, _⟩
  rfl
theorem rd_Links___init__ (T : Txt K mg) (vs : List V) (H : Hp) (Q : VK) (E : XK) (h : sp_Links___init__ K vs H Q E) : t_Links___init__ K E { nx := fun _ H' => Q .non H', rt := Q } (start ["self", "size"] vs) H := by
  obtain ⟨p, dx, size, rfl, hp, h1, h2⟩ := h
  unfold t_Links___init__
  walk_at "g"
  refine ⟨size, rfl, fun ok => ?_, h2⟩
  have h1 := h1 ok
  obtain ⟨ok1, ok2⟩ := ok
  obtain ⟨n, rfl⟩ : ∃ n : Nat, size = (n : Int) := ⟨size.toNat, by omega⟩
  rw [Int.toNat_natCast] at h1
  walk_at "g"
  refine w_sT T.cl_Links T.na_Links_size hp (by decide) fun H1 k1 p1 => ?_
  walk_at "g"
  refine ⟨.of_le (by omega) (by omega) (by omega) (by omega), nw fun r H2 nr k2 hr => ?_⟩
  walk_at "g"
  have pr : p ≠ r := ne_of_none p1 nr
  refine w_sT T.cl_Links T.na_Links__rights (k2.at0 p1) (pl1 _ _) fun H3 k3 p3 => ?_
  have hr3 := k3.at1 (Ne.symm pr) hr
  walk_at "g"
  refine ⟨sz_ok (by show 1 ≤ 1000000; omega), nw fun z H4 nz k4 hz => ?_⟩
  walk_at "g"
  refine ⟨.of_le (by omega) (by omega) (by omega) (by omega), nw fun l0 H5 nl0 k5 hl0 => ?_⟩
  walk_at "g"
  refine w_addLN (k5.at0 hz) hl0 (by rw [rgV_length]; exact sz_ok (by show 1 + _ ≤ _; omega)) fun l H6 nl k6 hl => ?_
  have k46 := (k4.trans k5).trans k6
  walk_at "g"
  have pl : p ≠ l := ne_of_none (k5.at0 (k4.at0 p3)) nl
  have rl : r ≠ l := ne_of_none (k5.at0 (k4.at0 hr3)) nl
  refine w_sT T.cl_Links T.na_Links__lefts (k46.at0 p3) (pl2 _ _ _ _) fun H7 k7 p7 => ?_
  have hr7 := k7.at1 (Ne.symm pr) (k46.at0 hr3)
  have hl7 := k7.at1 (Ne.symm pl) hl
  walk_at "g"
  refine ⟨sz_ok (by show 1 ≤ 1000000; omega), nw fun z2 H8 nz2 k8 hz2 => ?_⟩
  walk_at "g"
  refine w_mulLN hz2 (by omega) (by omega) (sz_ok (by show 1 * _ ≤ _; omega)) fun o H9 no k9 ho => ?_
  walk_at "g"
  have po : p ≠ o := ne_of_none (k8.at0 p7) no
  have ro : r ≠ o := ne_of_none (k8.at0 hr7) no
  have lo : l ≠ o := ne_of_none (k8.at0 hl7) no
  have k89 := k8.trans k9
  refine w_sT T.cl_Links T.na_Links__out (k89.at0 p7) (pl3 _ _ _ _ _ _) fun Hx kx px => ?_
  have k03 : Kp [p] H H3 := k1.trans (k2.all.trans k3)
  have k07 : Kp [p] H H7 := k03.trans (k46.all.trans k7)
  have k0x : Kp [p] H Hx := k07.trans (k89.all.trans kx)
  have mp : ∀ b, H b = none → H3 b = none → True := fun _ _ _ => trivial
  refine h1 r l o Hx (k1.free (by simpa using Ne.symm pr) nr) ?_ ?_ k0x ⟨⟨dx, px⟩, ?_, ?_, ?_, rl, ro, lo, .whole (by omega)⟩
  · exact (k03.trans (k4.trans k5).all).free (by simpa using Ne.symm pl) nl
  · exact (k07.trans k8.all).free (by simpa using Ne.symm po) no
  · rw [kx.at1 (Ne.symm pr) (k89.at0 hr7), rg_one'] <;> rfl
  · rw [kx.at1 (Ne.symm pl) (k89.at0 hl7), rg_nat'] <;> rfl
  · rw [kx.at1 (Ne.symm po) ho, show ((n : Int) + 2).toNat = n + 2 by omega, rep_flat, ← rep_mapB] <;> rfl
theorem Kp.cut {S S' : List Addr} {H H' : Hp} (k : Kp S H H') (h : ∀ b ∈ S, b ∈ S' ∨ H b = none) : Kp S' H H' := fun b o n e => k b o (fun z => by
  rcases h b z with q | q
  · exact n q
  · rw [q] at e
    cases e) e
theorem Kp.cut1 {H H' : Hp} {p : Addr} (k : Kp [p] H H') (h : H p = none) : Kp [] H H' := k.cut (by simp [h])
theorem at_map {α : Type} {f : α → V} {l : List α} {i : Nat} {x : V} (h : (l.map f)[i]? = some x) : ∃ y, l[i]? = some y ∧ f y = x := by
  rw [List.getElem?_map] at h
  cases e : l[i]? with
  | none => rw [e] at h; cases h
  | some y => rw [e] at h; exact ⟨y, rfl, by injection h⟩
theorem take_snoc {α : Type} {l : List α} {i : Nat} {x : α} (h : l[i]? = some x) : l.take (i + 1) = l.take i ++ [x] := by
  rw [List.take_succ, h] <;> rfl
theorem w_isx {H : Hp} {Q : VK} {D dd a : Addr} {fs : List (Str × V)} {c : V} {u : Value} {r : Bool} (hd : H dd = some (.xd fs)) (ex : ExK K D) (k : ClsV c u) (q : PySem.W.kitOne K (.ref D) u = some r) (g : Q (.bl r) H) : rIsX K (.ref D) (some dd) a [.ref a, c] H Q := ⟨D, dd, fs, c, u, r, rfl, rfl, hd, ex, rfl, k, q, g⟩
theorem w_xat {σ : L2.St} {H : Hp} {Q : VK} {D dd a : Addr} {fs : List (Str × V)} {v : V} {f : Str} {te : TE} (hv : ∀ Q, Q (.ref a) H → te σ H Q) (hd : H dd = some (.xd fs)) (ex : ExK K D) (hf : PySem.W.findIn K (.ref D) f = some none) (hl : fs.lookup f = some v) (g : Q v H) : tXat K a (.ref D) (some dd) f te σ H Q := hv _ ⟨D, dd, fs, v, rfl, rfl, hd, ex, rfl, hf, hl, g⟩
theorem lk1 (f : Str) (v : V) (r : List (Str × V)) : ((f, v) :: r).lookup f = some v := by
  simp [List.lookup]
theorem lk_op (i o : V) : ([(("index" : Str), i), ("operation", o)] : List (Str × V)).lookup ("operation" : Str) = some o := by
  have : (("operation" : Str) == ("index" : Str)) = false := by decide +kernel
  simp [List.lookup, this]
theorem len_Links_outs (K : PySem.W.Frag) : ∀ vs H Q E, sp_Links_outs K vs H Q E → vs.length = (["self"] : List Str).length := by
  rintro vs H Q E ⟨_, _, _, _, _, rfl, _⟩
  rfl
theorem rd_Links_outs (T : Txt K mg) (vs : List V) (H : Hp) (Q : VK) (E : XK) (h : sp_Links_outs K vs H Q E) : t_Links_outs K E { nx := fun _ H' => Q .non H', rt := Q } (start ["self", "node"] vs) H := by
  obtain ⟨p, r, l, o, s, rfl, a, g⟩ := h
  unfold t_Links_outs
  have n60 := a.wf.n60
  walk_at "g"
  refine w_fS T.cl_Links T.na_Links_size a ?_
  walk_at "g"
  refine w_r2 (by omega) ?_
  rw [show ((s.n : Int) + 1 - 1).toNat = s.n by omega]
  refine cp_rng (fun i => (outN i s.O).map V.int) (fun i hi => sz_lt (by
    rw [List.length_map]
    have := outN_len i s.O
    omega)) rfl (fun i H' S N hi k y no => ?_) (fun D H' nD k hD => g D H' nD k hD)
  walk_at "g"
  refine ⟨rfl, ?_⟩
  walk_at "g"
  refine w_fO T.cl_Links T.na_Links__out (a.k0 k) ?_
  walk_at "g"
  refine w_ixL (SqL.of (k.at0 a.ho)) (at_B (by omega) (by rw [a.wf.lO]; omega)) ?_
  walk_at "g"
  rw [show ((1 : Int) + (i : Int)).toNat = i + 1 by omega]
  refine w_iteB (fun c1 => ?_) (fun c1 => ?_)
  · walk_at "g"
    refine y _ _ (Kp.refl _ _) ?_
    unfold outN
    rw [List.range_succ, List.map_append, List.filter_append, List.map_append, List.map_append]
    congr 1
    show (([i + 1].filter fun v => gB s.O v).map _).map _ = _
    rw [List.filter_cons_of_pos c1]
    show [V.int ((i + 1 : Nat) : Int)] = [V.int (1 + (i : Int))]
    rw [Int.add_comm] <;> rfl
  · refine no _ (Kp.refl _ _) ?_
    unfold outN
    rw [List.range_succ, List.map_append, List.filter_append, List.map_append, List.map_append]
    show _ ++ (([i + 1].filter fun v => gB s.O v).map _).map _ = _
    rw [List.filter_cons_of_neg (by rw [c1]; exact Bool.false_ne_true)]
    exact List.append_nil _
theorem num9_of {l : List Int} (h : ∀ v, v < l.length → 0 ≤ gI l v ∧ gI l v ≤ 100) : Num9 l := by
  intro i hi
  obtain ⟨j, hj⟩ := List.getElem?_of_mem hi
  have := h j (List.getElem?_eq_some_iff.mp hj).1
  rw [gI_of hj] at this
  omega
theorem outN_9 {n : Nat} (h : n ≤ 60) (O : List Bool) : Num9 (outN n O) := fun i hi => by
  have := outN_bd hi
  omega
theorem log_ok {i : Int} (h : 0 ≤ i) (h2 : i < 1000000000) : i.natAbs.log2 < 1920 := by
  by_cases z : i.natAbs = 0
  · rw [z]
    decide
  · rw [Nat.log2_lt z]
    exact Nat.lt_of_lt_of_le (show i.natAbs < 2 ^ 30 by omega) (Nat.pow_le_pow_right (by decide) (by decide))
theorem len__joined (K : PySem.W.Frag) : ∀ vs H Q E, sp__joined K vs H Q E → vs.length = (["numbers"] : List Str).length := by
  rintro vs H Q E ⟨_, _, rfl, _⟩
  rfl
theorem rd__joined (T : Txt K mg) (vs : List V) (H : Hp) (Q : VK) (E : XK) (h : sp__joined K vs H Q E) : t__joined K E { nx := fun _ H' => Q .non H', rt := Q } (start ["numbers", "number"] vs) H := by
  obtain ⟨a, l, rfl, ha, h9, hl, g⟩ := h
  unfold t__joined
  walk_at "g"
  refine w_l1 ha ?_
  refine cp_lst ha (fun j => (l.take j).map fun i => V.str (numI i)) (fun j hj => sz_lt (by rw [List.length_map, List.length_take]; omega)) rfl (fun j x H' S N hx k y _ => ?_) (fun D H1 nD k1 hD => ?_)
  · obtain ⟨v, hv, rfl⟩ := at_map hx
    have b := h9 v (List.mem_of_getElem? hv)
    walk_at "g"
    refine ⟨rfl, ?_⟩
    walk_at "g"
    refine w_str (log_ok b.1 b.2) ?_
    exact y _ _ (Kp.refl _ _) (map_snoc (f := fun i => V.str (numI i)) hv)
  · rw [List.length_map, List.take_length] at hD
    have e : (l.map fun i => V.str (numI i)) = (l.map numI).map V.str := by rw [List.map_map] <;> rfl
    rw [e] at hD
    exact w_joinL (SqL.of hD) (join_cost h9 (by omega)) (g H1 k1)
theorem outsT_len {l : List Int} (h : Num9 l) : (outsT l).length ≤ 10 * l.length + 4 := by
  unfold outsT
  split
  · have : noneS.length = 4 := by decide +kernel
    omega
  · have := joinI_len h
    omega
theorem len_dump_of (K : PySem.W.Frag) : ∀ vs H Q E, sp_dump_of K vs H Q E → vs.length = (["rights", "lefts", "outs"] : List Str).length := by
  rintro vs H Q E ⟨_, _, _, _, _, _, rfl, _⟩
  rfl
theorem rd_dump_of (T : Txt K mg) (vs : List V) (H : Hp) (Q : VK) (E : XK) (h : sp_dump_of K vs H Q E) : t_dump_of K E { nx := fun _ H' => Q .non H', rt := Q } (start ["rights", "lefts", "outs"] vs) H := by
  obtain ⟨r, l, o, R, L, O, rfl, hr, hl, ho, ⟨R9, Rl⟩, ⟨L9, Ll⟩, ⟨O9, Ol⟩, g⟩ := h
  unfold t_dump_of
  walk_at "g"
  refine ⟨r, R, rfl, hr, R9, Rl, fun H1 k1 => ?_⟩
  walk_at "g"
  refine ⟨l, L, rfl, k1.sql (by simp) hl, L9, Ll, fun H2 k2 => ?_⟩
  walk_at "g"
  have ho2 := (k1.trans k2).sql (by simp) ho
  refine w_truL ho2 ?_
  have R10 := joinI_len R9
  have L10 := joinI_len L9
  have O10 := outsT_len O9
  have cost : ([joinI R, joinI L, outsT O].map (·.length)).sum + [joinI R, joinI L, outsT O].length * (" | " : Str).length ≤ 16777216 := by
    have e : (" | " : Str).length = 3 := by decide +kernel
    rw [e]
    show (joinI R).length + ((joinI L).length + ((outsT O).length + 0)) + 3 * 3 ≤ _
    omega
  cases O with
  | nil =>
    have eo : outsT [] = ("none" : Str) := if_pos rfl
    refine w_tF (A := _) ?_
    walk_at "g"
    refine ⟨sz_ok (by show 3 ≤ 1000000; omega), nw fun q H4 nq k4 hq => ?_⟩
    rw [eo] at g cost
    exact w_joinL (ss := [joinI R, joinI L, ("none" : Str)]) (SqL.of hq) cost (g H4 ((k1.trans k2).trans k4))
  | cons a t =>
    have eo : outsT (a :: t) = joinI (a :: t) := if_neg (by simp)
    refine w_tT (B := _) ?_
    walk_at "g"
    refine ⟨o, a :: t, rfl, ho2, O9, Ol, fun H3 k3 => ?_⟩
    walk_at "g"
    refine ⟨sz_ok (by show 3 ≤ 1000000; omega), nw fun q H4 nq k4 hq => ?_⟩
    rw [eo] at g cost
    exact w_joinL (ss := [joinI R, joinI L, joinI (a :: t)]) (SqL.of hq) cost (g H4 (((k1.trans k2).trans k3).trans k4))
theorem Wf.R9 {s : Sd} (w : Wf s) : Num9 s.R ∧ s.R.length ≤ 100 := by
  have n60 := w.n60
  have lR := w.lR
  refine ⟨num9_of fun v hv => ?_, by omega⟩
  have := w.rb v (by omega)
  omega
theorem Wf.L9 {s : Sd} (w : Wf s) : Num9 (s.L.drop 1) ∧ (s.L.drop 1).length ≤ 100 := by
  have n60 := w.n60
  have lL := w.lL
  have ll : (s.L.drop 1).length = s.n + 1 := by rw [List.length_drop]; omega
  refine ⟨num9_of fun v hv => ?_, by omega⟩
  have e : gI (s.L.drop 1) v = gI s.L (v + 1) := by
    unfold gI
    rw [List.getD_eq_getElem?_getD, List.getD_eq_getElem?_getD, List.getElem?_drop, Nat.add_comm]
  have := w.lb (v + 1) (by omega) (by omega)
  rw [e]
  omega
theorem len_Links_dump (K : PySem.W.Frag) : ∀ vs H Q E, sp_Links_dump K vs H Q E → vs.length = (["self"] : List Str).length := by
  rintro vs H Q E ⟨_, _, _, _, _, rfl, _⟩
  rfl
theorem rd_Links_dump (T : Txt K mg) (vs : List V) (H : Hp) (Q : VK) (E : XK) (h : sp_Links_dump K vs H Q E) : t_Links_dump K E { nx := fun _ H' => Q .non H', rt := Q } (start ["self"] vs) H := by
  obtain ⟨p, r, l, o, s, rfl, a, g⟩ := h
  unfold t_Links_dump
  have n60 := a.wf.n60
  have lL := a.wf.lL
  walk_at "g"
  refine w_fR T.cl_Links T.na_Links__rights a ?_
  walk_at "g"
  refine w_fL T.cl_Links T.na_Links__lefts a ?_
  walk_at "g"
  refine w_slL (SqL.of a.hl) fun q H1 nq k1 hq => ?_
  have e1 : cutV (s.L.map V.int) (some 1) none = (s.L.map V.int).drop 1 := cut_drop _ 1 (by rw [List.length_map]; omega)
  rw [e1, ← List.map_drop] at hq
  walk_at "g"
  have a1 := a.k0 k1
  refine w_me a1 no_m ?_
  walk_at "g"
  refine ⟨p, r, l, o, s, rfl, a1, fun u H2 nu k2 hu => ?_⟩
  walk_at "g"
  exact ⟨r, q, u, s.R, _, _, rfl, SqL.of (k2.at0 a1.hr), SqL.of (k2.at0 hq), SqL.of hu, a.wf.R9, a.wf.L9, ⟨outN_9 n60 s.O, by have := outN_len s.n s.O; omega⟩, fun H3 k3 => g H3 ((k1.trans k2).trans k3)⟩
theorem w_isiI {H : Hp} {Q : VK} {i : Int} {t : String} {r : Bool} (h : kitB "int" t = some r) (g : Q (.bl r) H) : rIsi K [.int i, .ty t] H Q := ⟨_, _, _, _, r, rfl, .ty t, .base (.int i), kit_ty h, g⟩
theorem len_Links_is_out (K : PySem.W.Frag) : ∀ vs H Q E, sp03_Links_is_out K vs H Q E → vs.length = (["self", "node"] : List Str).length := by
  rintro vs H Q E ⟨_, _, _, _, _, _, rfl, _⟩
  rfl
theorem rd_Links_is_out (T : Txt K mg) (vs : List V) (H : Hp) (Q : VK) (E : XK) (h : sp03_Links_is_out K vs H Q E) : t_Links_is_out K E { nx := fun _ H' => Q .non H', rt := Q } (start ["self", "node"] vs) H := by
  obtain ⟨p, r, l, o, s, v, rfl, a, h2, h3⟩ := h
  unfold t_Links_is_out
  walk_at "g"
  refine w_iteD (fun c1 => ?_) (fun c1 => absurd (by omega) c1)
  walk_at "g"
  refine w_fS T.cl_Links T.na_Links_size a ?_
  walk_at "g"
  refine w_iteN (fun c1 => absurd (by omega) c1) (fun c1 => ?_)
  walk_at "g"
  refine w_fO T.cl_Links T.na_Links__out a ?_
  walk_at "g"
  refine w_ixL (SqL.of a.ho) (at_B (by omega) (by rw [a.wf.lO]; omega)) ?_
  exact h3
theorem cut_takeI (l : List Int) (k : Nat) (h : k ≤ l.length) : cutV (l.map V.int) none (some (k : Int)) = (l.take k).map V.int := by
  rw [cut_take _ _ (by rw [List.length_map]; exact h), List.map_take]
theorem len_foreign_writes (K : PySem.W.Frag) : ∀ vs H Q E, sp_foreign_writes K vs H Q E → vs.length = (["links", "operation"] : List Str).length := by
  rintro vs H Q E ⟨_, _, _, _, _, _, rfl, _⟩
  rfl
theorem rd_foreign_writes (T : Txt K mg) (vs : List V) (H : Hp) (Q : VK) (E : XK) (h : sp_foreign_writes K vs H Q E) : t_foreign_writes K E { nx := fun _ H' => Q .non H', rt := Q } (start ["links", "operation", "node", "low", "high", "written"] vs) H := by
  obtain ⟨p, r, l, o, s, op, rfl, a, g, bad⟩ := h
  unfold t_foreign_writes
  walk_at "g"
  refine w_me a no_m ?_
  walk_at "g"
  refine ⟨p, r, l, o, s, op, 0, rfl, a, fun ok => ?_, bad⟩
  have g := g ok
  have wf := a.wf
  have n60 := wf.n60
  obtain ⟨v1, v2⟩ := ok.1
  generalize ev : op.natAbs = v at v1 v2 g
  obtain ⟨r1, r2⟩ := wf.rb v (by omega)
  obtain ⟨l1, l2⟩ := wf.lb v (by omega) (by omega)
  obtain ⟨lo, elo⟩ : ∃ lo : Nat, gI s.L v = (lo : Int) := ⟨(gI s.L v).toNat, by omega⟩
  obtain ⟨hi, ehi⟩ : ∃ hi : Nat, gI s.R v = (hi : Int) := ⟨(gI s.R v).toNat, by omega⟩
  walk_at "g"
  rw [natAbs_if, ev]
  refine w_me a no_m ?_
  walk_at "g"
  refine ⟨p, r, l, o, s, v, rfl, a, v1, by omega, ?_⟩
  walk_at "g"
  rw [elo]
  refine w_me a no_m ?_
  walk_at "g"
  refine ⟨p, r, l, o, s, v, rfl, a, v2, ?_⟩
  rw [ehi]
  walk_at "j"
  refine ⟨sz_ok (Nat.zero_le _), nw fun q H1 nq k1 hq => ?_⟩
  walk_at "j"
  unfold forW at g
  rw [elo, ehi, Int.toNat_natCast, Int.toNat_natCast] at g
  generalize e1 : (if (lo : Int) ≠ (v : Int) - 1 ∧ gI s.R lo = (lo : Int) + 1 then [(lo : Int)] else []) = g1 at g
  generalize e2 : (if (hi : Int) ≠ (v : Int) + 1 ∧ gI s.L hi = (hi : Int) - 1 then [(hi : Int) - 1] else []) = g2 at g
  have l1' : g1.length ≤ 1 := by rw [← e1]; split <;> simp
  have fin : ∀ H', Kp [q] H1 H' → H' q = some (.lst ((g1 ++ g2).map V.int)) → Q (.ref q) H' := fun H' k h => g q H' nq (k1.all.trans k |>.cut1 nq) h
  have pq : p ≠ q := by
    obtain ⟨dx, ob⟩ := a.ob
    exact ne_of_none ob nq
  have a1 := a.k0 k1
  refine w_ifK (fun H' => Kp [q] H1 H' ∧ H' q = some (.lst (g1.map V.int))) (fun N hN => ?_) (fun H2 ⟨k2, hq2⟩ => ?_)
  · walk_at "g"
    refine w_iteN (fun c1 => ?_) (fun c1 => ?_)
    · walk_at "g"
      refine w_me a1 no_m ?_
      walk_at "g"
      refine ⟨p, r, l, o, s, lo, rfl, a1, by omega, ?_⟩
      walk_at "g"
      refine w_iteD (fun c2 => ?_) (fun c2 => ?_)
      · walk_at "g"
        refine ⟨w_ty (SqL.of hq), ?_⟩
        walk_at "g"
        refine w_apT hq (sz_lt (by show 0 < 1000000; omega)) fun H2 k2 hq2 => ?_
        refine hN _ ⟨k2, ?_⟩
        rw [if_pos ⟨c1, c2⟩] at e1
        rw [hq2, ← e1] <;> rfl
      · walk_at "g"
        refine hN _ ⟨Kp.refl _ _, ?_⟩
        rw [if_neg (fun z => c2 z.2)] at e1
        rw [hq, ← e1] <;> rfl
    · walk_at "g"
      refine hN _ ⟨Kp.refl _ _, ?_⟩
      rw [if_neg (fun z => z.1 c1)] at e1
      rw [hq, ← e1] <;> rfl
  walk_at "j"
  have a2 : LinksAt K H2 p r l o s := a1.kp k2 (by simpa using pq) (by simpa using ne_of_none a.hr nq) (by simpa using ne_of_none a.hl nq) (by simpa using ne_of_none a.ho nq)
  refine w_ifK (fun H' => Kp [q] H1 H' ∧ H' q = some (.lst ((g1 ++ g2).map V.int))) (fun N hN => ?_) (fun H3 ⟨k3, hq3⟩ => ?_)
  · walk_at "g"
    refine w_iteN (fun c1 => ?_) (fun c1 => ?_)
    · walk_at "g"
      refine w_me a2 no_m ?_
      walk_at "g"
      refine ⟨p, r, l, o, s, hi, rfl, a2, by omega, by omega, ?_⟩
      walk_at "g"
      refine w_iteD (fun c2 => ?_) (fun c2 => ?_)
      · walk_at "g"
        refine ⟨w_ty (SqL.of hq2), ?_⟩
        walk_at "g"
        refine w_apT hq2 (sz_lt (by rw [List.length_map]; omega)) fun H3 k3 hq3 => ?_
        refine hN _ ⟨k2.trans k3, ?_⟩
        rw [if_pos ⟨c1, c2⟩] at e2
        rw [hq3, ← e2, List.map_append] <;> rfl
      · walk_at "g"
        refine hN _ ⟨k2, ?_⟩
        rw [if_neg (fun z => c2 z.2)] at e2
        rw [hq2, ← e2, List.append_nil]
    · walk_at "g"
      refine hN _ ⟨k2, ?_⟩
      rw [if_neg (fun z => z.1 c1)] at e2
      rw [hq2, ← e2, List.append_nil]
  walk_at "g"
  exact fin H3 k3 hq3
theorem PrsAt.kp {S : List Addr} {H H' : Hp} {xs : List V} {es : List (Nat × Str)} (h : PrsAt H xs es) (k : Kp S H H') (hS : ∀ b ∈ S, ∀ ys, H b ≠ some (.tup ys)) : PrsAt H' xs es := by
  refine ⟨h.1, fun i t e => ?_⟩
  obtain ⟨a, h1, h2⟩ := h.2 i t e
  exact ⟨a, h1, k _ _ (fun z => hS a z _ h2) h2⟩
theorem PrsAt.k0 {H H' : Hp} {xs : List V} {es : List (Nat × Str)} (h : PrsAt H xs es) (k : Kp [] H H') : PrsAt H' xs es := h.kp k (by simp)
theorem PrsAt.snoc {H : Hp} {xs : List V} {ts : List (Nat × Str)} {a : Addr} {t : Nat × Str} (h : PrsAt H xs ts) (ha : H a = some (.tup [.int (t.1 : Int), .str t.2])) : PrsAt H (xs ++ [.ref a]) (ts ++ [t]) := by
  refine ⟨by rw [List.length_append, List.length_append, h.1] <;> rfl, fun i u e => ?_⟩
  by_cases c : i < ts.length
  · rw [List.getElem?_append_left c] at e
    obtain ⟨b, h1, h2⟩ := h.2 i u e
    exact ⟨b, by rw [List.getElem?_append_left (by rw [h.1]; exact c)]; exact h1, h2⟩
  · have hl := (List.getElem?_eq_some_iff.mp e).1
    rw [List.length_append] at hl
    have ei : i = ts.length := by simp at hl; omega
    subst ei
    rw [List.getElem?_append_right (Nat.le_refl _), Nat.sub_self] at e
    have eu : t = u := by simpa using e
    subst eu
    exact ⟨a, by rw [List.getElem?_append_right (by rw [h.1]; exact Nat.le_refl _), h.1, Nat.sub_self] <;> rfl, ha⟩
theorem PrsAt.nil {H : Hp} : PrsAt H [] [] := ⟨rfl, fun i t e => by simp at e⟩
theorem len_Links_copy (K : PySem.W.Frag) : ∀ vs H Q E, sp_Links_copy K vs H Q E → vs.length = (["self"] : List Str).length := by
  rintro vs H Q E ⟨_, _, _, _, _, rfl, _⟩
  rfl
theorem rd_Links_copy (T : Txt K mg) (vs : List V) (H : Hp) (Q : VK) (E : XK) (h : sp_Links_copy K vs H Q E) : t_Links_copy K E { nx := fun _ H' => Q .non H', rt := Q } (start ["self", "twin"] vs) H := by
  obtain ⟨p, r, l, o, s, rfl, a, g⟩ := h
  unfold t_Links_copy
  walk_at "g"
  refine w_fS T.cl_Links T.na_Links_size a ?_
  walk_at "g"
  refine mk fun q dx H1 nq hq k1 => ?_
  refine ⟨q, dx, s.n, rfl, hq, fun ok r1 l1 o1 H2 nr1 nl1 no1 k2 b => ⟨rfl, ?_⟩, fun z => absurd ⟨by omega, by have := a.wf.n60; omega⟩ z⟩
  have a1 := a.k0 k1
  obtain ⟨dx1, ob1⟩ := a1.ob
  have qp : p ≠ q := by
    obtain ⟨dx0, ob⟩ := a.ob
    exact ne_of_none ob nq
  have qr : r ≠ q := ne_of_none a.hr nq
  have ql : l ≠ q := ne_of_none a.hl nq
  have qo : o ≠ q := ne_of_none a.ho nq
  have a2 := a1.kp k2 (by simpa using qp) (by simpa using qr) (by simpa using ql) (by simpa using qo)
  walk_at "g"
  refine w_fR T.cl_Links T.na_Links__rights a2 ?_
  walk_at "g"
  refine w_listLN (SqL.of a2.hr) fun r3 H3 nr3 k3 hr3 => ?_
  walk_at "g"
  have b3 := b.k0 k3
  obtain ⟨dx3, ob3⟩ := b3.ob
  refine w_sT T.cl_Links T.na_Links__rights ob3 (fl_len _ _ _ _) fun H4 k4 p4 => ?_
  rw [fl_putR] at p4
  have a4 := (a2.k0 k3).kp k4 (by simpa using qp) (by simpa using qr) (by simpa using ql) (by simpa using qo)
  walk_at "g"
  refine w_fL T.cl_Links T.na_Links__lefts a4 ?_
  walk_at "g"
  refine w_listLN (SqL.of a4.hl) fun l5 H5 nl5 k5 hl5 => ?_
  walk_at "g"
  refine w_sT T.cl_Links T.na_Links__lefts (k5.at0 p4) (fl_len _ _ _ _) fun H6 k6 p6 => ?_
  rw [fl_putL] at p6
  have a6 := (a4.k0 k5).kp k6 (by simpa using qp) (by simpa using qr) (by simpa using ql) (by simpa using qo)
  walk_at "g"
  refine w_fO T.cl_Links T.na_Links__out a6 ?_
  walk_at "g"
  refine w_listLN (SqL.of a6.ho) fun o7 H7 no7 k7 ho7 => ?_
  walk_at "g"
  refine w_sT T.cl_Links T.na_Links__out (k7.at0 p6) (fl_len _ _ _ _) fun H8 k8 p8 => ?_
  rw [fl_putO] at p8
  walk_at "g"
  have rq : r3 ≠ q := (ne_of_none b.ob.choose_spec nr3).symm
  have lq : l5 ≠ q := (ne_of_none p4 nl5).symm
  have oq : o7 ≠ q := (ne_of_none p6 no7).symm
  have hr4 := k4.at1 rq hr3
  have hr6 := k6.at1 rq (k5.at0 hr4)
  have hl6 := k6.at1 lq hl5
  have k02 : Kp [q] H H2 := k1.all.trans k2
  have k04 : Kp [q] H H4 := k02.trans (k3.all.trans k4)
  have k06 : Kp [q] H H6 := k04.trans (k5.all.trans k6)
  have k08 : Kp [q] H H8 := k06.trans (k7.all.trans k8)
  refine g q r3 l5 o7 H8 nq (k02.free (by simpa using rq) nr3) (k04.free (by simpa using lq) nl5) (k06.free (by simpa using oq) no7) (k08.cut1 nq) ⟨⟨dx3, p8⟩, k8.at1 rq (k7.at0 hr6), k8.at1 lq (k7.at0 hl6), k8.at1 oq ho7, ?_, ?_, ?_, a.wf⟩
  · exact ne_of_none hr4 nl5
  · exact ne_of_none hr6 no7
  · exact ne_of_none hl6 no7
theorem len_play (K : PySem.W.Frag) : ∀ vs H Q E, sp_play K vs H Q E → vs.length = (["links", "log"] : List Str).length := by
  rintro vs H Q E ⟨_, _, _, _, _, _, _, rfl, _⟩
  rfl
theorem rd_play (T : Txt K mg) (vs : List V) (H : Hp) (Q : VK) (E : XK) (h : sp_play K vs H Q E) : t_play K E { nx := fun _ H' => Q .non H', rt := Q } (start ["links", "log", "after", "index", "operation"] vs) H := by
  obtain ⟨p, r, l, o, c, s, log, rfl, a, hs, g1, g2⟩ := h
  unfold t_play
  walk_at "g"
  refine w_me a no_m ?_
  walk_at "g"
  refine ⟨p, r, l, o, s, rfl, a, fun q r1 l1 o1 H1 nq nr nl no k1 b => ?_⟩
  walk_at "g"
  have hs1 := k1.sql (by simp) hs
  refine ⟨c, _, rfl, hs1, lp_enum (xs := log.map V.int) (fun i σ H' => (∃ u v, σ = [some (.ref p), some (.ref c), some (.ref q), u, v]) ∧ Leg s (log.take i) ∧ Kp [] H H' ∧ LinksAt K H' q r1 l1 o1 (runS s (log.take i))) ⟨⟨_, _, rfl⟩, ?_, k1, b⟩ ?_ ?_ ?_⟩
  · intro i op h
    simp at h
  · rintro i σ' H' hi ⟨_, _, k, _⟩
    exact k.sql (by simp) hs
  · rintro i x T σ' H' hx ⟨⟨u, v, rfl⟩, le, k, ls⟩ nT
    obtain ⟨op, hop, rfl⟩ := at_map hx
    have kT : Kp [] H' (upd H' T (.tup [.int (i : Int), .int op])) := Kp.new nT
    walk_at "g"
    have ls1 := ls.k0 kT
    refine w_me ls1 no_m ?_
    walk_at "g"
    refine ⟨q, r1, l1, o1, _, op, i, rfl, ls1, fun ok H2 k2 ls2 => ?_, fun bad => ?_⟩
    · walk_at "g"
      have e : log.take (i + 1) = log.take i ++ [op] := take_snoc hop
      refine ⟨⟨_, _, rfl⟩, ?_, ?_, ?_⟩
      · rw [e]
        exact le.snoc ok
      · exact ((k.trans kT).all.trans k2).cut (by simp [nr, nl, no])
      · rw [e, runS_snoc]
        exact ls2
    · rw [runS_n]
      exact g2 i op hop le bad _ (k.trans kT)
  · rintro σ' H' ⟨⟨u, v, rfl⟩, le, k, ls⟩
    rw [List.length_map, List.take_length] at le ls
    walk_at "g"
    exact g1 le q r1 l1 o1 H' nq nr nl no k ls
end
end G
set_option Elab.async false
set_option linter.all false
set_option maxRecDepth 100000
set_option maxHeartbeats 1000000
namespace G
--#FAM KB
open PySem PySem.Spec PyProof.Rows L2
local macro_rules
  | `(tactic| walk_at "1") => `(tactic| first
    | with_reducible refine w_seq ?_
    | with_reducible refine w_asg ?_
    | with_reducible refine w_asgS ?_
    | with_reducible refine w_asf ?_
    | with_reducible refine w_drop ?_
    | with_reducible refine w_ret ?_
    | with_reducible refine w_if ?_
    | with_reducible refine w_not ?_
    | with_reducible refine w_and ?_
    | with_reducible refine w_or ?_
    | with_reducible refine w_test ?_
    | with_reducible refine w_tb ?_
    | with_reducible refine w_chain ?_
    | with_reducible refine w_op ?_
    | with_reducible refine w_un ?_
    | with_reducible refine w_andV ?_
    | with_reducible refine w_orV ?_
    | with_reducible refine w_notV ?_
    | with_reducible refine w_ifE ?_
    | with_reducible refine w_cons ?_
    | with_reducible refine w_nil ?_
    | with_reducible refine w_cb ?_
    | with_reducible refine w_cl ?_
    | with_reducible refine w_mt ?_
    | with_reducible refine w_fld ?_
    | with_reducible refine w_tupN ?_
    | with_reducible refine w_lstN ?_
    | with_reducible refine w_bm ?_
    | with_reducible refine w_bm0 ?_
    | with_reducible refine w_for ?_
    | with_reducible refine w_lc ?_
    | with_reducible refine w_iR1 ?_
    | with_reducible refine w_iR2 ?_
    | with_reducible refine w_iL ?_
    | with_reducible refine w_iT ?_
    | with_reducible refine w_iE ?_
    | with_reducible refine w_iZ ?_
    | with_reducible refine w_var (by with_unfolding_all rfl) ?_
    | with_reducible refine w_c ?_
    | with_reducible refine w_next ?_
    | with_reducible refine w_i0 ?_
    | with_reducible refine w_u1 ?_
    | with_reducible refine w_addI ?_
    | with_reducible refine w_eqI ?_
    | with_reducible refine w_eqS ?_
    | with_reducible refine w_eqB ?_
    | with_reducible refine w_neI ?_
    | with_reducible refine w_neS ?_
    | with_reducible refine w_neB ?_
    | with_reducible refine w_abs ?_
    | with_reducible refine w_intI ?_
    | with_reducible refine w_min2 ?_
    | with_reducible refine w_max2 ?_
    | with_reducible refine w_isN0 ?_
    | with_reducible refine w_isN1 ref_ne ?_
    | with_reducible refine w_isN1 int_ne ?_
    | with_reducible refine w_notN0 ?_
    | with_reducible refine w_notN1 ref_ne ?_
    | with_reducible refine w_notN1 int_ne ?_
    | with_reducible refine w_ex1 ?_
    | with_reducible refine w_n1 ?_
    | with_reducible refine w_n2 ?_
    | with_reducible refine w_tT ?_
    | with_reducible refine w_tF ?_
    | with_reducible refine w_nT ?_
    | with_reducible refine w_nF ?_
    | with_reducible refine w_rz ?_
    | with_reducible refine w_mkN ?_
    | with_reducible refine w_lrgN ?_
    | with_reducible refine w_rg1 ?_
    | with_reducible refine w_rg2 ?_
    | with_reducible refine w_sl ?_
    | with_reducible refine w_np ?_
    | with_reducible refine w_pt ?_
    | with_reducible refine w_tr ?_
    | with_reducible refine w_gn ?_
    | with_reducible refine w_yes ?_
    | with_reducible refine w_m1 ?_
    | with_reducible refine w_asu ?_
    | with_reducible refine w_exS ?_
    | with_reducible refine w_iS ?_
    | with_reducible refine w_g1 ?_
    | with_reducible refine w_gc ?_
    | with_reducible refine w_gt (SqT.of upd_same) rfl ?_)
local macro_rules
  | `(tactic| walk_at "g") => `(tactic| repeat walk_at "1")
local macro_rules
  | `(tactic| walk_at "j1") => `(tactic| first
    | with_reducible refine w_seqI ?_
    | walk_at "1")
local macro_rules
  | `(tactic| walk_at "j") => `(tactic| repeat walk_at "j1")
section
variable {K : PySem.W.Frag} {mg : Str → Option Value}
theorem w_anyN {H : Hp} {Q : VK} {p : Addr} {bs : List Bool} (h : H p = some (.lst (bs.map V.bl))) (g : Q (.bl (bs.any id)) H) : rAny K [.ref p] H Q := ⟨p, bs, rfl, SqL.of h, g⟩
theorem len_replay (K : PySem.W.Frag) : ∀ vs H Q E, sp_replay K vs H Q E → vs.length = (["size", "log"] : List Str).length := by
  rintro vs H Q E ⟨_, _, _, rfl, _⟩
  rfl
theorem rd_replay (T : Txt K mg) (vs : List V) (H : Hp) (Q : VK) (E : XK) (h : sp_replay K vs H Q E) : t_replay K E { nx := fun _ H' => Q .non H', rt := Q } (start ["size", "log"] vs) H := by
  obtain ⟨c, size, log, rfl, hs, g1, g2, g3⟩ := h
  unfold t_replay
  walk_at "g"
  refine mk fun q dx H1 nq hq k1 => ?_
  refine ⟨q, dx, size, rfl, hq, fun ok r l o H2 nr nl no k2 b => ⟨rfl, ?_⟩, fun bad => g3 bad _ k1⟩
  have k02 : Kp [] H H2 := (k1.all.trans k2).cut1 nq
  walk_at "g"
  refine ⟨q, r, l, o, c, _, log, rfl, b, k02.sql (by simp) hs, fun le => ?_, ?_⟩
  · intro p' r' l' o' H3 n1 n2 n3 n4 k3 b3
    exact g1 ok le p' r' l' o' H3 (k02.free0 n1) (k02.free0 n2) (k02.free0 n3) (k02.free0 n4) (k02.trans k3) b3
  · intro i op hi le bad H3 k3
    exact g2 ok i op hi le bad H3 (k02.trans k3)
theorem inV_Z {x : Int} : ∀ {xs : List Int}, inV (.int x) (xs.map V.int) = decide (x ∈ xs)
  | [] => rfl
  | y :: ys => by
    have e : inV (.int x) ((y :: ys).map V.int) = ((y == x) || inV (.int x) (ys.map V.int)) := rfl
    rw [e, inV_Z, Bool.eq_iff_iff, Bool.or_eq_true, decide_eq_true_iff, decide_eq_true_iff, beq_iff_eq, List.mem_cons]
    exact ⟨fun h => h.elim (fun z => .inl z.symm) .inr, fun h => h.elim (fun z => .inl z.symm) .inr⟩
theorem flatZ (xs : List Int) : (xs.map V.int).all flatV = true := by
  rw [List.all_map]
  exact List.all_eq_true.mpr fun _ _ => rfl
theorem w_inZ {H : Hp} {Q : VK} {p : Addr} {x : Int} {xs : List Int} {neg : Bool} (h : H p = some (.lst (xs.map V.int))) (g : Q (.bl (if neg then !decide (x ∈ xs) else decide (x ∈ xs))) H) : rIn K neg (.int x) (.ref p) H Q := by
  refine w_inL (SqL.of h) rfl (flatZ xs) ?_
  rw [inV_Z]
  exact g
theorem forW_in {s : Sd} (w : Wf s) {v : Nat} (h1 : 1 ≤ v) (h2 : v ≤ s.n) : ∀ x ∈ forW s v, 0 ≤ x ∧ x ≤ s.n := by
  have a1 := w.lb v h1 (by omega)
  have a2 := w.rb v h2
  intro x hx
  unfold forW at hx
  rcases List.mem_append.mp hx with z | z
  · split at z
    · rw [List.mem_singleton.mp z]
      omega
    · cases z
  · split at z
    · rw [List.mem_singleton.mp z]
      omega
    · cases z
theorem len_left_to (K : PySem.W.Frag) : ∀ vs H Q E, sp17_left_to K vs H Q E → vs.length = (["operation", "gap"] : List Str).length := by
  rintro vs H Q E ⟨_, _, rfl, _⟩
  rfl
theorem rd_left_to (T : Txt K mg) (vs : List V) (H : Hp) (Q : VK) (E : XK) (h : sp17_left_to K vs H Q E) : t_left_to K E { nx := fun _ H' => Q .non H', rt := Q } (start ["operation", "gap"] vs) H := by
  obtain ⟨op, gp, rfl, g⟩ := h
  unfold t_left_to
  walk_at "g"
  rw [natAbs_if]
  unfold ltI at g
  refine w_iteD (fun c => ?_) (fun c => ?_)
  · walk_at "g"
    rw [if_pos c] at g
    exact g
  · walk_at "g"
    rw [if_neg c] at g
    exact g
theorem Leg.init {s : Sd} {l : List Int} {x : Int} (h : Leg s (l ++ [x])) : Leg s l ∧ OkOp (runS s l) x := by
  constructor
  · have := h.take l.length
    rwa [List.take_left' rfl] at this
  · have := h l.length x (by simp)
    rwa [List.take_left' rfl] at this
theorem OptP.kp {H H' : Hp} {v : V} {p : Option (Nat × Nat)} (h : OptP H v p) (k : Kp [] H H') : OptP H' v p := by
  cases p with
  | none => exact h
  | some x =>
    obtain ⟨t, e, ht⟩ := h
    exact ⟨t, e, k.at0 ht⟩
/-- rows of numbers, each at its own place -/
structure RowsAt8 (H0 H : Hp) (rs : List Addr) (f : Nat → List Int) : Prop where
  nd : rs.Nodup
  at_ : ∀ g a, rs[g]? = some a → H a = some (.lst ((f g).map V.int))
  fr : ∀ a ∈ rs, H0 a = none
theorem RowsAt8.kp {H0 H H' : Hp} {S : List Addr} {rs : List Addr} {f : Nat → List Int} (r : RowsAt8 H0 H rs f) (k : Kp S H H') (h : ∀ a ∈ rs, a ∉ S) : RowsAt8 H0 H' rs f := ⟨r.nd, fun g a e => k _ _ (h a (List.mem_of_getElem? e)) (r.at_ g a e), r.fr⟩
theorem RowsAt8.k0 {H0 H H' : Hp} {rs : List Addr} {f : Nat → List Int} (r : RowsAt8 H0 H rs f) (k : Kp [] H H') : RowsAt8 H0 H' rs f := r.kp k (fun _ _ => by simp)
theorem VlA.len {b : Addr} {H : Hp} : ∀ {xs : List V} {ds : List PyData}, VlA b H xs ds → xs.length = ds.length
  | _, _, .nil => rfl
  | _, _, .cons h1 h2 => by rw [List.length_cons, List.length_cons, VlA.len h2]
def pk (p : Bool) (v : V) : List V := if p = true then [] else [v]
theorem LB.wf {H : Hp} {w l r g : Addr} {n : Nat} {log : List Int} (a : LB H w l r g n log) : Wf (runS (wholeS n) log) := Leg.wf (.whole a.n60) a.le
theorem w_isiO {H : Hp} {Q : VK} (T : Txt K mg) {a dx : Addr} {fs : List (Str × V)} (e : H a = some (.ins (He.ga K "Links") dx fs)) (g : Q (.bl true) H) : rIsi K [.ref a, .ref (He.ga K "Links")] H Q :=
  ⟨_, _, .ref (He.ga K "Links"), .ref (He.ga K "Links"), true, rfl, .own _, .base (.ins e T.cl_Links T.ty_Links.1 T.ex_LinkError.gs T.ex_LinkError.tk T.ty_Links.2), by
    unfold PySem.W.kitOne
    rw [if_pos (by simp)], g⟩
end
end G
set_option Elab.async false
set_option linter.all false
set_option maxRecDepth 100000
set_option maxHeartbeats 1000000
namespace G
--#FAM KB
open PySem PySem.Spec PyProof.Rows L2
local macro_rules
  | `(tactic| walk_at "1") => `(tactic| first
    | with_reducible refine w_seq ?_
    | with_reducible refine w_asg ?_
    | with_reducible refine w_asgS ?_
    | with_reducible refine w_asf ?_
    | with_reducible refine w_drop ?_
    | with_reducible refine w_ret ?_
    | with_reducible refine w_if ?_
    | with_reducible refine w_not ?_
    | with_reducible refine w_and ?_
    | with_reducible refine w_or ?_
    | with_reducible refine w_test ?_
    | with_reducible refine w_tb ?_
    | with_reducible refine w_chain ?_
    | with_reducible refine w_op ?_
    | with_reducible refine w_un ?_
    | with_reducible refine w_andV ?_
    | with_reducible refine w_orV ?_
    | with_reducible refine w_notV ?_
    | with_reducible refine w_ifE ?_
    | with_reducible refine w_cons ?_
    | with_reducible refine w_nil ?_
    | with_reducible refine w_cb ?_
    | with_reducible refine w_cl ?_
    | with_reducible refine w_mt ?_
    | with_reducible refine w_fld ?_
    | with_reducible refine w_tupN ?_
    | with_reducible refine w_lstN ?_
    | with_reducible refine w_bm ?_
    | with_reducible refine w_bm0 ?_
    | with_reducible refine w_for ?_
    | with_reducible refine w_lc ?_
    | with_reducible refine w_iR1 ?_
    | with_reducible refine w_iR2 ?_
    | with_reducible refine w_iL ?_
    | with_reducible refine w_iT ?_
    | with_reducible refine w_iE ?_
    | with_reducible refine w_iZ ?_
    | with_reducible refine w_var (by with_unfolding_all rfl) ?_
    | with_reducible refine w_c ?_
    | with_reducible refine w_next ?_
    | with_reducible refine w_i0 ?_
    | with_reducible refine w_u1 ?_
    | with_reducible refine w_addI ?_
    | with_reducible refine w_eqI ?_
    | with_reducible refine w_eqS ?_
    | with_reducible refine w_eqB ?_
    | with_reducible refine w_neI ?_
    | with_reducible refine w_neS ?_
    | with_reducible refine w_neB ?_
    | with_reducible refine w_abs ?_
    | with_reducible refine w_intI ?_
    | with_reducible refine w_min2 ?_
    | with_reducible refine w_max2 ?_
    | with_reducible refine w_isN0 ?_
    | with_reducible refine w_isN1 ref_ne ?_
    | with_reducible refine w_isN1 int_ne ?_
    | with_reducible refine w_notN0 ?_
    | with_reducible refine w_notN1 ref_ne ?_
    | with_reducible refine w_notN1 int_ne ?_
    | with_reducible refine w_ex1 ?_
    | with_reducible refine w_n1 ?_
    | with_reducible refine w_n2 ?_
    | with_reducible refine w_tT ?_
    | with_reducible refine w_tF ?_
    | with_reducible refine w_nT ?_
    | with_reducible refine w_nF ?_
    | with_reducible refine w_rz ?_
    | with_reducible refine w_mkN ?_
    | with_reducible refine w_lrgN ?_
    | with_reducible refine w_rg1 ?_
    | with_reducible refine w_rg2 ?_
    | with_reducible refine w_sl ?_
    | with_reducible refine w_np ?_
    | with_reducible refine w_pt ?_
    | with_reducible refine w_tr ?_
    | with_reducible refine w_gn ?_
    | with_reducible refine w_yes ?_
    | with_reducible refine w_m1 ?_
    | with_reducible refine w_asu ?_
    | with_reducible refine w_exS ?_
    | with_reducible refine w_iS ?_
    | with_reducible refine w_g1 ?_
    | with_reducible refine w_gc ?_
    | with_reducible refine w_gt (SqT.of upd_same) rfl ?_)
local macro_rules
  | `(tactic| walk_at "g") => `(tactic| repeat walk_at "1")
local macro_rules
  | `(tactic| walk_at "j1") => `(tactic| first
    | with_reducible refine w_seqI ?_
    | walk_at "1")
local macro_rules
  | `(tactic| walk_at "j") => `(tactic| repeat walk_at "j1")
section
variable {K : PySem.W.Frag} {mg : Str → Option Value}
theorem any_id {α : Type} (f : α → Bool) (l : List α) : (l.map f).any id = l.any f := by
  rw [List.any_map]
  rfl
theorem gap_nat {x : Int} (h : 0 ≤ x) : ∃ g : Nat, x = (g : Int) := ⟨x.toNat, by omega⟩
theorem len__loses_a_gap (K : PySem.W.Frag) : ∀ vs H Q E, sp__loses_a_gap K vs H Q E → vs.length = (["links", "operation"] : List Str).length := by
  rintro vs H Q E ⟨_, _, _, _, _, _, rfl, _⟩
  rfl
theorem rd__loses_a_gap (T : Txt K mg) (vs : List V) (H : Hp) (Q : VK) (E : XK) (h : sp__loses_a_gap K vs H Q E) : t__loses_a_gap K E { nx := fun _ H' => Q .non H', rt := Q } (start ["links", "operation", "gap"] vs) H := by
  obtain ⟨p, r, l, o, s, op, rfl, la, ok, g⟩ := h
  unfold t__loses_a_gap
  have wf := la.wf
  walk_at "g"
  refine ⟨p, r, l, o, s, op, rfl, la, fun _ => (fun q H1 nq k1 hq => ?_), fun z => absurd ok z⟩
  have fl := forW_len s op.natAbs
  have fb : ∀ x ∈ forW s op.natAbs, 0 ≤ x ∧ x ≤ s.n := forW_in wf ok.1.1 ok.1.2
  unfold svB at g
  generalize forW s op.natAbs = F at g hq fl fb
  refine w_l1 (SqL.of hq) ?_
  refine cp_lst (SqL.of hq) (fun i => ((F.take i).map fun g => !decide (stT s g.toNat = "joined")).map V.bl) (fun i hi => sz_lt (by rw [List.length_map, List.length_map, List.length_take]; rw [List.length_map] at hi; omega)) rfl (fun i x H' S N hx k y _ => ?_) (fun t H3 nt k3 ht => ?_)
  · obtain ⟨v, hv, rfl⟩ := at_map hx
    have vb := fb v (List.mem_of_getElem? hv)
    have k01 := k1.trans k
    walk_at "g"
    refine ⟨rfl, ?_⟩
    walk_at "g"
    refine ⟨p, r, l, o, s, v, rfl, la.k0 k01, fun _ => ?_, fun z => absurd vb z⟩
    walk_at "g"
    refine y _ H' (Kp.refl _ _) ?_
    rw [take_snoc hv, List.map_append, List.map_append] <;> rfl
  · rw [List.length_map, List.take_length] at ht
    walk_at "g"
    refine w_anyN ht ?_
    rw [any_id]
    exact g H3 (k1.trans k3)
theorem len__leaves_a_gap_to_a_holder_that_is_in (K : PySem.W.Frag) : ∀ vs H Q E, sp__leaves_a_gap_to_a_holder_that_is_in K vs H Q E → vs.length = (["links", "operation"] : List Str).length := by
  rintro vs H Q E ⟨_, _, _, _, _, _, rfl, _⟩
  rfl
theorem rd__leaves_a_gap_to_a_holder_that_is_in (T : Txt K mg) (vs : List V) (H : Hp) (Q : VK) (E : XK) (h : sp__leaves_a_gap_to_a_holder_that_is_in K vs H Q E) : t__leaves_a_gap_to_a_holder_that_is_in K E { nx := fun _ H' => Q .non H', rt := Q } (start ["links", "operation", "gap"] vs) H := by
  obtain ⟨p, r, l, o, s, op, rfl, la, ok, g⟩ := h
  unfold t__leaves_a_gap_to_a_holder_that_is_in
  have wf := la.wf
  walk_at "g"
  refine ⟨p, r, l, o, s, op, rfl, la, fun _ => (fun q H1 nq k1 hq => ?_), fun z => absurd ok z⟩
  have fl := forW_len s op.natAbs
  have fb : ∀ x ∈ forW s op.natAbs, 0 ≤ x ∧ x ≤ s.n := forW_in wf ok.1.1 ok.1.2
  unfold gdB at g
  generalize forW s op.natAbs = F at g hq fl fb
  refine w_l1 (SqL.of hq) ?_
  refine cp_lst (SqL.of hq) (fun i => ((F.take i).map fun g => !gB s.O (ltI op.natAbs g).toNat).map V.bl) (fun i hi => sz_lt (by rw [List.length_map, List.length_map, List.length_take]; rw [List.length_map] at hi; omega)) rfl (fun i x H' S N hx k y _ => ?_) (fun t H3 nt k3 ht => ?_)
  · obtain ⟨v, hv, rfl⟩ := at_map hx
    have vb := fb v (List.mem_of_getElem? hv)
    have k01 := k1.trans k
    obtain ⟨m, em⟩ : ∃ m : Nat, ltI op.natAbs v = (m : Int) := ⟨(ltI op.natAbs v).toNat, by unfold ltI; split <;> omega⟩
    have em2 : m ≤ s.n + 1 := by unfold ltI at em; split at em <;> omega
    walk_at "g"
    refine ⟨rfl, ?_⟩
    walk_at "g"
    refine w_me (la.k0 k01) no_m ?_
    walk_at "g"
    refine ⟨op, v, rfl, ?_⟩
    walk_at "g"
    rw [em]
    refine ⟨p, r, l, o, s, m, rfl, la.k0 k01, em2, ?_⟩
    refine ⟨_, rfl, ?_⟩
    refine y _ H' (Kp.refl _ _) ?_
    rw [take_snoc hv, List.map_append, List.map_append]
    show _ ++ [V.bl (!gB s.O (ltI op.natAbs v).toNat)] = _
    rw [em, Int.toNat_natCast]
  · rw [List.length_map, List.take_length] at ht
    walk_at "g"
    refine w_anyN ht ?_
    rw [any_id]
    exact g H3 (k1.trans k3)
theorem len__has_fitting_neighbours (K : PySem.W.Frag) : ∀ vs H Q E, sp__has_fitting_neighbours K vs H Q E → vs.length = (["links", "operation"] : List Str).length := by
  rintro vs H Q E ⟨_, _, _, _, _, _, rfl, _⟩
  rfl
theorem rd__has_fitting_neighbours (T : Txt K mg) (vs : List V) (H : Hp) (Q : VK) (E : XK) (h : sp__has_fitting_neighbours K vs H Q E) : t__has_fitting_neighbours K E { nx := fun _ H' => Q .non H', rt := Q } (start ["links", "operation", "node", "low", "high"] vs) H := by
  obtain ⟨p, r, l, o, s, op, rfl, la, ok, g⟩ := h
  unfold t__has_fitting_neighbours
  have wf := la.wf
  obtain ⟨⟨i1, i2⟩, io2⟩ := ok
  obtain ⟨r1, r2⟩ := wf.rb op.natAbs (by omega)
  obtain ⟨l1, l2⟩ := wf.lb op.natAbs (by omega) (by omega)
  obtain ⟨lo, elo⟩ := gap_nat l1
  obtain ⟨hi, ehi⟩ := gap_nat (x := gI s.R op.natAbs) (by omega)
  unfold fitB at g
  rw [elo, ehi, Int.toNat_natCast, Int.toNat_natCast] at g
  walk_at "g"
  rw [natAbs_if]
  refine w_me la no_m ?_
  walk_at "g"
  refine ⟨p, r, l, o, s, op.natAbs, rfl, la, by omega, by omega, ?_⟩
  rw [elo]
  walk_at "g"
  refine w_me la no_m ?_
  walk_at "g"
  refine ⟨p, r, l, o, s, op.natAbs, rfl, la, by omega, ?_⟩
  rw [ehi]
  walk_at "g"
  refine w_me la no_m ?_
  walk_at "g"
  refine ⟨p, r, l, o, s, lo, rfl, la, by omega, ?_⟩
  refine ⟨_, rfl, ?_⟩
  refine w_iteB (fun c1 => ?_) (fun c1 => ?_)
  · rw [c1] at g
    walk_at "g"
    exact g H (Kp.refl _ _)
  · walk_at "g"
    refine w_me la no_m ?_
    walk_at "g"
    refine ⟨p, r, l, o, s, hi, rfl, la, by omega, ?_⟩
    refine ⟨_, rfl, ?_⟩
    refine w_iteB (fun c2 => ?_) (fun c2 => ?_)
    · rw [c1, c2] at g
      walk_at "g"
      exact g H (Kp.refl _ _)
    · rw [c1, c2, Bool.or_false, Bool.not_false, Bool.true_and] at g
      walk_at "g"
      refine w_iteD (fun c3 => ?_) (fun c3 => ?_)
      · rw [if_pos c3] at g
        walk_at "g"
        refine w_me la no_m ?_
        walk_at "g"
        refine ⟨p, r, l, o, s, lo, rfl, la, by omega, ?_⟩
        walk_at "g"
        refine w_iteD (fun c4 => ?_) (fun c4 => ?_)
        · rw [decide_eq_true c4, Bool.true_and] at g
          walk_at "g"
          refine w_me la no_m ?_
          walk_at "g"
          refine ⟨p, r, l, o, s, hi, rfl, la, by omega, by omega, ?_⟩
          walk_at "g"
          exact g H (Kp.refl _ _)
        · rw [decide_eq_false c4, Bool.false_and] at g
          exact g H (Kp.refl _ _)
      · rw [if_neg c3] at g
        walk_at "g"
        refine w_me la no_m ?_
        walk_at "g"
        refine ⟨p, r, l, o, s, lo, rfl, la, by omega, ?_⟩
        walk_at "g"
        refine w_iteD (fun c4 => ?_) (fun c4 => ?_)
        · rw [decide_eq_true c4, Bool.true_and] at g
          walk_at "g"
          refine w_me la no_m ?_
          walk_at "g"
          refine ⟨p, r, l, o, s, hi, rfl, la, by omega, by omega, ?_⟩
          walk_at "g"
          exact g H (Kp.refl _ _)
        · rw [decide_eq_false c4, Bool.false_and] at g
          exact g H (Kp.refl _ _)
theorem len_FreeMode_refusal (K : PySem.W.Frag) : ∀ vs H Q E, sp_FreeMode_refusal K vs H Q E → vs.length = (["self", "links", "operation"] : List Str).length := by
  rintro vs H Q E ⟨_, _, _, _, _, _, _, _, rfl, _⟩
  rfl
theorem rd_FreeMode_refusal (T : Txt K mg) (vs : List V) (H : Hp) (Q : VK) (E : XK) (h : sp_FreeMode_refusal K vs H Q E) : t_FreeMode_refusal K E { nx := fun _ H' => Q .non H', rt := Q } (start ["self", "links", "operation"] vs) H := by
  obtain ⟨x, p, r, l, o, s, op, c, rfl, md, dc, la, g1, g2⟩ := h
  unfold t_FreeMode_refusal
  walk_at "g"
  refine w_me la no_m ?_
  walk_at "g"
  refine ⟨p, r, l, o, s, op, 0, rfl, la, fun ok => ?_, g2⟩
  walk_at "g"
  have := g1 ok H (Kp.refl _ _)
  rwa [refS_0] at this
theorem len_SavingMode_refusal (K : PySem.W.Frag) : ∀ vs H Q E, sp_SavingMode_refusal K vs H Q E → vs.length = (["self", "links", "operation"] : List Str).length := by
  rintro vs H Q E ⟨_, _, _, _, _, _, _, _, rfl, _⟩
  rfl
theorem rd_SavingMode_refusal (T : Txt K mg) (vs : List V) (H : Hp) (Q : VK) (E : XK) (h : sp_SavingMode_refusal K vs H Q E) : t_SavingMode_refusal K E { nx := fun _ H' => Q .non H', rt := Q } (NdefX.startF ["self", "links", "operation", "__class__", "refusing"] vs [some (.ref (He.ga K "SavingMode"))]) H := by
  obtain ⟨x, p, r, l, o, s, op, c, rfl, md, dc, la, g1, g2⟩ := h
  obtain ⟨dx, hx⟩ := md.ob
  have c3 := md.c3
  unfold t_SavingMode_refusal
  refine ⟨x, mdC K c, dx, [], rfl, hx, ?_, ?_⟩
  · match c, dc, c3 with
    | 1, _, _ => exact T.sup_SavingMode_SavingMode_refusal
    | 2, _, _ => exact T.sup_GuardedMode_SavingMode_refusal
    | 3, _, _ => exact T.sup_CheckedMode_SavingMode_refusal
  walk_at "g"
  refine ⟨x, p, r, l, o, s, op, c, rfl, md, by omega, la, fun ok => fun H1 k1 => ?_, g2⟩
  have g1 := g1 ok
  have la1 := la.k0 k1
  rw [refS_0]
  rw [refS_1] at g1
  walk_at "g"
  rw [decide_eq_true rfl]
  walk_at "g"
  refine ⟨p, r, l, o, s, op, rfl, la1, ok, fun H2 k2 => ?_⟩
  refine ⟨_, rfl, ?_⟩
  refine w_iteB (fun c1 => ?_) (fun c1 => ?_)
  · walk_at "g"
    have := g1 H2 (k1.trans k2)
    rwa [if_pos c1] at this
  · walk_at "g"
    have := g1 H2 (k1.trans k2)
    rwa [if_neg (by rw [c1]; exact Bool.false_ne_true)] at this
theorem len_GuardedMode_refusal (K : PySem.W.Frag) : ∀ vs H Q E, sp_GuardedMode_refusal K vs H Q E → vs.length = (["self", "links", "operation"] : List Str).length := by
  rintro vs H Q E ⟨_, _, _, _, _, _, _, _, rfl, _⟩
  rfl
theorem rd_GuardedMode_refusal (T : Txt K mg) (vs : List V) (H : Hp) (Q : VK) (E : XK) (h : sp_GuardedMode_refusal K vs H Q E) : t_GuardedMode_refusal K E { nx := fun _ H' => Q .non H', rt := Q } (NdefX.startF ["self", "links", "operation", "__class__", "refusing"] vs [some (.ref (He.ga K "GuardedMode"))]) H := by
  obtain ⟨x, p, r, l, o, s, op, c, rfl, md, dc, la, g1, g2⟩ := h
  obtain ⟨dx, hx⟩ := md.ob
  have c3 := md.c3
  unfold t_GuardedMode_refusal
  refine ⟨x, mdC K c, dx, [], rfl, hx, ?_, ?_⟩
  · match c, dc, c3 with
    | 2, _, _ => exact T.sup_GuardedMode_GuardedMode_refusal
    | 3, _, _ => exact T.sup_CheckedMode_GuardedMode_refusal
  walk_at "g"
  refine ⟨x, p, r, l, o, s, op, c, rfl, md, by omega, la, fun ok => fun H1 k1 => ?_, g2⟩
  have g1 := g1 ok
  have la1 := la.k0 k1
  rw [refS_2] at g1
  walk_at "g"
  refine w_iteD (fun e => ?_) (fun e => ?_)
  · walk_at "g"
    refine ⟨p, r, l, o, s, op, rfl, la1, ok, fun H2 k2 => ?_⟩
    refine ⟨_, rfl, ?_⟩
    refine w_iteB (fun c1 => ?_) (fun c1 => ?_)
    · walk_at "g"
      have := g1 H2 (k1.trans k2)
      rwa [if_pos ⟨e, c1⟩] at this
    · walk_at "g"
      have := g1 H2 (k1.trans k2)
      rwa [if_neg (fun z => by rw [c1] at z; cases z.2)] at this
  · walk_at "g"
    have := g1 H1 k1
    rwa [if_neg (fun z => e z.1)] at this
theorem len_CheckedMode_refusal (K : PySem.W.Frag) : ∀ vs H Q E, sp_CheckedMode_refusal K vs H Q E → vs.length = (["self", "links", "operation"] : List Str).length := by
  rintro vs H Q E ⟨_, _, _, _, _, _, _, _, rfl, _⟩
  rfl
theorem rd_CheckedMode_refusal (T : Txt K mg) (vs : List V) (H : Hp) (Q : VK) (E : XK) (h : sp_CheckedMode_refusal K vs H Q E) : t_CheckedMode_refusal K E { nx := fun _ H' => Q .non H', rt := Q } (NdefX.startF ["self", "links", "operation", "__class__", "refusing"] vs [some (.ref (He.ga K "CheckedMode"))]) H := by
  obtain ⟨x, p, r, l, o, s, op, c, rfl, md, dc, la, g1, g2⟩ := h
  obtain ⟨dx, hx⟩ := md.ob
  have c3 := md.c3
  unfold t_CheckedMode_refusal
  refine ⟨x, mdC K c, dx, [], rfl, hx, ?_, ?_⟩
  · match c, dc, c3 with
    | 3, _, _ => exact T.sup_CheckedMode_CheckedMode_refusal
  walk_at "g"
  refine ⟨x, p, r, l, o, s, op, c, rfl, md, by omega, la, fun ok => fun H1 k1 => ?_, g2⟩
  have g1 := g1 ok
  have la1 := la.k0 k1
  rw [refS_3] at g1
  walk_at "g"
  refine w_iteD (fun e => ?_) (fun e => ?_)
  · walk_at "g"
    refine ⟨p, r, l, o, s, op, rfl, la1, ok, fun H2 k2 => ?_⟩
    refine ⟨_, rfl, ?_⟩
    refine w_iteB (fun c1 => ?_) (fun c1 => ?_)
    · walk_at "g"
      have := g1 H2 (k1.trans k2)
      rwa [if_pos ⟨e, by simpa using c1⟩] at this
    · walk_at "g"
      have := g1 H2 (k1.trans k2)
      rwa [if_neg (fun z => by rw [z.2] at c1; cases c1)] at this
  · walk_at "g"
    have := g1 H1 k1
    rwa [if_neg (fun z => e z.1)] at this
theorem w_mk0 {C : Addr} {σ : L2.St} {H : Hp} {Q : VK} (g : ∀ x dx H', H x = none → Kp [] H H' → H' x = some (.ins C dx []) → Q (.ref x) H') : tMk0 C σ H Q :=
  fun x dx n1 n2 ne => g x dx _ n1 ((Kp.new n2).trans (Kp.new (by rw [upd_ne (Ne.symm ne)]; exact n1))) upd_same
theorem w_mtD {L : List (Addr × Sp)} {m : Str} {E : L2.St → XK} {ta : TE} {t : TA} {σ : L2.St} {H : Hp} {Q : VK} (h : ta σ H fun x H1 => ∃ C sp, (C, sp) ∈ L ∧ ∃ a dx fs, x = .ref a ∧ H1 a = some (.ins C dx fs) ∧ fs.lookup m = none ∧ t σ H1 fun vs H2 => sp (x :: vs) H2 Q (E σ)) : tMtD L m E ta t σ H Q := h
theorem w_rf {H : Hp} {x : Addr} {c : Nat} {P : Sp → Prop} (md : MdAt K H x c) (g : P (spRf K c)) : ∃ C sp, (C, sp) ∈ L_refusal K ∧ ∃ a dx fs, V.ref x = .ref a ∧ H a = some (.ins C dx fs) ∧ (fs : List (Str × V)).lookup ("refusal" : Str) = none ∧ P sp := by
  obtain ⟨dx, hx⟩ := md.ob
  have c3 := md.c3
  match c, c3 with
  | 0, _ => exact ⟨_, _, List.mem_cons_self, x, dx, [], rfl, hx, rfl, g⟩
  | 1, _ => exact ⟨_, _, List.mem_cons_of_mem _ List.mem_cons_self, x, dx, [], rfl, hx, rfl, g⟩
  | 2, _ => exact ⟨_, _, List.mem_cons_of_mem _ (List.mem_cons_of_mem _ List.mem_cons_self), x, dx, [], rfl, hx, rfl, g⟩
  | 3, _ => exact ⟨_, _, List.mem_cons_of_mem _ (List.mem_cons_of_mem _ (List.mem_cons_of_mem _ List.mem_cons_self)), x, dx, [], rfl, hx, rfl, g⟩
theorem w_con {H : Hp} {x : Addr} {c : Nat} {R : V → Prop} (T : Txt K mg) (md : MdAt K H x c) (g : R (.str (mdN c))) : ∃ a C dx fs v u, V.ref x = .ref a ∧ H a = some (.ins C dx fs) ∧ Cls K C ∧ Con K C "NAME" v u ∧ (fs : List (Str × V)).lookup ("NAME" : Str) = none ∧ R v := by
  obtain ⟨dx, hx⟩ := md.ob
  have c3 := md.c3
  match c, c3 with
  | 0, _ => obtain ⟨u, h⟩ := T.con_FreeMode_NAME; exact ⟨x, _, dx, [], _, u, rfl, hx, T.cl_FreeMode, h, rfl, g⟩
  | 1, _ => obtain ⟨u, h⟩ := T.con_SavingMode_NAME; exact ⟨x, _, dx, [], _, u, rfl, hx, T.cl_SavingMode, h, rfl, g⟩
  | 2, _ => obtain ⟨u, h⟩ := T.con_GuardedMode_NAME; exact ⟨x, _, dx, [], _, u, rfl, hx, T.cl_GuardedMode, h, rfl, g⟩
  | 3, _ => obtain ⟨u, h⟩ := T.con_CheckedMode_NAME; exact ⟨x, _, dx, [], _, u, rfl, hx, T.cl_CheckedMode, h, rfl, g⟩
theorem w_tcon {ta : TE} {f : Str} {σ : L2.St} {H : Hp} {Q : VK} (h : ta σ H fun x H1 => ∃ a C dx fs v u, x = .ref a ∧ H1 a = some (.ins C dx fs) ∧ Cls K C ∧ Con K C f v u ∧ fs.lookup f = none ∧ Q v H1) : tCon K ta f σ H Q := h
theorem len_check_admitted (K : PySem.W.Frag) : ∀ vs H Q E, sp_check_admitted K vs H Q E → vs.length = (["links", "operation", "index", "judge"] : List Str).length := by
  rintro vs H Q E ⟨_, _, _, _, _, _, _, _, _, rfl, _⟩
  rfl
theorem rd_check_admitted (T : Txt K mg) (vs : List V) (H : Hp) (Q : VK) (E : XK) (h : sp_check_admitted K vs H Q E) : t_check_admitted K E { nx := fun _ H' => Q .non H', rt := Q } (start ["links", "operation", "index", "judge", "refusing"] vs) H := by
  obtain ⟨x, p, r, l, o, s, op, i, c, rfl, md, la, g1, g2, g3⟩ := h
  unfold t_check_admitted
  walk_at "g"
  refine w_me la no_m ?_
  walk_at "g"
  refine ⟨p, r, l, o, s, op, i, rfl, la, fun ok => ?_, g3⟩
  walk_at "g"
  refine w_mtD ?_
  walk_at "g"
  refine w_rf (P := fun sp => (tCons (tVar 0) (tCons (tVar 1) tNil)) _ _ fun vs H2 => sp (V.ref x :: vs) H2 _ _) md ?_
  walk_at "g"
  refine ⟨x, p, r, l, o, s, op, c, rfl, md, Nat.le_refl _, la, fun _ => fun H1 k1 => ?_, fun z => absurd ok z⟩
  walk_at "g"
  refine w_iteN (fun e => ?_) (fun e => ?_)
  · walk_at "g"
    exact ⟨rfl, Nat.le_of_ble_eq_true rfl, g2 ok e H1 k1⟩
  · walk_at "g"
    exact g1 ok e H1 k1
theorem len_all_modes (K : PySem.W.Frag) : ∀ vs H Q E, sp_all_modes K vs H Q E → vs.length = ([] : List Str).length := by
  rintro vs H Q E ⟨rfl, _⟩
  rfl
theorem rd_all_modes (T : Txt K mg) (vs : List V) (H : Hp) (Q : VK) (E : XK) (h : sp_all_modes K vs H Q E) : t_all_modes K E { nx := fun _ H' => Q .non H', rt := Q } (start [] vs) H := by
  obtain ⟨rfl, g⟩ := h
  unfold t_all_modes
  walk_at "g"
  refine w_mk0 fun x0 d0 H0 n0 k0 h0 => ?_
  walk_at "g"
  refine w_mk0 fun x1 d1 H1 n1 k1 h1 => ?_
  walk_at "g"
  refine w_mk0 fun x2 d2 H2 n2 k2 h2 => ?_
  walk_at "g"
  refine w_mk0 fun x3 d3 H3 n3 k3 h3 => ?_
  walk_at "g"
  refine ⟨sz_ok (by show 4 ≤ 1000000; omega), G.nw fun q H4 nq k4 hq => ?_⟩
  have k34 := k3.trans k4
  have k24 := k2.trans k34
  have k14 := k1.trans k24
  exact g q x0 x1 x2 x3 H4 (k0.free0 (k1.free0 (k2.free0 (k3.free0 nq)))) n0 (k0.free0 n1) (k0.free0 (k1.free0 n2)) (k0.free0 (k1.free0 (k2.free0 n3))) (k0.trans k14) hq
    ⟨⟨d0, k14.at0 h0⟩, by omega⟩ ⟨⟨d1, k24.at0 h1⟩, by omega⟩ ⟨⟨d2, k34.at0 h2⟩, by omega⟩ ⟨⟨d3, k4.at0 h3⟩, by omega⟩
theorem len_mode_named (K : PySem.W.Frag) : ∀ vs H Q E, sp_mode_named K vs H Q E → vs.length = (["mode"] : List Str).length := by
  rintro vs H Q E ⟨_, rfl, _⟩
  rfl
theorem rd_mode_named (T : Txt K mg) (vs : List V) (H : Hp) (Q : VK) (E : XK) (h : sp_mode_named K vs H Q E) : t_mode_named K E { nx := fun _ H' => Q .non H', rt := Q } (start ["mode", "known"] vs) H := by
  obtain ⟨m, rfl, g1, g2⟩ := h
  unfold t_mode_named
  walk_at "g"
  refine ⟨rfl, fun q x0 x1 x2 x3 H1 nq n0 n1 n2 n3 k1 hq m0 m1 m2 m3 => ?_⟩
  have key : ∀ (i : Nat) (x : V), [V.ref x0, V.ref x1, V.ref x2, V.ref x3][i]? = some x → ∃ y, x = .ref y ∧ H y = none ∧ MdAt K H1 y i := by
    intro i x hx
    match i, hx with
    | 0, hx => injection hx with hx; exact ⟨x0, hx.symm, n0, m0⟩
    | 1, hx => injection hx with hx; exact ⟨x1, hx.symm, n1, m1⟩
    | 2, hx => injection hx with hx; exact ⟨x2, hx.symm, n2, m2⟩
    | 3, hx => injection hx with hx; exact ⟨x3, hx.symm, n3, m3⟩
  refine w_l1 (SqL.of hq) ?_
  refine lp_lst (xs := [V.ref x0, V.ref x1, V.ref x2, V.ref x3]) (fun i σ H' => (∃ u, σ = [some (.str m), u]) ∧ Kp [] H1 H' ∧ ∀ d, d < i → m ≠ mdN d) ⟨⟨_, rfl⟩, Kp.refl _ _, fun d hd => by omega⟩ ?_ ?_ ?_
  · rintro i σ' H' hi ⟨_, k, _⟩
    exact SqL.of (k.at0 hq)
  · rintro i x σ' H' hx ⟨⟨u, rfl⟩, k, al⟩
    obtain ⟨y, rfl, ny, md⟩ := key i x hx
    walk_at "g"
    refine w_tcon ?_
    walk_at "g"
    refine w_con T (md.k0 k) ?_
    walk_at "g"
    refine w_iteD (fun e => ?_) (fun e => ?_)
    · walk_at "g"
      exact g1 i md.c3 e.symm y H' ny (k1.trans k) (md.k0 k)
    · walk_at "g"
      refine ⟨⟨_, rfl⟩, k, fun d hd => ?_⟩
      by_cases z : d = i
      · rw [z]; exact fun w => e w.symm
      · exact al d (by omega)
  · rintro σ' H' ⟨⟨u, rfl⟩, k, al⟩
    walk_at "g"
    exact ⟨rfl, Nat.le_of_ble_eq_true rfl, g2 (fun c hc => al c (by show c < 4; omega)) H' (k1.trans k)⟩
theorem len_replay_in (K : PySem.W.Frag) : ∀ vs H Q E, sp_replay_in K vs H Q E → vs.length = (["size", "log", "mode"] : List Str).length := by
  rintro vs H Q E ⟨_, _, _, _, rfl, _⟩
  rfl
theorem rd_replay_in (T : Txt K mg) (vs : List V) (H : Hp) (Q : VK) (E : XK) (h : sp_replay_in K vs H Q E) : t_replay_in K E { nx := fun _ H' => Q .non H', rt := Q } (start ["size", "log", "mode", "links", "judge", "index", "operation"] vs) H := by
  obtain ⟨a, size, log, m, rfl, hs, bz, bm, g⟩ := h
  unfold t_replay_in
  walk_at "g"
  refine mk fun q dx H1 nq hq k1 => ?_
  refine ⟨q, dx, size, rfl, hq, fun ok r l o H2 nr nl no k2 b => ⟨rfl, ?_⟩, fun bad => bz bad _ k1⟩
  have k02 : Kp [] H H2 := (k1.all.trans k2).cut1 nq
  walk_at "g"
  refine ⟨m, rfl, fun c c3 em x H3 nx k3 md => ?_, fun nm H3 k3 => bm ok nm H3 (k02.trans k3)⟩
  obtain ⟨g1, g2⟩ := g ok c c3 em
  have k03 := k02.trans k3
  have b3 := b.k0 k3
  obtain ⟨f1, f2, f3⟩ : x ≠ r ∧ x ≠ l ∧ x ≠ o := ⟨fun z => ne_of_none b.hr nx z.symm, fun z => ne_of_none b.hl nx z.symm, fun z => ne_of_none b.ho nx z.symm⟩
  have hs3 := k03.sql (by simp) hs
  walk_at "g"
  refine ⟨a, _, rfl, hs3, lp_enum (xs := log.map V.int) (fun i σ H' => (∃ u v, σ = [some (.int size), some (.ref a), some (.str m), some (.ref q), some (.ref x), u, v]) ∧ Adm c (wholeS size.toNat) (log.take i) ∧ Kp [] H H' ∧ LinksAt K H' q r l o (runS (wholeS size.toNat) (log.take i)) ∧ MdAt K H' x c) ⟨⟨_, _, rfl⟩, adm_nil _ _, k03, b3, md⟩ ?_ ?_ ?_⟩
  · rintro i σ' H' hi ⟨_, _, k, _⟩
    exact k.sql (by simp) hs
  · rintro i y T0 σ' H' hx ⟨⟨u, v, rfl⟩, ad, k, ls, md'⟩ nT
    obtain ⟨op, hop, rfl⟩ := at_map hx
    have kT : Kp [] H' (upd H' T0 (.tup [.int (i : Int), .int op])) := Kp.new nT
    have kk := k.trans kT
    have ls1 := ls.k0 kT
    have md1 := md'.k0 kT
    have e := take_snoc hop
    walk_at "g"
    refine ⟨x, q, r, l, o, _, op, i, c, rfl, md1, ls1, fun ok2 er => fun H4 k4 => ?_, fun ok2 er H4 k4 => (g2 i op hop ad).2 ok2 er H4 (kk.trans k4), fun bad => ?_⟩
    · have ls4 := ls1.k0 k4
      have md4 := md1.k0 k4
      walk_at "g"
      refine w_me ls4 no_m ?_
      walk_at "g"
      refine ⟨q, r, l, o, _, op, rfl, ls4, fun ok3 H5 k5 ls5 => ?_, fun bad => absurd ok2 bad⟩
      walk_at "g"
      refine ⟨⟨_, _, rfl⟩, ?_, ?_, ?_, ?_⟩
      · rw [e]
        exact ad.snoc ok2 er
      · exact ((kk.trans k4).all.trans k5).cut (by simp [k1.free0 nr, k1.free0 nl, k1.free0 no])
      · rw [e, runS_snoc]
        exact ls5
      · exact md4.kp k5 (by simp [f1, f2, f3])
    · rw [runS_n]
      exact (g2 i op hop ad).1 bad _ kk
  · rintro σ' H' ⟨⟨u, v, rfl⟩, ad, k, ls, _⟩
    rw [List.length_map, List.take_length] at ad ls
    walk_at "g"
    exact g1 ad q r l o H' nq (k1.free0 nr) (k1.free0 nl) (k1.free0 no) k ls
theorem len_first_refusal (K : PySem.W.Frag) : ∀ vs H Q E, sp_first_refusal K vs H Q E → vs.length = (["size", "log", "mode"] : List Str).length := by
  rintro vs H Q E ⟨_, _, _, _, rfl, _⟩
  rfl
theorem rd_first_refusal (T : Txt K mg) (vs : List V) (H : Hp) (Q : VK) (E : XK) (h : sp_first_refusal K vs H Q E) : t_first_refusal K E { nx := fun _ H' => Q .non H', rt := Q } (start ["size", "log", "mode", "judge", "links", "index", "operation"] vs) H := by
  obtain ⟨a, size, log, m, rfl, hs, bz, bm, g⟩ := h
  unfold t_first_refusal
  walk_at "g"
  refine ⟨size, rfl, fun ok => ?_, fun bad => bz bad H (Kp.refl _ _)⟩
  walk_at "g"
  refine ⟨m, rfl, fun c c3 em x H1 nx k1 md => ?_, fun nm H3 k3 => bm ok nm H3 k3⟩
  obtain ⟨g1, g2⟩ := g ok c c3 em
  walk_at "g"
  refine ⟨a, size, log, rfl, k1.sql (by simp) hs, fun _ le => ?_, fun _ => ?_, fun z => absurd ok z⟩
  · intro p0 r0 l0 o0 H2 np0 nr0 nl0 no0 k2 la0
    obtain ⟨g3, g4⟩ := g2 le
    have k02 := k1.trans k2
    have md2 := md.k0 k2
    obtain ⟨dx2, hx2⟩ := md2.ob
    walk_at "g"
    refine mk fun q dx H3 nq hq k3 => ?_
    refine ⟨q, dx, size, rfl, hq, fun ok r l o H4 nr nl no k4 b => ⟨rfl, ?_⟩, fun bad => absurd ok bad⟩
    have k24 : Kp [] H2 H4 := (k3.all.trans k4).cut1 nq
    have k04 := k02.trans k24
    have hx4 := k24.at0 hx2
    have md4 := md2.k0 k24
    have fr : H r = none ∧ H l = none ∧ H o = none := ⟨k02.free0 (k3.free0 nr), k02.free0 (k3.free0 nl), k02.free0 (k3.free0 no)⟩
    obtain ⟨f1, f2, f3⟩ : x ≠ r ∧ x ≠ l ∧ x ≠ o := ⟨ne_of_none (k3.at0 hx2) nr, ne_of_none (k3.at0 hx2) nl, ne_of_none (k3.at0 hx2) no⟩
    have hs4 := k04.sql (by simp) hs
    walk_at "g"
    refine ⟨a, _, rfl, hs4, lp_enum (xs := log.map V.int) (fun i σ H' => (∃ u v, σ = [some (.int size), some (.ref a), some (.str m), some (.ref x), some (.ref q), u, v]) ∧ Adm c (wholeS size.toNat) (log.take i) ∧ Kp [] H H' ∧ LinksAt K H' q r l o (runS (wholeS size.toNat) (log.take i)) ∧ MdAt K H' x c) ⟨⟨_, _, rfl⟩, adm_nil _ _, k04, b, md4⟩ ?_ ?_ ?_⟩
    · rintro i σ' H' hi ⟨_, _, k, _⟩
      exact k.sql (by simp) hs
    · rintro i y T0 σ' H' hx ⟨⟨u, v, rfl⟩, ad, k, ls, md'⟩ nT
      obtain ⟨op, hop, rfl⟩ := at_map hx
      have kT : Kp [] H' (upd H' T0 (.tup [.int (i : Int), .int op])) := Kp.new nT
      have kk := k.trans kT
      have ls1 := ls.k0 kT
      have md1 := md'.k0 kT
      have e := take_snoc hop
      have okop := le i op hop
      walk_at "g"
      refine w_mtD ?_
      walk_at "g"
      refine w_rf (P := fun sp => (tCons (tVar 4) (tCons (tVar 6) tNil)) _ _ fun vs H2 => sp (V.ref x :: vs) H2 _ _) md1 ?_
      walk_at "g"
      refine ⟨x, q, r, l, o, _, op, c, rfl, md1, Nat.le_refl _, ls1, fun _ => fun H5 k5 => ?_, fun bad => absurd okop bad⟩
      have ls5 := ls1.k0 k5
      have md5 := md1.k0 k5
      walk_at "g"
      refine w_iteN (fun er => ?_) (fun er => ?_)
      · walk_at "g"
        exact g4 i ⟨op, hop, ad, er⟩ H5 (kk.trans k5)
      · walk_at "g"
        refine w_me ls5 no_m ?_
        walk_at "g"
        refine ⟨q, r, l, o, _, op, rfl, ls5, fun ok3 H6 k6 ls6 => ?_, fun bad => absurd okop bad⟩
        walk_at "g"
        refine ⟨⟨_, _, rfl⟩, ?_, ?_, ?_, ?_⟩
        · rw [e]
          exact ad.snoc okop er
        · exact ((kk.trans k5).all.trans k6).cut (by simp [fr.1, fr.2.1, fr.2.2])
        · rw [e, runS_snoc]
          exact ls6
        · exact md5.kp k6 (by simp [f1, f2, f3])
    · rintro σ' H' ⟨⟨u, v, rfl⟩, ad, k, ls, _⟩
      rw [List.length_map, List.take_length] at ad
      walk_at "g"
      exact g3 ad H' k
  · intro i op hi le bad H2 k2
    exact g1 i op hi le bad H2 (k1.trans k2)
end
end G
set_option Elab.async false
set_option linter.all false
set_option maxRecDepth 100000
set_option maxHeartbeats 1000000
namespace G
--#FAM KB
open PySem PySem.Spec PyProof.Rows L2
local macro_rules
  | `(tactic| walk_at "1") => `(tactic| first
    | with_reducible refine w_seq ?_
    | with_reducible refine w_asg ?_
    | with_reducible refine w_asgS ?_
    | with_reducible refine w_asf ?_
    | with_reducible refine w_drop ?_
    | with_reducible refine w_ret ?_
    | with_reducible refine w_if ?_
    | with_reducible refine w_not ?_
    | with_reducible refine w_and ?_
    | with_reducible refine w_or ?_
    | with_reducible refine w_test ?_
    | with_reducible refine w_tb ?_
    | with_reducible refine w_chain ?_
    | with_reducible refine w_op ?_
    | with_reducible refine w_un ?_
    | with_reducible refine w_andV ?_
    | with_reducible refine w_orV ?_
    | with_reducible refine w_notV ?_
    | with_reducible refine w_ifE ?_
    | with_reducible refine w_cons ?_
    | with_reducible refine w_nil ?_
    | with_reducible refine w_cb ?_
    | with_reducible refine w_cl ?_
    | with_reducible refine w_mt ?_
    | with_reducible refine w_fld ?_
    | with_reducible refine w_tupN ?_
    | with_reducible refine w_lstN ?_
    | with_reducible refine w_bm ?_
    | with_reducible refine w_bm0 ?_
    | with_reducible refine w_for ?_
    | with_reducible refine w_lc ?_
    | with_reducible refine w_iR1 ?_
    | with_reducible refine w_iR2 ?_
    | with_reducible refine w_iL ?_
    | with_reducible refine w_iT ?_
    | with_reducible refine w_iE ?_
    | with_reducible refine w_iZ ?_
    | with_reducible refine w_var (by with_unfolding_all rfl) ?_
    | with_reducible refine w_c ?_
    | with_reducible refine w_next ?_
    | with_reducible refine w_i0 ?_
    | with_reducible refine w_u1 ?_
    | with_reducible refine w_addI ?_
    | with_reducible refine w_eqI ?_
    | with_reducible refine w_eqS ?_
    | with_reducible refine w_eqB ?_
    | with_reducible refine w_neI ?_
    | with_reducible refine w_neS ?_
    | with_reducible refine w_neB ?_
    | with_reducible refine w_abs ?_
    | with_reducible refine w_intI ?_
    | with_reducible refine w_min2 ?_
    | with_reducible refine w_max2 ?_
    | with_reducible refine w_isN0 ?_
    | with_reducible refine w_isN1 ref_ne ?_
    | with_reducible refine w_isN1 int_ne ?_
    | with_reducible refine w_notN0 ?_
    | with_reducible refine w_notN1 ref_ne ?_
    | with_reducible refine w_notN1 int_ne ?_
    | with_reducible refine w_ex1 ?_
    | with_reducible refine w_n1 ?_
    | with_reducible refine w_n2 ?_
    | with_reducible refine w_tT ?_
    | with_reducible refine w_tF ?_
    | with_reducible refine w_nT ?_
    | with_reducible refine w_nF ?_
    | with_reducible refine w_rz ?_
    | with_reducible refine w_mkN ?_
    | with_reducible refine w_lrgN ?_
    | with_reducible refine w_rg1 ?_
    | with_reducible refine w_rg2 ?_
    | with_reducible refine w_sl ?_
    | with_reducible refine w_np ?_
    | with_reducible refine w_pt ?_
    | with_reducible refine w_tr ?_
    | with_reducible refine w_gn ?_
    | with_reducible refine w_yes ?_
    | with_reducible refine w_m1 ?_
    | with_reducible refine w_asu ?_
    | with_reducible refine w_exS ?_
    | with_reducible refine w_iS ?_
    | with_reducible refine w_g1 ?_
    | with_reducible refine w_gc ?_
    | with_reducible refine w_gt (SqT.of upd_same) rfl ?_)
local macro_rules
  | `(tactic| walk_at "g") => `(tactic| repeat walk_at "1")
local macro_rules
  | `(tactic| walk_at "j1") => `(tactic| first
    | with_reducible refine w_seqI ?_
    | walk_at "1")
local macro_rules
  | `(tactic| walk_at "j") => `(tactic| repeat walk_at "j1")
section
variable {K : PySem.W.Frag} {mg : Str → Option Value}
theorem len__law_operation (K : PySem.W.Frag) : ∀ vs H Q E, sp__law_operation K vs H Q E → vs.length = (["book", "node"] : List Str).length := by
  rintro vs H Q E ⟨_, _, _, _, _, _, rfl, _⟩
  rfl
theorem rd__law_operation (T : Txt K mg) (vs : List V) (H : Hp) (Q : VK) (E : XK) (h : sp__law_operation K vs H Q E) : t__law_operation K E { nx := fun _ H' => Q .non H', rt := Q } (start ["book", "node"] vs) H := by
  obtain ⟨w, l, r, o, s, v, rfl, a, v1, g⟩ := h
  unfold t__law_operation
  have lO := a.wf.lO
  walk_at "g"
  refine w_ixL (SqL.of a.ob) (i := 3) (v := .ref o) rfl ?_
  walk_at "g"
  refine w_ixL (SqL.of a.ho) (at_B (by omega) (by omega)) ?_
  rw [Int.toNat_natCast]
  unfold legO at g
  walk_at "g"
  refine w_iteB (fun c => ?_) (fun c => ?_)
  · rw [if_pos c] at g
    walk_at "g"
    exact g
  · rw [if_neg (by rw [c]; exact Bool.false_ne_true)] at g
    walk_at "g"
    exact g
theorem bk_R {R' : List Int} {s : Sd} (w : Wf s) (h1 : R'.length = s.n + 2) (h2 : ∀ v, v ≤ s.n → gI R' v = gI s.R v) : R'.take (s.n + 1) = s.R := by
  have lR := w.lR
  refine List.ext_getElem? fun i => ?_
  by_cases c : i < s.n + 1
  · rw [List.getElem?_take, if_pos c, gI_at (by omega), gI_at (by omega), h2 i (by omega)]
  · rw [List.getElem?_take, if_neg c, List.getElem?_eq_none (by omega)]
theorem bk_L {L' : List Int} {s : Sd} (w : Wf s) (h1 : L'.length = s.n + 2) (h2 : ∀ v, 1 ≤ v → v ≤ s.n + 1 → gI L' v = gI s.L v) : L'.drop 1 = s.L.drop 1 := by
  have lL := w.lL
  refine List.ext_getElem? fun i => ?_
  rw [List.getElem?_drop, List.getElem?_drop]
  by_cases c : 1 + i < s.n + 2
  · rw [gI_at (by omega), gI_at (by omega), h2 _ (by omega) (by omega)]
  · rw [List.getElem?_eq_none (by omega), List.getElem?_eq_none (by omega)]
theorem len__law_lost (K : PySem.W.Frag) : ∀ vs H Q E, sp16__law_lost K vs H Q E → vs.length = (["book"] : List Str).length := by
  rintro vs H Q E ⟨_, _, _, _, _, rfl, _⟩
  rfl
theorem rd__law_lost (T : Txt K mg) (vs : List V) (H : Hp) (Q : VK) (E : XK) (h : sp16__law_lost K vs H Q E) : t__law_lost K E { nx := fun _ H' => Q .non H', rt := Q } (start ["book", "gap"] vs) H := by
  obtain ⟨w, l, r, o, s, rfl, a, g⟩ := h
  unfold t__law_lost
  obtain ⟨L', hL, lL, eL⟩ := a.hl
  obtain ⟨R', hR, lR, eR⟩ := a.hr
  have n60 := a.wf.n60
  walk_at "g"
  refine w_ixL (SqL.of a.ob) at_0 ?_
  walk_at "g"
  refine w_r1 (by omega) ?_
  rw [show ((s.n : Int) + 1).toNat = s.n + 1 by omega]
  have snoc : ∀ i, ((((List.range (i + 1)).filter fun v => decide (stT s v = "lost")).map fun (v : Nat) => (v : Int)).map V.int) = ((((List.range i).filter fun v => decide (stT s v = "lost")).map fun (v : Nat) => (v : Int)).map V.int) ++ if stT s i = "lost" then [V.int (i : Int)] else [] := fun i => by
    rw [List.range_succ, List.filter_append, List.map_append, List.map_append]
    congr 1
    by_cases c : stT s i = "lost"
    · rw [if_pos c, List.filter_cons_of_pos (p := fun v => decide (stT s v = "lost")) (decide_eq_true c)] <;> rfl
    · rw [if_neg c, List.filter_cons_of_neg (p := fun v => decide (stT s v = "lost")) (by rw [decide_eq_false c]; decide)] <;> rfl
  refine cp_rng (fun i => ((((List.range i).filter fun v => decide (stT s v = "lost")).map fun (v : Nat) => (v : Int)).map V.int)) (fun i hi => sz_lt (by
    rw [List.length_map, List.length_map]
    have := List.length_filter_le (fun v => decide (stT s v = "lost")) (List.range i)
    rw [List.length_range] at this
    omega)) rfl (fun i H' S N hi k y no => ?_) (fun q H1 nq k1 hq => g q H1 nq k1 hq)
  have e1 : gI R' (0 + (i : Int)).toNat = gI s.R i := by rw [show (0 + (i : Int)).toNat = i by omega]; exact eR i (by omega)
  have e2 : gI L' (0 + (i : Int) + 1).toNat = gI s.L (i + 1) := by rw [show (0 + (i : Int) + 1).toNat = i + 1 by omega]; exact eL (i + 1) (by omega) (by omega)
  walk_at "g"
  refine ⟨rfl, ?_⟩
  walk_at "g"
  refine w_ixL (SqL.of (k.at0 a.ob)) (i := 2) (v := .ref r) rfl ?_
  walk_at "g"
  refine w_ixL (SqL.of (k.at0 hR)) (at_I (by omega) (by omega)) ?_
  rw [e1]
  walk_at "g"
  refine w_iteN (fun c1 => ?_) (fun c1 => ?_)
  · walk_at "g"
    refine w_ixL (SqL.of (k.at0 a.ob)) (i := 1) (v := .ref l) rfl ?_
    walk_at "g"
    refine w_ixL (SqL.of (k.at0 hL)) (at_I (by omega) (by omega)) ?_
    rw [e2]
    walk_at "g"
    refine w_iteN (fun c2 => ?_) (fun c2 => ?_)
    · walk_at "g"
      refine y _ _ (Kp.refl _ _) ?_
      rw [snoc, if_pos (stT_lost2.mpr ⟨by omega, by omega⟩), Int.zero_add]
    · refine no _ (Kp.refl _ _) ?_
      rw [snoc, if_neg (fun z => by have := (stT_lost2.mp z).2; omega), List.append_nil]
  · walk_at "g"
    refine no _ (Kp.refl _ _) ?_
    rw [snoc, if_neg (fun z => by have := (stT_lost2.mp z).1; omega), List.append_nil]
theorem cmulR9 {i j : Int} (h1 : -(2 ^ 64) < j) (h2 : j < 2 ^ 64) : CMul i j := .inr ⟨h1, h2⟩
theorem cut_all9 (l : List Int) (k : Nat) (h : l.length ≤ k) : cutV (l.map V.int) none (some (k : Int)) = l.map V.int := by
  unfold cutV
  rw [HT.sIx_nat, HT.sIx_none, Nat.min_eq_right (by rw [List.length_map]; exact h), List.drop_zero, Nat.sub_zero, List.take_length]
theorem str_glue9 (a b c : Str) : a ++ (" | " : Str) ++ b ++ (" | " : Str) ++ c = Txt.join barS [a, b, c] := by
  rw [TL.join_eq]
  refine TL.ext_tl ?_
  rw [TL.tl_join]
  show TL.tl (a ++ barS ++ b ++ barS ++ c) = TL.tl a ++ (TL.tl barS ++ (TL.tl b ++ (TL.tl barS ++ TL.tl c)))
  simp only [TL.tl_append, List.append_assoc]
theorem len__law_purse (K : PySem.W.Frag) : ∀ vs H Q E, sp13__law_purse K vs H Q E → vs.length = (["script"] : List Str).length := by
  rintro vs H Q E ⟨_, _, rfl, _⟩
  rfl
theorem rd__law_purse (T : Txt K mg) (vs : List V) (H : Hp) (Q : VK) (E : XK) (h : sp13__law_purse K vs H Q E) : t__law_purse K E { nx := fun _ H' => Q .non H', rt := Q } (start ["script", "cells", "seed", "cell"] vs) H := by
  obtain ⟨a, ns, rfl, hs, hl, g⟩ := h
  unfold t__law_purse
  have ct : cutV (ns.map V.int) none (some 63) = ns.map V.int := cut_all9 ns 63 hl
  walk_at "g"
  refine w_slL hs fun q H1 nq k1 hq => ?_
  rw [ct] at hq
  walk_at "g"
  refine w_l1 (SqL.of hq) ?_
  refine cp_lst (SqL.of hq) (fun i => ((((ns.take i).filter fun x => decide ((10 : Int) ^ Int.toNat 18 ≤ (x.natAbs : Int))).map fun x => ((x.natAbs : Nat) : Int)).map V.int)) (fun i hi => sz_lt (by
    rw [List.length_map, List.length_map]
    have := List.length_filter_le (fun x : Int => decide ((10 : Int) ^ Int.toNat 18 ≤ (x.natAbs : Int))) (ns.take i)
    rw [List.length_take] at this
    omega)) rfl (fun i x H' S N hx k y no => ?_) (fun c H2 nc k2 hc => ?_)
  · obtain ⟨v, hv, rfl⟩ := at_map hx
    walk_at "g"
    refine ⟨rfl, ?_⟩
    walk_at "g"
    rw [natAbs_if]
    refine w_ic ⟨by omega, by omega, by decide⟩ ?_
    walk_at "g"
    refine w_iteD (fun cc => ?_) (fun cc => ?_)
    · walk_at "g"
      rw [natAbs_if]
      refine y _ _ (Kp.refl _ _) ?_
      rw [take_snoc hv, List.filter_append, List.map_append, List.map_append, List.filter_cons_of_pos (p := fun x : Int => decide ((10 : Int) ^ Int.toNat 18 ≤ (x.natAbs : Int))) (decide_eq_true cc)] <;> rfl
    · refine no _ (Kp.refl _ _) ?_
      rw [take_snoc hv, List.filter_append, List.map_append, List.map_append, List.filter_cons_of_neg (p := fun x : Int => decide ((10 : Int) ^ Int.toNat 18 ≤ (x.natAbs : Int))) (by rw [decide_eq_false cc]; exact Bool.false_ne_true)]
      exact List.append_nil _
  rw [List.length_map, List.take_length] at hc
  have lc : ((ns.filter fun x => decide ((10 : Int) ^ Int.toNat 18 ≤ (x.natAbs : Int))).map fun x => ((x.natAbs : Nat) : Int)).length ≤ 63 := by
    rw [List.length_map]
    exact Nat.le_trans (List.length_filter_le _ _) hl
  have k12 := k1.trans k2
  walk_at "g"
  refine w_slL (k12.sql (by simp) hs) fun q3 H3 nq3 k3 hq3 => ?_
  rw [ct] at hq3
  walk_at "g"
  refine w_l1 (SqL.of hq3) ?_
  refine lp_lst (xs := ns.map V.int) (fun i σ H' => (∃ (z : Int) (u : Option V), σ = [some (.ref a), some (.ref c), some (.int z), u]) ∧ H' = H3) ⟨⟨_, _, rfl⟩, rfl⟩ ?_ ?_ ?_
  · rintro i σ' H' hi ⟨_, rfl⟩
    exact SqL.of hq3
  · rintro i x σ' H' hx ⟨⟨z, u, rfl⟩, eH⟩
    obtain rfl : H' = H3 := eH
    obtain ⟨v, hv, rfl⟩ := at_map hx
    walk_at "g"
    refine w_mulI (cmulR9 (by omega) (by omega)) ?_
    walk_at "g"
    refine w_ic (by omega) ?_
    walk_at "g"
    refine w_ic (by omega) ?_
    exact ⟨⟨_, _, rfl⟩, rfl⟩
  · rintro σ' H' ⟨⟨z, u, rfl⟩, eH⟩
    obtain rfl : H' = H3 := eH
    walk_at "g"
    refine ⟨sz_ok (by show 4 ≤ 1000000; omega), G.nw fun b H4 nb k4 hb => ?_⟩
    exact g b c H4 (k12.free0 (k3.free0 nb)) (k1.free0 nc) (k12.trans (k3.trans k4)) ⟨_, _, _, _, hb, k4.at0 (k3.at0 hc), lc⟩
theorem len__law_take (K : PySem.W.Frag) : ∀ vs H Q E, sp13__law_take K vs H Q E → vs.length = (["purse", "many"] : List Str).length := by
  rintro vs H Q E ⟨_, _, _, rfl, _⟩
  rfl
theorem rd__law_take (T : Txt K mg) (vs : List V) (H : Hp) (Q : VK) (E : XK) (h : sp13__law_take K vs H Q E) : t__law_take K E { nx := fun _ H' => Q .non H', rt := Q } (start ["purse", "many", "cells", "draw"] vs) H := by
  obtain ⟨b, c, many, rfl, hm, hm2, pu, g⟩ := h
  unfold t__law_take
  have bc := pu.ne
  obtain ⟨x, y, z, ns, hb, hc, lns⟩ := pu.ob
  walk_at "g"
  refine w_ixL (SqL.of hb) (i := 3) (v := .int z) rfl ?_
  walk_at "g"
  refine w_seT hb (n := 3) rfl fun H1 k1 h1 => ?_
  have hc1 := k1.at1 (Ne.symm bc) hc
  walk_at "g"
  refine w_ixL (SqL.of h1) at_0 ?_
  walk_at "g"
  refine w_truL (SqL.of hc1) ?_
  match ns, hc1, lns with
  | [], hc1, lns =>
    refine w_nF ?_
    walk_at "g"
    refine w_ixL (SqL.of h1) (i := 1) (v := .int x) rfl ?_
    walk_at "g"
    refine w_mulI (cmulR9 (by omega) (by omega)) ?_
    walk_at "g"
    refine w_ixL (SqL.of h1) (i := 3) (v := .int (z + 1)) rfl ?_
    walk_at "g"
    refine w_mulI (cmulR9 (by omega) (by omega)) ?_
    walk_at "g"
    refine w_ic (by omega) ?_
    walk_at "g"
    refine w_seT h1 (n := 1) rfl fun H2 k2 h2 => ?_
    generalize (x * 48271 + (z + 1) * 69621 + 11) % 2147483647 = x' at h2
    walk_at "g"
    refine w_ixL (SqL.of h2) (i := 2) (v := .int y) rfl ?_
    walk_at "g"
    refine w_mulI (cmulR9 (by omega) (by omega)) ?_
    walk_at "g"
    refine w_ixL (SqL.of h2) (i := 1) (v := .int x') rfl ?_
    walk_at "g"
    refine w_ic ⟨by omega, by omega⟩ ?_
    walk_at "g"
    refine w_ic (by omega) ?_
    walk_at "g"
    refine w_seT h2 (n := 2) rfl fun H3 k3 h3 => ?_
    generalize (y * 39373 + x' / 128 + 5) % 2147483629 = y' at h3
    walk_at "g"
    refine w_ixL (SqL.of h3) (i := 1) (v := .int x') rfl ?_
    walk_at "g"
    refine w_ic ⟨by omega, by omega⟩ ?_
    walk_at "g"
    refine w_ixL (SqL.of h3) (i := 2) (v := .int y') rfl ?_
    walk_at "g"
    refine w_ic hm ?_
    have k13 := (k1.trans k2).trans k3
    exact g _ H3 (Int.emod_nonneg _ (by omega)) (Int.emod_lt_of_pos _ hm) (k13.mono (by simp)) ⟨x', y', z + 1, [], h3, k3.at1 (Ne.symm bc) (k2.at1 (Ne.symm bc) hc1), Nat.zero_le _⟩
  | cell :: more, hc1, lns =>
    rw [List.length_cons] at lns
    refine w_nT ?_
    walk_at "g"
    refine w_ixL (SqL.of hc1) at_0 ?_
    walk_at "g"
    refine w_ic hm ?_
    walk_at "g"
    refine w_ixL (SqL.of hc1) at_0 ?_
    walk_at "g"
    refine w_ic ⟨hm, by omega⟩ ?_
    walk_at "g"
    refine w_seT hc1 (n := 0) (by rw [ixN_pos (by omega) (by rw [List.length_map, List.length_cons]; omega)]; rfl) fun H2 k2 h2 => ?_
    have h2 : H2 c = some (.lst (((cell / many) :: more).map V.int)) := h2
    generalize cell / many = rest at h2
    have hb2 := k2.at1 bc h1
    walk_at "j"
    refine w_ifK (fun H' => Kp [c] H2 H' ∧ ∃ ms : List Int, H' c = some (.lst (ms.map V.int)) ∧ ms.length ≤ 63) (fun N hN => ?_) (fun H3 ⟨k3, ms, h3, lm⟩ => ?_)
    · walk_at "g"
      refine w_ixL (SqL.of h2) at_0 ?_
      walk_at "g"
      refine w_iteD (fun c1 => ?_) (fun c1 => ?_)
      · walk_at "g"
        refine ⟨w_ty (SqL.of h2), ?_⟩
        walk_at "g"
        refine w_popAt h2 (k := 0) (y := .int rest) (by omega) (by omega) (by unfold seqIndex?; rw [List.length_map, List.length_cons]; simp) rfl fun H3 k3 h3 => ?_
        walk_at "g"
        exact hN _ ⟨k3, more, h3, by omega⟩
      · walk_at "g"
        exact hN _ ⟨Kp.refl _ _, rest :: more, h2, by rw [List.length_cons]; omega⟩
    walk_at "g"
    exact g _ H3 (Int.emod_nonneg _ (by omega)) (Int.emod_lt_of_pos _ hm) (((k1.mono (by simp)).trans (k2.mono (by simp))).trans (k3.mono (by simp))) ⟨x, y, z + 1, ms, k3.at1 bc hb2, h3, lm⟩
theorem len__law_words (K : PySem.W.Frag) : ∀ vs H Q E, sp13__law_words K vs H Q E → vs.length = ([] : List Str).length := by
  rintro vs H Q E ⟨rfl, _⟩
  rfl
theorem rd__law_words (T : Txt K mg) (vs : List V) (H : Hp) (Q : VK) (E : XK) (h : sp13__law_words K vs H Q E) : t__law_words K E { nx := fun _ H' => Q .non H', rt := Q } (start [] vs) H := by
  obtain ⟨rfl, g⟩ := h
  unfold t__law_words
  walk_at "g"
  refine ⟨sz_ok (by show 4 ≤ 1000000; omega), G.nw fun q H1 nq k1 hq => ?_⟩
  exact g q H1 nq k1 hq
theorem len__law_is (K : PySem.W.Frag) : ∀ vs H Q E, sp13__law_is K vs H Q E → vs.length = (["told", "due"] : List Str).length := by
  rintro vs H Q E ⟨_, rfl, _⟩
  rfl
theorem rd__law_is (T : Txt K mg) (vs : List V) (H : Hp) (Q : VK) (E : XK) (h : sp13__law_is K vs H Q E) : t__law_is K E { nx := fun _ H' => Q .non H', rt := Q } (start ["told", "due"] vs) H := by
  obtain ⟨i, rfl, g⟩ := h
  unfold t__law_is
  walk_at "g"
  refine w_isiI (r := true) rfl ?_
  walk_at "g"
  refine w_isiI (r := false) rfl ?_
  walk_at "g"
  rw [decide_eq_true rfl]
  exact g
theorem len__law_whole (K : PySem.W.Frag) : ∀ vs H Q E, sp13__law_whole K vs H Q E → vs.length = (["size"] : List Str).length := by
  rintro vs H Q E ⟨_, rfl, _⟩
  rfl
theorem rd__law_whole (T : Txt K mg) (vs : List V) (H : Hp) (Q : VK) (E : XK) (h : sp13__law_whole K vs H Q E) : t__law_whole K E { nx := fun _ H' => Q .non H', rt := Q } (start ["size", "lefts", "rights", "node"] vs) H := by
  obtain ⟨n, rfl, hn, g⟩ := h
  unfold t__law_whole
  walk_at "g"
  refine w_r1 (by omega) ?_
  rw [show ((n : Int) + 2).toNat = n + 2 by omega]
  refine cp_rng (fun i => (rgI (-1) i).map V.int) (fun i hi => sz_lt (by rw [List.length_map, rgI_len]; omega)) rfl (fun i H' S N hi k y _ => ?_) (fun l H1 nl k1 hl => ?_)
  · walk_at "g"
    refine ⟨rfl, ?_⟩
    walk_at "g"
    refine y _ _ (Kp.refl _ _) ?_
    unfold rgI
    rw [List.range_succ, List.map_append, List.map_append, show (0 : Int) + (i : Int) - 1 = -1 + (i : Int) by omega] <;> rfl
  walk_at "g"
  refine w_r1 (by omega) ?_
  rw [show ((n : Int) + 2).toNat = n + 2 by omega]
  refine cp_rng (fun i => (rgI 1 i).map V.int) (fun i hi => sz_lt (by rw [List.length_map, rgI_len]; omega)) rfl (fun i H' S N hi k y _ => ?_) (fun r H2 nr k2 hr => ?_)
  · walk_at "g"
    refine ⟨rfl, ?_⟩
    walk_at "g"
    refine y _ _ (Kp.refl _ _) ?_
    unfold rgI
    rw [List.range_succ, List.map_append, List.map_append, show (0 : Int) + (i : Int) + 1 = 1 + (i : Int) by omega] <;> rfl
  walk_at "g"
  refine w_r1 (by omega) ?_
  rw [show ((n : Int) + 2).toNat = n + 2 by omega]
  refine cp_rng (fun i => (List.replicate i false).map V.bl) (fun i hi => sz_lt (by rw [List.length_map, List.length_replicate]; omega)) rfl (fun i H' S N hi k y _ => ?_) (fun o H3 no k3 ho => ?_)
  · walk_at "g"
    refine ⟨rfl, ?_⟩
    walk_at "g"
    refine y _ _ (Kp.refl _ _) ?_
    rw [rep_snoc, List.map_append] <;> rfl
  refine ⟨sz_ok (by show 4 ≤ 1000000; omega), G.nw fun w H4 nw k4 hw => ?_⟩
  have hl3 := k3.at0 (k2.at0 hl)
  have hr3 := k3.at0 hr
  refine g w l r o H4 (k1.free0 (k2.free0 (k3.free0 nw))) nl (k1.free0 nr) (k1.free0 (k2.free0 no)) ((k1.trans k2).trans (k3.trans k4)) ⟨hw, ⟨_, k4.at0 hl3, by rw [rgI_len]; rfl, fun v h1 h2 => ?_⟩, ⟨_, k4.at0 hr3, by rw [rgI_len]; rfl, fun v hv => ?_⟩, k4.at0 ho,
    ⟨ne_of_none hl nr, ne_of_none (k2.at0 hl) no, ne_of_none hr no, fun z => ne_of_none hl3 nw z.symm, fun z => ne_of_none hr3 nw z.symm, fun z => ne_of_none ho nw z.symm⟩, Wf.whole hn⟩
  · have h2 : v ≤ n + 1 := h2
    obtain ⟨u, rfl⟩ : ∃ u, v = u + 1 := ⟨v - 1, by omega⟩
    rw [gI_range (by omega), (whole_links (n := n) (u := u) (by omega)).2]
    omega
  · have hv : v ≤ n := hv
    rw [gI_range (by omega), (whole_links (n := n) (u := v) hv).1]
    omega
theorem lego_neg {s : Sd} {v : Nat} (h : 1 ≤ v) : legO s v < 0 ↔ gB s.O v = false := by
  unfold legO
  cases gB s.O v <;> simp <;> omega
theorem flip_eq {s : Sd} {v : Nat} (h : 1 ≤ v) : decide (legO s v < 0) = !gB s.O v := by
  rw [Bool.eq_iff_iff, decide_eq_true_iff, lego_neg h]
  cases gB s.O v <;> simp
theorem len__law_moved (K : PySem.W.Frag) : ∀ vs H Q E, sp13__law_moved K vs H Q E → vs.length = (["book", "node"] : List Str).length := by
  rintro vs H Q E ⟨_, _, _, _, _, _, rfl, _⟩
  rfl
theorem rd__law_moved (T : Txt K mg) (vs : List V) (H : Hp) (Q : VK) (E : XK) (h : sp13__law_moved K vs H Q E) : t__law_moved K E { nx := fun _ H' => Q .non H', rt := Q } (start ["book", "node", "lefts", "rights", "flags", "lower", "upper"] vs) H := by
  obtain ⟨w, l, r, o, s, v, rfl, a, h1, h2, g⟩ := h
  unfold t__law_moved
  have wf := a.wf
  have n60 := wf.n60
  have lO := wf.lO
  obtain ⟨L', hL, lL, eL⟩ := a.hl
  obtain ⟨R', hR, lR, eR⟩ := a.hr
  obtain ⟨lb1, lb2⟩ := wf.lb v h1 (by omega)
  obtain ⟨rb1, rb2⟩ := wf.rb v h2
  obtain ⟨lo, elo⟩ : ∃ lo : Nat, gI s.L v = (lo : Int) := ⟨(gI s.L v).toNat, by omega⟩
  obtain ⟨hi, ehi⟩ : ∃ hi : Nat, gI s.R v = (hi : Int) := ⟨(gI s.R v).toNat, by omega⟩
  obtain ⟨ok, eop⟩ := legO_ok' (s := s) h1 h2
  have io : IsOp s.n (legO s v) := ok.1
  have fl := flip_eq (s := s) h1
  have ng := lego_neg (s := s) h1
  have st := fun u => step_gI wf io u
  rw [eop] at st
  walk_at "g"
  refine w_ixL (SqL.of a.ob) (i := 1) (v := .ref l) rfl ?_
  walk_at "g"
  refine w_listLN (SqL.of hL) fun l2 H1 nl2 k1 hl2 => ?_
  walk_at "g"
  refine w_ixL (SqL.of (k1.at0 a.ob)) (i := 2) (v := .ref r) rfl ?_
  walk_at "g"
  refine w_listLN (SqL.of (k1.at0 hR)) fun r2 H2 nr2 k2 hr2 => ?_
  have k12 := k1.trans k2
  walk_at "g"
  refine w_ixL (SqL.of (k12.at0 a.ob)) (i := 3) (v := .ref o) rfl ?_
  walk_at "g"
  refine w_listLN (SqL.of (k12.at0 a.ho)) fun o2 H3 no2 k3 ho2 => ?_
  have k13 := k12.trans k3
  have hl3 := k3.at0 (k2.at0 hl2)
  have hr3 := k3.at0 hr2
  have lr : l2 ≠ r2 := ne_of_none hl2 nr2
  have lo' : l2 ≠ o2 := ne_of_none (k2.at0 hl2) no2
  have ro : r2 ≠ o2 := ne_of_none hr2 no2
  walk_at "g"
  refine w_ixL (SqL.of hl3) (at_I (by omega) (by omega)) ?_
  rw [Int.toNat_natCast, eL v h1 (by omega), elo]
  walk_at "g"
  refine w_ixL (SqL.of hr3) (at_I (by omega) (by omega)) ?_
  rw [Int.toNat_natCast, eR v h2, ehi]
  walk_at "j"
  refine w_ifK (fun H' => Kp [l2, r2] H3 H' ∧ H' r2 = some (.lst ((R'.set lo (if gB s.O v = true then (v : Int) else (hi : Int))).map V.int)) ∧ H' l2 = some (.lst ((L'.set hi (if gB s.O v = true then (v : Int) else (lo : Int))).map V.int))) (fun N hN => ?_) (fun H4 ⟨k4, hr4, hl4⟩ => ?_)
  · walk_at "g"
    refine w_ixL (SqL.of ho2) (at_B (by omega) (by omega)) ?_
    rw [Int.toNat_natCast]
    walk_at "g"
    refine w_iteB (fun c => ?_) (fun c => ?_)
    · walk_at "g"
      refine w_seT hr3 (n := lo) (by rw [ixN_pos (by omega) (by rw [List.length_map]; omega), Int.toNat_natCast]) fun H4 k4 h4 => ?_
      walk_at "g"
      refine w_seT (k4.at1 lr hl3) (n := hi) (by rw [ixN_pos (by omega) (by rw [List.length_map]; omega), Int.toNat_natCast]) fun H5 k5 h5 => ?_
      walk_at "g"
      refine hN _ ⟨(k4.mono (by simp)).trans (k5.mono (by simp)), ?_, ?_⟩
      · rw [if_pos c, k5.at1 (Ne.symm lr) h4, set_I]
      · rw [if_pos c, h5, set_I]
    · have c' : ¬ gB s.O v = true := by rw [c]; exact Bool.false_ne_true
      walk_at "g"
      refine w_seT hr3 (n := lo) (by rw [ixN_pos (by omega) (by rw [List.length_map]; omega), Int.toNat_natCast]) fun H4 k4 h4 => ?_
      walk_at "g"
      refine w_seT (k4.at1 lr hl3) (n := hi) (by rw [ixN_pos (by omega) (by rw [List.length_map]; omega), Int.toNat_natCast]) fun H5 k5 h5 => ?_
      walk_at "g"
      refine hN _ ⟨(k4.mono (by simp)).trans (k5.mono (by simp)), ?_, ?_⟩
      · rw [if_neg c', k5.at1 (Ne.symm lr) h4, set_I]
      · rw [if_neg c', h5, set_I]
  have ho4 := k4 _ _ (by simp [Ne.symm lo', Ne.symm ro]) ho2
  walk_at "g"
  refine w_ixL (SqL.of ho4) (at_B (by omega) (by omega)) ?_
  rw [Int.toNat_natCast]
  walk_at "g"
  refine w_seT ho4 (n := v) (by rw [ixN_pos (by omega) (by rw [List.length_map]; omega), Int.toNat_natCast]) fun H5 k5 h5 => ?_
  have k05 : Kp [] H H5 := (((k13.all (S := [l2, r2, o2])).trans (k4.mono (by simp))).trans (k5.mono (by simp))).cut (by simp [nl2, k1.free0 nr2, k12.free0 no2])
  walk_at "g"
  refine w_ixL (SqL.of (k05.at0 a.ob)) at_0 ?_
  walk_at "g"
  refine ⟨sz_ok (by show 4 ≤ 1000000; omega), G.nw fun w2 H6 nw2 k6 hw2 => ?_⟩
  have hr5 := k5.at1 ro hr4
  have hl5 := k5.at1 lo' hl4
  refine g w2 l2 r2 o2 H6 (k05.free0 nw2) nl2 (k1.free0 nr2) (k12.free0 no2) (k05.trans k6) ⟨hw2, ⟨_, k6.at0 hl5, by rw [List.length_set]; exact lL, fun u u1 u2 => ?_⟩, ⟨_, k6.at0 hr5, by rw [List.length_set]; exact lR, fun u u1 => ?_⟩, ?_,
    ⟨lr, lo', ro, fun z => ne_of_none hl5 nw2 z.symm, fun z => ne_of_none hr5 nw2 z.symm, fun z => ne_of_none h5 nw2 z.symm⟩, wf.step io⟩
  · have u2 : u ≤ s.n + 1 := u2
    rw [gI_set (by omega), (st u).2, ehi, Int.toNat_natCast, elo]
    by_cases c : u = hi
    · rw [if_pos c, if_pos c]
      by_cases d : gB s.O v = true
      · rw [if_pos d, if_neg (fun z => by rw [ng.mp z] at d; cases d)]
      · rw [if_neg d, if_pos (ng.mpr (Bool.not_eq_true _ |>.mp d))]
    · rw [if_neg c, if_neg c]
      exact eL u u1 u2
  · have u1 : u ≤ s.n := u1
    rw [gI_set (by omega), (st u).1, elo, Int.toNat_natCast, ehi]
    by_cases c : u = lo
    · rw [if_pos c, if_pos c]
      by_cases d : gB s.O v = true
      · rw [if_pos d, if_neg (fun z => by rw [ng.mp z] at d; cases d)]
      · rw [if_neg d, if_pos (ng.mpr (Bool.not_eq_true _ |>.mp d))]
    · rw [if_neg c, if_neg c]
      exact eR u u1
  · rw [k6.at0 h5, set_B]
    show _ = some (HO.lst ((s.O.set (legO s v).natAbs (decide (legO s v < 0))).map V.bl))
    rw [eop, fl]
theorem outN_s9 (O : List Bool) (i : Nat) : outN (i + 1) O = outN i O ++ (if gB O (i + 1) = true then [((i + 1 : Nat) : Int)] else []) := by
  unfold outN
  rw [List.range_succ, List.map_append, List.filter_append, List.map_append]
  congr 1
  show (([i + 1].filter fun v => gB O v).map fun (v : Nat) => (v : Int)) = _
  by_cases c : gB O (i + 1) = true
  · rw [List.filter_cons_of_pos (p := fun v => gB O v) c, if_pos c] <;> rfl
  · rw [List.filter_cons_of_neg (p := fun v => gB O v) c, if_neg c] <;> rfl
theorem len__law_dump (K : PySem.W.Frag) : ∀ vs H Q E, sp13__law_dump K vs H Q E → vs.length = (["book"] : List Str).length := by
  rintro vs H Q E ⟨_, _, _, _, _, rfl, _⟩
  rfl
theorem rd__law_dump (T : Txt K mg) (vs : List V) (H : Hp) (Q : VK) (E : XK) (h : sp13__law_dump K vs H Q E) : t__law_dump K E { nx := fun _ H' => Q .non H', rt := Q } (start ["book", "size", "first", "second", "outs", "third", "link", "node"] vs) H := by
  obtain ⟨w, l, r, o, s, rfl, a, g⟩ := h
  unfold t__law_dump
  obtain ⟨L', hL, lL, eL⟩ := a.hl
  obtain ⟨R', hR, lR, eR⟩ := a.hr
  have wf := a.wf
  have n60 := wf.n60
  have lO := wf.lO
  obtain ⟨R9, Rl⟩ := wf.R9
  obtain ⟨L9, Ll⟩ := wf.L9
  have o9 := outN_9 n60 s.O
  have ol := outN_len s.n s.O
  walk_at "g"
  refine w_ixL (SqL.of a.ob) at_0 ?_
  walk_at "g"
  refine w_ixL (SqL.of a.ob) (i := 2) (v := .ref r) rfl ?_
  walk_at "g"
  refine w_slL (SqL.of hR) fun q H1 nq k1 hq => ?_
  rw [show (s.n : Int) + 1 = ((s.n + 1 : Nat) : Int) by omega, cut_take _ _ (by rw [List.length_map]; omega), ← List.map_take, bk_R wf lR eR] at hq
  walk_at "g"
  refine w_l1 (SqL.of hq) ?_
  refine cp_lst (SqL.of hq) (fun j => (s.R.take j).map fun i => V.str (numI i)) (fun j hj => sz_lt (by rw [List.length_map, List.length_take]; omega)) rfl (fun j x H' S N hx k y _ => ?_) (fun D2 H2 nD2 k2 hD2 => ?_)
  · obtain ⟨v, hv, rfl⟩ := at_map hx
    have b := R9 v (List.mem_of_getElem? hv)
    walk_at "g"
    refine ⟨rfl, ?_⟩
    walk_at "g"
    refine w_str (log_ok b.1 b.2) ?_
    exact y _ _ (Kp.refl _ _) (map_snoc (f := fun i => V.str (numI i)) hv)
  rw [List.length_map, List.take_length] at hD2
  have e2 : (s.R.map fun i => V.str (numI i)) = (s.R.map numI).map V.str := by rw [List.map_map] <;> rfl
  rw [e2] at hD2
  refine w_joinL (SqL.of hD2) (join_cost R9 (by omega)) ?_
  have k12 := k1.trans k2
  walk_at "g"
  refine w_ixL (SqL.of (k12.at0 a.ob)) (i := 1) (v := .ref l) rfl ?_
  walk_at "g"
  refine w_slL (SqL.of (k12.at0 hL)) fun q3 H3 nq3 k3 hq3 => ?_
  have ec : cutV (L'.map V.int) (some 1) none = (L'.map V.int).drop 1 := cut_drop _ 1 (by rw [List.length_map]; omega)
  rw [ec, ← List.map_drop, bk_L wf lL eL] at hq3
  walk_at "g"
  refine w_l1 (SqL.of hq3) ?_
  refine cp_lst (SqL.of hq3) (fun j => ((s.L.drop 1).take j).map fun i => V.str (numI i)) (fun j hj => sz_lt (by rw [List.length_map, List.length_take]; omega)) rfl (fun j x H' S N hx k y _ => ?_) (fun D4 H4 nD4 k4 hD4 => ?_)
  · obtain ⟨v, hv, rfl⟩ := at_map hx
    have b := L9 v (List.mem_of_getElem? hv)
    walk_at "g"
    refine ⟨rfl, ?_⟩
    walk_at "g"
    refine w_str (log_ok b.1 b.2) ?_
    exact y _ _ (Kp.refl _ _) (map_snoc (f := fun i => V.str (numI i)) hv)
  rw [List.length_map, List.take_length] at hD4
  have e4 : ((s.L.drop 1).map fun i => V.str (numI i)) = ((s.L.drop 1).map numI).map V.str := by rw [List.map_map] <;> rfl
  rw [e4] at hD4
  refine w_joinL (SqL.of hD4) (join_cost L9 (by omega)) ?_
  have k14 := k12.trans (k3.trans k4)
  have a4 := a.k0 k14
  walk_at "g"
  refine w_r2 (by omega) ?_
  rw [show ((s.n : Int) + 1 - 1).toNat = s.n by omega]
  refine cp_rng (fun i => (outN i s.O).map fun i => V.str (numI i)) (fun i hi => sz_lt (by
    rw [List.length_map]
    have := outN_len i s.O
    omega)) rfl (fun i H' S N hi k y no => ?_) (fun D5 H5 nD5 k5 hD5 => ?_)
  · walk_at "g"
    refine ⟨rfl, ?_⟩
    walk_at "g"
    refine w_ixL (SqL.of (k.at0 a4.ob)) (i := 3) (v := .ref o) rfl ?_
    walk_at "g"
    refine w_ixL (SqL.of (k.at0 a4.ho)) (at_B (by omega) (by omega)) ?_
    rw [show ((1 : Int) + (i : Int)).toNat = i + 1 by omega]
    walk_at "g"
    refine w_iteB (fun c1 => ?_) (fun c1 => ?_)
    · walk_at "g"
      refine w_str (log_ok (by omega) (by omega)) ?_
      refine y _ _ (Kp.refl _ _) ?_
      rw [outN_s9, if_pos c1, List.map_append, show (1 : Int) + (i : Int) = ((i + 1 : Nat) : Int) by omega] <;> rfl
    · refine no _ (Kp.refl _ _) ?_
      rw [outN_s9, if_neg (by rw [c1]; exact Bool.false_ne_true), List.append_nil]
  have e5 : ((outN s.n s.O).map fun i => V.str (numI i)) = ((outN s.n s.O).map numI).map V.str := by rw [List.map_map] <;> rfl
  rw [e5] at hD5
  have k15 := k14.trans k5
  have lr := joinI_len R9
  have ll := joinI_len L9
  have lo := outsT_len o9
  have lb : (" | " : Str).length = 3 := by decide +kernel
  have la : ∀ a b : Str, (a ++ b).length = a.length + b.length := fun a b => by
    rw [TL.len_tl, TL.tl_append, List.length_append, ← TL.len_tl, ← TL.len_tl]
  have nn : ∀ i ∈ outN s.n s.O, 0 ≤ i := fun i hi => (o9 i hi).1
  walk_at "j"
  refine w_ifJ (fun σ' H' => σ' = [some (.ref w), some (.int (s.n : Int)), some (.str (joinI s.R)), some (.str (joinI (s.L.drop 1))), some (.ref D5), some (.str (outsT (outN s.n s.O))), none, none] ∧ H' = H5) (fun N hN => ?_) ?_
  · walk_at "g"
    refine w_truL (SqL.of hD5) ?_
    have ei : ((outN s.n s.O).map numI |>.map V.str).isEmpty = decide (outN s.n s.O = []) := by
      cases outN s.n s.O <;> rfl
    rw [ei]
    refine w_iteN (fun c => ?_) (fun c => ?_)
    · walk_at "g"
      refine w_joinL (SqL.of hD5) (join_cost o9 (by omega)) ?_
      walk_at "g"
      refine hN _ _ ⟨?_, rfl⟩
      unfold outsT
      rw [if_neg c]
      rfl
    · walk_at "g"
      refine hN _ _ ⟨?_, rfl⟩
      unfold outsT
      rw [if_pos c]
      rfl
  rintro σ' H6 ⟨rfl, rfl⟩
  walk_at "g"
  refine w_addS (sz_ok (by show (joinI s.R).length + _ ≤ _; omega)) ?_
  walk_at "g"
  refine w_addS (sz_ok (by show ((joinI s.R) ++ _).length + (joinI (s.L.drop 1)).length ≤ _; rw [la]; omega)) ?_
  walk_at "g"
  refine w_addS (sz_ok (by show ((joinI s.R) ++ _ ++ (joinI (s.L.drop 1))).length + _ ≤ _; rw [la, la]; omega)) ?_
  walk_at "g"
  refine w_addS (sz_ok (by show ((joinI s.R) ++ _ ++ (joinI (s.L.drop 1)) ++ _).length + (outsT (outN s.n s.O)).length ≤ _; rw [la, la, la]; omega)) ?_
  have fin := str_glue9 (joinI s.R) (joinI (s.L.drop 1)) (outsT (outN s.n s.O))
  have gg := g _ k15
  unfold dumpS at gg
  rw [← fin] at gg
  exact gg
end
end G
set_option Elab.async false
set_option linter.all false
set_option maxRecDepth 100000
set_option maxHeartbeats 1000000
namespace G
--#FAM KB
open PySem PySem.Spec PyProof.Rows L2
local macro_rules
  | `(tactic| walk_at "1") => `(tactic| first
    | with_reducible refine w_seq ?_
    | with_reducible refine w_asg ?_
    | with_reducible refine w_asgS ?_
    | with_reducible refine w_asf ?_
    | with_reducible refine w_drop ?_
    | with_reducible refine w_ret ?_
    | with_reducible refine w_if ?_
    | with_reducible refine w_not ?_
    | with_reducible refine w_and ?_
    | with_reducible refine w_or ?_
    | with_reducible refine w_test ?_
    | with_reducible refine w_tb ?_
    | with_reducible refine w_chain ?_
    | with_reducible refine w_op ?_
    | with_reducible refine w_un ?_
    | with_reducible refine w_andV ?_
    | with_reducible refine w_orV ?_
    | with_reducible refine w_notV ?_
    | with_reducible refine w_ifE ?_
    | with_reducible refine w_cons ?_
    | with_reducible refine w_nil ?_
    | with_reducible refine w_cb ?_
    | with_reducible refine w_cl ?_
    | with_reducible refine w_mt ?_
    | with_reducible refine w_fld ?_
    | with_reducible refine w_tupN ?_
    | with_reducible refine w_lstN ?_
    | with_reducible refine w_bm ?_
    | with_reducible refine w_bm0 ?_
    | with_reducible refine w_for ?_
    | with_reducible refine w_lc ?_
    | with_reducible refine w_iR1 ?_
    | with_reducible refine w_iR2 ?_
    | with_reducible refine w_iL ?_
    | with_reducible refine w_iT ?_
    | with_reducible refine w_iE ?_
    | with_reducible refine w_iZ ?_
    | with_reducible refine w_var (by with_unfolding_all rfl) ?_
    | with_reducible refine w_c ?_
    | with_reducible refine w_next ?_
    | with_reducible refine w_i0 ?_
    | with_reducible refine w_u1 ?_
    | with_reducible refine w_addI ?_
    | with_reducible refine w_eqI ?_
    | with_reducible refine w_eqS ?_
    | with_reducible refine w_eqB ?_
    | with_reducible refine w_neI ?_
    | with_reducible refine w_neS ?_
    | with_reducible refine w_neB ?_
    | with_reducible refine w_abs ?_
    | with_reducible refine w_intI ?_
    | with_reducible refine w_min2 ?_
    | with_reducible refine w_max2 ?_
    | with_reducible refine w_isN0 ?_
    | with_reducible refine w_isN1 ref_ne ?_
    | with_reducible refine w_isN1 int_ne ?_
    | with_reducible refine w_notN0 ?_
    | with_reducible refine w_notN1 ref_ne ?_
    | with_reducible refine w_notN1 int_ne ?_
    | with_reducible refine w_ex1 ?_
    | with_reducible refine w_n1 ?_
    | with_reducible refine w_n2 ?_
    | with_reducible refine w_tT ?_
    | with_reducible refine w_tF ?_
    | with_reducible refine w_nT ?_
    | with_reducible refine w_nF ?_
    | with_reducible refine w_rz ?_
    | with_reducible refine w_mkN ?_
    | with_reducible refine w_lrgN ?_
    | with_reducible refine w_rg1 ?_
    | with_reducible refine w_rg2 ?_
    | with_reducible refine w_sl ?_
    | with_reducible refine w_np ?_
    | with_reducible refine w_pt ?_
    | with_reducible refine w_tr ?_
    | with_reducible refine w_gn ?_
    | with_reducible refine w_yes ?_
    | with_reducible refine w_m1 ?_
    | with_reducible refine w_asu ?_
    | with_reducible refine w_exS ?_
    | with_reducible refine w_iS ?_
    | with_reducible refine w_g1 ?_
    | with_reducible refine w_gc ?_
    | with_reducible refine w_gt (SqT.of upd_same) rfl ?_)
local macro_rules
  | `(tactic| walk_at "g") => `(tactic| repeat walk_at "1")
local macro_rules
  | `(tactic| walk_at "j1") => `(tactic| first
    | with_reducible refine w_seqI ?_
    | walk_at "1")
local macro_rules
  | `(tactic| walk_at "j") => `(tactic| repeat walk_at "j1")
section
variable {K : PySem.W.Frag} {mg : Str → Option Value}
theorem nm_at {i : Nat} (h : i < 4) : atI [V.str (mdN 0), V.str (mdN 1), V.str (mdN 2), V.str (mdN 3)] (i : Int) = some (V.str (mdN i)) := by
  match i, h with
  | 0, _ => rfl
  | 1, _ => rfl
  | 2, _ => rfl
  | 3, _ => rfl
theorem nm_get {i : Nat} {x : V} (hx : [V.str (mdN 0), V.str (mdN 1), V.str (mdN 2), V.str (mdN 3)][i]? = some x) : i ≤ 3 ∧ x = .str (mdN i) := by
  match i, hx with
  | 0, hx => injection hx with hx; exact ⟨by omega, hx.symm⟩
  | 1, hx => injection hx with hx; exact ⟨by omega, hx.symm⟩
  | 2, hx => injection hx with hx; exact ⟨by omega, hx.symm⟩
  | 3, hx => injection hx with hx; exact ⟨by omega, hx.symm⟩
theorem len__law_refusing (K : PySem.W.Frag) : ∀ vs H Q E, sp11__law_refusing K vs H Q E → vs.length = (["book", "node", "word"] : List Str).length := by
  rintro vs H Q E ⟨_, _, _, _, _, _, _, rfl, _⟩
  rfl
theorem rd__law_refusing (T : Txt K mg) (vs : List V) (H : Hp) (Q : VK) (E : XK) (h : sp11__law_refusing K vs H Q E) : t__law_refusing K E { nx := fun _ H' => Q .non H', rt := Q } (start ["book", "node", "word", "known", "lower", "upper", "first", "second", "gap"] vs) H := by
  obtain ⟨w, l, r, o, s, v, c, rfl, c3, a, v1, v2, g⟩ := h
  unfold t__law_refusing
  have wf := a.wf
  have n60 := wf.n60
  have lO := wf.lO
  obtain ⟨L', hL, lL, eL⟩ := a.hl
  obtain ⟨R', hR, lR, eR⟩ := a.hr
  obtain ⟨lb1, lb2⟩ := wf.lb v v1 (by omega)
  obtain ⟨rb1, rb2⟩ := wf.rb v v2
  obtain ⟨lo, elo⟩ : ∃ lo : Nat, gI s.L v = (lo : Int) := ⟨(gI s.L v).toNat, by omega⟩
  obtain ⟨hi, ehi⟩ : ∃ hi : Nat, gI s.R v = (hi : Int) := ⟨(gI s.R v).toNat, by omega⟩
  obtain ⟨ok, eop⟩ := legO_ok' (s := s) v1 v2
  have es := newL_sv wf v1 v2
  have eg := gd_two wf v1 v2 elo ehi
  have ef := fit_two (s := s) v1 v2 elo ehi
  have r1 := refS_1 s (legO s v)
  have r2 := refS_2 s (legO s v)
  have r3 := refS_3 s (legO s v)
  rw [eop] at r1 r2
  walk_at "g"
  refine w_iteD (fun e => ?_) (fun e0 => ?_)
  · have : c = 0 := mdN_inj (d := 0) c3 (by omega) e
    subst this
    walk_at "g"
    rw [refS_0] at g
    exact g H (Kp.refl _ _)
  have c1 : 1 ≤ c := by
    match c, e0 with
    | 0, e0 => exact absurd rfl e0
    | c + 1, _ => omega
  walk_at "g"
  refine ⟨w, l, r, o, s, rfl, a, fun q H1 nq k1 hq => ?_⟩
  have a1 := a.k0 k1
  walk_at "g"
  refine ⟨w, l, r, o, s, v, rfl, a1, v1, v2, fun w9 l9 r9 o9 H2 nw2 nl2 nr2 no2 k2 a2 => ?_⟩
  walk_at "g"
  refine ⟨w9, l9, r9, o9, _, rfl, a2, fun q3 H3 nq3 k3 hq3 => ?_⟩
  have hq' := k3.at0 (k2.at0 hq)
  walk_at "g"
  refine w_l1 (SqL.of hq3) ?_
  have lle : ∀ t : Sd, t.n ≤ 60 → (lostL t).length ≤ 61 := fun t ht => by
    unfold lostL
    refine Nat.le_trans (List.length_filter_le _ _) ?_
    rw [List.length_range]
    omega
  have ll1 := lle s n60
  have ll2 := lle (stepS s (legO s v)) n60
  refine cp_lst (SqL.of hq3) (fun i => ((((lostL (stepS s (legO s v))).map fun (g : Nat) => (g : Int)).take i).filter fun g => !decide (g ∈ (lostL s).map fun (g : Nat) => (g : Int))).map V.int) (fun i hi => sz_lt (by
    rw [List.length_map]
    refine Nat.lt_of_le_of_lt (List.length_filter_le _ _) ?_
    rw [List.length_take, List.length_map]
    omega)) rfl (fun i x H' S N hx kk y no => ?_) (fun q4 H4 nq4 k4 hq4 => ?_)
  · obtain ⟨z, hz, rfl⟩ := at_map hx
    walk_at "g"
    refine ⟨rfl, ?_⟩
    walk_at "g"
    refine w_inZ (neg := true) (kk.at0 hq') ?_
    refine ⟨_, rfl, ?_⟩
    show if (!decide (z ∈ (lostL s).map fun (g : Nat) => (g : Int))) = true then _ else _
    refine w_iteN (fun cc => ?_) (fun cc => ?_)
    · walk_at "g"
      refine y _ _ (Kp.refl _ _) ?_
      rw [take_snoc hz, List.filter_append, List.map_append, List.filter_cons_of_pos (p := fun g : Int => !decide (g ∈ (lostL s).map fun (g : Nat) => (g : Int))) (by rw [decide_eq_false cc]; rfl)] <;> rfl
    · refine no _ (Kp.refl _ _) ?_
      rw [take_snoc hz, List.filter_append, List.map_append, List.filter_cons_of_neg (p := fun g : Int => !decide (g ∈ (lostL s).map fun (g : Nat) => (g : Int))) (by rw [decide_eq_true cc]; exact Bool.false_ne_true)]
      exact List.append_nil _
  have hq4 : H4 q4 = some (.lst ((newL s v).map V.int)) := by
    rw [hq4, List.length_map, List.take_of_length_le (Nat.le_refl _)]
    rfl
  have k04 := (k1.trans k2).trans (k3.trans k4)
  have a4 := a.k0 k04
  have hL4 := k04.at0 hL
  have hR4 := k04.at0 hR
  walk_at "g"
  refine w_truL (SqL.of hq4) ?_
  rw [show ((newL s v).map V.int).isEmpty = (newL s v).isEmpty by cases newL s v <;> rfl, es]
  cases sv : svB s v with
  | true =>
    refine w_nT ?_
    walk_at "g"
    have : refS c s (legO s v) = "saving" := by
      unfold refS
      rw [eop, if_pos ⟨c1, sv⟩]
    rw [this] at g
    exact g H4 k04
  | false =>
    refine w_nF ?_
    rw [sv, if_neg Bool.false_ne_true] at r1
    rw [r1] at r2
    walk_at "g"
    refine w_iteD (fun e => ?_) (fun e1 => ?_)
    · have : c = 1 := mdN_inj (d := 1) c3 (by omega) e
      subst this
      walk_at "g"
      rw [r1] at g
      exact g H4 k04
    have c2 : 2 ≤ c := by
      match c, c1, e1 with
      | 1, _, e1 => exact absurd rfl e1
      | c + 2, _, _ => omega
    have ixL : ∀ u : Nat, 1 ≤ u → u ≤ s.n + 1 → atI (L'.map V.int) (u : Int) = some (.int (gI s.L u)) := fun u u1 u2 => by rw [at_I (by omega) (by omega), Int.toNat_natCast, eL u u1 u2]
    have ixR : ∀ u : Nat, u ≤ s.n → atI (R'.map V.int) (u : Int) = some (.int (gI s.R u)) := fun u u1 => by rw [at_I (by omega) (by omega), Int.toNat_natCast, eR u u1]
    have ixO : ∀ u : Nat, u ≤ s.n + 1 → atI (s.O.map V.bl) (u : Int) = some (.bl (gB s.O u)) := fun u u1 => by rw [at_B (by omega) (by omega), Int.toNat_natCast]
    have i1 : ∀ {Q : V → Prop}, Q (.ref l) → True := fun _ => trivial
    have grd : gdB s v = true → Q (.str "guarded") H4 := fun z => by
      have : refS c s (legO s v) = "guarded" := by
        unfold refS
        rw [eop, if_neg (fun y => by rw [sv] at y; cases y.2), if_pos ⟨c2, z⟩]
      rw [this] at g
      exact g H4 k04
    walk_at "g"
    refine w_ixL (SqL.of a4.ob) (i := 1) (v := .ref l) rfl ?_
    walk_at "g"
    refine w_ixL (SqL.of hL4) (ixL v v1 (by omega)) ?_
    rw [elo]
    walk_at "g"
    refine w_ixL (SqL.of a4.ob) (i := 2) (v := .ref r) rfl ?_
    walk_at "g"
    refine w_ixL (SqL.of hR4) (ixR v v2) ?_
    rw [ehi]
    walk_at "j"
    have ng : (gdB s v = true → False) → gdB s v = false := fun z => by
      cases y : gdB s v with
      | true => exact absurd y z
      | false => rfl
    refine w_ifK (fun H' => H' = H4 ∧ ¬ ((lo : Int) ≠ (v : Int) - 1 ∧ gI s.R lo = (lo : Int) + 1 ∧ gB s.O (lo + 1) = false)) (fun N hN => ?_) (fun H5 ⟨eH, f1⟩ => ?_)
    · walk_at "g"
      refine w_iteN (fun c1 => ?_) (fun c1 => ?_)
      · walk_at "g"
        refine w_ixL (SqL.of a4.ob) (i := 2) (v := .ref r) rfl ?_
        walk_at "g"
        refine w_ixL (SqL.of hR4) (ixR lo (by omega)) ?_
        walk_at "g"
        refine w_iteD (fun c2 => ?_) (fun c2 => ?_)
        · walk_at "g"
          refine w_ixL (SqL.of a4.ob) (i := 3) (v := .ref o) rfl ?_
          walk_at "g"
          refine w_ixL (SqL.of a4.ho) (by rw [show (lo : Int) + 1 = ((lo + 1 : Nat) : Int) by omega]; exact ixO (lo + 1) (by omega)) ?_
          walk_at "g"
          refine w_iteBN (fun c3 => ?_) (fun c3 => ?_)
          · walk_at "g"
            exact grd (eg.mpr (.inl ⟨c1, c2, c3⟩))
          · walk_at "g"
            exact hN _ ⟨rfl, fun z => by rw [z.2.2] at c3; cases c3⟩
        · walk_at "g"
          exact hN _ ⟨rfl, fun z => c2 z.2.1⟩
      · walk_at "g"
        exact hN _ ⟨rfl, fun z => z.1 c1⟩
    subst eH
    walk_at "j"
    refine w_ifK (fun H' => H' = H5 ∧ ¬ ((hi : Int) ≠ (v : Int) + 1 ∧ gI s.L hi = (hi : Int) - 1 ∧ gB s.O (hi - 1) = false)) (fun N hN => ?_) (fun H6 ⟨eH, f2⟩ => ?_)
    · walk_at "g"
      refine w_iteN (fun c1 => ?_) (fun c1 => ?_)
      · walk_at "g"
        refine w_ixL (SqL.of a4.ob) (i := 1) (v := .ref l) rfl ?_
        walk_at "g"
        refine w_ixL (SqL.of hL4) (ixL hi (by omega) (by omega)) ?_
        walk_at "g"
        refine w_iteD (fun c2 => ?_) (fun c2 => ?_)
        · walk_at "g"
          refine w_ixL (SqL.of a4.ob) (i := 3) (v := .ref o) rfl ?_
          walk_at "g"
          refine w_ixL (SqL.of a4.ho) (by rw [show (hi : Int) - 1 = ((hi - 1 : Nat) : Int) by omega]; exact ixO (hi - 1) (by omega)) ?_
          walk_at "g"
          refine w_iteBN (fun c3 => ?_) (fun c3 => ?_)
          · walk_at "g"
            exact grd (eg.mpr (.inr ⟨c1, c2, c3⟩))
          · walk_at "g"
            exact hN _ ⟨rfl, fun z => by rw [z.2.2] at c3; cases c3⟩
        · walk_at "g"
          exact hN _ ⟨rfl, fun z => c2 z.2.1⟩
      · walk_at "g"
        exact hN _ ⟨rfl, fun z => z.1 c1⟩
    subst eH
    have gd : gdB s v = false := ng fun z => (eg.mp z).elim f1 f2
    rw [gd, if_neg (fun z => by cases z.2)] at r2
    walk_at "g"
    refine w_iteD (fun e => ?_) (fun e2 => ?_)
    · have : c = 2 := mdN_inj (d := 2) c3 (by omega) e
      subst this
      walk_at "g"
      rw [r2] at g
      exact g H6 k04
    have c3' : c = 3 := by
      match c, c2, c3, e2 with
      | 2, _, _, e2 => exact absurd rfl e2
      | 3, _, _, _ => rfl
    subst c3'
    rw [r2] at r3
    walk_at "j"
    refine w_ifJ (fun σ' H' => H' = H6 ∧ ∃ y8, σ' = [some (.ref w), some (.int (v : Int)), some (.str (mdN 3)), some (.ref q), some (.int (lo : Int)), some (.int (hi : Int)), some (.int (if gB s.O v = true then (hi : Int) else (v : Int))), some (.int (if gB s.O v = true then (lo : Int) else (v : Int))), y8]) (fun N hN => ?_) (fun σ' H7 ⟨eH, y8, es⟩ => ?_)
    · walk_at "g"
      refine w_ixL (SqL.of a4.ob) (i := 3) (v := .ref o) rfl ?_
      walk_at "g"
      refine w_ixL (SqL.of a4.ho) (ixO v (by omega)) ?_
      walk_at "g"
      refine w_iteBN (fun c => ?_) (fun c => ?_)
      · have c' : ¬ gB s.O v = true := by rw [c]; exact Bool.false_ne_true
        walk_at "g"
        refine hN _ _ ⟨rfl, none, ?_⟩
        rw [if_neg c', if_neg c'] <;> rfl
      · walk_at "g"
        refine hN _ _ ⟨rfl, none, ?_⟩
        rw [if_pos c, if_pos c] <;> rfl
    subst es
    subst eH
    have yes : fitB s (legO s v) = false → Q (.str "checked") H7 := fun z => by
      rw [if_pos ⟨rfl, z⟩] at r3
      rw [r3] at g
      exact g H7 k04
    have nay : ¬ fitB s (legO s v) = false → Q (.str "") H7 := fun z => by
      rw [if_neg (fun y => z y.2)] at r3
      rw [r3] at g
      exact g H7 k04
    rw [ef] at yes nay
    walk_at "g"
    refine w_ixL (SqL.of a4.ob) (i := 3) (v := .ref o) rfl ?_
    walk_at "g"
    refine w_ixL (SqL.of a4.ho) (ixO lo (by omega)) ?_
    walk_at "g"
    refine w_iteB (fun f1 => ?_) (fun f1 => ?_)
    · walk_at "g"
      exact yes (.inl f1)
    walk_at "g"
    refine w_ixL (SqL.of a4.ob) (i := 3) (v := .ref o) rfl ?_
    walk_at "g"
    refine w_ixL (SqL.of a4.ho) (ixO hi (by omega)) ?_
    walk_at "g"
    refine w_iteB (fun f2 => ?_) (fun f2 => ?_)
    · walk_at "g"
      exact yes (.inr (.inl f2))
    walk_at "g"
    refine w_ixL (SqL.of a4.ob) (i := 2) (v := .ref r) rfl ?_
    walk_at "g"
    refine w_ixL (SqL.of hR4) (ixR lo (by omega)) ?_
    walk_at "g"
    refine w_iteN (fun f3 => ?_) (fun f3 => ?_)
    · walk_at "g"
      exact yes (.inr (.inr (.inl f3)))
    walk_at "g"
    refine w_ixL (SqL.of a4.ob) (i := 1) (v := .ref l) rfl ?_
    walk_at "g"
    refine w_ixL (SqL.of hL4) (ixL hi (by omega) (by omega)) ?_
    walk_at "g"
    refine w_iteN (fun f4 => ?_) (fun f4 => ?_)
    · walk_at "g"
      exact yes (.inr (.inr (.inr f4)))
    walk_at "g"
    refine nay ?_
    rintro (z | z | z | z)
    · rw [f1] at z; cases z
    · rw [f2] at z; cases z
    · exact z f3
    · exact z f4
end
end G
set_option Elab.async false
set_option linter.all false
set_option maxRecDepth 100000
set_option maxHeartbeats 2000000
namespace G
--#FAM KB
open PySem PySem.Spec PyProof.Rows L2
local macro_rules
  | `(tactic| walk_at "1") => `(tactic| first
    | with_reducible refine w_seq ?_
    | with_reducible refine w_asg ?_
    | with_reducible refine w_asgS ?_
    | with_reducible refine w_asf ?_
    | with_reducible refine w_drop ?_
    | with_reducible refine w_ret ?_
    | with_reducible refine w_if ?_
    | with_reducible refine w_not ?_
    | with_reducible refine w_and ?_
    | with_reducible refine w_or ?_
    | with_reducible refine w_test ?_
    | with_reducible refine w_tb ?_
    | with_reducible refine w_chain ?_
    | with_reducible refine w_op ?_
    | with_reducible refine w_un ?_
    | with_reducible refine w_andV ?_
    | with_reducible refine w_orV ?_
    | with_reducible refine w_notV ?_
    | with_reducible refine w_ifE ?_
    | with_reducible refine w_cons ?_
    | with_reducible refine w_nil ?_
    | with_reducible refine w_cb ?_
    | with_reducible refine w_cl ?_
    | with_reducible refine w_mt ?_
    | with_reducible refine w_fld ?_
    | with_reducible refine w_tupN ?_
    | with_reducible refine w_lstN ?_
    | with_reducible refine w_bm ?_
    | with_reducible refine w_bm0 ?_
    | with_reducible refine w_for ?_
    | with_reducible refine w_lc ?_
    | with_reducible refine w_iR1 ?_
    | with_reducible refine w_iR2 ?_
    | with_reducible refine w_iL ?_
    | with_reducible refine w_iT ?_
    | with_reducible refine w_iE ?_
    | with_reducible refine w_iZ ?_
    | with_reducible refine w_var (by with_unfolding_all rfl) ?_
    | with_reducible refine w_c ?_
    | with_reducible refine w_next ?_
    | with_reducible refine w_i0 ?_
    | with_reducible refine w_u1 ?_
    | with_reducible refine w_addI ?_
    | with_reducible refine w_eqI ?_
    | with_reducible refine w_eqS ?_
    | with_reducible refine w_eqB ?_
    | with_reducible refine w_neI ?_
    | with_reducible refine w_neS ?_
    | with_reducible refine w_neB ?_
    | with_reducible refine w_abs ?_
    | with_reducible refine w_intI ?_
    | with_reducible refine w_min2 ?_
    | with_reducible refine w_max2 ?_
    | with_reducible refine w_isN0 ?_
    | with_reducible refine w_isN1 ref_ne ?_
    | with_reducible refine w_isN1 int_ne ?_
    | with_reducible refine w_notN0 ?_
    | with_reducible refine w_notN1 ref_ne ?_
    | with_reducible refine w_notN1 int_ne ?_
    | with_reducible refine w_ex1 ?_
    | with_reducible refine w_n1 ?_
    | with_reducible refine w_n2 ?_
    | with_reducible refine w_tT ?_
    | with_reducible refine w_tF ?_
    | with_reducible refine w_nT ?_
    | with_reducible refine w_nF ?_
    | with_reducible refine w_rz ?_
    | with_reducible refine w_mkN ?_
    | with_reducible refine w_lrgN ?_
    | with_reducible refine w_rg1 ?_
    | with_reducible refine w_rg2 ?_
    | with_reducible refine w_sl ?_
    | with_reducible refine w_np ?_
    | with_reducible refine w_pt ?_
    | with_reducible refine w_tr ?_
    | with_reducible refine w_gn ?_
    | with_reducible refine w_yes ?_
    | with_reducible refine w_m1 ?_
    | with_reducible refine w_asu ?_
    | with_reducible refine w_exS ?_
    | with_reducible refine w_iS ?_
    | with_reducible refine w_g1 ?_
    | with_reducible refine w_gc ?_
    | with_reducible refine w_gt (SqT.of upd_same) rfl ?_)
local macro_rules
  | `(tactic| walk_at "g") => `(tactic| repeat walk_at "1")
local macro_rules
  | `(tactic| walk_at "j1") => `(tactic| first
    | with_reducible refine w_seqI ?_
    | walk_at "1")
local macro_rules
  | `(tactic| walk_at "j") => `(tactic| repeat walk_at "j1")
section
variable {K : PySem.W.Frag} {mg : Str → Option Value}
abbrev hndB (K : PySem.W.Frag) : Addr → Value → Option Addr → TS := fun a cls d => tSeq (tIfS (tB (tCl (sp12__law_log_error K a cls d) (fun _ => E0) (tCons (tVar 4) (tCons (tXat K a cls d "operation" (tVar 4)) (tCons (tXat K a cls d "index" (tVar 4)) (tNil)))))) (tRet (tTup (tCons (tC (.str "bad")) (tCons (tXat K a cls d "operation" (tVar 4)) (tCons (tXat K a cls d "index" (tVar 4)) (tCons (tC (.str "")) (tNil))))))) (tNext)) (tRet (tTup (tCons (tC (.str "other")) (tCons (tC (.int 0)) (tCons (tC (.int 0)) (tCons (tC (.str "")) (tNil)))))))
abbrev hndI (K : PySem.W.Frag) : Addr → Value → Option Addr → TS := fun a cls d => tSeq (tIfS (tB (tCl (sp12__law_log_error K a cls d) (fun _ => E0) (tCons (tVar 4) (tCons (tXat K a cls d "operation" (tVar 4)) (tCons (tXat K a cls d "index" (tVar 4)) (tNil)))))) (tRet (tTup (tCons (tC (.str "illegal")) (tCons (tXat K a cls d "operation" (tVar 4)) (tCons (tXat K a cls d "index" (tVar 4)) (tCons (tC (.str "")) (tNil))))))) (tNext)) (tRet (tTup (tCons (tC (.str "other")) (tCons (tC (.int 0)) (tCons (tC (.int 0)) (tCons (tC (.str "")) (tNil)))))))
abbrev hndR (K : PySem.W.Frag) : Addr → Value → Option Addr → TS := fun a cls d => tSeq (tIfS (tAnd (tB (tCl (sp12__law_log_error K a cls d) (fun _ => E0) (tCons (tVar 4) (tCons (tXat K a cls d "operation" (tVar 4)) (tCons (tXat K a cls d "index" (tVar 4)) (tNil)))))) (tB (tCB (rIsi K) (tCons (tXat K a cls d "refusing" (tVar 4)) (tCons (tC (.ty "str")) (tNil)))))) (tRet (tTup (tCons (tC (.str "refused")) (tCons (tXat K a cls d "operation" (tVar 4)) (tCons (tXat K a cls d "index" (tVar 4)) (tCons (tXat K a cls d "refusing" (tVar 4)) (tNil))))))) (tNext)) (tRet (tTup (tCons (tC (.str "other")) (tCons (tC (.int 0)) (tCons (tC (.int 0)) (tCons (tC (.str "")) (tNil)))))))
abbrev hndO (K : PySem.W.Frag) : Addr → Value → Option Addr → TS := fun a cls d => tRet (tTup (tCons (tC (.str "other")) (tCons (tC (.int 0)) (tCons (tC (.int 0)) (tCons (tC (.str "")) (tNil))))))
abbrev hndS (K : PySem.W.Frag) : Addr → Value → Option Addr → TS := fun a cls d => tSeq (tAsg (tAndV (tCB (rIsX K cls d a) (tCons (tVar 4) (tCons (tC (.ref (He.ga K "LinkError"))) (tNil)))) (tNotV (tCB (rIsX K cls d a) (tCons (tVar 4) (tCons (tC (.ref (He.ga K "LogError"))) (tNil)))))) (gName 5)) (tRet (tTup (tCons (tC (.str "size")) (tCons (tAndV (tVar 5) (tCB (rIsi K) (tCons (tXat K a cls d "size" (tVar 4)) (tCons (tC (.ty "int")) (tNil))))) (tCons (tXat K a cls d "size" (tVar 4)) (tNil))))))
abbrev hndM (K : PySem.W.Frag) : Addr → Value → Option Addr → TS := fun a cls d => tSeq (tAsg (tAndV (tCB (rIsX K cls d a) (tCons (tVar 4) (tCons (tC (.ref (He.ga K "LinkError"))) (tNil)))) (tNotV (tCB (rIsX K cls d a) (tCons (tVar 4) (tCons (tC (.ref (He.ga K "LogError"))) (tNil)))))) (gName 5)) (tRet (tTup (tCons (tC (.str "text")) (tCons (tAndV (tVar 5) (tCB (rIsi K) (tCons (tXat K a cls d "name" (tVar 4)) (tCons (tC (.ty "str")) (tNil))))) (tCons (tXat K a cls d "name" (tVar 4)) (tNil))))))
theorem lk_ix3 (r i o : V) : ([(("refusing" : Str), r), ("index", i), ("operation", o)] : List (Str × V)).lookup ("index" : Str) = some i := by
  have : (("index" : Str) == ("refusing" : Str)) = false := by decide +kernel
  simp [List.lookup, this]
theorem lk_op3 (r i o : V) : ([(("refusing" : Str), r), ("index", i), ("operation", o)] : List (Str × V)).lookup ("operation" : Str) = some o := by
  have h1 : (("operation" : Str) == ("refusing" : Str)) = false := by decide +kernel
  have h2 : (("operation" : Str) == ("index" : Str)) = false := by decide +kernel
  simp [List.lookup, h1, h2]
theorem wr_bad {n : Nat} {op : Int} (h : ¬ IsOp n op) : wrE n op = "bad" := by
  unfold wrE
  rw [if_neg h]
theorem wr_ill {n : Nat} {op : Int} (h : IsOp n op) : wrE n op = "illegal" := by
  unfold wrE
  rw [if_pos h]
theorem ok_leg {s : Sd} {op : Int} (io : IsOp s.n op) : OkOp s op ↔ op = legO s op.natAbs := by
  have h1 := io.1
  constructor
  · rintro ⟨_, h⟩
    unfold legO
    by_cases c : 0 < op
    · rw [h, decide_eq_true c, if_pos rfl]
      omega
    · rw [h, decide_eq_false c, if_neg Bool.false_ne_true]
      omega
  · intro e
    rw [e]
    exact (legO_ok' (s := s) h1 io.2).1
theorem len__law_log_error (K : PySem.W.Frag) : ∀ a cls d vs H Q E, sp12__law_log_error K a cls d vs H Q E → vs.length = (["raised", "operation", "index"] : List Str).length := by
  rintro a cls d vs H Q E ⟨_, _, _, _, _, _, _, _, _, rfl, _⟩
  rfl
theorem rd__law_log_error (T : Txt K mg) (a : Addr) (cls : Value) (d : Option Addr) (vs : List V) (H : Hp) (Q : VK) (E : XK) (h : sp12__law_log_error K a cls d vs H Q E) : t__law_log_error K a cls d E { nx := fun _ H' => Q .non H', rt := Q } (start ["raised", "operation", "index", "good"] vs) H := by
  obtain ⟨x, dd, fs, i, j, hx, rfl, rfl, hd, rfl, g⟩ := h
  unfold t__law_log_error
  rcases hx with rfl | rfl | rfl
  · walk_at "g"
    refine w_isx hd T.ex_BadOperation (.own _) T.kit_BadOperation_LogError ?_
    walk_at "g"
    refine w_isx hd T.ex_BadOperation (.own _) T.kit_BadOperation_LinkError ?_
    walk_at "g"
    refine w_isx hd T.ex_BadOperation (.ty _) T.kit_BadOperation_ValueError ?_
    walk_at "g"
    refine ⟨_, rfl, ?_⟩
    walk_at "g"
    refine ⟨_, rfl, ?_⟩
    exact g
  · walk_at "g"
    refine w_isx hd T.ex_Illegal (.own _) T.kit_Illegal_LogError ?_
    walk_at "g"
    refine w_isx hd T.ex_Illegal (.own _) T.kit_Illegal_LinkError ?_
    walk_at "g"
    refine w_isx hd T.ex_Illegal (.ty _) T.kit_Illegal_ValueError ?_
    walk_at "g"
    refine ⟨_, rfl, ?_⟩
    walk_at "g"
    refine ⟨_, rfl, ?_⟩
    exact g
  · walk_at "g"
    refine w_isx hd T.ex_Refused (.own _) T.kit_Refused_LogError ?_
    walk_at "g"
    refine w_isx hd T.ex_Refused (.own _) T.kit_Refused_LinkError ?_
    walk_at "g"
    refine w_isx hd T.ex_Refused (.ty _) T.kit_Refused_ValueError ?_
    walk_at "g"
    refine ⟨_, rfl, ?_⟩
    walk_at "g"
    refine ⟨_, rfl, ?_⟩
    exact g
section
variable {W0 W1 : WX} {D : Ends} {y0 y1 y2 y3 y4 y5 : Option V} {H : Hp}
theorem hnd_rB (T : Txt K mg) {op i : Int} (g : ∀ t H1, Kp [] H H1 → H1 t = some (.tup [.str "bad", .int op, .int i, .str ""]) → D.rt (.ref t) H1) : Ex K "BadOperation" [("index", .int i), ("operation", .int op)] (WE (wAs K (.ref (He.ga K "BadOperation")) 4 (hndB K) (W1) D) [y0, y1, y2, y3, y4]) H := by
  intro d nd
  refine ⟨true, T.exm_BadOperation_BadOperation, fun _ a na => ?_, fun z => by cases z⟩
  have hd : upd H d (.xd [("index", .int i), ("operation", .int op)]) d = some (.xd [("index", .int i), ("operation", .int op)]) := upd_same
  have kd : Kp [] H (upd H d (.xd [("index", .int i), ("operation", .int op)])) := Kp.new nd
  unfold hndB
  generalize upd H d (.xd [("index", .int i), ("operation", .int op)]) = H1 at hd kd na ⊢
  walk_at "g"
  refine w_xat (fun Q q => w_var (by with_unfolding_all rfl) q) hd T.ex_BadOperation (T.oe_BadOperation.2 _ (by simp)) (lk_op _ _) ?_
  walk_at "g"
  refine w_xat (fun Q q => w_var (by with_unfolding_all rfl) q) hd T.ex_BadOperation (T.oe_BadOperation.2 _ (by simp)) (lk1 _ _ _) ?_
  walk_at "g"
  refine ⟨"BadOperation", d, _, op, i, .inl rfl, rfl, rfl, hd, rfl, ?_⟩
  walk_at "g"
  refine w_xat (fun Q q => w_var (by with_unfolding_all rfl) q) hd T.ex_BadOperation (T.oe_BadOperation.2 _ (by simp)) (lk_op _ _) ?_
  walk_at "g"
  refine w_xat (fun Q q => w_var (by with_unfolding_all rfl) q) hd T.ex_BadOperation (T.oe_BadOperation.2 _ (by simp)) (lk1 _ _ _) ?_
  walk_at "g"
  refine ⟨sz_ok (by show 4 ≤ 1000000; omega), G.nw fun t H2 nt k2 ht => ?_⟩
  exact g t H2 (kd.trans k2) ht
theorem hnd_rI (T : Txt K mg) {op i : Int} (g : ∀ t H1, Kp [] H H1 → H1 t = some (.tup [.str "illegal", .int op, .int i, .str ""]) → D.rt (.ref t) H1) : Ex K "Illegal" [("index", .int i), ("operation", .int op)] (WE (wAs K (.ref (He.ga K "BadOperation")) 4 (hndB K) (wAs K (.ref (He.ga K "Illegal")) 4 (hndI K) (W1) D) D) [y0, y1, y2, y3, y4]) H := by
  intro d nd
  refine ⟨false, T.exm_Illegal_BadOperation, (fun z => by cases z), fun _ => ?_⟩
  refine ⟨true, T.exm_Illegal_Illegal, fun _ a na => ?_, fun z => by cases z⟩
  have hd : upd H d (.xd [("index", .int i), ("operation", .int op)]) d = some (.xd [("index", .int i), ("operation", .int op)]) := upd_same
  have kd : Kp [] H (upd H d (.xd [("index", .int i), ("operation", .int op)])) := Kp.new nd
  unfold hndI
  generalize upd H d (.xd [("index", .int i), ("operation", .int op)]) = H1 at hd kd na ⊢
  walk_at "g"
  refine w_xat (fun Q q => w_var (by with_unfolding_all rfl) q) hd T.ex_Illegal (T.oe_Illegal.2 _ (by simp)) (lk_op _ _) ?_
  walk_at "g"
  refine w_xat (fun Q q => w_var (by with_unfolding_all rfl) q) hd T.ex_Illegal (T.oe_Illegal.2 _ (by simp)) (lk1 _ _ _) ?_
  walk_at "g"
  refine ⟨"Illegal", d, _, op, i, .inr (.inl rfl), rfl, rfl, hd, rfl, ?_⟩
  walk_at "g"
  refine w_xat (fun Q q => w_var (by with_unfolding_all rfl) q) hd T.ex_Illegal (T.oe_Illegal.2 _ (by simp)) (lk_op _ _) ?_
  walk_at "g"
  refine w_xat (fun Q q => w_var (by with_unfolding_all rfl) q) hd T.ex_Illegal (T.oe_Illegal.2 _ (by simp)) (lk1 _ _ _) ?_
  walk_at "g"
  refine ⟨sz_ok (by show 4 ≤ 1000000; omega), G.nw fun t H2 nt k2 ht => ?_⟩
  exact g t H2 (kd.trans k2) ht
theorem hnd_rR (T : Txt K mg) {op i : Int} {z : Str} (g : ∀ t H1, Kp [] H H1 → H1 t = some (.tup [.str "refused", .int op, .int i, .str z]) → D.rt (.ref t) H1) : Ex K "Refused" [("refusing", .str z), ("index", .int i), ("operation", .int op)] (WE (wAs K (.ref (He.ga K "BadOperation")) 4 (hndB K) (wAs K (.ref (He.ga K "Illegal")) 4 (hndI K) (wAs K (.ref (He.ga K "Refused")) 4 (hndR K) W0 D) D) D) [y0, y1, y2, y3, y4]) H := by
  intro d nd
  refine ⟨false, T.exm_Refused_BadOperation, (fun z => by cases z), fun _ => ?_⟩
  refine ⟨false, T.exm_Refused_Illegal, (fun z => by cases z), fun _ => ?_⟩
  refine ⟨true, T.exm_Refused_Refused, fun _ a na => ?_, fun z => by cases z⟩
  have hd : upd H d (.xd [("refusing", .str z), ("index", .int i), ("operation", .int op)]) d = some (.xd [("refusing", .str z), ("index", .int i), ("operation", .int op)]) := upd_same
  have kd : Kp [] H (upd H d (.xd [("refusing", .str z), ("index", .int i), ("operation", .int op)])) := Kp.new nd
  unfold hndR
  generalize upd H d (.xd [("refusing", .str z), ("index", .int i), ("operation", .int op)]) = H1 at hd kd na ⊢
  walk_at "g"
  refine w_xat (fun Q q => w_var (by with_unfolding_all rfl) q) hd T.ex_Refused (T.oe_Refused.2 _ (by simp)) (lk_op3 _ _ _) ?_
  walk_at "g"
  refine w_xat (fun Q q => w_var (by with_unfolding_all rfl) q) hd T.ex_Refused (T.oe_Refused.2 _ (by simp)) (lk_ix3 _ _ _) ?_
  walk_at "g"
  refine ⟨"Refused", d, _, op, i, .inr (.inr rfl), rfl, rfl, hd, rfl, ?_⟩
  walk_at "g"
  refine w_xat (fun Q q => w_var (by with_unfolding_all rfl) q) hd T.ex_Refused (T.oe_Refused.2 _ (by simp)) (lk1 _ _ _) ?_
  walk_at "g"
  refine w_isiS (r := true) (by decide +kernel) ?_
  walk_at "g"
  refine w_xat (fun Q q => w_var (by with_unfolding_all rfl) q) hd T.ex_Refused (T.oe_Refused.2 _ (by simp)) (lk_op3 _ _ _) ?_
  walk_at "g"
  refine w_xat (fun Q q => w_var (by with_unfolding_all rfl) q) hd T.ex_Refused (T.oe_Refused.2 _ (by simp)) (lk_ix3 _ _ _) ?_
  walk_at "g"
  refine w_xat (fun Q q => w_var (by with_unfolding_all rfl) q) hd T.ex_Refused (T.oe_Refused.2 _ (by simp)) (lk1 _ _ _) ?_
  walk_at "g"
  refine ⟨sz_ok (by show 4 ≤ 1000000; omega), G.nw fun t H2 nt k2 ht => ?_⟩
  exact g t H2 (kd.trans k2) ht
theorem hnd_tI (T : Txt K mg) {op i : Int} (g : ∀ t H1, Kp [] H H1 → H1 t = some (.tup [.str "illegal", .int op, .int i, .str ""]) → D.rt (.ref t) H1) : Ex K "Illegal" [("index", .int i), ("operation", .int op)] (WE (wOnly K (.ref (He.ga K "Refused")) (hndO K) (wAs K (.ref (He.ga K "Illegal")) 4 (hndI K) (W1) D) D) [y0, y1, y2, y3, y4]) H := by
  intro d nd
  refine ⟨false, T.exm_Illegal_Refused, (fun z => by cases z), fun _ => ?_⟩
  refine ⟨true, T.exm_Illegal_Illegal, fun _ a na => ?_, fun z => by cases z⟩
  have hd : upd H d (.xd [("index", .int i), ("operation", .int op)]) d = some (.xd [("index", .int i), ("operation", .int op)]) := upd_same
  have kd : Kp [] H (upd H d (.xd [("index", .int i), ("operation", .int op)])) := Kp.new nd
  unfold hndI
  generalize upd H d (.xd [("index", .int i), ("operation", .int op)]) = H1 at hd kd na ⊢
  walk_at "g"
  refine w_xat (fun Q q => w_var (by with_unfolding_all rfl) q) hd T.ex_Illegal (T.oe_Illegal.2 _ (by simp)) (lk_op _ _) ?_
  walk_at "g"
  refine w_xat (fun Q q => w_var (by with_unfolding_all rfl) q) hd T.ex_Illegal (T.oe_Illegal.2 _ (by simp)) (lk1 _ _ _) ?_
  walk_at "g"
  refine ⟨"Illegal", d, _, op, i, .inr (.inl rfl), rfl, rfl, hd, rfl, ?_⟩
  walk_at "g"
  refine w_xat (fun Q q => w_var (by with_unfolding_all rfl) q) hd T.ex_Illegal (T.oe_Illegal.2 _ (by simp)) (lk_op _ _) ?_
  walk_at "g"
  refine w_xat (fun Q q => w_var (by with_unfolding_all rfl) q) hd T.ex_Illegal (T.oe_Illegal.2 _ (by simp)) (lk1 _ _ _) ?_
  walk_at "g"
  refine ⟨sz_ok (by show 4 ≤ 1000000; omega), G.nw fun t H2 nt k2 ht => ?_⟩
  exact g t H2 (kd.trans k2) ht
theorem hnd_tB (T : Txt K mg) {op i : Int} (g : ∀ t H1, Kp [] H H1 → H1 t = some (.tup [.str "bad", .int op, .int i, .str ""]) → D.rt (.ref t) H1) : Ex K "BadOperation" [("index", .int i), ("operation", .int op)] (WE (wOnly K (.ref (He.ga K "Refused")) (hndO K) (wAs K (.ref (He.ga K "Illegal")) 4 (hndI K) (wAs K (.ref (He.ga K "BadOperation")) 4 (hndB K) (W1) D) D) D) [y0, y1, y2, y3, y4]) H := by
  intro d nd
  refine ⟨false, T.exm_BadOperation_Refused, (fun z => by cases z), fun _ => ?_⟩
  refine ⟨false, T.exm_BadOperation_Illegal, (fun z => by cases z), fun _ => ?_⟩
  refine ⟨true, T.exm_BadOperation_BadOperation, fun _ a na => ?_, fun z => by cases z⟩
  have hd : upd H d (.xd [("index", .int i), ("operation", .int op)]) d = some (.xd [("index", .int i), ("operation", .int op)]) := upd_same
  have kd : Kp [] H (upd H d (.xd [("index", .int i), ("operation", .int op)])) := Kp.new nd
  unfold hndB
  generalize upd H d (.xd [("index", .int i), ("operation", .int op)]) = H1 at hd kd na ⊢
  walk_at "g"
  refine w_xat (fun Q q => w_var (by with_unfolding_all rfl) q) hd T.ex_BadOperation (T.oe_BadOperation.2 _ (by simp)) (lk_op _ _) ?_
  walk_at "g"
  refine w_xat (fun Q q => w_var (by with_unfolding_all rfl) q) hd T.ex_BadOperation (T.oe_BadOperation.2 _ (by simp)) (lk1 _ _ _) ?_
  walk_at "g"
  refine ⟨"BadOperation", d, _, op, i, .inl rfl, rfl, rfl, hd, rfl, ?_⟩
  walk_at "g"
  refine w_xat (fun Q q => w_var (by with_unfolding_all rfl) q) hd T.ex_BadOperation (T.oe_BadOperation.2 _ (by simp)) (lk_op _ _) ?_
  walk_at "g"
  refine w_xat (fun Q q => w_var (by with_unfolding_all rfl) q) hd T.ex_BadOperation (T.oe_BadOperation.2 _ (by simp)) (lk1 _ _ _) ?_
  walk_at "g"
  refine ⟨sz_ok (by show 4 ≤ 1000000; omega), G.nw fun t H2 nt k2 ht => ?_⟩
  exact g t H2 (kd.trans k2) ht
theorem hnd_r (T : Txt K mg) {n : Nat} {op i : Int} (g : ∀ t H1, Kp [] H H1 → H1 t = some (.tup [.str (wrE n op), .int op, .int i, .str ""]) → D.rt (.ref t) H1) : OpE K n op i (WE (wAs K (.ref (He.ga K "BadOperation")) 4 (hndB K) (wAs K (.ref (He.ga K "Illegal")) 4 (hndI K) (W1) D) D) [y0, y1, y2, y3, y4]) H := by
  unfold OpE
  by_cases c : IsOp n op
  · rw [if_pos c]
    rw [wr_ill c] at g
    exact hnd_rI T g
  · rw [if_neg c]
    rw [wr_bad c] at g
    exact hnd_rB T g
theorem hnd_t (T : Txt K mg) {n : Nat} {op i : Int} (g : ∀ t H1, Kp [] H H1 → H1 t = some (.tup [.str (wrE n op), .int op, .int i, .str ""]) → D.rt (.ref t) H1) : OpE K n op i (WE (wOnly K (.ref (He.ga K "Refused")) (hndO K) (wAs K (.ref (He.ga K "Illegal")) 4 (hndI K) (wAs K (.ref (He.ga K "BadOperation")) 4 (hndB K) (W1) D) D) D) [y0, y1, y2, y3, y4]) H := by
  unfold OpE
  by_cases c : IsOp n op
  · rw [if_pos c]
    rw [wr_ill c] at g
    exact hnd_tI T g
  · rw [if_neg c]
    rw [wr_bad c] at g
    exact hnd_tB T g
theorem hnd_hS (T : Txt K mg) {z : Int} (g : ∀ t H1, Kp [] H H1 → H1 t = some (.tup [.str "size", .bl true, .int z]) → D.rt (.ref t) H1) : Ex K "BadSize" [("size", .int z)] (WE (wAs K (.ref (He.ga K "BadSize")) 4 (hndS K) W1 D) [y0, y1, y2, y3, y4, y5]) H := by
  intro d nd
  refine ⟨true, T.exm_BadSize_BadSize, fun _ a na => ?_, fun z => by cases z⟩
  have hd : upd H d (.xd [("size", .int z)]) d = some (.xd [("size", .int z)]) := upd_same
  have kd : Kp [] H (upd H d (.xd [("size", .int z)])) := Kp.new nd
  unfold hndS
  generalize upd H d (.xd [("size", .int z)]) = H1 at hd kd na ⊢
  walk_at "g"
  refine w_isx hd T.ex_BadSize (.own _) T.kit_BadSize_LinkError ?_
  walk_at "g"
  refine w_isx hd T.ex_BadSize (.own _) T.kit_BadSize_LogError ?_
  walk_at "g"
  refine w_xat (fun Q q => w_var (by with_unfolding_all rfl) q) hd T.ex_BadSize (T.oe_BadSize.2 _ (by simp)) (lk1 _ _ _) ?_
  walk_at "g"
  refine w_isiI (r := true) (by decide +kernel) ?_
  walk_at "g"
  refine w_xat (fun Q q => w_var (by with_unfolding_all rfl) q) hd T.ex_BadSize (T.oe_BadSize.2 _ (by simp)) (lk1 _ _ _) ?_
  walk_at "g"
  refine ⟨sz_ok (by show 3 ≤ 1000000; omega), G.nw fun t H2 nt k2 ht => ?_⟩
  exact g t H2 (kd.trans k2) ht
theorem hnd_hM (T : Txt K mg) {m : Str} (g : ∀ t H1, Kp [] H H1 → H1 t = some (.tup [.str "text", .bl true, .str m]) → D.rt (.ref t) H1) : Ex K "BadMode" [("name", .str m)] (WE (wAs K (.ref (He.ga K "BadSize")) 4 (hndS K) (wAs K (.ref (He.ga K "BadMode")) 4 (hndM K) W1 D) D) [y0, y1, y2, y3, y4, y5]) H := by
  intro d nd
  refine ⟨false, T.exm_BadMode_BadSize, (fun z => by cases z), fun _ => ?_⟩
  refine ⟨true, T.exm_BadMode_BadMode, fun _ a na => ?_, fun z => by cases z⟩
  have hd : upd H d (.xd [("name", .str m)]) d = some (.xd [("name", .str m)]) := upd_same
  have kd : Kp [] H (upd H d (.xd [("name", .str m)])) := Kp.new nd
  unfold hndM
  generalize upd H d (.xd [("name", .str m)]) = H1 at hd kd na ⊢
  walk_at "g"
  refine w_isx hd T.ex_BadMode (.own _) T.kit_BadMode_LinkError ?_
  walk_at "g"
  refine w_isx hd T.ex_BadMode (.own _) T.kit_BadMode_LogError ?_
  walk_at "g"
  refine w_xat (fun Q q => w_var (by with_unfolding_all rfl) q) hd T.ex_BadMode (T.oe_BadMode.2 _ (by simp)) (lk1 _ _ _) ?_
  walk_at "g"
  refine w_isiS (r := true) (by decide +kernel) ?_
  walk_at "g"
  refine w_xat (fun Q q => w_var (by with_unfolding_all rfl) q) hd T.ex_BadMode (T.oe_BadMode.2 _ (by simp)) (lk1 _ _ _) ?_
  walk_at "g"
  refine ⟨sz_ok (by show 3 ≤ 1000000; omega), G.nw fun t H2 nt k2 ht => ?_⟩
  exact g t H2 (kd.trans k2) ht
end
theorem len__law_fate (K : PySem.W.Frag) : ∀ vs H Q E, sp12__law_fate K vs H Q E → vs.length = (["size", "row", "word"] : List Str).length := by
  rintro vs H Q E ⟨_, _, _, _, rfl, _⟩
  rfl
theorem rd__law_fate (T : Txt K mg) (vs : List V) (H : Hp) (Q : VK) (E : XK) (h : sp12__law_fate K vs H Q E) : t__law_fate K E { nx := fun _ H' => Q .non H', rt := Q } (start ["size", "row", "word", "book", "index", "operation", "node", "refusing"] vs) H := by
  obtain ⟨a, n, c, log, rfl, hn, c3, hl, ha, g⟩ := h
  unfold t__law_fate
  walk_at "g"
  refine ⟨n, rfl, hn, fun w l r o H1 nw nl nr no k1 bk1 => ?_⟩
  walk_at "g"
  refine w_lenL (SqL.of (k1.at0 ha)) ?_
  walk_at "g"
  rw [List.length_map]
  refine w_r1 (by omega) ?_
  refine lp_rng0 (fun i σ H' => ∃ (w l r o : Addr) (x4 x5 x6 x7 : Option V), σ = [some (.int (n : Int)), some (.ref a), some (.str (mdN c)), some (.ref w), x4, x5, x6, x7] ∧ Kp [] H H' ∧ Adm c (wholeS n) (log.take i) ∧ Bk5 H' w l r o (runS (wholeS n) (log.take i))) ⟨w, l, r, o, _, _, _, _, rfl, k1, adm_nil _ _, bk1⟩ ?_ ?_
  · rintro i σ' H' hi ⟨w, l, r, o, x4, x5, x6, x7, rfl, k, ad, bk⟩
    rw [Int.toNat_natCast] at hi
    obtain ⟨op, hop⟩ : ∃ op, log[i]? = some op := ⟨log[i], List.getElem?_eq_getElem hi⟩
    have en : (runS (wholeS n) (log.take i)).n = n := runS_n _ _
    walk_at "g"
    refine w_ixL (SqL.of (k.at0 ha)) (i := (i : Int)) (v := .int op) (by rw [at_I (by omega) (by omega), Int.toNat_natCast, gI_of hop]) ?_
    walk_at "g"
    rw [natAbs_if]
    have bad : ¬ IsOp n op → ∀ t H2, Kp [] H' H2 → H2 t = some (.tup [.str "bad", .int op, .int (i : Int), .str ""]) → Q (.ref t) H2 := fun nb t H2 k2 ht => by
      refine g t H2 (k.trans k2) ?_
      rw [ht, fate_badAt hop ad (fun z => nb (by have := z.1; rwa [en] at this))]
      show _ = some (HO.tup [.str (wrE n op), _, _, _])
      rw [wr_bad nb]
    refine w_iteD (fun c1 => ?_) (fun c1 => ?_)
    · walk_at "g"
      refine ⟨sz_ok (by show 4 ≤ 1000000; omega), G.nw fun t H2 nt k2 ht => ?_⟩
      exact bad (fun z => by have := z.1; omega) t H2 k2 ht
    walk_at "g"
    refine w_iteD (fun c2 => ?_) (fun c2 => ?_)
    · walk_at "g"
      refine ⟨sz_ok (by show 4 ≤ 1000000; omega), G.nw fun t H2 nt k2 ht => ?_⟩
      exact bad (fun z => by have := z.2; omega) t H2 k2 ht
    have io : IsOp n op := ⟨by omega, by omega⟩
    have il : IsOp (runS (wholeS n) (log.take i)).n op := by rw [en]; exact io
    walk_at "g"
    refine ⟨w, l, r, o, _, op.natAbs, rfl, bk, by omega, ?_⟩
    walk_at "g"
    refine w_iteN (fun c4 => ?_) (fun c4 => ?_)
    · walk_at "g"
      refine ⟨sz_ok (by show 4 ≤ 1000000; omega), G.nw fun t H2 nt k2 ht => ?_⟩
      refine g t H2 (k.trans k2) ?_
      rw [ht, fate_badAt hop ad (fun z => c4 ((ok_leg il).mp z))]
      show _ = some (HO.tup [.str (wrE n op), _, _, _])
      rw [wr_ill io]
    have ok := (ok_leg il).mpr c4
    have c5 := c4.symm
    walk_at "g"
    refine ⟨w, l, r, o, _, op.natAbs, c, rfl, c3, bk, by omega, by omega, fun H2 k2 => ?_⟩
    rw [c5]
    walk_at "g"
    refine w_iteN (fun c6 => ?_) (fun c6 => ?_)
    · walk_at "g"
      refine ⟨sz_ok (by show 4 ≤ 1000000; omega), G.nw fun t H3 nt k3 ht => ?_⟩
      refine g t H3 ((k.trans k2).trans k3) ?_
      rw [ht, fate_refAt hop ad ok c6]
    · walk_at "g"
      refine ⟨w, l, r, o, _, op.natAbs, rfl, bk.k0 k2, by omega, by omega, fun w9 l9 r9 o9 H3 _ _ _ _ k3 bk3 => ?_⟩
      rw [c5] at bk3
      walk_at "g"
      refine ⟨w9, l9, r9, o9, _, _, _, _, rfl, (k.trans k2).trans k3, ?_, ?_⟩
      · rw [take_snoc hop]
        exact ad.snoc ok c6
      · rw [take_snoc hop, runS_snoc]
        exact bk3
  · rintro σ' H' ⟨w, l, r, o, x4, x5, x6, x7, rfl, k, ad, bk⟩
    rw [Int.toNat_natCast, List.take_length] at ad bk
    walk_at "g"
    refine ⟨w, l, r, o, _, rfl, bk, fun H2 k2 => ?_⟩
    walk_at "g"
    refine ⟨sz_ok (by show 4 ≤ 1000000; omega), G.nw fun t H3 nt k3 ht => ?_⟩
    refine g t H3 ((k.trans k2).trans k3) ?_
    rw [ht, fate_all ad]
theorem len__law_first (K : PySem.W.Frag) : ∀ vs H Q E, sp12__law_first K vs H Q E → vs.length = (["size", "row", "word"] : List Str).length := by
  rintro vs H Q E ⟨_, _, _, _, rfl, _⟩
  rfl
theorem rd__law_first (T : Txt K mg) (vs : List V) (H : Hp) (Q : VK) (E : XK) (h : sp12__law_first K vs H Q E) : t__law_first K E { nx := fun _ H' => Q .non H', rt := Q } (start ["size", "row", "word", "fate"] vs) H := by
  obtain ⟨a, n, c, log, rfl, hn, c3, hl, ha, g⟩ := h
  unfold t__law_first
  walk_at "g"
  refine ⟨a, n, 0, log, rfl, hn, by omega, hl, ha, fun t H1 k1 ht => ?_⟩
  rcases leg_or (wholeS n) log with le | ⟨i, op, h1, h2, h3⟩
  · rw [fate_all (adm0.mpr le)] at ht
    walk_at "g"
    refine w_ixT (SqT.of ht) at_0 ?_
    walk_at "g"
    refine w_iteN (fun z => absurd rfl z) (fun _ => ?_)
    walk_at "g"
    refine ⟨a, n, c, log, rfl, hn, c3, hl, k1.at0 ha, fun t2 H2 k2 ht2 => ?_⟩
    rcases adm_or (c := c) le with ad | ⟨i, fi⟩
    · rw [fate_all ad] at ht2
      walk_at "g"
      refine w_ixT (SqT.of ht2) at_0 ?_
      walk_at "g"
      refine w_iteD (fun z => absurd z (by decide +kernel)) (fun _ => ?_)
      walk_at "g"
      refine ⟨sz_ok (by show 4 ≤ 1000000; omega), G.nw fun t3 H3 nt k3 ht3 => ?_⟩
      exact g t3 H3 ((k1.trans k2).trans k3) (by rw [ht3, first_ok ad])
    · obtain ⟨op, h1, h2, h3⟩ := id fi
      rw [fate_refAt h1 h2 (le i op h1) h3] at ht2
      walk_at "g"
      refine w_ixT (SqT.of ht2) at_0 ?_
      walk_at "g"
      refine w_iteD (fun _ => ?_) (fun z => absurd rfl z)
      walk_at "g"
      refine w_ixT (SqT.of ht2) (i := 2) (v := .int (i : Int)) rfl ?_
      walk_at "g"
      refine ⟨sz_ok (by show 4 ≤ 1000000; omega), G.nw fun t3 H3 nt k3 ht3 => ?_⟩
      exact g t3 H3 ((k1.trans k2).trans k3) (by rw [ht3, first_ix le fi])
  · rw [fate_badAt h1 (adm0.mpr h2) h3] at ht
    walk_at "g"
    refine w_ixT (SqT.of ht) at_0 ?_
    walk_at "g"
    refine w_iteN (fun _ => ?_) (fun z => absurd z (ne_stand _ _).1)
    walk_at "g"
    exact g t H1 k1 (by rw [ht, first_bad h1 h2 h3])
theorem len__law_replayed (K : PySem.W.Frag) : ∀ vs H Q E, sp12__law_replayed K vs H Q E → vs.length = (["size", "row", "word"] : List Str).length := by
  rintro vs H Q E ⟨_, _, _, _, rfl, _⟩
  rfl
theorem rd__law_replayed (T : Txt K mg) (vs : List V) (H : Hp) (Q : VK) (E : XK) (h : sp12__law_replayed K vs H Q E) : t__law_replayed K E { nx := fun _ H' => Q .non H', rt := Q } (start ["size", "row", "word", "told", "raised"] vs) H := by
  obtain ⟨a, n, c, log, rfl, hn, c3, ha, g⟩ := h
  unfold t__law_replayed
  walk_at "g"
  refine w_clK ?_
  walk_at "g"
  refine ⟨rfl, rfl, a, (n : Int), log, mdN c, rfl, SqL.of ha, fun z => absurd ⟨by omega, by omega⟩ z, fun _ nm => absurd rfl (nm c c3), fun _ c' c3' em => ?_⟩
  obtain rfl : c = c' := mdN_inj c3 c3' em
  rw [Int.toNat_natCast]
  refine ⟨fun ad p pr pl po H1 np npr npl npo k1 la => ?_, fun i op hop ad => ⟨fun bad H1 k1 => ?_, fun ok rf H1 k1 => ?_⟩⟩
  · walk_at "g"
    obtain ⟨dx, hp⟩ := la.ob
    refine w_isiO T hp ?_
    walk_at "g"
    refine w_fS T.cl_Links T.na_Links_size la ?_
    rw [show (runS (wholeS n) log).n = n from runS_n _ _]
    walk_at "g"
    refine ⟨_, rfl, ?_⟩
    walk_at "g"
    refine w_me la no_m ?_
    walk_at "g"
    refine ⟨p, pr, pl, po, _, rfl, la, fun H2 k2 => ?_⟩
    walk_at "g"
    refine ⟨sz_ok (by show 4 ≤ 1000000; omega), G.nw fun t H3 nt k3 ht => ?_⟩
    exact g t H3 ((k1.trans k2).trans k3) (by rw [ht, fate_all ad])
  · exact hnd_r T fun t H2 k2 ht => g t H2 (k1.trans k2) (by rw [ht, fate_badAt hop ad bad])
  · exact hnd_rR T fun t H2 k2 ht => g t H2 (k1.trans k2) (by rw [ht, fate_refAt hop ad ok rf])
theorem len__law_told (K : PySem.W.Frag) : ∀ vs H Q E, sp12__law_told K vs H Q E → vs.length = (["size", "row", "word"] : List Str).length := by
  rintro vs H Q E ⟨_, _, _, _, rfl, _⟩
  rfl
theorem rd__law_told (T : Txt K mg) (vs : List V) (H : Hp) (Q : VK) (E : XK) (h : sp12__law_told K vs H Q E) : t__law_told K E { nx := fun _ H' => Q .non H', rt := Q } (start ["size", "row", "word", "told", "raised"] vs) H := by
  obtain ⟨a, n, c, log, rfl, hn, c3, ha, g⟩ := h
  unfold t__law_told
  walk_at "g"
  refine w_clK ?_
  walk_at "g"
  refine ⟨rfl, rfl, a, (n : Int), log, mdN c, rfl, SqL.of ha, fun z => absurd ⟨by omega, by omega⟩ z, fun _ nm => absurd rfl (nm c c3), fun _ c' c3' em => ?_⟩
  obtain rfl : c = c' := mdN_inj c3 c3' em
  rw [Int.toNat_natCast]
  refine ⟨fun i op hop le bad H1 k1 => ?_, fun le => ⟨fun ad H1 k1 => ?_, fun i fi H1 k1 => ?_⟩⟩
  · exact hnd_t T fun t H2 k2 ht => g t H2 (k1.trans k2) (by rw [ht, first_bad hop le bad])
  · walk_at "g"
    refine ⟨sz_ok (by show 4 ≤ 1000000; omega), G.nw fun t H2 nt k2 ht => ?_⟩
    exact g t H2 (k1.trans k2) (by rw [ht, first_ok ad])
  · walk_at "g"
    refine w_isiI (r := true) (by decide +kernel) ?_
    walk_at "g"
    refine w_isiI (r := false) (by decide +kernel) ?_
    walk_at "g"
    refine ⟨sz_ok (by show 4 ≤ 1000000; omega), G.nw fun t H2 nt k2 ht => ?_⟩
    exact g t H2 (k1.trans k2) (by rw [ht, first_ix le fi])
theorem len__law_headless (K : PySem.W.Frag) : ∀ vs H Q E, sp12__law_headless K vs H Q E → vs.length = (["way", "size", "row", "text"] : List Str).length := by
  rintro vs H Q E ⟨_, _, _, _, _, rfl, _⟩
  rfl
theorem rd__law_headless (T : Txt K mg) (vs : List V) (H : Hp) (Q : VK) (E : XK) (h : sp12__law_headless K vs H Q E) : t__law_headless K E { nx := fun _ H' => Q .non H', rt := Q } (start ["way", "size", "row", "text", "raised", "good"] vs) H := by
  obtain ⟨a, way, z, m, log, rfl, hw, ha, hor, g1, g2⟩ := h
  unfold t__law_headless
  walk_at "g"
  refine w_iteD (fun e => ?_) (fun e0 => ?_)
  · walk_at "g"
    refine w_clK ?_
    walk_at "g"
    refine ⟨rfl, rfl, a, z, log, m, rfl, SqL.of ha, fun bz H1 k1 => ?_, fun ok nm H1 k1 => ?_, fun ok c c3 em => hor.elim (fun z => absurd ok z) (fun nm => absurd em (nm c c3))⟩
    · exact hnd_hS T fun t H2 k2 ht => g1 bz t H2 (k1.trans k2) ht
    · exact hnd_hM T fun t H2 k2 ht => g2 ok t H2 (k1.trans k2) ht
  walk_at "g"
  refine w_iteD (fun e => ?_) (fun e1 => ?_)
  · walk_at "g"
    refine w_clK ?_
    walk_at "g"
    refine ⟨rfl, rfl, a, z, log, m, rfl, SqL.of ha, fun bz H1 k1 => ?_, fun ok nm H1 k1 => ?_, fun ok c c3 em => hor.elim (fun z => absurd ok z) (fun nm => absurd em (nm c c3))⟩
    · exact hnd_hS T fun t H2 k2 ht => g1 bz t H2 (k1.trans k2) ht
    · exact hnd_hM T fun t H2 k2 ht => g2 ok t H2 (k1.trans k2) ht
  omega
end
end G
set_option Elab.async false
set_option linter.all false
set_option maxRecDepth 100000
set_option maxHeartbeats 2000000
namespace G
--#FAM KB
open PySem PySem.Spec PyProof.Rows L2
local macro_rules
  | `(tactic| walk_at "1") => `(tactic| first
    | with_reducible refine w_seq ?_
    | with_reducible refine w_asg ?_
    | with_reducible refine w_asgS ?_
    | with_reducible refine w_asf ?_
    | with_reducible refine w_drop ?_
    | with_reducible refine w_ret ?_
    | with_reducible refine w_if ?_
    | with_reducible refine w_not ?_
    | with_reducible refine w_and ?_
    | with_reducible refine w_or ?_
    | with_reducible refine w_test ?_
    | with_reducible refine w_tb ?_
    | with_reducible refine w_chain ?_
    | with_reducible refine w_op ?_
    | with_reducible refine w_un ?_
    | with_reducible refine w_andV ?_
    | with_reducible refine w_orV ?_
    | with_reducible refine w_notV ?_
    | with_reducible refine w_ifE ?_
    | with_reducible refine w_cons ?_
    | with_reducible refine w_nil ?_
    | with_reducible refine w_cb ?_
    | with_reducible refine w_cl ?_
    | with_reducible refine w_mt ?_
    | with_reducible refine w_fld ?_
    | with_reducible refine w_tupN ?_
    | with_reducible refine w_lstN ?_
    | with_reducible refine w_bm ?_
    | with_reducible refine w_bm0 ?_
    | with_reducible refine w_for ?_
    | with_reducible refine w_lc ?_
    | with_reducible refine w_iR1 ?_
    | with_reducible refine w_iR2 ?_
    | with_reducible refine w_iL ?_
    | with_reducible refine w_iT ?_
    | with_reducible refine w_iE ?_
    | with_reducible refine w_iZ ?_
    | with_reducible refine w_var (by with_unfolding_all rfl) ?_
    | with_reducible refine w_c ?_
    | with_reducible refine w_next ?_
    | with_reducible refine w_i0 ?_
    | with_reducible refine w_u1 ?_
    | with_reducible refine w_addI ?_
    | with_reducible refine w_eqI ?_
    | with_reducible refine w_eqS ?_
    | with_reducible refine w_eqB ?_
    | with_reducible refine w_neI ?_
    | with_reducible refine w_neS ?_
    | with_reducible refine w_neB ?_
    | with_reducible refine w_abs ?_
    | with_reducible refine w_intI ?_
    | with_reducible refine w_min2 ?_
    | with_reducible refine w_max2 ?_
    | with_reducible refine w_isN0 ?_
    | with_reducible refine w_isN1 ref_ne ?_
    | with_reducible refine w_isN1 int_ne ?_
    | with_reducible refine w_notN0 ?_
    | with_reducible refine w_notN1 ref_ne ?_
    | with_reducible refine w_notN1 int_ne ?_
    | with_reducible refine w_ex1 ?_
    | with_reducible refine w_n1 ?_
    | with_reducible refine w_n2 ?_
    | with_reducible refine w_tT ?_
    | with_reducible refine w_tF ?_
    | with_reducible refine w_nT ?_
    | with_reducible refine w_nF ?_
    | with_reducible refine w_rz ?_
    | with_reducible refine w_mkN ?_
    | with_reducible refine w_lrgN ?_
    | with_reducible refine w_rg1 ?_
    | with_reducible refine w_rg2 ?_
    | with_reducible refine w_sl ?_
    | with_reducible refine w_np ?_
    | with_reducible refine w_pt ?_
    | with_reducible refine w_tr ?_
    | with_reducible refine w_gn ?_
    | with_reducible refine w_yes ?_
    | with_reducible refine w_m1 ?_
    | with_reducible refine w_asu ?_
    | with_reducible refine w_exS ?_
    | with_reducible refine w_iS ?_
    | with_reducible refine w_g1 ?_
    | with_reducible refine w_gc ?_
    | with_reducible refine w_gt (SqT.of upd_same) rfl ?_)
local macro_rules
  | `(tactic| walk_at "g") => `(tactic| repeat walk_at "1")
local macro_rules
  | `(tactic| walk_at "j1") => `(tactic| first
    | with_reducible refine w_seqI ?_
    | walk_at "1")
local macro_rules
  | `(tactic| walk_at "j") => `(tactic| repeat walk_at "j1")
section
variable {K : PySem.W.Frag} {mg : Str → Option Value}
theorem row_dp {xs : List V} (h : Row4 xs) : ∃ ds, (∀ H : Hp, DpAll K H xs ds) ∧ SeqAt.shaped (.tuple ds) = true := by
  obtain ⟨x, y, i, j, rfl, h1, h2⟩ := h
  refine ⟨[.str x, .int i, .int j, .str y], fun H => .cons (.str x) (.cons (.int i) (.cons (.int j) (.cons (.str y) .nil))), ?_⟩
  simp [SeqAt.shaped, PyData.canLay0, PyData.canLayAll0, PyData.depth, PyData.depthAll, h1, h2]
theorem w_neRow {H : Hp} {Q : VK} {p q : Addr} {xs : List V} (h : Row4 xs) (h1 : H p = some (.tup xs)) (h2 : H q = some (.tup xs)) (g : Q (.bl false) H) : rNeA K (.ref p) (.ref q) H Q := by
  obtain ⟨ds, d, s⟩ := row_dp (K := K) h
  exact w_neT h1 h2 (d H) s g
theorem w_eqRow {H : Hp} {Q : VK} {p q : Addr} {xs : List V} (h : Row4 xs) (h1 : H p = some (.tup xs)) (h2 : H q = some (.tup xs)) (g : Q (.bl true) H) : rEqA K (.ref p) (.ref q) H Q := by
  obtain ⟨ds, d, s⟩ := row_dp (K := K) h
  exact w_eqD (.tup (SqT.of h1) (d H)) (.tup (SqT.of h2) (d H)) s s (by
    rw [SeqAt.eqv_refl _ (SeqAt.canLay_of_shaped s)]
    exact g)
theorem cut_from (l : List Int) (k : Nat) (h : k ≤ l.length) : cutV (l.map V.int) (some (k : Int)) none = (l.drop k).map V.int := by
  unfold cutV
  rw [HT.sIx_nat, HT.sIx_none, List.length_map, Nat.min_eq_left h, ← List.map_drop, List.take_of_length_le (by rw [List.length_map, List.length_drop]; exact Nat.le_refl _)]
theorem str_at {a b c d : Str} {i : Nat} (h : i < 4) : ∃ x : Str, atI [V.str a, V.str b, V.str c, V.str d] (i : Int) = some (V.str x) := by
  match i, h with
  | 0, _ => exact ⟨_, rfl⟩
  | 1, _ => exact ⟨_, rfl⟩
  | 2, _ => exact ⟨_, rfl⟩
  | 3, _ => exact ⟨_, rfl⟩
theorem ap_of {H : Hp} {b d w l r o : Addr} (pu : Pu H b d) (nw : H w = none) (nl : H l = none) (nr : H r = none) (no : H o = none) : Ap [w, l, r, o] [b, d] := by
  intro y hy
  have f : H y = none := by
    simp only [List.mem_cons, List.not_mem_nil, or_false] at hy
    rcases hy with rfl | rfl | rfl | rfl <;> assumption
  have := pu.fr f
  simp [this.1, this.2]
theorem Bk5.draw {H H' : Hp} {b d w l r o : Addr} {s : Sd} (bk : Bk5 H w l r o s) (ap : Ap [w, l, r, o] [b, d]) (k : Kp [b, d] H H') : Bk5 H' w l r o s := bk.kp k (ap _ (by simp)) (ap _ (by simp)) (ap _ (by simp)) (ap _ (by simp))
theorem len__law_steered (K : PySem.W.Frag) : ∀ vs H Q E, sp12__law_steered K vs H Q E → vs.length = (["purse", "book", "shift", "word", "stop"] : List Str).length := by
  rintro vs H Q E ⟨_, _, _, _, _, _, _, _, _, _, rfl, _⟩
  rfl
theorem rd__law_steered (T : Txt K mg) (vs : List V) (H : Hp) (Q : VK) (E : XK) (h : sp12__law_steered K vs H Q E) : t__law_steered K E { nx := fun _ H' => Q .non H', rt := Q } (start ["purse", "book", "shift", "word", "stop", "wide", "place", "steered", "k", "node"] vs) H := by
  obtain ⟨b, d, w, l, r, o, s, sh, c, e, rfl, c3, s1, hsh, pu, bk, ap, g⟩ := h
  unfold t__law_steered
  have n60 := bk.wf.n60
  walk_at "g"
  refine w_ixL (SqL.of bk.ob) at_0 ?_
  walk_at "g"
  obtain ⟨m, em, h6⟩ : ∃ m : Nat, (if (6 : Int) < (s.n : Int) then (6 : Int) else (s.n : Int)) = (m : Int) ∧ m = min s.n 6 := ⟨min s.n 6, by split <;> omega, rfl⟩
  rw [em]
  refine ⟨b, d, _, rfl, by omega, by omega, pu, fun dp H1 p0 p1 k1 pu1 => ?_⟩
  obtain ⟨p, rfl⟩ : ∃ p : Nat, dp = (p : Int) := ⟨dp.toNat, by omega⟩
  walk_at "g"
  refine ⟨b, d, 8, rfl, by omega, by omega, pu1, fun d8 H2 _ _ k2 pu2 => ?_⟩
  have k02 := k1.trans k2
  have bk2 := bk.draw ap k02
  walk_at "g"
  generalize decide ((0 : Int) < d8) = st
  refine w_r1 (by omega) ?_
  rw [Int.toNat_natCast]
  refine lp_rng0 (fun i σ H' => (∃ x8 x9, σ = [some (.ref b), some (.ref w), some (.int (sh : Int)), some (.str (mdN c)), some (.str e), some (.int (m : Int)), some (.int (p : Int)), some (.bl st), x8, x9]) ∧ Kp [] H2 H') ⟨⟨_, _, rfl⟩, Kp.refl _ _⟩ ?_ ?_
  · rintro i σ' H' hi ⟨⟨x8, x9, rfl⟩, k⟩
    walk_at "g"
    refine w_ic (by omega) ?_
    obtain ⟨v, ev, v1, v2⟩ : ∃ v : Nat, (1 : Int) + (sh : Int) + ((p : Int) + (i : Int)) % (m : Int) = (v : Int) ∧ 1 ≤ v ∧ v ≤ s.n := by
      have h1 := Int.emod_nonneg ((p : Int) + (i : Int)) (show (m : Int) ≠ 0 by omega)
      have h2 := Int.emod_lt_of_pos ((p : Int) + (i : Int)) (show (0 : Int) < (m : Int) by omega)
      exact ⟨((1 : Int) + (sh : Int) + ((p : Int) + (i : Int)) % (m : Int)).toNat, by omega, by omega, by omega⟩
    walk_at "g"
    rw [ev]
    refine w_iteN (fun c1 => ?_) (fun c1 => ?_)
    · walk_at "g"
      refine ⟨w, l, r, o, s, v, 3, rfl, by omega, bk2.k0 k, v1, v2, fun H3 k3 => ?_⟩
      walk_at "g"
      refine w_iteD (fun c2 => ?_) (fun c2 => ?_)
      · walk_at "g"
        exact g v H3 v1 v2 (k02.trans (k.trans k3).all) (pu2.k0 (k.trans k3))
      · walk_at "g"
        exact ⟨⟨_, _, rfl⟩, k.trans k3⟩
    · walk_at "g"
      exact ⟨⟨_, _, rfl⟩, k⟩
  · rintro σ' H' ⟨⟨x8, x9, rfl⟩, k⟩
    walk_at "g"
    refine w_r1 (by omega) ?_
    rw [Int.toNat_natCast]
    refine lp_rng0 (fun i σ H3 => (∃ x8 x9, σ = [some (.ref b), some (.ref w), some (.int (sh : Int)), some (.str (mdN c)), some (.str e), some (.int (m : Int)), some (.int (p : Int)), some (.bl st), x8, x9]) ∧ Kp [] H2 H3) ⟨⟨_, _, rfl⟩, k⟩ ?_ ?_
    · rintro i σ2 H3 hi ⟨⟨x8, x9, rfl⟩, k⟩
      walk_at "g"
      refine w_ic (by omega) ?_
      obtain ⟨v, ev, v1, v2⟩ : ∃ v : Nat, (1 : Int) + (sh : Int) + ((p : Int) + (i : Int)) % (m : Int) = (v : Int) ∧ 1 ≤ v ∧ v ≤ s.n := by
        have h1 := Int.emod_nonneg ((p : Int) + (i : Int)) (show (m : Int) ≠ 0 by omega)
        have h2 := Int.emod_lt_of_pos ((p : Int) + (i : Int)) (show (0 : Int) < (m : Int) by omega)
        exact ⟨((1 : Int) + (sh : Int) + ((p : Int) + (i : Int)) % (m : Int)).toNat, by omega, by omega, by omega⟩
      walk_at "g"
      rw [ev]
      refine w_iteB (fun c1 => ?_) (fun c1 => ?_)
      · walk_at "g"
        refine ⟨w, l, r, o, s, v, c, rfl, c3, bk2.k0 k, v1, v2, fun H4 k4 => ?_⟩
        walk_at "g"
        refine w_iteD (fun c2 => ?_) (fun c2 => ?_)
        · walk_at "g"
          exact g v H4 v1 v2 (k02.trans (k.trans k4).all) (pu2.k0 (k.trans k4))
        · walk_at "g"
          exact ⟨⟨_, _, rfl⟩, k.trans k4⟩
      · walk_at "g"
        exact ⟨⟨_, _, rfl⟩, k⟩
    · rintro σ2 H3 ⟨⟨x8, x9, rfl⟩, k⟩
      walk_at "g"
      rw [show (1 : Int) + (sh : Int) + (p : Int) = ((1 + sh + p : Nat) : Int) by omega]
      exact g _ H3 (by omega) (by omega) (k02.trans k.all) (pu2.k0 k)
theorem len__law_path (K : PySem.W.Frag) : ∀ vs H Q E, sp12__law_path K vs H Q E → vs.length = (["purse", "wide"] : List Str).length := by
  rintro vs H Q E ⟨_, _, _, rfl, _⟩
  rfl
theorem rd__law_path (T : Txt K mg) (vs : List V) (H : Hp) (Q : VK) (E : XK) (h : sp12__law_path K vs H Q E) : t__law_path K E { nx := fun _ H' => Q .non H', rt := Q } (start ["purse", "wide", "paths", "path", "place"] vs) H := by
  obtain ⟨b, d, m, rfl, hm, pu, g⟩ := h
  unfold t__law_path
  have nil : ∀ H1, Kp [b, d] H H1 → Pu H1 b d → ∀ q H2, H1 q = none → Kp [] H1 H2 → H2 q = some (.lst []) → Q (.ref q) H2 := fun H1 k1 pu1 q H2 nq k2 hq => by
    have := pu1.fr nq
    exact g [] q H2 (k1.free (by simp [this.1, this.2]) nq) (fun y h => by simp at h) (by simp) (by simp [this.1, this.2]) (k1.trans k2.all) (pu1.k0 k2) hq
  walk_at "j"
  refine w_ifK (fun H' => Kp [b, d] H H' ∧ Pu H' b d ∧ 4 ≤ m) (fun N hN => ?_) (fun H1 ⟨k1, pu1, m4⟩ => ?_)
  · walk_at "g"
    refine w_iteD (fun c1 => ?_) (fun c1 => ?_)
    · walk_at "g"
      refine ⟨sz_ok (Nat.zero_le _), G.nw fun q H1 nq k1 hq => ?_⟩
      exact nil H (Kp.refl _ _) pu q H1 nq k1 hq
    · walk_at "g"
      refine ⟨b, d, 2, rfl, by omega, by omega, pu, fun d2 H1 _ _ k1 pu1 => ?_⟩
      walk_at "g"
      refine w_iteD (fun c2 => ?_) (fun c2 => ?_)
      · walk_at "g"
        refine ⟨sz_ok (Nat.zero_le _), G.nw fun q H2 nq k2 hq => ?_⟩
        exact nil H1 k1 pu1 q H2 nq k2 hq
      · walk_at "g"
        exact hN _ ⟨k1, pu1, by omega⟩
  walk_at "g"
  refine ⟨sz_ok (by show 5 ≤ 1000000; omega), G.nw fun q0 H2 nq0 k2 hq0 => ?_⟩
  walk_at "g"
  refine ⟨sz_ok (by show 6 ≤ 1000000; omega), G.nw fun q1 H3 nq1 k3 hq1 => ?_⟩
  walk_at "g"
  refine ⟨sz_ok (by show 7 ≤ 1000000; omega), G.nw fun q2 H4 nq2 k4 hq2 => ?_⟩
  walk_at "g"
  refine ⟨sz_ok (by show 8 ≤ 1000000; omega), G.nw fun q3 H5 nq3 k5 hq3 => ?_⟩
  walk_at "g"
  refine ⟨sz_ok (by show 4 ≤ 1000000; omega), G.nw fun qs H6 nqs k6 hqs => ?_⟩
  have pu2 := pu1.k0 k2
  have pu3 := pu2.k0 k3
  have pu4 := pu3.k0 k4
  have pu5 := pu4.k0 k5
  have pu6 := pu5.k0 k6
  have k16 := ((k2.trans k3).trans (k4.trans k5)).trans k6
  have fs := pu5.fr nqs
  walk_at "g"
  refine ⟨b, d, 4, rfl, by omega, by omega, pu6, fun di H7 i0 i1 k7 pu7 => ?_⟩
  obtain ⟨i, rfl⟩ : ∃ i : Nat, di = (i : Int) := ⟨di.toNat, by omega⟩
  have hqs7 := k7 _ _ (by simp [fs.1, fs.2]) hqs
  obtain ⟨q, ps, nq, hat, hq, fq, lp, bp⟩ : ∃ (q : Addr) (ps : List Int), H q = none ∧ atI [V.ref q0, V.ref q1, V.ref q2, V.ref q3] (i : Int) = some (.ref q) ∧ H6 q = some (.lst (ps.map V.int)) ∧ q ∉ [b, d] ∧ ps.length ≤ 8 ∧ ∀ y ∈ ps, 1 ≤ y ∧ y ≤ 4 := by
    have f0 := pu1.fr nq0
    have f1 := pu2.fr nq1
    have f2 := pu3.fr nq2
    have f3 := pu4.fr nq3
    match i, i1 with
    | 0, _ => exact ⟨q0, [2, 3, 2, 1, 4], k1.free (by simp [f0.1, f0.2]) nq0, rfl, k6.at0 (k5.at0 (k4.at0 (k3.at0 hq0))), by simp [f0.1, f0.2], by decide, by decide⟩
    | 1, _ => exact ⟨q1, [2, 3, 4, 2, 1, 4], k1.free (by simp [f1.1, f1.2]) (k2.free0 nq1), rfl, k6.at0 (k5.at0 (k4.at0 hq1)), by simp [f1.1, f1.2], by decide, by decide⟩
    | 2, _ => exact ⟨q2, [2, 3, 2, 1, 2, 1, 4], k1.free (by simp [f2.1, f2.2]) (k2.free0 (k3.free0 nq2)), rfl, k6.at0 (k5.at0 hq2), by simp [f2.1, f2.2], by decide, by decide⟩
    | 3, _ => exact ⟨q3, [2, 3, 4, 2, 1, 2, 1, 4], k1.free (by simp [f3.1, f3.2]) (k2.free0 (k3.free0 (k4.free0 nq3))), rfl, k6.at0 hq3, by simp [f3.1, f3.2], by decide, by decide⟩
    | i + 4, h => exact absurd h (by omega)
  refine w_ixL (SqL.of hqs7) hat ?_
  have hq7 := k7 _ _ fq hq
  have k07 := (k1.trans k16.all).trans k7
  walk_at "g"
  refine ⟨b, d, 2, rfl, by omega, by omega, pu7, fun d2 H8 _ _ k8 pu8 => ?_⟩
  have hq8 := k8 _ _ fq hq7
  walk_at "g"
  refine w_iteD (fun c2 => ?_) (fun c2 => ?_)
  · walk_at "g"
    exact g ps q H8 nq (fun y hy => by have := bp y hy; omega) lp fq (k07.trans k8) pu8 hq8
  · walk_at "g"
    refine w_l1 (SqL.of hq8) ?_
    refine cp_lst (SqL.of hq8) (fun i => ((ps.take i).map fun y => (m : Int) + 1 - y).map V.int) (fun i hi => sz_lt (by rw [List.length_map, List.length_map, List.length_take]; omega)) rfl (fun i x H' S N hx kk y no => ?_) (fun D H9 nD k9 hD => ?_)
    · obtain ⟨v, hv, rfl⟩ := at_map hx
      walk_at "g"
      refine ⟨rfl, ?_⟩
      walk_at "g"
      refine y _ _ (Kp.refl _ _) ?_
      rw [take_snoc hv, List.map_append, List.map_append] <;> rfl
    rw [List.length_map, List.take_length] at hD
    have fD := pu8.fr nD
    refine g (ps.map fun y => (m : Int) + 1 - y) D H9 ((k07.trans k8).free (by simp [fD.1, fD.2]) nD) (fun y hy => ?_) (by rw [List.length_map]; exact lp) (by simp [fD.1, fD.2]) ((k07.trans k8).trans k9.all) (pu8.k0 k9) hD
    obtain ⟨z, hz, rfl⟩ := List.mem_map.mp hy
    have := bp z hz
    omega
theorem len__law_row (K : PySem.W.Frag) : ∀ vs H Q E, sp12__law_row K vs H Q E → vs.length = (["purse", "size", "shift", "many", "word"] : List Str).length := by
  rintro vs H Q E ⟨_, _, _, _, _, _, rfl, _⟩
  rfl
theorem rd__law_row (T : Txt K mg) (vs : List V) (H : Hp) (Q : VK) (E : XK) (h : sp12__law_row K vs H Q E) : t__law_row K E { nx := fun _ H' => Q .non H', rt := Q } (start ["purse", "size", "shift", "many", "word", "book", "row", "late", "stop", "first", "turn", "sharp", "node"] vs) H := by
  obtain ⟨b, d, n, sh, m, c, rfl, hn, hm, c3, hsh, pu, g⟩ := h
  unfold t__law_row
  walk_at "g"
  refine ⟨n, rfl, hn, fun w l r o H1 nw nl nr no k1 bk1 => ?_⟩
  have pu1 := pu.k0 k1
  have ap1 : Ap [w, l, r, o] [b, d] := ap_of pu nw nl nr no
  walk_at "g"
  refine ⟨sz_ok (Nat.zero_le _), G.nw fun q H2 nq k2 hq => ?_⟩
  have fq := pu1.fr nq
  have qn := bk1.fr nq
  have pu2 := pu1.k0 k2
  walk_at "g"
  refine ⟨b, d, 8, rfl, by omega, by omega, pu2, fun d8 H3 _ _ k3 pu3 => ?_⟩
  walk_at "g"
  refine ⟨sz_ok (by show 4 ≤ 1000000; omega), G.nw fun sl H4 nsl k4 hsl => ?_⟩
  have fsl := pu3.fr nsl
  walk_at "g"
  refine ⟨b, d, 4, rfl, by omega, by omega, pu3.k0 k4, fun d4 H5 i0 i1 k5 pu5 => ?_⟩
  obtain ⟨i4, rfl⟩ : ∃ i4 : Nat, d4 = (i4 : Int) := ⟨d4.toNat, by omega⟩
  obtain ⟨st, hst⟩ := str_at (a := "") (b := "saving") (c := "guarded") (d := "checked") (i := i4) (by omega)
  refine w_ixL (SqL.of (k5 _ _ (by simp [fsl.1, fsl.2]) hsl)) hst ?_
  walk_at "g"
  obtain ⟨m6, e6, h6⟩ : ∃ m6 : Nat, (if (6 : Int) < (n : Int) then (6 : Int) else (n : Int)) = (m6 : Int) ∧ m6 = min n 6 := ⟨min n 6, by split <;> omega, rfl⟩
  rw [e6]
  refine ⟨b, d, m6, rfl, by omega, pu5, fun ps q6 H6 nq6 bps lps fq6 k6 pu6 hq6 => ?_⟩
  have k25 : Kp [b, d] H2 H5 := (k3.trans k4.all).trans k5
  have k26 : Kp [b, d] H2 H6 := k25.trans k6
  have hq5 : H5 q = some (.lst (([] : List Int).map V.int)) := k25 _ _ (by simp [fq.1, fq.2]) hq
  have hqq := k6 _ _ (by simp [fq.1, fq.2]) hq5
  have bk6 := (bk1.k0 k2).draw ap1 k26
  have k06 : Kp [b, d] H H6 := (k1.all.trans k2.all).trans k26
  have q6q : q6 ≠ q := (ne_of_none hq5 nq6).symm
  have fqH : H q = none := k1.free0 nq
  have ap6 : Ap [w, l, r, o] [b, d, q] := fun y hy => by
    have h1 := ap1 y hy
    simp only [List.mem_cons, List.not_mem_nil, or_false, not_or] at h1 hy ⊢
    refine ⟨h1.1, h1.2, ?_⟩
    rcases hy with rfl | rfl | rfl | rfl
    · exact qn.1
    · exact qn.2.1
    · exact qn.2.2.1
    · exact qn.2.2.2
  walk_at "g"
  refine w_lenL (SqL.of hq6) ?_
  walk_at "g"
  rw [List.length_map]
  obtain ⟨t, et, ht⟩ : ∃ t : Nat, (if (ps.length : Int) > (m : Int) then (ps.length : Int) else (m : Int)) = (t : Int) ∧ t ≤ 25 := ⟨max ps.length m, by split <;> omega, by omega⟩
  rw [et]
  refine w_r1 (by omega) ?_
  rw [Int.toNat_natCast]
  clear k1 k2 k3 k4 k5 k6 k25 k26 pu1 pu2 pu3 pu5 bk1 hq hq5 hsl
  refine lp_rng0 (fun i σ H' => ∃ (w l r o : Addr) (s : Sd) (row : List Int) (xa xb xc : Option V), σ = [some (.ref b), some (.int (n : Int)), some (.int (sh : Int)), some (.int (m : Int)), some (.str (mdN c)), some (.ref w), some (.ref q), some (.int d8), some (.str st), some (.ref q6), xa, xb, xc] ∧ Ap [w, l, r, o] [b, d, q] ∧ Kp [b, d] H H' ∧ Pu H' b d ∧ H' q = some (.lst (row.map V.int)) ∧ row.length ≤ i ∧ H' q6 = some (.lst (ps.map V.int)) ∧ Bk5 H' w l r o s ∧ s.n = n)
    ⟨w, l, r, o, _, [], _, _, _, rfl, ap6, k06, pu6, hqq, Nat.le_refl _, hq6, bk6, rfl⟩ ?_ ?_
  · rintro i σ' H' hi ⟨w, l, r, o, s, row, xa, xb, xc, rfl, ap, k, pu', hqr, lr, hps, bk, en⟩
    have apb : Ap [w, l, r, o] [b, d] := fun y hy z => ap y hy (by
      simp only [List.mem_cons, List.not_mem_nil, or_false] at z ⊢
      rcases z with z | z <;> simp [z])
    have apq : ∀ y ∈ [w, l, r, o], y ∉ [q] := fun y hy z => ap y hy (by
      simp only [List.mem_cons, List.not_mem_nil, or_false] at z ⊢
      simp [z])
    walk_at "g"
    refine w_iteD (fun c1 => ?_) (fun c1 => ?_)
    · walk_at "j"
      refine w_ifJ (fun σ' H2 => H2 = H' ∧ ∃ e : Str, σ' = [some (.ref b), some (.int (n : Int)), some (.int (sh : Int)), some (.int (m : Int)), some (.str (mdN c)), some (.ref w), some (.ref q), some (.int d8), some (.str st), some (.ref q6), some (.int (i : Int)), some (.str e), xc]) (fun N hN => ?_) (fun σ' H2 ⟨eH, e, es⟩ => ?_)
      · walk_at "g"
        refine w_iteD (fun c2 => ?_) (fun c2 => ?_)
        · walk_at "g"
          exact hN _ _ ⟨rfl, _, rfl⟩
        · walk_at "g"
          exact hN _ _ ⟨rfl, _, rfl⟩
      subst es
      subst eH
      walk_at "j"
      refine w_ifJ (fun σ' H3 => ∃ v : Nat, 1 ≤ v ∧ v ≤ n ∧ Kp [b, d] H2 H3 ∧ Pu H3 b d ∧ σ' = [some (.ref b), some (.int (n : Int)), some (.int (sh : Int)), some (.int (m : Int)), some (.str (mdN c)), some (.ref w), some (.ref q), some (.int d8), some (.str st), some (.ref q6), some (.int (i : Int)), some (.str e), some (.int (v : Int))]) (fun N hN => ?_) (fun σ' H3 ⟨v, v1, v2, k3, pu3, es⟩ => ?_)
      · walk_at "g"
        refine w_lenL (SqL.of hps) ?_
        walk_at "g"
        rw [List.length_map]
        refine w_iteD (fun c2 => ?_) (fun c2 => ?_)
        · obtain ⟨y, hy⟩ : ∃ y, ps[i]? = some y := ⟨ps[i]'(by omega), List.getElem?_eq_getElem (by omega)⟩
          obtain ⟨y1, y2⟩ := bps y (List.mem_of_getElem? hy)
          walk_at "g"
          refine w_ixL (SqL.of hps) (i := (i : Int)) (v := .int y) (by rw [at_I (by omega) (by omega), Int.toNat_natCast, gI_of hy]) ?_
          walk_at "g"
          exact hN _ _ ⟨((sh : Int) + y).toNat, by omega, by omega, Kp.refl _ _, pu', by rw [show ((((sh : Int) + y).toNat : Nat) : Int) = (sh : Int) + y by omega] <;> rfl⟩
        · walk_at "g"
          refine ⟨b, d, w, l, r, o, s, sh, c, e, rfl, c3, by omega, by rw [en]; exact hsh, pu', bk, apb, fun v H3 v1 v2 k3 pu3 => ?_⟩
          walk_at "g"
          exact hN _ _ ⟨v, v1, by omega, k3, pu3, rfl⟩
      subst es
      have bk3 := bk.draw apb k3
      have hq3 := k3 _ _ (by simp [fq.1, fq.2]) hqr
      have hp3 := k3 _ _ fq6 hps
      walk_at "g"
      refine ⟨w_ty (SqL.of hq3), ?_⟩
      walk_at "g"
      refine ⟨w, l, r, o, s, v, rfl, bk3, by omega, ?_⟩
      walk_at "g"
      refine w_apT hq3 (sz_lt (by rw [List.length_map]; omega)) fun H4 k4 h4 => ?_
      have bk4 := bk3.kp k4 (apq _ (by simp)) (apq _ (by simp)) (apq _ (by simp)) (apq _ (by simp))
      have pu4 := pu3.kp k4 (by simpa using Ne.symm fq.1) (by simpa using Ne.symm fq.2)
      walk_at "g"
      refine ⟨w, l, r, o, s, v, rfl, bk4, v1, by omega, fun w9 l9 r9 o9 H5 nw9 nl9 nr9 no9 k5 bk5 => ?_⟩
      have h5 := k5.at0 h4
      walk_at "g"
      refine ⟨w9, l9, r9, o9, _, row ++ [legO s v], _, _, _, rfl, fun y hy => ?_, ?_, pu4.k0 k5, by rw [h5, List.map_append] <;> rfl, by rw [List.length_append]; show row.length + 1 ≤ _; omega, k5.at0 (k4.at1 q6q hp3), bk5, en⟩
      · have f : H4 y = none := by
          simp only [List.mem_cons, List.not_mem_nil, or_false] at hy
          rcases hy with rfl | rfl | rfl | rfl <;> assumption
        have h1 := pu4.fr f
        have h2 : y ≠ q := (ne_of_none h4 f).symm
        simp [h1.1, h1.2, h2]
      · exact (((k.mono (S' := [b, d, q]) (by simp)).trans (k3.mono (by simp))).trans ((k4.mono (by simp)).trans k5.all)).cut (by simp [fqH])
    · walk_at "g"
      exact ⟨w, l, r, o, s, row, _, _, _, rfl, ap, k, pu', hqr, by omega, hps, bk, en⟩
  · rintro σ' H' ⟨w, l, r, o, s, row, xa, xb, xc, rfl, ap, k, pu', hqr, lr, hps, bk, en⟩
    walk_at "g"
    exact g row q H' (by omega) (by simp [fq.1, fq.2]) k pu' hqr
theorem len__law_spoilt (K : PySem.W.Frag) : ∀ vs H Q E, sp12__law_spoilt K vs H Q E → vs.length = (["purse", "size", "row"] : List Str).length := by
  rintro vs H Q E ⟨_, _, _, _, _, rfl, _⟩
  rfl
theorem rd__law_spoilt (T : Txt K mg) (vs : List V) (H : Hp) (Q : VK) (E : XK) (h : sp12__law_spoilt K vs H Q E) : t__law_spoilt K E { nx := fun _ H' => Q .non H', rt := Q } (start ["purse", "size", "row", "place", "far", "pick", "wrong"] vs) H := by
  obtain ⟨b, d, a, n, row, rfl, hn, lr, fa, ha, pu, g⟩ := h
  unfold t__law_spoilt
  walk_at "g"
  refine w_lenL (SqL.of ha) ?_
  walk_at "g"
  rw [List.length_map]
  refine ⟨b, d, _, rfl, by omega, by omega, pu, fun dp H1 p0 p1 k1 pu1 => ?_⟩
  obtain ⟨p, rfl⟩ : ∃ p : Nat, dp = (p : Int) := ⟨dp.toNat, by omega⟩
  walk_at "g"
  refine ⟨b, d, 9, rfl, by omega, by omega, pu1, fun df H2 f0 f1 k2 pu2 => ?_⟩
  walk_at "g"
  refine ⟨b, d, 8, rfl, by omega, by omega, pu2, fun dk H3 g0 g1 k3 pu3 => ?_⟩
  have k03 := (k1.trans k2).trans k3
  have ha3 := k03 _ _ fa ha
  have e9 : (10 : Int) ^ Int.toNat 9 = 1000000000 := by decide
  walk_at "g"
  refine w_ic ⟨by omega, by omega, by decide⟩ ?_
  rw [e9]
  walk_at "g"
  refine ⟨sz_ok (by show 4 ≤ 1000000; omega), G.nw fun q4 H4 nq4 k4 hq4 => ?_⟩
  walk_at "g"
  refine w_ic (by omega) ?_
  obtain ⟨z, hz⟩ : ∃ z : Int, atI [V.int 0, V.int ((n : Int) + 1 + df), V.int (-((n : Int) + 1 + df)), V.int (1000000000 + ((n : Int) + 1 + df))] (dk % 4) = some (.int z) := by
    rcases (show dk % 4 = 0 ∨ dk % 4 = 1 ∨ dk % 4 = 2 ∨ dk % 4 = 3 by omega) with e | e | e | e <;> rw [e]
    · exact ⟨_, rfl⟩
    · exact ⟨_, rfl⟩
    · exact ⟨_, rfl⟩
    · exact ⟨_, rfl⟩
  refine w_ixL (SqL.of hq4) hz ?_
  have ha4 := k4.at0 ha3
  have pu4 := pu3.k0 k4
  have k04 := k03.trans k4.all
  walk_at "j"
  refine w_ifJ (fun σ' H' => ∃ z : Int, σ' = [some (.ref b), some (.int (n : Int)), some (.ref a), some (.int (p : Int)), some (.int ((n : Int) + 1 + df)), some (.int dk), some (.int z)] ∧ Kp [b, d] H H' ∧ Pu H' b d ∧ H' a = some (.lst (row.map V.int))) (fun N hN => ?_) (fun σ' H5 ⟨z, es, k5, pu5, ha5⟩ => ?_)
  · walk_at "g"
    refine w_iteD (fun c1 => ?_) (fun c1 => ?_)
    · walk_at "g"
      refine w_iteD (fun c2 => ?_) (fun c2 => ?_)
      · walk_at "g"
        refine ⟨b, d, _, rfl, by omega, by omega, pu4, fun du H5 u0 u1 k5 pu5 => ?_⟩
        have ha5 := k5 _ _ fa ha4
        walk_at "g"
        refine w_iteD (fun c3 => ?_) (fun c3 => ?_)
        · walk_at "g"
          refine w_ixL (SqL.of ha5) (at_I (by omega) (by omega)) ?_
          walk_at "g"
          exact hN _ _ ⟨_, rfl, k04.trans k5, pu5, ha5⟩
        · walk_at "g"
          exact hN _ _ ⟨_, rfl, k04.trans k5, pu5, ha5⟩
      · walk_at "g"
        exact hN _ _ ⟨_, rfl, k04, pu4, ha4⟩
    · walk_at "g"
      exact hN _ _ ⟨_, rfl, k04, pu4, ha4⟩
  subst es
  walk_at "g"
  refine w_slL (SqL.of ha5) fun q6 H6 nq6 k6 hq6 => ?_
  rw [cut_takeI _ _ (by omega)] at hq6
  walk_at "g"
  refine ⟨sz_ok (by show 1 ≤ 1000000; omega), G.nw fun q7 H7 nq7 k7 hq7 => ?_⟩
  have hq7 : H7 q7 = some (.lst ([z].map V.int)) := hq7
  refine w_addLN (k7.at0 hq6) hq7 (sz_ok (by rw [List.length_map, List.length_map, List.length_take]; show min p row.length + 1 ≤ 1000000; omega)) fun q8 H8 nq8 k8 hq8 => ?_
  walk_at "g"
  refine w_slL (SqL.of (k8.at0 (k7.at0 (k6.at0 ha5)))) fun q9 H9 nq9 k9 hq9 => ?_
  rw [cut_from _ _ (by omega)] at hq9
  walk_at "g"
  refine w_addLN (k9.at0 hq8) hq9 (sz_ok (by rw [List.length_append, List.length_map, List.length_map, List.length_map, List.length_take, List.length_drop]; show min p row.length + 1 + (row.length - p) ≤ 1000000; omega)) fun qa Ha nqa ka hqa => ?_
  have k5a := ((k6.trans k7).trans (k8.trans k9)).trans ka
  have fqa := (pu5.k0 ((k6.trans k7).trans (k8.trans k9))).fr nqa
  refine g (row.take p ++ [z] ++ row.drop p) qa Ha ?_ (by simp [fqa.1, fqa.2]) (k5.trans k5a.all) (pu5.k0 k5a) ?_
  · rw [List.length_append, List.length_append, List.length_take, List.length_drop]
    show min p row.length + 1 + (row.length - p) ≤ _
    omega
  · rw [hqa, List.map_append, List.map_append]
end
end G
set_option Elab.async false
set_option linter.all false
set_option maxRecDepth 100000
set_option maxHeartbeats 2000000
namespace G
--#FAM KB
open PySem PySem.Spec PyProof.Rows L2
local macro_rules
  | `(tactic| walk_at "1") => `(tactic| first
    | with_reducible refine w_seq ?_
    | with_reducible refine w_asg ?_
    | with_reducible refine w_asgS ?_
    | with_reducible refine w_asf ?_
    | with_reducible refine w_drop ?_
    | with_reducible refine w_ret ?_
    | with_reducible refine w_if ?_
    | with_reducible refine w_not ?_
    | with_reducible refine w_and ?_
    | with_reducible refine w_or ?_
    | with_reducible refine w_test ?_
    | with_reducible refine w_tb ?_
    | with_reducible refine w_chain ?_
    | with_reducible refine w_op ?_
    | with_reducible refine w_un ?_
    | with_reducible refine w_andV ?_
    | with_reducible refine w_orV ?_
    | with_reducible refine w_notV ?_
    | with_reducible refine w_ifE ?_
    | with_reducible refine w_cons ?_
    | with_reducible refine w_nil ?_
    | with_reducible refine w_cb ?_
    | with_reducible refine w_cl ?_
    | with_reducible refine w_mt ?_
    | with_reducible refine w_fld ?_
    | with_reducible refine w_tupN ?_
    | with_reducible refine w_lstN ?_
    | with_reducible refine w_bm ?_
    | with_reducible refine w_bm0 ?_
    | with_reducible refine w_for ?_
    | with_reducible refine w_lc ?_
    | with_reducible refine w_iR1 ?_
    | with_reducible refine w_iR2 ?_
    | with_reducible refine w_iL ?_
    | with_reducible refine w_iT ?_
    | with_reducible refine w_iE ?_
    | with_reducible refine w_iZ ?_
    | with_reducible refine w_var (by with_unfolding_all rfl) ?_
    | with_reducible refine w_c ?_
    | with_reducible refine w_next ?_
    | with_reducible refine w_i0 ?_
    | with_reducible refine w_u1 ?_
    | with_reducible refine w_addI ?_
    | with_reducible refine w_eqI ?_
    | with_reducible refine w_eqS ?_
    | with_reducible refine w_eqB ?_
    | with_reducible refine w_neI ?_
    | with_reducible refine w_neS ?_
    | with_reducible refine w_neB ?_
    | with_reducible refine w_abs ?_
    | with_reducible refine w_intI ?_
    | with_reducible refine w_min2 ?_
    | with_reducible refine w_max2 ?_
    | with_reducible refine w_isN0 ?_
    | with_reducible refine w_isN1 ref_ne ?_
    | with_reducible refine w_isN1 int_ne ?_
    | with_reducible refine w_notN0 ?_
    | with_reducible refine w_notN1 ref_ne ?_
    | with_reducible refine w_notN1 int_ne ?_
    | with_reducible refine w_ex1 ?_
    | with_reducible refine w_n1 ?_
    | with_reducible refine w_n2 ?_
    | with_reducible refine w_tT ?_
    | with_reducible refine w_tF ?_
    | with_reducible refine w_nT ?_
    | with_reducible refine w_nF ?_
    | with_reducible refine w_rz ?_
    | with_reducible refine w_mkN ?_
    | with_reducible refine w_lrgN ?_
    | with_reducible refine w_rg1 ?_
    | with_reducible refine w_rg2 ?_
    | with_reducible refine w_sl ?_
    | with_reducible refine w_np ?_
    | with_reducible refine w_pt ?_
    | with_reducible refine w_tr ?_
    | with_reducible refine w_gn ?_
    | with_reducible refine w_yes ?_
    | with_reducible refine w_m1 ?_
    | with_reducible refine w_asu ?_
    | with_reducible refine w_exS ?_
    | with_reducible refine w_iS ?_
    | with_reducible refine w_g1 ?_
    | with_reducible refine w_gc ?_
    | with_reducible refine w_gt (SqT.of upd_same) rfl ?_)
local macro_rules
  | `(tactic| walk_at "g") => `(tactic| repeat walk_at "1")
local macro_rules
  | `(tactic| walk_at "j1") => `(tactic| first
    | with_reducible refine w_seqI ?_
    | walk_at "1")
local macro_rules
  | `(tactic| walk_at "j") => `(tactic| repeat walk_at "j1")
section
variable {K : PySem.W.Frag} {mg : Str → Option Value}
theorem w_clD {n : Nat} {sp : Sp} {dvs : List V} {E : L2.St → XK} {t : TA} {σ : L2.St} {H : Hp} {Q : VK} (h : t σ H fun vs H1 => vs.length = n ∧ sp (vs ++ dvs) H1 Q (E σ)) : tClD n sp dvs E t σ H Q := h
theorem sz_at (i : Nat) (h : i < 10) : ∃ z : Nat, atI [V.int 0, V.int 1, V.int 2, V.int 3, V.int 3, V.int 4, V.int 4, V.int 5, V.int 5, V.int 6] (i : Int) = some (.int (z : Int)) ∧ z ≤ 6 := by
  match i, h with
  | 0, _ => exact ⟨0, rfl, by omega⟩
  | 1, _ => exact ⟨1, rfl, by omega⟩
  | 2, _ => exact ⟨2, rfl, by omega⟩
  | 3, _ => exact ⟨3, rfl, by omega⟩
  | 4, _ => exact ⟨3, rfl, by omega⟩
  | 5, _ => exact ⟨4, rfl, by omega⟩
  | 6, _ => exact ⟨4, rfl, by omega⟩
  | 7, _ => exact ⟨5, rfl, by omega⟩
  | 8, _ => exact ⟨5, rfl, by omega⟩
  | 9, _ => exact ⟨6, rfl, by omega⟩
theorem no_txt : (∀ c, c < 4 → ("" : Str) ≠ mdN c) ∧ (∀ c, c < 4 → ("Free" : Str) ≠ mdN c) ∧ (∀ c, c < 4 → ("frees" : Str) ≠ mdN c) ∧ (∀ c, c < 4 → ("check" : Str) ≠ mdN c) ∧ (∀ c, c < 4 → (" saving" : Str) ≠ mdN c) ∧ (∀ c, c < 4 → ("guarded " : Str) ≠ mdN c) := by decide +kernel
theorem so_txt : PyData.strOk ("" : Str) = true ∧ PyData.strOk ("Free" : Str) = true ∧ PyData.strOk ("frees" : Str) = true ∧ PyData.strOk ("check" : Str) = true ∧ PyData.strOk (" saving" : Str) = true ∧ PyData.strOk ("guarded " : Str) = true := by decide +kernel
theorem txt_at (i : Nat) (h : i < 6) : ∃ m : Str, atI [V.str "", V.str "Free", V.str "frees", V.str "check", V.str " saving", V.str "guarded "] (i : Int) = some (.str m) ∧ NoMd m ∧ PyData.strOk m = true := by
  obtain ⟨n0, n1, n2, n3, n4, n5⟩ := no_txt
  obtain ⟨s0, s1, s2, s3, s4, s5⟩ := so_txt
  match i, h with
  | 0, _ => exact ⟨_, rfl, fun c hc => n0 c (by omega), s0⟩
  | 1, _ => exact ⟨_, rfl, fun c hc => n1 c (by omega), s1⟩
  | 2, _ => exact ⟨_, rfl, fun c hc => n2 c (by omega), s2⟩
  | 3, _ => exact ⟨_, rfl, fun c hc => n3 c (by omega), s3⟩
  | 4, _ => exact ⟨_, rfl, fun c hc => n4 c (by omega), s4⟩
  | 5, _ => exact ⟨_, rfl, fun c hc => n5 c (by omega), s5⟩
theorem sh_siz (z : Int) : SeqAt.shaped (.tuple [.str "size", .bool true, .int z]) = true := by
  have h1 : PyData.strOk ("size" : Str) = true := by decide +kernel
  simp [SeqAt.shaped, PyData.canLay0, PyData.canLayAll0, PyData.depth, PyData.depthAll, h1]
theorem sh_txt (m : Str) (h : PyData.strOk m = true) : SeqAt.shaped (.tuple [.str "text", .bool true, .str m]) = true := by
  have h1 : PyData.strOk ("text" : Str) = true := by decide +kernel
  simp [SeqAt.shaped, PyData.canLay0, PyData.canLayAll0, PyData.depth, PyData.depthAll, h1, h]
section
variable {H : Hp} {Q : VK} {E : XK} {a : Addr} {n : Nat} {log : List Int}
theorem w_replay0 (hn : n ≤ 60) (hs : H a = some (.lst (log.map V.int))) (le : Leg (wholeS n) log) (g : NewS K H (runS (wholeS n) log) Q) : sp_replay_in K [.int (n : Int), .ref a, .str "free"] H Q E :=
  ⟨a, n, log, "free", rfl, SqL.of hs, fun z => absurd ⟨by omega, by omega⟩ z, fun _ nm => absurd rfl (nm 0 (by omega)), fun _ c c3 em => by
    obtain rfl : 0 = c := mdN_inj (by omega) c3 em
    rw [Int.toNat_natCast]
    exact ⟨fun _ => g, fun i op hop _ => ⟨fun bad => absurd (le i op hop) bad, fun _ er => absurd (refS_0 _ _) er⟩⟩⟩
theorem w_first0 (hn : n ≤ 60) (hs : H a = some (.lst (log.map V.int))) (le : Leg (wholeS n) log) (g : Any H .non Q) : sp_first_refusal K [.int (n : Int), .ref a, .str "free"] H Q E :=
  ⟨a, n, log, "free", rfl, SqL.of hs, fun z => absurd ⟨by omega, by omega⟩ z, fun _ nm => absurd rfl (nm 0 (by omega)), fun _ c c3 em => by
    obtain rfl : 0 = c := mdN_inj (by omega) c3 em
    rw [Int.toNat_natCast]
    exact ⟨fun i op hop _ bad => absurd (le i op hop) bad, fun _ => ⟨fun _ => g, fun i fi => by
      obtain ⟨op, _, _, h3⟩ := fi
      exact absurd (refS_0 _ _) h3⟩⟩⟩
end
theorem len__law_plain (K : PySem.W.Frag) : ∀ vs H Q E, sp12__law_plain K vs H Q E → vs.length = (["size", "row"] : List Str).length := by
  rintro vs H Q E ⟨_, _, _, rfl, _⟩
  rfl
theorem rd__law_plain (T : Txt K mg) (vs : List V) (H : Hp) (Q : VK) (E : XK) (h : sp12__law_plain K vs H Q E) : t__law_plain K E { nx := fun _ H' => Q .non H', rt := Q } (start ["size", "row", "due", "told", "book", "operation", "node", "again"] vs) H := by
  obtain ⟨a, n, log, rfl, hn, hl, ha, g⟩ := h
  unfold t__law_plain
  walk_at "g"
  refine ⟨a, n, 0, log, rfl, hn, by omega, hl, ha, fun t H1 k1 ht => ?_⟩
  have ha1 := k1.at0 ha
  rcases leg_or (wholeS n) log with le | ⟨i, op, h1, h2, h3⟩
  · have ht' := ht
    rw [fate_all (adm0.mpr le)] at ht'
    walk_at "g"
    refine w_ixT (SqT.of ht') at_0 ?_
    walk_at "g"
    refine w_iteN (fun z => absurd rfl z) (fun _ => ?_)
    walk_at "g"
    refine w_clD ?_
    walk_at "g"
    refine ⟨rfl, w_replay0 hn ha1 le fun p pr pl po H2 np npr npl npo k2 la => ?_⟩
    have ha2 := k2.at0 ha1
    have ht2 := k2.at0 ht'
    obtain ⟨dx, hp⟩ := la.ob
    walk_at "g"
    refine w_isiO T hp ?_
    walk_at "g"
    refine w_me la no_m ?_
    walk_at "g"
    refine ⟨p, pr, pl, po, _, rfl, la, fun H3 k3 => ?_⟩
    walk_at "g"
    refine w_ixT (SqT.of (k3.at0 ht2)) (i := 3) (v := .str (dumpS (runS (wholeS n) log))) rfl ?_
    walk_at "g"
    refine w_iteN (fun z => absurd rfl z) (fun _ => ?_)
    walk_at "g"
    refine w_clD ?_
    walk_at "g"
    refine ⟨rfl, w_first0 hn (k3.at0 ha2) le fun H4 k4 => ?_⟩
    walk_at "g"
    refine ⟨n, rfl, hn, fun w l r o H5 nw nl nr no k5 bk5 => ?_⟩
    have k25 := (k3.trans k4).trans k5
    have ha5 := k25.at0 ha2
    have ht5 := k25.at0 ht2
    have la5 := la.k0 k25
    have kH5 := (k1.trans k2).trans k25
    have apL : Ap [w, l, r, o, a, t] [pr, pl, po] := fun y hy => by
      have : ∃ z, H5 y = some z ∧ H1 y = some z ∨ H4 y = none := by
        simp only [List.mem_cons, List.not_mem_nil, or_false] at hy
        rcases hy with rfl | rfl | rfl | rfl | rfl | rfl
        · exact ⟨.lst [], .inr nw⟩
        · exact ⟨.lst [], .inr nl⟩
        · exact ⟨.lst [], .inr nr⟩
        · exact ⟨.lst [], .inr no⟩
        · exact ⟨_, .inl ⟨ha5, ha1⟩⟩
        · exact ⟨_, .inl ⟨ht5, ht'⟩⟩
      obtain ⟨z, ⟨_, hz⟩ | hz⟩ := this
      · simp [ne_of_none hz npr, ne_of_none hz npl, ne_of_none hz npo]
      · have la4 := la.k0 (k3.trans k4)
        simp [Ne.symm (ne_of_none la4.hr hz), Ne.symm (ne_of_none la4.hl hz), Ne.symm (ne_of_none la4.ho hz)]
    walk_at "g"
    refine w_l1 (SqL.of ha5) ?_
    refine lp_lst (xs := log.map V.int) (fun i σ H' => ∃ (w l r o : Addr) (x5 : Option V), σ = [some (.int (n : Int)), some (.ref a), some (.ref t), some (.ref p), some (.ref w), x5, none, none] ∧ Kp [] H5 H' ∧ Ap [w, l, r, o] [pr, pl, po] ∧ Bk5 H' w l r o (runS (wholeS n) (log.take i))) ⟨w, l, r, o, _, rfl, Kp.refl _ _, fun y hy => apL y (by
      simp only [List.mem_cons, List.not_mem_nil, or_false] at hy ⊢
      rcases hy with z | z | z | z <;> simp [z]), bk5⟩ ?_ ?_ ?_
    · rintro i σ' H' hi ⟨_, _, _, _, _, _, k, _⟩
      exact SqL.of (k.at0 ha5)
    · rintro i x σ' H' hx ⟨w, l, r, o, x5, rfl, k, ap, bk⟩
      obtain ⟨op, hop, rfl⟩ := at_map hx
      have ok := le i op hop
      have io := ok.1
      have i1 := io.1
      have i2 := io.2
      have e := ((ok_leg io).mp ok).symm
      walk_at "g"
      rw [natAbs_if]
      refine ⟨w, l, r, o, _, op.natAbs, rfl, bk, i1, i2, fun w9 l9 r9 o9 H6 nw9 nl9 nr9 no9 k6 bk6 => ?_⟩
      rw [e] at bk6
      walk_at "g"
      refine ⟨w9, l9, r9, o9, _, rfl, k.trans k6, fun y hy => ?_, ?_⟩
      · have f : H' y = none := by
          simp only [List.mem_cons, List.not_mem_nil, or_false] at hy
          rcases hy with rfl | rfl | rfl | rfl <;> assumption
        have la' := la5.k0 k
        simp [Ne.symm (ne_of_none la'.hr f), Ne.symm (ne_of_none la'.hl f), Ne.symm (ne_of_none la'.ho f)]
      · rw [take_snoc hop, runS_snoc]
        exact bk6
    · rintro σ' H6 ⟨w, l, r, o, x5, rfl, k6, ap, bk⟩
      rw [List.length_map, List.take_length] at bk
      have en : (runS (wholeS n) log).n = n := runS_n _ _
      have la6 := la5.k0 k6
      walk_at "g"
      obtain ⟨m, em, h6⟩ : ∃ m : Nat, (if (6 : Int) < (n : Int) then (6 : Int) else (n : Int)) = (m : Int) ∧ m = min n 6 := ⟨min n 6, by split <;> omega, rfl⟩
      rw [em]
      refine w_r2 (by omega) ?_
      rw [show ((m : Int) + 1 - 1).toNat = m by omega]
      refine lp_rng (fun i σ H' => ∃ (u : Sd) (x6 : Option V), σ = [some (.int (n : Int)), some (.ref a), some (.ref t), some (.ref p), some (.ref w), x5, x6, none] ∧ Kp [pr, pl, po] H6 H' ∧ LinksAt K H' p pr pl po u ∧ u.n = n ∧ ∀ v, i < v → v ≤ n → gB u.O v = gB (runS (wholeS n) log).O v) ⟨_, _, rfl, Kp.refl _ _, la6, en, fun _ _ _ => rfl⟩ ?_ ?_
      · rintro i σ' H' hi ⟨u, x6, rfl, k7, lu, un, sm⟩
        have bk7 := bk.kp k7 (ap _ (by simp)) (ap _ (by simp)) (ap _ (by simp)) (ap _ (by simp))
        obtain ⟨ok, ev⟩ := legO_ok' (s := runS (wholeS n) log) (v := i + 1) (by omega) (by omega)
        have oku : OkOp u (legO (runS (wholeS n) log) (i + 1)) := by
          obtain ⟨io, ob⟩ := ok
          rw [ev] at ob
          refine ⟨by unfold IsOp at io ⊢; rw [en] at io; rw [un]; exact io, ?_⟩
          rw [ev, sm (i + 1) (by omega) (by omega)]
          exact ob
        walk_at "g"
        refine w_me lu no_m ?_
        walk_at "g"
        rw [show (1 : Int) + (i : Int) = ((i + 1 : Nat) : Int) by omega]
        refine ⟨w, l, r, o, _, i + 1, rfl, bk7, by omega, ?_⟩
        walk_at "g"
        refine ⟨p, pr, pl, po, u, _, rfl, lu, fun _ H8 k8 lu8 => ?_, fun bad => absurd oku bad⟩
        walk_at "g"
        refine ⟨_, _, rfl, k7.trans k8, lu8, un, fun v h1 h2 => ?_⟩
        rw [step_gB lu.wf oku.1, ev, if_neg (by omega)]
        exact sm v (by omega) h2
      · rintro σ' H7 ⟨u, x6, rfl, k7, lu, un, sm⟩
        have ha7 := k7 _ _ (apL _ (by simp)) (k6.at0 ha5)
        have ht7 := k7 _ _ (apL _ (by simp)) (k6.at0 ht5)
        have kH7 : Kp [] H H7 := (((kH5.trans k6).all (S := [pr, pl, po])).trans k7).cut (by simp [k1.free0 npr, k1.free0 npl, k1.free0 npo])
        walk_at "g"
        refine w_clD ?_
        walk_at "g"
        refine ⟨rfl, w_replay0 hn ha7 le fun p2 pr2 pl2 po2 H8 _ _ _ _ k8 la8 => ?_⟩
        walk_at "g"
        refine w_me la8 no_m ?_
        walk_at "g"
        refine ⟨p2, pr2, pl2, po2, _, rfl, la8, fun H9 k9 => ?_⟩
        walk_at "g"
        refine w_ixT (SqT.of (k9.at0 (k8.at0 ht7))) (i := 3) (v := .str (dumpS (runS (wholeS n) log))) rfl ?_
        walk_at "g"
        rw [decide_eq_true rfl]
        exact g H9 ((kH7.trans k8).trans k9)
  · have ht' := ht
    rw [fate_badAt h1 (adm0.mpr h2) h3] at ht'
    walk_at "g"
    refine w_ixT (SqT.of ht') at_0 ?_
    walk_at "g"
    refine w_iteN (fun _ => ?_) (fun z => absurd z (ne_stand _ _).1)
    walk_at "g"
    refine ⟨a, n, 0, log, rfl, hn, by omega, ha1, fun t2 H2 k2 ht2 => ?_⟩
    walk_at "g"
    refine w_eqRow (fate_row _ _ _) ht2 (k2.at0 ht) ?_
    exact g H2 (k1.trans k2)
theorem len__law_judged (K : PySem.W.Frag) : ∀ vs H Q E, sp12__law_judged K vs H Q E → vs.length = (["size", "row"] : List Str).length := by
  rintro vs H Q E ⟨_, _, _, rfl, _⟩
  rfl
theorem rd__law_judged (T : Txt K mg) (vs : List V) (H : Hp) (Q : VK) (E : XK) (h : sp12__law_judged K vs H Q E) : t__law_judged K E { nx := fun _ H' => Q .non H', rt := Q } (start ["size", "row", "log", "word"] vs) H := by
  obtain ⟨a, n, log, rfl, hn, hl, ha, g⟩ := h
  unfold t__law_judged
  walk_at "g"
  refine w_listLN (SqL.of ha) fun q H1 nq k1 hq => ?_
  have ha1 := k1.at0 ha
  walk_at "g"
  refine ⟨rfl, fun wl H2 nwl k2 hwl => ?_⟩
  walk_at "g"
  refine w_l1 (SqL.of hwl) ?_
  refine lp_lst (xs := [V.str (mdN 0), V.str (mdN 1), V.str (mdN 2), V.str (mdN 3)]) (fun i σ H' => (∃ x3, σ = [some (.int (n : Int)), some (.ref a), some (.ref q), x3]) ∧ Kp [] H2 H') ⟨⟨_, rfl⟩, Kp.refl _ _⟩ ?_ ?_ ?_
  · rintro i σ' H' hi ⟨_, k⟩
    exact SqL.of (k.at0 hwl)
  · rintro i x σ' H' hx ⟨⟨x3, rfl⟩, k⟩
    obtain ⟨i3, rfl⟩ := nm_get hx
    have ha3 := k.at0 (k2.at0 ha1)
    have hq3 := k.at0 (k2.at0 hq)
    walk_at "g"
    refine ⟨q, n, i, log, rfl, hn, i3, hq3, fun t1 H3 k3 h3 => ?_⟩
    walk_at "g"
    refine ⟨a, n, i, log, rfl, hn, i3, hl, k3.at0 ha3, fun t2 H4 k4 h4 => ?_⟩
    refine w_neRow (fate_row _ _ _) (k4.at0 h3) h4 ?_
    have k34 := k3.trans k4
    walk_at "g"
    refine ⟨q, n, i, log, rfl, hn, i3, k34.at0 hq3, fun t3 H5 k5 h5 => ?_⟩
    walk_at "g"
    refine ⟨a, n, i, log, rfl, hn, i3, hl, k5.at0 (k34.at0 ha3), fun t4 H6 k6 h6 => ?_⟩
    refine w_neRow (first_row _ _ _) (k6.at0 h5) h6 ?_
    walk_at "g"
    exact ⟨⟨_, rfl⟩, k.trans (k34.trans (k5.trans k6))⟩
  · rintro σ' H' ⟨⟨x3, rfl⟩, k⟩
    have ha3 := k.at0 (k2.at0 ha1)
    have hq3 := k.at0 (k2.at0 hq)
    walk_at "g"
    refine ⟨q, n, log, rfl, hn, hl, hq3, fun H3 k3 => ?_⟩
    walk_at "g"
    refine w_eqLZ (k3.at0 hq3) (k3.at0 ha3) ?_
    rw [decide_eq_true rfl]
    exact g H3 ((k1.trans k2).trans (k.trans k3))
theorem len__law_run (K : PySem.W.Frag) : ∀ vs H Q E, sp12__law_run K vs H Q E → vs.length = (["purse"] : List Str).length := by
  rintro vs H Q E ⟨_, _, rfl, _⟩
  rfl
theorem rd__law_run (T : Txt K mg) (vs : List V) (H : Hp) (Q : VK) (E : XK) (h : sp12__law_run K vs H Q E) : t__law_run K E { nx := fun _ H' => Q .non H', rt := Q } (start ["purse", "wide", "size", "many", "shift", "row"] vs) H := by
  obtain ⟨b, d, rfl, pu, g⟩ := h
  unfold t__law_run
  walk_at "g"
  refine ⟨b, d, 16, rfl, by omega, by omega, pu, fun d1 H1 _ _ k1 pu1 => ?_⟩
  walk_at "g"
  generalize hwd : decide (d1 = 0) = wd
  refine ⟨sz_ok (by show 10 ≤ 1000000; omega), G.nw fun sl H2 nsl k2 hsl => ?_⟩
  have fs := pu1.fr nsl
  walk_at "g"
  refine ⟨b, d, 10, rfl, by omega, by omega, pu1.k0 k2, fun d2 H3 e0 e1 k3 pu3 => ?_⟩
  obtain ⟨i2, rfl⟩ : ∃ i2 : Nat, d2 = (i2 : Int) := ⟨d2.toNat, by omega⟩
  obtain ⟨z0, hz, z6⟩ := sz_at i2 (by omega)
  refine w_ixL (SqL.of (k3 _ _ (by simp [fs.1, fs.2]) hsl)) hz ?_
  walk_at "g"
  refine ⟨b, d, 15, rfl, by omega, by omega, pu3, fun d3 H4 f0 f1 k4 pu4 => ?_⟩
  obtain ⟨m0, rfl⟩ : ∃ m0 : Nat, d3 = (m0 : Int) := ⟨d3.toNat, by omega⟩
  have k04 : Kp [b, d] H H4 := (k1.trans k2.all).trans (k3.trans k4)
  walk_at "j"
  refine w_ifJ (fun σ' H' => ∃ n m : Nat, n ≤ 60 ∧ m ≤ 25 ∧ σ' = [some (.ref b), some (.bl wd), some (.int (n : Int)), some (.int (m : Int)), none, none] ∧ Kp [b, d] H H' ∧ Pu H' b d) (fun N hN => ?_) (fun σ' H5 ⟨n, m, hn, hm, es, k05, pu5⟩ => ?_)
  · walk_at "g"
    refine w_iteB (fun c => ?_) (fun c => ?_)
    · walk_at "g"
      refine ⟨b, d, 54, rfl, by omega, by omega, pu4, fun d5 H5 y0 y1 k5 pu5 => ?_⟩
      walk_at "g"
      refine ⟨b, d, 11, rfl, by omega, by omega, pu5, fun d6 H6 w0 w1 k6 pu6 => ?_⟩
      walk_at "g"
      exact hN _ _ ⟨(7 + d5).toNat, ((m0 : Int) + d6).toNat, by omega, by omega, by rw [show (((7 + d5).toNat : Nat) : Int) = 7 + d5 by omega, show ((((m0 : Int) + d6).toNat : Nat) : Int) = (m0 : Int) + d6 by omega] <;> rfl, (k04.trans k5).trans k6, pu6⟩
    · walk_at "g"
      exact hN _ _ ⟨z0, m0, by omega, by omega, rfl, k04, pu4⟩
  subst es
  walk_at "g"
  refine ⟨b, d, _, rfl, by split <;> omega, by split <;> omega, pu5, fun d4 H6 y0 y1 k6 pu6 => ?_⟩
  obtain ⟨sh, rfl⟩ : ∃ sh : Nat, d4 = (sh : Int) := ⟨d4.toNat, by omega⟩
  have hsh : sh + min n 6 ≤ n := by
    split at y1 <;> omega
  walk_at "g"
  refine ⟨rfl, fun wl H7 nwl k7 hwl => ?_⟩
  have fwl := pu6.fr nwl
  walk_at "g"
  refine ⟨b, d, 4, rfl, by omega, by omega, pu6.k0 k7, fun dc H8 c0 c1 k8 pu8 => ?_⟩
  obtain ⟨c, rfl⟩ : ∃ c : Nat, dc = (c : Int) := ⟨dc.toNat, by omega⟩
  refine w_ixL (SqL.of (k8 _ _ (by simp [fwl.1, fwl.2]) hwl)) (nm_at (by omega)) ?_
  walk_at "g"
  refine ⟨b, d, n, sh, m, c, rfl, hn, hm, by omega, hsh, pu8, fun row q H9 lr fq k9 pu9 hq => ?_⟩
  have k09 : Kp [b, d] H H9 := ((k05.trans k6).trans (k7.all.trans k8)).trans k9
  walk_at "j"
  refine w_ifJ (fun σ' H' => ∃ (row : List Int) (q : Addr), row.length ≤ 40 ∧ q ∉ [b, d] ∧ σ' = [some (.ref b), some (.bl wd), some (.int (n : Int)), some (.int (m : Int)), some (.int (sh : Int)), some (.ref q)] ∧ Kp [b, d] H H' ∧ Pu H' b d ∧ H' q = some (.lst (row.map V.int))) (fun N hN => ?_) (fun σ' Ha ⟨row, q, lr, fq, es, k0a, pua, hq⟩ => ?_)
  · walk_at "g"
    refine ⟨b, d, 3, rfl, by omega, by omega, pu9, fun d5 Ha _ _ ka pua => ?_⟩
    have hqa := ka _ _ fq hq
    walk_at "g"
    refine w_iteD (fun c1 => ?_) (fun c1 => ?_)
    · walk_at "g"
      refine ⟨b, d, q, n, row, rfl, hn, by omega, fq, hqa, pua, fun row2 q2 Hb lr2 fq2 kb pub hq2 => ?_⟩
      walk_at "g"
      refine ⟨b, d, 2, rfl, by omega, by omega, pub, fun d6 Hc _ _ kc puc => ?_⟩
      have hqc := kc _ _ fq2 hq2
      walk_at "g"
      refine w_iteD (fun c2 => ?_) (fun c2 => ?_)
      · walk_at "g"
        refine ⟨b, d, q2, n, row2, rfl, hn, by omega, fq2, hqc, puc, fun row3 q3 Hd lr3 fq3 kd pud hq3 => ?_⟩
        walk_at "g"
        exact hN _ _ ⟨row3, q3, by omega, fq3, rfl, (k09.trans ka).trans ((kb.trans kc).trans kd), pud, hq3⟩
      · walk_at "g"
        exact hN _ _ ⟨row2, q2, by omega, fq2, rfl, (k09.trans ka).trans (kb.trans kc), puc, hqc⟩
    · walk_at "g"
      exact hN _ _ ⟨row, q, by omega, fq, rfl, k09.trans ka, pua, hqa⟩
  subst es
  walk_at "g"
  refine ⟨sz_ok (by show 2 ≤ 1000000; omega), G.nw fun t Hb nt kb ht => ?_⟩
  exact g t q n row Hb hn lr fq (k0a.trans kb.all) (pua.k0 kb) ht (kb.at0 hq)
theorem len_law (K : PySem.W.Frag) : ∀ vs H Q E, sp_law K vs H Q E → vs.length = (["script"] : List Str).length := by
  rintro vs H Q E ⟨_, _, rfl, _⟩
  rfl
theorem rd_law (T : Txt K mg) (vs : List V) (H : Hp) (Q : VK) (E : XK) (h : sp_law K vs H Q E) : t_law K E { nx := fun _ H' => Q .non H', rt := Q } (start ["script", "purse", "turn", "made", "size", "row", "word", "text", "beyond", "way"] vs) H := by
  obtain ⟨a, ns, rfl, hs, hl, g⟩ := h
  unfold t_law
  walk_at "g"
  refine ⟨a, ns, rfl, hs, hl, fun b d H1 nb nd k1 pu1 => ?_⟩
  walk_at "g"
  refine w_r1 (by omega) ?_
  refine lp_rng0 (fun i σ H' => (∃ x2 x3 x4 x5 x6 x7 x8 x9, σ = [some (.ref a), some (.ref b), x2, x3, x4, x5, x6, x7, x8, x9]) ∧ Pu H' b d) ⟨⟨_, _, _, _, _, _, _, _, rfl⟩, pu1⟩ ?_ ?_
  · rintro i σ' H' hi ⟨⟨x2, x3, x4, x5, x6, x7, x8, x9, rfl⟩, pu⟩
    walk_at "g"
    refine ⟨b, d, rfl, pu, fun t q n row H2 hn lr fq k2 pu2 ht hq => ?_⟩
    walk_at "g"
    refine w_ixT (SqT.of ht) at_0 ?_
    walk_at "g"
    refine w_ixT (SqT.of ht) (i := 1) (v := .ref q) rfl ?_
    walk_at "g"
    refine ⟨q, n, row, rfl, hn, by omega, hq, fun H3 k3 => ?_⟩
    have pu3 := pu2.k0 k3
    have hq3 := k3.at0 hq
    walk_at "g"
    refine ⟨rfl, fun wl H4 nwl k4 hwl => ?_⟩
    have fwl := pu3.fr nwl
    walk_at "g"
    refine ⟨b, d, 4, rfl, by omega, by omega, pu3.k0 k4, fun dc H5 c0 c1 k5 pu5 => ?_⟩
    obtain ⟨c, rfl⟩ : ∃ c : Nat, dc = (c : Int) := ⟨dc.toNat, by omega⟩
    have hq5 := k5 _ _ fq (k4.at0 hq3)
    refine w_ixL (SqL.of (k5 _ _ (by simp [fwl.1, fwl.2]) hwl)) (nm_at (by omega)) ?_
    walk_at "g"
    refine ⟨sz_ok (by show 6 ≤ 1000000; omega), G.nw fun tl H6 ntl k6 htl => ?_⟩
    have ftl := pu5.fr ntl
    walk_at "g"
    refine ⟨b, d, 6, rfl, by omega, by omega, pu5.k0 k6, fun dt H7 t0 t1 k7 pu7 => ?_⟩
    obtain ⟨j, rfl⟩ : ∃ j : Nat, dt = (j : Int) := ⟨dt.toNat, by omega⟩
    obtain ⟨m, hm, nm, som⟩ := txt_at j (by omega)
    have hq7 := k7 _ _ fq (k6.at0 hq5)
    refine w_ixL (SqL.of (k7 _ _ (by simp [ftl.1, ftl.2]) htl)) hm ?_
    walk_at "g"
    refine ⟨b, d, 50, rfl, by omega, by omega, pu7, fun da H8 a0 a1 k8 pu8 => ?_⟩
    walk_at "g"
    refine ⟨b, d, 50, rfl, by omega, by omega, pu8, fun db H9 b0 b1 k9 pu9 => ?_⟩
    walk_at "g"
    refine ⟨sz_ok (by show 2 ≤ 1000000; omega), G.nw fun bl Ha nbl ka hbl => ?_⟩
    have fbl := pu9.fr nbl
    walk_at "g"
    refine ⟨b, d, 2, rfl, by omega, by omega, pu9.k0 ka, fun dz Hb z0 z1 kb pub => ?_⟩
    obtain ⟨z, hz, nz⟩ : ∃ z : Int, atI [V.int (-1 - da), V.int (61 + db)] dz = some (.int z) ∧ ¬ SizeOk z := by
      rcases (show dz = 0 ∨ dz = 1 by omega) with e | e <;> rw [e]
      · exact ⟨_, rfl, by unfold SizeOk; omega⟩
      · exact ⟨_, rfl, by unfold SizeOk; omega⟩
    refine w_ixL (SqL.of (kb _ _ (by simp [fbl.1, fbl.2]) hbl)) hz ?_
    have hqb := kb _ _ fq (ka.at0 (k9 _ _ fq (k8 _ _ fq hq7)))
    clear hq hq3 hq5 hq7 ht k2 k3 k4 k5 k6 k7 k8 k9 ka kb hwl htl hbl
    walk_at "g"
    refine w_r1 (by omega) ?_
    refine lp_rng0 (fun i9 σ H' => (∃ x9, σ = [some (.ref a), some (.ref b), some (.int (i : Int)), some (.ref t), some (.int (n : Int)), some (.ref q), some (.str (mdN c)), some (.str m), some (.int z), x9]) ∧ Kp [] Hb H') ⟨⟨_, rfl⟩, Kp.refl _ _⟩ ?_ ?_
    · rintro way σ2 H2 hw ⟨⟨x9, rfl⟩, k2⟩
      have hw : way < 2 := hw
      have hq2 := k2.at0 hqb
      walk_at "g"
      refine ⟨q, way, z, mdN c, row, rfl, by omega, hq2, .inl nz, fun _ t1 H3 k3 ht1 => ?_, fun ok => absurd ok nz⟩
      walk_at "g"
      refine ⟨sz_ok (by show 3 ≤ 1000000; omega), G.nw fun t2 H4 nt2 k4 ht2 => ?_⟩
      refine w_neT (k4.at0 ht1) ht2 (.cons (.str _) (.cons (.bl true) (.cons (.int _) .nil))) (sh_siz z) ?_
      have k24 := k3.trans k4
      walk_at "g"
      refine ⟨q, way, z, m, row, rfl, by omega, k24.at0 hq2, .inl nz, fun _ t3 H5 k5 ht3 => ?_, fun ok => absurd ok nz⟩
      walk_at "g"
      refine ⟨sz_ok (by show 3 ≤ 1000000; omega), G.nw fun t4 H6 nt4 k6 ht4 => ?_⟩
      refine w_neT (k6.at0 ht3) ht4 (.cons (.str _) (.cons (.bl true) (.cons (.int _) .nil))) (sh_siz z) ?_
      have k26 := k24.trans (k5.trans k6)
      walk_at "g"
      refine ⟨q, way, (n : Int), m, row, rfl, by omega, k26.at0 hq2, .inr nm, fun bz => absurd ⟨by omega, by omega⟩ bz, fun _ t5 H7 k7 ht5 => ?_⟩
      walk_at "g"
      refine ⟨sz_ok (by show 3 ≤ 1000000; omega), G.nw fun t6 H8 nt6 k8 ht6 => ?_⟩
      refine w_neT (k8.at0 ht5) ht6 (.cons (.str _) (.cons (.bl true) (.cons (.str _) .nil))) (sh_txt m som) ?_
      walk_at "g"
      exact ⟨⟨_, rfl⟩, k2.trans (k26.trans (k7.trans k8))⟩
    · rintro σ2 H2 ⟨⟨x9, rfl⟩, k2⟩
      walk_at "g"
      exact ⟨⟨_, _, _, _, _, _, _, _, rfl⟩, pub.k0 k2⟩
  · rintro σ' H' ⟨⟨x2, x3, x4, x5, x6, x7, x8, x9, rfl⟩, pu⟩
    walk_at "g"
    exact g H'
end
end G
set_option Elab.async false
set_option linter.all false
set_option maxRecDepth 100000
set_option maxHeartbeats 1000000
namespace G
--#FAM KB
open PySem PySem.Spec PyProof.Rows L2
local macro_rules
  | `(tactic| walk_at "1") => `(tactic| first
    | with_reducible refine w_seq ?_
    | with_reducible refine w_asg ?_
    | with_reducible refine w_asgS ?_
    | with_reducible refine w_asf ?_
    | with_reducible refine w_drop ?_
    | with_reducible refine w_ret ?_
    | with_reducible refine w_if ?_
    | with_reducible refine w_not ?_
    | with_reducible refine w_and ?_
    | with_reducible refine w_or ?_
    | with_reducible refine w_test ?_
    | with_reducible refine w_tb ?_
    | with_reducible refine w_chain ?_
    | with_reducible refine w_op ?_
    | with_reducible refine w_un ?_
    | with_reducible refine w_andV ?_
    | with_reducible refine w_orV ?_
    | with_reducible refine w_notV ?_
    | with_reducible refine w_ifE ?_
    | with_reducible refine w_cons ?_
    | with_reducible refine w_nil ?_
    | with_reducible refine w_cb ?_
    | with_reducible refine w_cl ?_
    | with_reducible refine w_mt ?_
    | with_reducible refine w_fld ?_
    | with_reducible refine w_tupN ?_
    | with_reducible refine w_lstN ?_
    | with_reducible refine w_bm ?_
    | with_reducible refine w_bm0 ?_
    | with_reducible refine w_for ?_
    | with_reducible refine w_lc ?_
    | with_reducible refine w_iR1 ?_
    | with_reducible refine w_iR2 ?_
    | with_reducible refine w_iL ?_
    | with_reducible refine w_iT ?_
    | with_reducible refine w_iE ?_
    | with_reducible refine w_iZ ?_
    | with_reducible refine w_var (by with_unfolding_all rfl) ?_
    | with_reducible refine w_c ?_
    | with_reducible refine w_next ?_
    | with_reducible refine w_i0 ?_
    | with_reducible refine w_u1 ?_
    | with_reducible refine w_addI ?_
    | with_reducible refine w_eqI ?_
    | with_reducible refine w_eqS ?_
    | with_reducible refine w_eqB ?_
    | with_reducible refine w_neI ?_
    | with_reducible refine w_neS ?_
    | with_reducible refine w_neB ?_
    | with_reducible refine w_abs ?_
    | with_reducible refine w_intI ?_
    | with_reducible refine w_min2 ?_
    | with_reducible refine w_max2 ?_
    | with_reducible refine w_isN0 ?_
    | with_reducible refine w_isN1 ref_ne ?_
    | with_reducible refine w_isN1 int_ne ?_
    | with_reducible refine w_notN0 ?_
    | with_reducible refine w_notN1 ref_ne ?_
    | with_reducible refine w_notN1 int_ne ?_
    | with_reducible refine w_ex1 ?_
    | with_reducible refine w_n1 ?_
    | with_reducible refine w_n2 ?_
    | with_reducible refine w_tT ?_
    | with_reducible refine w_tF ?_
    | with_reducible refine w_nT ?_
    | with_reducible refine w_nF ?_
    | with_reducible refine w_rz ?_
    | with_reducible refine w_mkN ?_
    | with_reducible refine w_lrgN ?_
    | with_reducible refine w_rg1 ?_
    | with_reducible refine w_rg2 ?_
    | with_reducible refine w_sl ?_
    | with_reducible refine w_np ?_
    | with_reducible refine w_pt ?_
    | with_reducible refine w_tr ?_
    | with_reducible refine w_gn ?_
    | with_reducible refine w_yes ?_
    | with_reducible refine w_m1 ?_
    | with_reducible refine w_asu ?_
    | with_reducible refine w_exS ?_
    | with_reducible refine w_iS ?_
    | with_reducible refine w_g1 ?_
    | with_reducible refine w_gc ?_
    | with_reducible refine w_gt (SqT.of upd_same) rfl ?_)
local macro_rules
  | `(tactic| walk_at "g") => `(tactic| repeat walk_at "1")
local macro_rules
  | `(tactic| walk_at "j1") => `(tactic| first
    | with_reducible refine w_seqI ?_
    | walk_at "1")
local macro_rules
  | `(tactic| walk_at "j") => `(tactic| repeat walk_at "j1")
section
variable {K : PySem.W.Frag} {mg : Str → Option Value}
theorem len_check_size (K : PySem.W.Frag) : ∀ vs H Q E, sp_check_size K vs H Q E → vs.length = (["size"] : List Str).length := by
  rintro vs H Q E ⟨_, rfl, _⟩
  rfl
theorem rd_check_size (T : Txt K mg) (vs : List V) (H : Hp) (Q : VK) (E : XK) (h : sp_check_size K vs H Q E) : t_check_size K E { nx := fun _ H' => Q .non H', rt := Q } (start ["size"] vs) H := by
  obtain ⟨size, rfl, h1, h2⟩ := h
  unfold t_check_size
  walk_at "g"
  refine w_iteD (fun c1 => ?_) (fun c1 => ?_)
  · walk_at "g"
    refine w_iteN (fun c2 => ?_) (fun c2 => ?_)
    · walk_at "g"
      exact ⟨rfl, Nat.le_of_ble_eq_true rfl, h2 fun z => c2 z.2⟩
    · walk_at "g"
      exact h1 ⟨c1, c2⟩
  · walk_at "g"
    exact ⟨rfl, Nat.le_of_ble_eq_true rfl, h2 fun z => c1 z.1⟩
theorem len_check_operation (K : PySem.W.Frag) : ∀ vs H Q E, sp_check_operation K vs H Q E → vs.length = (["size", "operation", "index"] : List Str).length := by
  rintro vs H Q E ⟨_, _, _, rfl, _⟩
  rfl
theorem rd_check_operation (T : Txt K mg) (vs : List V) (H : Hp) (Q : VK) (E : XK) (h : sp_check_operation K vs H Q E) : t_check_operation K E { nx := fun _ H' => Q .non H', rt := Q } (start ["size", "operation", "index"] vs) H := by
  obtain ⟨n, op, i, rfl, h1, h2⟩ := h
  unfold t_check_operation
  walk_at "g"
  rw [natAbs_if]
  refine w_iteD (fun c1 => ?_) (fun c1 => ?_)
  · walk_at "g"
    refine w_iteN (fun c2 => ?_) (fun c2 => ?_)
    · walk_at "g"
      exact ⟨rfl, Nat.le_of_ble_eq_true rfl, h2 fun z => c2 (by have := z.2; omega)⟩
    · walk_at "g"
      exact h1 ⟨by omega, by omega⟩
  · walk_at "g"
    exact ⟨rfl, Nat.le_of_ble_eq_true rfl, h2 fun z => c1 (by have := z.1; omega)⟩
theorem len_check_gap (K : PySem.W.Frag) : ∀ vs H Q E, sp_check_gap K vs H Q E → vs.length = (["size", "gap"] : List Str).length := by
  rintro vs H Q E ⟨_, _, rfl, _⟩
  rfl
theorem rd_check_gap (T : Txt K mg) (vs : List V) (H : Hp) (Q : VK) (E : XK) (h : sp_check_gap K vs H Q E) : t_check_gap K E { nx := fun _ H' => Q .non H', rt := Q } (start ["size", "gap"] vs) H := by
  obtain ⟨n, g, rfl, h1, h2⟩ := h
  unfold t_check_gap
  walk_at "g"
  refine w_iteD (fun c1 => ?_) (fun c1 => ?_)
  · walk_at "g"
    refine w_iteN (fun c2 => ?_) (fun c2 => ?_)
    · walk_at "g"
      exact ⟨rfl, Nat.le_of_ble_eq_true rfl, h2 fun z => c2 z.2⟩
    · walk_at "g"
      exact h1 ⟨c1, c2⟩
  · walk_at "g"
    exact ⟨rfl, Nat.le_of_ble_eq_true rfl, h2 fun z => c1 z.1⟩
theorem len_Links_is_legal (K : PySem.W.Frag) : ∀ vs H Q E, sp_Links_is_legal K vs H Q E → vs.length = (["self", "operation"] : List Str).length := by
  rintro vs H Q E ⟨_, _, _, _, _, _, rfl, _⟩
  rfl
theorem rd_Links_is_legal (T : Txt K mg) (vs : List V) (H : Hp) (Q : VK) (E : XK) (h : sp_Links_is_legal K vs H Q E) : t_Links_is_legal K E { nx := fun _ H' => Q .non H', rt := Q } (start ["self", "operation"] vs) H := by
  obtain ⟨p, r, l, o, s, op, rfl, a, hi, k⟩ := h
  unfold t_Links_is_legal
  walk_at "g"
  refine w_fO T.cl_Links T.na_Links__out a ?_
  walk_at "g"
  rw [natAbs_if]
  have hlt : (op.natAbs : Int) < (s.O.length : Int) := by
    rw [a.wf.lO]
    have := hi.2
    omega
  refine w_ixL (SqL.of a.ho) (at_B (by omega) hlt) ?_
  walk_at "g"
  exact k
theorem len_Links_check (K : PySem.W.Frag) : ∀ vs H Q E, sp_Links_check K vs H Q E → vs.length = (["self", "operation", "index"] : List Str).length := by
  rintro vs H Q E ⟨_, _, _, _, _, _, _, rfl, _⟩
  rfl
theorem rd_Links_check (T : Txt K mg) (vs : List V) (H : Hp) (Q : VK) (E : XK) (h : sp_Links_check K vs H Q E) : t_Links_check K E { nx := fun _ H' => Q .non H', rt := Q } (start ["self", "operation", "index"] vs) H := by
  obtain ⟨p, r, l, o, s, op, i, rfl, a, h1, h2⟩ := h
  unfold t_Links_check
  walk_at "g"
  refine w_fS T.cl_Links T.na_Links_size a ?_
  walk_at "g"
  refine ⟨s.n, op, i, rfl, fun hi => ?_, fun hi => ?_⟩
  · walk_at "g"
    refine w_me a no_m ?_
    walk_at "g"
    refine ⟨p, r, l, o, s, op, rfl, a, hi, ?_⟩
    walk_at "g"
    refine w_iteN (fun c => ?_) (fun c => ?_)
    · walk_at "g"
      refine ⟨rfl, Nat.le_of_ble_eq_true rfl, ?_⟩
      have e := h2 fun z => c z.2
      unfold OpE at e
      rw [if_pos hi] at e
      exact e
    · walk_at "g"
      exact h1 ⟨hi, c⟩
  · have e := h2 fun z => hi z.1
    unfold OpE at e
    rw [if_neg hi] at e
    exact e
end
end G
set_option Elab.async false
set_option linter.all false
set_option maxRecDepth 100000
set_option maxHeartbeats 4000000
namespace G
open PySem PySem.Spec PyProof.Rows L2
section
variable {P : Program} {w : World} {K : PySem.W.Frag} {mg : Str → Option Value} {base : Heap}
theorem ok_Links_is_out {f : Addr} {fd : FuncData} (T : Txt K mg) (F : FunD K "is_out" "Links.is_out" (defArgs s_Links_is_out) (defBody s_Links_is_out) (defScope s_Links_is_out) [] [] f fd) (x_BadNode : ExM P w K mg base 1 "BadNode" (He.ga K "BadNode") ["node"]) : FnOk P w K mg base (L2N.CX P w) 3 f fd ["self", "node"] (sp03_Links_is_out K) :=
  F.ok sc_Links_is_out (len_Links_is_out K) fun cdv A outer s H vs Q E hr h => ⟨t_Links_is_out K E, pss_cons (ps_if (pt_not (pt_chain op_le op_le (pe_int) (pv 1) (pe_op op_addA (pe_fld (pv 0) rfl) (pe_int)))) (pss_one (ps_rz x_BadNode rfl (L2N.takes_of rfl rfl rfl rfl) hr (by decide) (pa_cons (pv 1) (pa_nil)))) (pss_nil)) (pss_one (ps_ret (pe_ix ix_seq (pe_fld (pv 0) rfl) (pv 1) (fun _ _ => rfl)))), rd_Links_is_out T vs H Q E h⟩
theorem ok_Links_left {f : Addr} {fd : FuncData} (T : Txt K mg) (F : FunD K "left" "Links.left" (defArgs s_Links_left) (defBody s_Links_left) (defScope s_Links_left) [] [] f fd) (x_BadNode : ExM P w K mg base 1 "BadNode" (He.ga K "BadNode") ["node"]) : FnOk P w K mg base (L2N.CX P w) 3 f fd ["self", "node"] (sp_Links_left K) :=
  F.ok sc_Links_left (len_Links_left K) fun cdv A outer s H vs Q E hr h => ⟨t_Links_left K E, pss_cons (ps_if (pt_not (pt_chain op_le op_le (pe_int) (pv 1) (pe_op op_addA (pe_fld (pv 0) rfl) (pe_int)))) (pss_one (ps_rz x_BadNode rfl (L2N.takes_of rfl rfl rfl rfl) hr (by decide) (pa_cons (pv 1) (pa_nil)))) (pss_nil)) (pss_one (ps_ret (pe_ix ix_seq (pe_fld (pv 0) rfl) (pv 1) (fun _ _ => rfl)))), rd_Links_left T vs H Q E h⟩
theorem ok_Links_right {f : Addr} {fd : FuncData} (T : Txt K mg) (F : FunD K "right" "Links.right" (defArgs s_Links_right) (defBody s_Links_right) (defScope s_Links_right) [] [] f fd) (x_BadNode : ExM P w K mg base 1 "BadNode" (He.ga K "BadNode") ["node"]) : FnOk P w K mg base (L2N.CX P w) 3 f fd ["self", "node"] (sp_Links_right K) :=
  F.ok sc_Links_right (len_Links_right K) fun cdv A outer s H vs Q E hr h => ⟨t_Links_right K E, pss_cons (ps_if (pt_not (pt_chain op_le op_le (pe_int) (pv 1) (pe_fld (pv 0) rfl))) (pss_one (ps_rz x_BadNode rfl (L2N.takes_of rfl rfl rfl rfl) hr (by decide) (pa_cons (pv 1) (pa_nil)))) (pss_nil)) (pss_one (ps_ret (pe_ix ix_seq (pe_fld (pv 0) rfl) (pv 1) (fun _ _ => rfl)))), rd_Links_right T vs H Q E h⟩
theorem ok__has_fitting_neighbours {f : Addr} {fd : FuncData} (T : Txt K mg) (F : FunD K "_has_fitting_neighbours" "_has_fitting_neighbours" (defArgs s__has_fitting_neighbours) (defBody s__has_fitting_neighbours) (defScope s__has_fitting_neighbours) [] [] f fd) (c_Links_is_out : Met P w K mg base 3 (He.ga K "Links") "is_out" ["self", "node"] (sp03_Links_is_out K)) (c_Links_left : Met P w K mg base 3 (He.ga K "Links") "left" ["self", "node"] (sp_Links_left K)) (c_Links_right : Met P w K mg base 3 (He.ga K "Links") "right" ["self", "node"] (sp_Links_right K)) : FnOk P w K mg base (L2N.CX P w) 4 f fd ["links", "operation"] (sp__has_fitting_neighbours K) :=
  F.ok sc__has_fitting_neighbours (len__has_fitting_neighbours K) fun cdv A outer s H vs Q E hr h => ⟨t__has_fitting_neighbours K E, pss_cons (ps_set (i := 2) sc__has_fitting_neighbours.nd rfl (by first | exact Or.inl rfl | exact Or.inr rfl) (pe_callB call_absA (by rfl) T.b_abs (by decide +kernel) (pa_cons (pv 1) (pa_nil)))) (pss_cons (ps_set (i := 3) sc__has_fitting_neighbours.nd rfl (by first | exact Or.inl rfl | exact Or.inr rfl) (pe_mt c_Links_left T.cl_Links hr (by decide) (pat_of (W := fun cls d _ H => E cls d H) (L2N.takes_of rfl rfl rfl rfl)) (pv 0) (pa_cons (pv 2) (pa_nil)))) (pss_cons (ps_set (i := 4) sc__has_fitting_neighbours.nd rfl (by first | exact Or.inl rfl | exact Or.inr rfl) (pe_mt c_Links_right T.cl_Links hr (by decide) (pat_of (W := fun cls d _ H => E cls d H) (L2N.takes_of rfl rfl rfl rfl)) (pv 0) (pa_cons (pv 2) (pa_nil)))) (pss_cons (ps_if ((pw_or (pt_val (pe_mt c_Links_is_out T.cl_Links hr (by decide) (pat_of (W := fun cls d _ H => E cls d H) (L2N.takes_of rfl rfl rfl rfl)) (pv 0) (pa_cons (pv 3) (pa_nil)))) (pw_or1 (pt_val (pe_mt c_Links_is_out T.cl_Links hr (by decide) (pat_of (W := fun cls d _ H => E cls d H) (L2N.takes_of rfl rfl rfl rfl)) (pv 0) (pa_cons (pv 4) (pa_nil)))))).pt) (pss_one (ps_ret (pe_bl))) (pss_nil)) (pss_cons (ps_if (pt_cmpR op_lt (pv 1) (pe_int) (nomark _)) (pss_one (ps_ret (pe_and (pe_cmpR (op_eqA hr) (pe_mt c_Links_right T.cl_Links hr (by decide) (pat_of (W := fun cls d _ H => E cls d H) (L2N.takes_of rfl rfl rfl rfl)) (pv 0) (pa_cons (pv 3) (pa_nil))) (pv 2) (nomark _)) (pe_one (pe_cmpR (op_eqA hr) (pe_mt c_Links_left T.cl_Links hr (by decide) (pat_of (W := fun cls d _ H => E cls d H) (L2N.takes_of rfl rfl rfl rfl)) (pv 0) (pa_cons (pv 4) (pa_nil))) (pv 2) (nomark _)))))) (pss_nil)) (pss_one (ps_ret (pe_and (pe_cmpR (op_eqA hr) (pe_mt c_Links_right T.cl_Links hr (by decide) (pat_of (W := fun cls d _ H => E cls d H) (L2N.takes_of rfl rfl rfl rfl)) (pv 0) (pa_cons (pv 3) (pa_nil))) (pv 4) (nomark _)) (pe_one (pe_cmpR (op_eqA hr) (pe_mt c_Links_left T.cl_Links hr (by decide) (pat_of (W := fun cls d _ H => E cls d H) (L2N.takes_of rfl rfl rfl rfl)) (pv 0) (pa_cons (pv 4) (pa_nil))) (pv 3) (nomark _)))))))))), rd__has_fitting_neighbours T vs H Q E h⟩
theorem ok_Links_is_legal {f : Addr} {fd : FuncData} (T : Txt K mg) (F : FunD K "is_legal" "Links.is_legal" (defArgs s_Links_is_legal) (defBody s_Links_is_legal) (defScope s_Links_is_legal) [] [] f fd)  : FnOk P w K mg base (L2N.CX P w) 1 f fd ["self", "operation"] (sp_Links_is_legal K) :=
  F.ok sc_Links_is_legal (len_Links_is_legal K) fun cdv A outer s H vs Q E hr h => ⟨t_Links_is_legal K E, pss_one (ps_ret (pe_cmpR (op_eqA hr) (pe_ix ix_seq (pe_fld (pv 0) rfl) (pe_callB call_absA (by rfl) T.b_abs (by decide +kernel) (pa_cons (pv 1) (pa_nil))) (fun _ _ => rfl)) (pe_cmpR op_gt (pv 1) (pe_int) (nomark _)) (nomark _))), rd_Links_is_legal T vs H Q E h⟩
theorem ok_check_operation {f : Addr} {fd : FuncData} (T : Txt K mg) (F : FunD K "check_operation" "check_operation" (defArgs s_check_operation) (defBody s_check_operation) (defScope s_check_operation) [] [] f fd) (x_BadOperation : ExM P w K mg base 1 "BadOperation" (He.ga K "BadOperation") ["operation", "index"]) : FnOk P w K mg base (L2N.CX P w) 3 f fd ["size", "operation", "index"] (sp_check_operation K) :=
  F.ok sc_check_operation (len_check_operation K) fun cdv A outer s H vs Q E hr h => ⟨t_check_operation K E, pss_one (ps_if (pt_not (pt_chain op_le op_le (pe_int) (pe_callB call_absA (by rfl) T.b_abs (by decide +kernel) (pa_cons (pv 1) (pa_nil))) (pv 0))) (pss_one (ps_rz x_BadOperation rfl (L2N.takes_of rfl rfl rfl rfl) hr (by decide) (pa_cons (pv 1) (pa_cons (pv 2) (pa_nil))))) (pss_nil)), rd_check_operation T vs H Q E h⟩
theorem ok_Links_check {f : Addr} {fd : FuncData} (T : Txt K mg) (F : FunD K "check" "Links.check" (defArgs s_Links_check) (defBody s_Links_check) (defScope s_Links_check) [] [] f fd) (c_Links_is_legal : Met P w K mg base 1 (He.ga K "Links") "is_legal" ["self", "operation"] (sp_Links_is_legal K)) (c_check_operation : Cal P w K mg base 3 "check_operation" ["size", "operation", "index"] (sp_check_operation K)) (x_Illegal : ExM P w K mg base 1 "Illegal" (He.ga K "Illegal") ["operation", "index"]) : FnOk P w K mg base (L2N.CX P w) 4 f fd ["self", "operation", "index"] (sp_Links_check K) :=
  F.ok sc_Links_check (len_Links_check K) fun cdv A outer s H vs Q E hr h => ⟨t_Links_check K E, pss_cons (ps_expr (pe_cl c_check_operation hr (by decide) (pat_of (W := fun cls d _ H => E cls d H) (L2N.takes_of rfl rfl rfl rfl)) (pa_cons (pe_fld (pv 0) rfl) (pa_cons (pv 1) (pa_cons (pv 2) (pa_nil)))))) (pss_one (ps_if (pt_not (pt_val (pe_mt c_Links_is_legal T.cl_Links hr (by decide) (pat_of (W := fun cls d _ H => E cls d H) (L2N.takes_of rfl rfl rfl rfl)) (pv 0) (pa_cons (pv 1) (pa_nil))))) (pss_one (ps_rz x_Illegal rfl (L2N.takes_of rfl rfl rfl rfl) hr (by decide) (pa_cons (pv 1) (pa_cons (pv 2) (pa_nil))))) (pss_nil))), rd_Links_check T vs H Q E h⟩
theorem ok_foreign_writes {f : Addr} {fd : FuncData} (T : Txt K mg) (F : FunD K "foreign_writes" "foreign_writes" (defArgs s_foreign_writes) (defBody s_foreign_writes) (defScope s_foreign_writes) [] [] f fd) (c_Links_check : Met P w K mg base 4 (He.ga K "Links") "check" ["self", "operation", "index"] (sp_Links_check K)) (c_Links_left : Met P w K mg base 3 (He.ga K "Links") "left" ["self", "node"] (sp_Links_left K)) (c_Links_right : Met P w K mg base 3 (He.ga K "Links") "right" ["self", "node"] (sp_Links_right K)) : FnOk P w K mg base (L2N.CX P w) 5 f fd ["links", "operation"] (sp_foreign_writes K) :=
  F.ok sc_foreign_writes (len_foreign_writes K) fun cdv A outer s H vs Q E hr h => ⟨t_foreign_writes K E, pss_cons (ps_expr (pe_mt c_Links_check T.cl_Links hr (by decide) (pat_of (W := fun cls d _ H => E cls d H) (L2N.takes_of rfl rfl rfl rfl)) (pv 0) (pa_cons (pv 1) (pa_cons (pe_int) (pa_nil))))) (pss_cons (ps_set (i := 2) sc_foreign_writes.nd rfl (by first | exact Or.inl rfl | exact Or.inr rfl) (pe_callB call_absA (by rfl) T.b_abs (by decide +kernel) (pa_cons (pv 1) (pa_nil)))) (pss_cons (ps_set (i := 3) sc_foreign_writes.nd rfl (by first | exact Or.inl rfl | exact Or.inr rfl) (pe_mt c_Links_left T.cl_Links hr (by decide) (pat_of (W := fun cls d _ H => E cls d H) (L2N.takes_of rfl rfl rfl rfl)) (pv 0) (pa_cons (pv 2) (pa_nil)))) (pss_cons (ps_set (i := 4) sc_foreign_writes.nd rfl (by first | exact Or.inl rfl | exact Or.inr rfl) (pe_mt c_Links_right T.cl_Links hr (by decide) (pat_of (W := fun cls d _ H => E cls d H) (L2N.takes_of rfl rfl rfl rfl)) (pv 0) (pa_cons (pv 2) (pa_nil)))) (pss_cons (ps_set (i := 5) sc_foreign_writes.nd rfl (by first | exact Or.inl rfl | exact Or.inr rfl) (pe_lst (pa_nil))) (pss_cons (ps_if ((pw_and (pt_cmpR (op_neA hr) (pv 3) (pe_op op_sub (pv 2) (pe_int)) (nomark _)) (pw_and1 (pt_cmpR (op_eqA hr) (pe_mt c_Links_right T.cl_Links hr (by decide) (pat_of (W := fun cls d _ H => E cls d H) (L2N.takes_of rfl rfl rfl rfl)) (pv 0) (pa_cons (pv 3) (pa_nil))) (pe_op op_addA (pv 3) (pe_int)) (nomark _)))).pt) (pss_one (ps_expr (pe_bm PySem.F.plainAttrs_list PySem.F.slot_list_append PySem.F.type_list_append mt_append (pv 5) (pa_cons (pv 3) (pa_nil))))) (pss_nil)) (pss_cons (ps_if ((pw_and (pt_cmpR (op_neA hr) (pv 4) (pe_op op_addA (pv 2) (pe_int)) (nomark _)) (pw_and1 (pt_cmpR (op_eqA hr) (pe_mt c_Links_left T.cl_Links hr (by decide) (pat_of (W := fun cls d _ H => E cls d H) (L2N.takes_of rfl rfl rfl rfl)) (pv 0) (pa_cons (pv 4) (pa_nil))) (pe_op op_sub (pv 4) (pe_int)) (nomark _)))).pt) (pss_one (ps_expr (pe_bm PySem.F.plainAttrs_list PySem.F.slot_list_append PySem.F.type_list_append mt_append (pv 5) (pa_cons (pe_op op_sub (pv 4) (pe_int)) (pa_nil))))) (pss_nil)) (pss_one (ps_ret (pv 5))))))))), rd_foreign_writes T vs H Q E h⟩
theorem ok_left_to {f : Addr} {fd : FuncData} (T : Txt K mg) (F : FunD K "left_to" "left_to" (defArgs s_left_to) (defBody s_left_to) (defScope s_left_to) [] [] f fd)  : FnOk P w K mg base (L2N.CX P w) 1 f fd ["operation", "gap"] (sp17_left_to K) :=
  F.ok sc_left_to (len_left_to K) fun cdv A outer s H vs Q E hr h => ⟨t_left_to K E, pss_one (ps_ret (pe_ifExp (pt_cmpR op_lt (pv 1) (pe_callB call_absA (by rfl) T.b_abs (by decide +kernel) (pa_cons (pv 0) (pa_nil))) (nomark _)) (pe_op op_addA (pv 1) (pe_int)) (pv 1))), rd_left_to T vs H Q E h⟩
theorem ok__leaves_a_gap_to_a_holder_that_is_in {f : Addr} {fd : FuncData} (T : Txt K mg) (F : FunD K "_leaves_a_gap_to_a_holder_that_is_in" "_leaves_a_gap_to_a_holder_that_is_in" (defArgs s__leaves_a_gap_to_a_holder_that_is_in) (defBody s__leaves_a_gap_to_a_holder_that_is_in) (defScope s__leaves_a_gap_to_a_holder_that_is_in) [] [] f fd) (c_Links_is_out : Met P w K mg base 3 (He.ga K "Links") "is_out" ["self", "node"] (sp03_Links_is_out K)) (c_foreign_writes : Cal P w K mg base 5 "foreign_writes" ["links", "operation"] (sp_foreign_writes K)) (c_left_to : Cal P w K mg base 1 "left_to" ["operation", "gap"] (sp17_left_to K)) : FnOk P w K mg base (L2N.CX P w) 6 f fd ["links", "operation"] (sp__leaves_a_gap_to_a_holder_that_is_in K) :=
  F.ok sc__leaves_a_gap_to_a_holder_that_is_in (len__leaves_a_gap_to_a_holder_that_is_in K) fun cdv A outer s H vs Q E hr h => ⟨t__leaves_a_gap_to_a_holder_that_is_in K E, pss_one (ps_ret (pe_callB (cr_any rfl) (by rfl) T.b_any (by decide +kernel) (pa_cons (pe_lc (own := [("gap", 2)]) (g := gName 2) (tt := tYes) (te := tNotV (tMt (He.ga K "Links") "is_out" (sp03_Links_is_out K) (fun _ => E0) (tVar 0) (tCons (tCl (sp17_left_to K) (fun _ => E0) (tCons (tVar 1) (tCons (tVar 2) (tNil)))) (tNil)))) rfl sc__leaves_a_gap_to_a_holder_that_is_in.nd (pi_list (pe_cl c_foreign_writes hr (by decide) (pat_of (W := fun cls d _ H => E cls d H) (L2N.takes_of rfl rfl rfl rfl)) (pa_cons (pv 0) (pa_cons (pv 1) (pa_nil))))) (blkOk_by (own := [("gap", 2)]) (N := ["links", "operation", "gap"]) (sc := defScope s__leaves_a_gap_to_a_holder_that_is_in) (by decide +kernel)) (fun _ _ _ _ _ => pg_name (i := 2) sc__leaves_a_gap_to_a_holder_that_is_in.nd rfl (by first | exact Or.inl rfl | exact Or.inr rfl)) (fun _ _ _ _ _ => pts_nil) (fun _ _ _ _ _ => pe_not (pe_mt c_Links_is_out T.cl_Links hr (by decide) (pat_no) (pv 0) (pa_cons (pe_cl c_left_to hr (by decide) (pat_no) (pa_cons (pv 1) (pa_cons (pv 2) (pa_nil)))) (pa_nil))))) (pa_nil)))), rd__leaves_a_gap_to_a_holder_that_is_in T vs H Q E h⟩
theorem ok_check_gap {f : Addr} {fd : FuncData} (T : Txt K mg) (F : FunD K "check_gap" "check_gap" (defArgs s_check_gap) (defBody s_check_gap) (defScope s_check_gap) [] [] f fd) (x_BadGap : ExM P w K mg base 1 "BadGap" (He.ga K "BadGap") ["gap"]) : FnOk P w K mg base (L2N.CX P w) 3 f fd ["size", "gap"] (sp_check_gap K) :=
  F.ok sc_check_gap (len_check_gap K) fun cdv A outer s H vs Q E hr h => ⟨t_check_gap K E, pss_one (ps_if (pt_not (pt_chain op_le op_le (pe_int) (pv 1) (pv 0))) (pss_one (ps_rz x_BadGap rfl (L2N.takes_of rfl rfl rfl rfl) hr (by decide) (pa_cons (pv 1) (pa_nil)))) (pss_nil)), rd_check_gap T vs H Q E h⟩
theorem ok_gap_state {f : Addr} {fd : FuncData} (T : Txt K mg) (F : FunD K "gap_state" "gap_state" (defArgs s_gap_state) (defBody s_gap_state) (defScope s_gap_state) [] [] f fd) (c_Links_left : Met P w K mg base 3 (He.ga K "Links") "left" ["self", "node"] (sp_Links_left K)) (c_Links_right : Met P w K mg base 3 (He.ga K "Links") "right" ["self", "node"] (sp_Links_right K)) (c_check_gap : Cal P w K mg base 3 "check_gap" ["size", "gap"] (sp_check_gap K)) : FnOk P w K mg base (L2N.CX P w) 4 f fd ["links", "gap"] (sp_gap_state K) :=
  F.ok sc_gap_state (len_gap_state K) fun cdv A outer s H vs Q E hr h => ⟨t_gap_state K E, pss_cons (ps_expr (pe_cl c_check_gap hr (by decide) (pat_of (W := fun cls d _ H => E cls d H) (L2N.takes_of rfl rfl rfl rfl)) (pa_cons (pe_fld (pv 0) rfl) (pa_cons (pv 1) (pa_nil))))) (pss_cons (ps_set (i := 2) sc_gap_state.nd rfl (by first | exact Or.inl rfl | exact Or.inr rfl) (pe_cmpR (op_eqA hr) (pe_mt c_Links_right T.cl_Links hr (by decide) (pat_of (W := fun cls d _ H => E cls d H) (L2N.takes_of rfl rfl rfl rfl)) (pv 0) (pa_cons (pv 1) (pa_nil))) (pe_op op_addA (pv 1) (pe_int)) (nomark _))) (pss_cons (ps_set (i := 3) sc_gap_state.nd rfl (by first | exact Or.inl rfl | exact Or.inr rfl) (pe_cmpR (op_eqA hr) (pe_mt c_Links_left T.cl_Links hr (by decide) (pat_of (W := fun cls d _ H => E cls d H) (L2N.takes_of rfl rfl rfl rfl)) (pv 0) (pa_cons (pe_op op_addA (pv 1) (pe_int)) (pa_nil))) (pv 1) (nomark _))) (pss_cons (ps_if (pt_val (pv 2)) (pss_one (ps_ret (pe_ifExp (pt_val (pv 3)) (pe_str) (pe_str)))) (pss_nil)) (pss_one (ps_ret (pe_ifExp (pt_val (pv 3)) (pe_str) (pe_str))))))), rd_gap_state T vs H Q E h⟩
theorem ok__loses_a_gap {f : Addr} {fd : FuncData} (T : Txt K mg) (F : FunD K "_loses_a_gap" "_loses_a_gap" (defArgs s__loses_a_gap) (defBody s__loses_a_gap) (defScope s__loses_a_gap) [] [] f fd) (c_foreign_writes : Cal P w K mg base 5 "foreign_writes" ["links", "operation"] (sp_foreign_writes K)) (c_gap_state : Cal P w K mg base 4 "gap_state" ["links", "gap"] (sp_gap_state K)) : FnOk P w K mg base (L2N.CX P w) 6 f fd ["links", "operation"] (sp__loses_a_gap K) :=
  F.ok sc__loses_a_gap (len__loses_a_gap K) fun cdv A outer s H vs Q E hr h => ⟨t__loses_a_gap K E, pss_one (ps_ret (pe_callB (cr_any rfl) (by rfl) T.b_any (by decide +kernel) (pa_cons (pe_lc (own := [("gap", 2)]) (g := gName 2) (tt := tYes) (te := tOp (rNeA K) (tCl (sp_gap_state K) (fun _ => E0) (tCons (tVar 0) (tCons (tVar 2) (tNil)))) (tC (.str "joined"))) rfl sc__loses_a_gap.nd (pi_list (pe_cl c_foreign_writes hr (by decide) (pat_of (W := fun cls d _ H => E cls d H) (L2N.takes_of rfl rfl rfl rfl)) (pa_cons (pv 0) (pa_cons (pv 1) (pa_nil))))) (blkOk_by (own := [("gap", 2)]) (N := ["links", "operation", "gap"]) (sc := defScope s__loses_a_gap) (by decide +kernel)) (fun _ _ _ _ _ => pg_name (i := 2) sc__loses_a_gap.nd rfl (by first | exact Or.inl rfl | exact Or.inr rfl)) (fun _ _ _ _ _ => pts_nil) (fun _ _ _ _ _ => pe_cmpR (op_neA hr) (pe_cl c_gap_state hr (by decide) (pat_no) (pa_cons (pv 0) (pa_cons (pv 2) (pa_nil)))) (pe_str) (nomark _))) (pa_nil)))), rd__loses_a_gap T vs H Q E h⟩
theorem ok_FreeMode_refusal {f : Addr} {fd : FuncData} (T : Txt K mg) (F : FunD K "refusal" "FreeMode.refusal" (defArgs s_FreeMode_refusal) (defBody s_FreeMode_refusal) (defScope s_FreeMode_refusal) [] [] f fd) (c_Links_check : Met P w K mg base 4 (He.ga K "Links") "check" ["self", "operation", "index"] (sp_Links_check K)) : FnOk P w K mg base (L2N.CX P w) 5 f fd ["self", "links", "operation"] (sp_FreeMode_refusal K) :=
  F.ok sc_FreeMode_refusal (len_FreeMode_refusal K) fun cdv A outer s H vs Q E hr h => ⟨t_FreeMode_refusal K E, pss_cons (ps_expr (pe_mt c_Links_check T.cl_Links hr (by decide) (pat_of (W := fun cls d _ H => E cls d H) (L2N.takes_of rfl rfl rfl rfl)) (pv 1) (pa_cons (pv 2) (pa_cons (pe_int) (pa_nil))))) (pss_one (ps_ret (pe_str))), rd_FreeMode_refusal T vs H Q E h⟩
theorem ok_SavingMode_refusal {f : Addr} {fd : FuncData} (T : Txt K mg) (F : FunS K P "refusal" "SavingMode.refusal" (defArgs s_SavingMode_refusal) (defBody s_SavingMode_refusal) (defScope s_SavingMode_refusal) (He.ga K "SavingMode") f fd) {fdp : FuncData} (o_par : FnOk P w K mg base (L2N.CX P w) 5 (He.fAd K ("FreeMode", some "refusal")) fdp ["self", "links", "operation"] (sp_FreeMode_refusal K)) (b_par : Binds K fdp ["self", "links", "operation"] []) (htop : (P.main.scope.names.lookup ("super" : Str)).isSome = false) (c__loses_a_gap : Cal P w K mg base 6 "_loses_a_gap" ["links", "operation"] (sp__loses_a_gap K)) : FnOk P w K mg base (L2N.CX P w) 7 f fd ["self", "links", "operation"] (sp_SavingMode_refusal K) :=
  FunS.okT (sf := "self") (y := "refusing") (i := 4) F sc_SavingMode_refusal (len_SavingMode_refusal K) (by decide) rfl o_par (by decide) b_par rfl rfl rfl rfl rfl T.b_super htop (by decide) rfl rfl (fun X hX => ⟨rfl, rfl, ⟨_, rfl⟩, by rfl⟩) fun c cc A outer s H vs Q E hr hs => ⟨_, _, pa_cons (pv 1) (pa_cons (pv 2) (pa_nil)), pss_cons (ps_if ((pw_and (pt_cmpR (op_eqA hr) (pv 4) (pe_str) (nomark _)) (pw_and1 (pt_val (pe_cl c__loses_a_gap hr (by decide) (pat_of (W := fun cls d _ H => E cls d H) (L2N.takes_of rfl rfl rfl rfl)) (pa_cons (pv 1) (pa_cons (pv 2) (pa_nil))))))).pt) (pss_one (ps_ret (pe_cc T.cc_SavingMode_NAME (pe_own T.g_SavingMode)))) (pss_nil)) (pss_one (ps_ret (pv 4))), pat_of (W := fun cls d _ H => E cls d H) (L2N.takes_of rfl rfl rfl rfl), rd_SavingMode_refusal T vs H Q E hs⟩
theorem ok_GuardedMode_refusal {f : Addr} {fd : FuncData} (T : Txt K mg) (F : FunS K P "refusal" "GuardedMode.refusal" (defArgs s_GuardedMode_refusal) (defBody s_GuardedMode_refusal) (defScope s_GuardedMode_refusal) (He.ga K "GuardedMode") f fd) {fdp : FuncData} (o_par : FnOk P w K mg base (L2N.CX P w) 7 (He.fAd K ("SavingMode", some "refusal")) fdp ["self", "links", "operation"] (sp_SavingMode_refusal K)) (b_par : Binds K fdp ["self", "links", "operation"] []) (htop : (P.main.scope.names.lookup ("super" : Str)).isSome = false) (c__leaves_a_gap_to_a_holder_that_is_in : Cal P w K mg base 6 "_leaves_a_gap_to_a_holder_that_is_in" ["links", "operation"] (sp__leaves_a_gap_to_a_holder_that_is_in K)) : FnOk P w K mg base (L2N.CX P w) 8 f fd ["self", "links", "operation"] (sp_GuardedMode_refusal K) :=
  FunS.okT (sf := "self") (y := "refusing") (i := 4) F sc_GuardedMode_refusal (len_GuardedMode_refusal K) (by decide) rfl o_par (by decide) b_par rfl rfl rfl rfl rfl T.b_super htop (by decide) rfl rfl (fun X hX => ⟨rfl, rfl, ⟨_, rfl⟩, by rfl⟩) fun c cc A outer s H vs Q E hr hs => ⟨_, _, pa_cons (pv 1) (pa_cons (pv 2) (pa_nil)), pss_cons (ps_if ((pw_and (pt_cmpR (op_eqA hr) (pv 4) (pe_str) (nomark _)) (pw_and1 (pt_val (pe_cl c__leaves_a_gap_to_a_holder_that_is_in hr (by decide) (pat_of (W := fun cls d _ H => E cls d H) (L2N.takes_of rfl rfl rfl rfl)) (pa_cons (pv 1) (pa_cons (pv 2) (pa_nil))))))).pt) (pss_one (ps_ret (pe_cc T.cc_GuardedMode_NAME (pe_own T.g_GuardedMode)))) (pss_nil)) (pss_one (ps_ret (pv 4))), pat_of (W := fun cls d _ H => E cls d H) (L2N.takes_of rfl rfl rfl rfl), rd_GuardedMode_refusal T vs H Q E hs⟩
theorem ok_CheckedMode_refusal {f : Addr} {fd : FuncData} (T : Txt K mg) (F : FunS K P "refusal" "CheckedMode.refusal" (defArgs s_CheckedMode_refusal) (defBody s_CheckedMode_refusal) (defScope s_CheckedMode_refusal) (He.ga K "CheckedMode") f fd) {fdp : FuncData} (o_par : FnOk P w K mg base (L2N.CX P w) 8 (He.fAd K ("GuardedMode", some "refusal")) fdp ["self", "links", "operation"] (sp_GuardedMode_refusal K)) (b_par : Binds K fdp ["self", "links", "operation"] []) (htop : (P.main.scope.names.lookup ("super" : Str)).isSome = false) (c__has_fitting_neighbours : Cal P w K mg base 4 "_has_fitting_neighbours" ["links", "operation"] (sp__has_fitting_neighbours K)) : FnOk P w K mg base (L2N.CX P w) 9 f fd ["self", "links", "operation"] (sp_CheckedMode_refusal K) :=
  FunS.okT (sf := "self") (y := "refusing") (i := 4) F sc_CheckedMode_refusal (len_CheckedMode_refusal K) (by decide) rfl o_par (by decide) b_par rfl rfl rfl rfl rfl T.b_super htop (by decide) rfl rfl (fun X hX => ⟨rfl, rfl, ⟨_, rfl⟩, by rfl⟩) fun c cc A outer s H vs Q E hr hs => ⟨_, _, pa_cons (pv 1) (pa_cons (pv 2) (pa_nil)), pss_cons (ps_if ((pw_and (pt_cmpR (op_eqA hr) (pv 4) (pe_str) (nomark _)) (pw_and1 (pt_not (pt_val (pe_cl c__has_fitting_neighbours hr (by decide) (pat_of (W := fun cls d _ H => E cls d H) (L2N.takes_of rfl rfl rfl rfl)) (pa_cons (pv 1) (pa_cons (pv 2) (pa_nil)))))))).pt) (pss_one (ps_ret (pe_cc T.cc_CheckedMode_NAME (pe_own T.g_CheckedMode)))) (pss_nil)) (pss_one (ps_ret (pv 4))), pat_of (W := fun cls d _ H => E cls d H) (L2N.takes_of rfl rfl rfl rfl), rd_CheckedMode_refusal T vs H Q E hs⟩
theorem ok_check_size {f : Addr} {fd : FuncData} (T : Txt K mg) (F : FunD K "check_size" "check_size" (defArgs s_check_size) (defBody s_check_size) (defScope s_check_size) [] [] f fd) (x_BadSize : ExM P w K mg base 1 "BadSize" (He.ga K "BadSize") ["size"]) : FnOk P w K mg base (L2N.CX P w) 3 f fd ["size"] (sp_check_size K) :=
  F.ok sc_check_size (len_check_size K) fun cdv A outer s H vs Q E hr h => ⟨t_check_size K E, pss_one (ps_if (pt_not (pt_chain op_le op_le (pe_int) (pv 0) (pe_cc T.cc_Links_MOST (pe_own T.g_Links)))) (pss_one (ps_rz x_BadSize rfl (L2N.takes_of rfl rfl rfl rfl) hr (by decide) (pa_cons (pv 0) (pa_nil)))) (pss_nil)), rd_check_size T vs H Q E h⟩
theorem ok_Links___init__ {f : Addr} {fd : FuncData} (T : Txt K mg) (F : FunD K "__init__" "Links.__init__" (defArgs s_Links___init__) (defBody s_Links___init__) (defScope s_Links___init__) [] [] f fd) (c_check_size : Cal P w K mg base 3 "check_size" ["size"] (sp_check_size K)) : FnOk P w K mg base (L2N.CX P w) 4 f fd ["self", "size"] (sp_Links___init__ K) :=
  F.ok sc_Links___init__ (len_Links___init__ K) fun cdv A outer s H vs Q E hr h => ⟨t_Links___init__ K E, pss_cons (ps_expr (pe_cl c_check_size hr (by decide) (pat_of (W := fun cls d _ H => E cls d H) (L2N.takes_of rfl rfl rfl rfl)) (pa_cons (pv 1) (pa_nil)))) (pss_cons (ps_fld (pv 0) (pv 1) rfl) (pss_cons (ps_fld (pv 0) (pe_listRg rfl rfl T.b_list (prg_2 rfl T.b_range (pe_int) (pe_op op_addA (pv 1) (pe_int)))) rfl) (pss_cons (ps_fld (pv 0) (pe_op op_addA (pe_lst (pa_cons (pe_int) (pa_nil))) (pe_listRg rfl rfl T.b_list (prg_1 rfl T.b_range (pe_op op_addA (pv 1) (pe_int))))) rfl) (pss_one (ps_fld (pv 0) (pe_op op_mulA (pe_lst (pa_cons (pe_bl) (pa_nil))) (pe_op op_addA (pv 1) (pe_int))) rfl))))), rd_Links___init__ T vs H Q E h⟩
theorem ok_Links_apply_at {f : Addr} {fd : FuncData} (T : Txt K mg) (F : FunD K "apply_at" "Links.apply_at" (defArgs s_Links_apply_at) (defBody s_Links_apply_at) (defScope s_Links_apply_at) [] [] f fd) (c_Links_check : Met P w K mg base 4 (He.ga K "Links") "check" ["self", "operation", "index"] (sp_Links_check K)) : FnOk P w K mg base (L2N.CX P w) 5 f fd ["self", "operation", "index"] (sp_Links_apply_at K) :=
  F.ok sc_Links_apply_at (len_Links_apply_at K) fun cdv A outer s H vs Q E hr h => ⟨t_Links_apply_at K E, pss_cons (ps_expr (pe_mt c_Links_check T.cl_Links hr (by decide) (pat_of (W := fun cls d _ H => E cls d H) (L2N.takes_of rfl rfl rfl rfl)) (pv 0) (pa_cons (pv 1) (pa_cons (pv 2) (pa_nil))))) (pss_cons (ps_set (i := 3) sc_Links_apply_at.nd rfl (by first | exact Or.inl rfl | exact Or.inr rfl) (pe_callB call_absA (by rfl) T.b_abs (by decide +kernel) (pa_cons (pv 1) (pa_nil)))) (pss_cons (ps_set (i := 4) sc_Links_apply_at.nd rfl (by first | exact Or.inl rfl | exact Or.inr rfl) (pe_ix ix_seq (pe_fld (pv 0) rfl) (pv 3) (fun _ _ => rfl))) (pss_cons (ps_set (i := 5) sc_Links_apply_at.nd rfl (by first | exact Or.inl rfl | exact Or.inr rfl) (pe_ix ix_seq (pe_fld (pv 0) rfl) (pv 3) (fun _ _ => rfl))) (pss_cons (ps_set (i := 6) sc_Links_apply_at.nd rfl (by first | exact Or.inl rfl | exact Or.inr rfl) (pe_cmpR op_lt (pv 1) (pe_int) (nomark _))) (pss_cons (ps_asg (pe_ifExp (pt_val (pv 6)) (pv 5) (pv 3)) (pg_sub (pe_fld (pv 0) rfl) (pv 4) set_list)) (pss_cons (ps_asg (pe_ifExp (pt_val (pv 6)) (pv 4) (pv 3)) (pg_sub (pe_fld (pv 0) rfl) (pv 5) set_list)) (pss_one (ps_asg (pv 6) (pg_sub (pe_fld (pv 0) rfl) (pv 3) set_list))))))))), rd_Links_apply_at T vs H Q E h⟩
theorem ok_Links_apply {f : Addr} {fd : FuncData} (T : Txt K mg) (F : FunD K "apply" "Links.apply" (defArgs s_Links_apply) (defBody s_Links_apply) (defScope s_Links_apply) [] [] f fd) (c_Links_apply_at : Met P w K mg base 5 (He.ga K "Links") "apply_at" ["self", "operation", "index"] (sp_Links_apply_at K)) : FnOk P w K mg base (L2N.CX P w) 6 f fd ["self", "operation"] (sp_Links_apply K) :=
  F.ok sc_Links_apply (len_Links_apply K) fun cdv A outer s H vs Q E hr h => ⟨t_Links_apply K E, pss_one (ps_expr (pe_mt c_Links_apply_at T.cl_Links hr (by decide) (pat_of (W := fun cls d _ H => E cls d H) (L2N.takes_of rfl rfl rfl rfl)) (pv 0) (pa_cons (pv 1) (pa_cons (pe_int) (pa_nil))))), rd_Links_apply T vs H Q E h⟩
theorem ok_all_modes {f : Addr} {fd : FuncData} (T : Txt K mg) (F : FunD K "all_modes" "all_modes" (defArgs s_all_modes) (defBody s_all_modes) (defScope s_all_modes) [] [] f fd)  : FnOk P w K mg base (L2N.CX P w) 1 f fd [] (sp_all_modes K) :=
  F.ok sc_all_modes (len_all_modes K) fun cdv A outer s H vs Q E hr h => ⟨t_all_modes K E, pss_one (ps_ret (pe_lst (pa_cons (pe_mk0 T.mk0_FreeMode T.g_FreeMode) (pa_cons (pe_mk0 T.mk0_SavingMode T.g_SavingMode) (pa_cons (pe_mk0 T.mk0_GuardedMode T.g_GuardedMode) (pa_cons (pe_mk0 T.mk0_CheckedMode T.g_CheckedMode) (pa_nil))))))), rd_all_modes T vs H Q E h⟩
theorem ok_mode_named {f : Addr} {fd : FuncData} (T : Txt K mg) (F : FunD K "mode_named" "mode_named" (defArgs s_mode_named) (defBody s_mode_named) (defScope s_mode_named) [] [] f fd) (c_all_modes : Cal P w K mg base 1 "all_modes" [] (sp_all_modes K)) (x_BadMode : ExM P w K mg base 1 "BadMode" (He.ga K "BadMode") ["name"]) : FnOk P w K mg base (L2N.CX P w) 3 f fd ["mode"] (sp_mode_named K) :=
  F.ok sc_mode_named (len_mode_named K) fun cdv A outer s H vs Q E hr h => ⟨t_mode_named K E, pss_cons (ps_for (passes_of rfl) rfl (pi_list (pe_cl0 c_all_modes hr (by decide) (pat_of (W := fun cls d _ H => E cls d H) (L2N.takes_of rfl rfl rfl rfl)))) (pg_name (i := 1) sc_mode_named.nd rfl (by first | exact Or.inl rfl | exact Or.inr rfl)) (pss_one (ps_if (pt_cmpR (op_eqA hr) (pe_con (pv 1) rfl) (pv 0) (nomark _)) (pss_one (ps_ret (pv 1))) (pss_nil)))) (pss_one (ps_rz x_BadMode rfl (L2N.takes_of rfl rfl rfl rfl) hr (by decide) (pa_cons (pv 0) (pa_nil)))), rd_mode_named T vs H Q E h⟩
theorem ok_Links_copy {f : Addr} {fd : FuncData} (T : Txt K mg) (F : FunD K "copy" "Links.copy" (defArgs s_Links_copy) (defBody s_Links_copy) (defScope s_Links_copy) [] [] f fd) (m_Links : Mak P w K mg base 4 "Links" (He.ga K "Links") ["self", "size"] (sp_Links___init__ K)) : FnOk P w K mg base (L2N.CX P w) 6 f fd ["self"] (sp_Links_copy K) :=
  F.ok sc_Links_copy (len_Links_copy K) fun cdv A outer s H vs Q E hr h => ⟨t_Links_copy K E, pss_cons (ps_set (i := 1) sc_Links_copy.nd rfl (by first | exact Or.inl rfl | exact Or.inr rfl) (pe_mk m_Links hr (by decide) (pat_of (W := fun cls d _ H => E cls d H) (L2N.takes_of rfl rfl rfl rfl)) (pa_cons (pe_fld (pv 0) rfl) (pa_nil)))) (pss_cons (ps_fld (pv 1) (pe_callTy call_listA (by rfl) T.b_list (by decide +kernel) (pa_cons (pe_fld (pv 0) rfl) (pa_nil))) rfl) (pss_cons (ps_fld (pv 1) (pe_callTy call_listA (by rfl) T.b_list (by decide +kernel) (pa_cons (pe_fld (pv 0) rfl) (pa_nil))) rfl) (pss_cons (ps_fld (pv 1) (pe_callTy call_listA (by rfl) T.b_list (by decide +kernel) (pa_cons (pe_fld (pv 0) rfl) (pa_nil))) rfl) (pss_one (ps_ret (pv 1)))))), rd_Links_copy T vs H Q E h⟩
theorem ok_play {f : Addr} {fd : FuncData} (T : Txt K mg) (F : FunD K "play" "play" (defArgs s_play) (defBody s_play) (defScope s_play) [] [] f fd) (c_Links_apply_at : Met P w K mg base 5 (He.ga K "Links") "apply_at" ["self", "operation", "index"] (sp_Links_apply_at K)) (c_Links_copy : Met P w K mg base 6 (He.ga K "Links") "copy" ["self"] (sp_Links_copy K)) : FnOk P w K mg base (L2N.CX P w) 7 f fd ["links", "log"] (sp_play K) :=
  F.ok sc_play (len_play K) fun cdv A outer s H vs Q E hr h => ⟨t_play K E, pss_cons (ps_set (i := 2) sc_play.nd rfl (by first | exact Or.inl rfl | exact Or.inr rfl) (pe_mt0 c_Links_copy T.cl_Links hr (by decide) (pat_of (W := fun cls d _ H => E cls d H) (L2N.takes_of rfl rfl rfl rfl)) (pv 0))) (pss_cons (ps_for (passes_of rfl) rfl (pi_enum (by rfl) T.b_enumerate (pa_cons (pv 1) (pa_nil))) (pg_tup (by rfl) (pgs_cons (pg_name (i := 3) sc_play.nd rfl (by first | exact Or.inl rfl | exact Or.inr rfl)) (pgs_cons (pg_name (i := 4) sc_play.nd rfl (by first | exact Or.inl rfl | exact Or.inr rfl)) (pgs_nil)))) (pss_one (ps_expr (pe_mt c_Links_apply_at T.cl_Links hr (by decide) (pat_of (W := fun cls d _ H => E cls d H) (L2N.takes_of rfl rfl rfl rfl)) (pv 2) (pa_cons (pv 4) (pa_cons (pv 3) (pa_nil))))))) (pss_one (ps_ret (pv 2)))), rd_play T vs H Q E h⟩
theorem ok_replay {f : Addr} {fd : FuncData} (T : Txt K mg) (F : FunD K "replay" "replay" (defArgs s_replay) (defBody s_replay) (defScope s_replay) [] [] f fd) (m_Links : Mak P w K mg base 4 "Links" (He.ga K "Links") ["self", "size"] (sp_Links___init__ K)) (c_play : Cal P w K mg base 7 "play" ["links", "log"] (sp_play K)) : FnOk P w K mg base (L2N.CX P w) 8 f fd ["size", "log"] (sp_replay K) :=
  F.ok sc_replay (len_replay K) fun cdv A outer s H vs Q E hr h => ⟨t_replay K E, pss_one (ps_ret (pe_cl c_play hr (by decide) (pat_of (W := fun cls d _ H => E cls d H) (L2N.takes_of rfl rfl rfl rfl)) (pa_cons (pe_mk m_Links hr (by decide) (pat_of (W := fun cls d _ H => E cls d H) (L2N.takes_of rfl rfl rfl rfl)) (pa_cons (pv 0) (pa_nil))) (pa_cons (pv 1) (pa_nil))))), rd_replay T vs H Q E h⟩
theorem ok_first_refusal {f : Addr} {fd : FuncData} (T : Txt K mg) (F : FunD K "first_refusal" "first_refusal" (defArgs s_first_refusal) (defBody s_first_refusal) (defScope s_first_refusal) [] [("mode", .str "free")] f fd) (c_CheckedMode_refusal : Met P w K mg base 9 (He.ga K "CheckedMode") "refusal" ["self", "links", "operation"] (sp_CheckedMode_refusal K)) (c_FreeMode_refusal : Met P w K mg base 5 (He.ga K "FreeMode") "refusal" ["self", "links", "operation"] (sp_FreeMode_refusal K)) (c_GuardedMode_refusal : Met P w K mg base 8 (He.ga K "GuardedMode") "refusal" ["self", "links", "operation"] (sp_GuardedMode_refusal K)) (m_Links : Mak P w K mg base 4 "Links" (He.ga K "Links") ["self", "size"] (sp_Links___init__ K)) (c_Links_apply : Met P w K mg base 6 (He.ga K "Links") "apply" ["self", "operation"] (sp_Links_apply K)) (c_SavingMode_refusal : Met P w K mg base 7 (He.ga K "SavingMode") "refusal" ["self", "links", "operation"] (sp_SavingMode_refusal K)) (c_check_size : Cal P w K mg base 3 "check_size" ["size"] (sp_check_size K)) (c_mode_named : Cal P w K mg base 3 "mode_named" ["mode"] (sp_mode_named K)) (c_replay : Cal P w K mg base 8 "replay" ["size", "log"] (sp_replay K)) : FnOk P w K mg base (L2N.CX P w) 10 f fd ["size", "log", "mode"] (sp_first_refusal K) :=
  F.ok sc_first_refusal (len_first_refusal K) fun cdv A outer s H vs Q E hr h => ⟨t_first_refusal K E, pss_cons (ps_expr (pe_cl c_check_size hr (by decide) (pat_of (W := fun cls d _ H => E cls d H) (L2N.takes_of rfl rfl rfl rfl)) (pa_cons (pv 0) (pa_nil)))) (pss_cons (ps_set (i := 3) sc_first_refusal.nd rfl (by first | exact Or.inl rfl | exact Or.inr rfl) (pe_cl c_mode_named hr (by decide) (pat_of (W := fun cls d _ H => E cls d H) (L2N.takes_of rfl rfl rfl rfl)) (pa_cons (pv 2) (pa_nil)))) (pss_cons (ps_expr (pe_cl c_replay hr (by decide) (pat_of (W := fun cls d _ H => E cls d H) (L2N.takes_of rfl rfl rfl rfl)) (pa_cons (pv 0) (pa_cons (pv 1) (pa_nil))))) (pss_cons (ps_set (i := 4) sc_first_refusal.nd rfl (by first | exact Or.inl rfl | exact Or.inr rfl) (pe_mk m_Links hr (by decide) (pat_of (W := fun cls d _ H => E cls d H) (L2N.takes_of rfl rfl rfl rfl)) (pa_cons (pv 0) (pa_nil)))) (pss_cons (ps_for (passes_of rfl) rfl (pi_enum (by rfl) T.b_enumerate (pa_cons (pv 1) (pa_nil))) (pg_tup (by rfl) (pgs_cons (pg_name (i := 5) sc_first_refusal.nd rfl (by first | exact Or.inl rfl | exact Or.inr rfl)) (pgs_cons (pg_name (i := 6) sc_first_refusal.nd rfl (by first | exact Or.inl rfl | exact Or.inr rfl)) (pgs_nil)))) (pss_cons (ps_if (pt_cmpR (op_neA hr) (pe_mtD (L := L_refusal K) (poly4 c_FreeMode_refusal T.cl_FreeMode c_SavingMode_refusal T.cl_SavingMode c_GuardedMode_refusal T.cl_GuardedMode c_CheckedMode_refusal T.cl_CheckedMode (by decide) (by decide) (by decide)) hr (by decide) (pat_of (W := fun cls d _ H => E cls d H) (L2N.takes_of rfl rfl rfl rfl)) (pv 3) (pa_cons (pv 4) (pa_cons (pv 6) (pa_nil)))) (pe_str) (nomark _)) (pss_one (ps_ret (pv 5))) (pss_nil)) (pss_one (ps_expr (pe_mt c_Links_apply T.cl_Links hr (by decide) (pat_of (W := fun cls d _ H => E cls d H) (L2N.takes_of rfl rfl rfl rfl)) (pv 4) (pa_cons (pv 6) (pa_nil))))))) (pss_one (ps_ret (pe_non))))))), rd_first_refusal T vs H Q E h⟩
theorem ok_check_admitted {f : Addr} {fd : FuncData} (T : Txt K mg) (F : FunD K "check_admitted" "check_admitted" (defArgs s_check_admitted) (defBody s_check_admitted) (defScope s_check_admitted) [] [] f fd) (c_CheckedMode_refusal : Met P w K mg base 9 (He.ga K "CheckedMode") "refusal" ["self", "links", "operation"] (sp_CheckedMode_refusal K)) (c_FreeMode_refusal : Met P w K mg base 5 (He.ga K "FreeMode") "refusal" ["self", "links", "operation"] (sp_FreeMode_refusal K)) (c_GuardedMode_refusal : Met P w K mg base 8 (He.ga K "GuardedMode") "refusal" ["self", "links", "operation"] (sp_GuardedMode_refusal K)) (c_Links_check : Met P w K mg base 4 (He.ga K "Links") "check" ["self", "operation", "index"] (sp_Links_check K)) (c_SavingMode_refusal : Met P w K mg base 7 (He.ga K "SavingMode") "refusal" ["self", "links", "operation"] (sp_SavingMode_refusal K)) (x_Refused : ExM P w K mg base 2 "Refused" (He.ga K "Refused") ["operation", "index", "refusing"]) : FnOk P w K mg base (L2N.CX P w) 10 f fd ["links", "operation", "index", "judge"] (sp_check_admitted K) :=
  F.ok sc_check_admitted (len_check_admitted K) fun cdv A outer s H vs Q E hr h => ⟨t_check_admitted K E, pss_cons (ps_expr (pe_mt c_Links_check T.cl_Links hr (by decide) (pat_of (W := fun cls d _ H => E cls d H) (L2N.takes_of rfl rfl rfl rfl)) (pv 0) (pa_cons (pv 1) (pa_cons (pv 2) (pa_nil))))) (pss_cons (ps_set (i := 4) sc_check_admitted.nd rfl (by first | exact Or.inl rfl | exact Or.inr rfl) (pe_mtD (L := L_refusal K) (poly4 c_FreeMode_refusal T.cl_FreeMode c_SavingMode_refusal T.cl_SavingMode c_GuardedMode_refusal T.cl_GuardedMode c_CheckedMode_refusal T.cl_CheckedMode (by decide) (by decide) (by decide)) hr (by decide) (pat_of (W := fun cls d _ H => E cls d H) (L2N.takes_of rfl rfl rfl rfl)) (pv 3) (pa_cons (pv 0) (pa_cons (pv 1) (pa_nil))))) (pss_one (ps_if (pt_cmpR (op_neA hr) (pv 4) (pe_str) (nomark _)) (pss_one (ps_rz x_Refused rfl (L2N.takes_of rfl rfl rfl rfl) hr (by decide) (pa_cons (pv 1) (pa_cons (pv 2) (pa_cons (pv 4) (pa_nil)))))) (pss_nil)))), rd_check_admitted T vs H Q E h⟩
theorem ok_replay_in {f : Addr} {fd : FuncData} (T : Txt K mg) (F : FunD K "replay_in" "replay_in" (defArgs s_replay_in) (defBody s_replay_in) (defScope s_replay_in) [] [("mode", .str "free")] f fd) (m_Links : Mak P w K mg base 4 "Links" (He.ga K "Links") ["self", "size"] (sp_Links___init__ K)) (c_Links_apply : Met P w K mg base 6 (He.ga K "Links") "apply" ["self", "operation"] (sp_Links_apply K)) (c_check_admitted : Cal P w K mg base 10 "check_admitted" ["links", "operation", "index", "judge"] (sp_check_admitted K)) (c_mode_named : Cal P w K mg base 3 "mode_named" ["mode"] (sp_mode_named K)) : FnOk P w K mg base (L2N.CX P w) 11 f fd ["size", "log", "mode"] (sp_replay_in K) :=
  F.ok sc_replay_in (len_replay_in K) fun cdv A outer s H vs Q E hr h => ⟨t_replay_in K E, pss_cons (ps_set (i := 3) sc_replay_in.nd rfl (by first | exact Or.inl rfl | exact Or.inr rfl) (pe_mk m_Links hr (by decide) (pat_of (W := fun cls d _ H => E cls d H) (L2N.takes_of rfl rfl rfl rfl)) (pa_cons (pv 0) (pa_nil)))) (pss_cons (ps_set (i := 4) sc_replay_in.nd rfl (by first | exact Or.inl rfl | exact Or.inr rfl) (pe_cl c_mode_named hr (by decide) (pat_of (W := fun cls d _ H => E cls d H) (L2N.takes_of rfl rfl rfl rfl)) (pa_cons (pv 2) (pa_nil)))) (pss_cons (ps_for (passes_of rfl) rfl (pi_enum (by rfl) T.b_enumerate (pa_cons (pv 1) (pa_nil))) (pg_tup (by rfl) (pgs_cons (pg_name (i := 5) sc_replay_in.nd rfl (by first | exact Or.inl rfl | exact Or.inr rfl)) (pgs_cons (pg_name (i := 6) sc_replay_in.nd rfl (by first | exact Or.inl rfl | exact Or.inr rfl)) (pgs_nil)))) (pss_cons (ps_expr (pe_cl c_check_admitted hr (by decide) (pat_of (W := fun cls d _ H => E cls d H) (L2N.takes_of rfl rfl rfl rfl)) (pa_cons (pv 3) (pa_cons (pv 6) (pa_cons (pv 5) (pa_cons (pv 4) (pa_nil))))))) (pss_one (ps_expr (pe_mt c_Links_apply T.cl_Links hr (by decide) (pat_of (W := fun cls d _ H => E cls d H) (L2N.takes_of rfl rfl rfl rfl)) (pv 3) (pa_cons (pv 6) (pa_nil))))))) (pss_one (ps_ret (pv 3))))), rd_replay_in T vs H Q E h⟩
theorem ok__law_headless {f : Addr} {fd : FuncData} (T : Txt K mg) (F : FunD K "_law_headless" "_law_headless" (defArgs s__law_headless) (defBody s__law_headless) (defScope s__law_headless) [] [] f fd) (c_first_refusal : CalK P w K mg base 10 "first_refusal" ["size", "log", "mode"] 2 ["mode"] (sp_first_refusal K)) (c_replay_in : CalK P w K mg base 11 "replay_in" ["size", "log", "mode"] 2 ["mode"] (sp_replay_in K)) : FnOk P w K mg base (L2N.CX P w) 12 f fd ["way", "size", "row", "text"] (sp12__law_headless K) :=
  F.ok sc__law_headless (len__law_headless K) fun cdv A outer s H vs Q E hr h => ⟨t__law_headless K E, pss_cons (ps_trys (tb := fun (W : WX) => tSeq (tIfS (tTest (tOp (rEqA K) (tVar 0) (tC (.int 0)))) (tDrop (tClK 2 (["mode"] : List Str).length (sp_replay_in K) (WE W) (tCons (tVar 1) (tCons (tVar 2) (tNil))) (tCons (tVar 3) (tNil)))) (tNext)) (tIfS (tTest (tOp (rEqA K) (tVar 0) (tC (.int 1)))) (tDrop (tClK 2 (["mode"] : List Str).length (sp_first_refusal K) (WE W) (tCons (tVar 1) (tCons (tVar 2) (tNil))) (tCons (tVar 3) (tNil)))) (tNext))) (F := fun D => wAs K (.ref (He.ga K "BadSize")) 4 (fun a cls d => tSeq (tAsg (tAndV (tCB (rIsX K cls d a) (tCons (tVar 4) (tCons (tC (.ref (He.ga K "LinkError"))) (tNil)))) (tNotV (tCB (rIsX K cls d a) (tCons (tVar 4) (tCons (tC (.ref (He.ga K "LogError"))) (tNil)))))) (gName 5)) (tRet (tTup (tCons (tC (.str "size")) (tCons (tAndV (tVar 5) (tCB (rIsi K) (tCons (tXat K a cls d "size" (tVar 4)) (tCons (tC (.ty "int")) (tNil))))) (tCons (tXat K a cls d "size" (tVar 4)) (tNil))))))) (wAs K (.ref (He.ga K "BadMode")) 4 (fun a cls d => tSeq (tAsg (tAndV (tCB (rIsX K cls d a) (tCons (tVar 4) (tCons (tC (.ref (He.ga K "LinkError"))) (tNil)))) (tNotV (tCB (rIsX K cls d a) (tCons (tVar 4) (tCons (tC (.ref (He.ga K "LogError"))) (tNil)))))) (gName 5)) (tRet (tTup (tCons (tC (.str "text")) (tCons (tAndV (tVar 5) (tCB (rIsi K) (tCons (tXat K a cls d "name" (tVar 4)) (tCons (tC (.ty "str")) (tNil))))) (tCons (tXat K a cls d "name" (tVar 4)) (tNil))))))) (wOnly K (.ref (He.ga K "LinkError")) (fun a cls d => tRet (tTup (tCons (tC (.str "other")) (tCons (tC (.bl false)) (tCons (tC (.int 0)) (tNil)))))) (fun cls d _ H => E cls d H) D) D) D) rfl rfl (fun W pn xe tk2 po2 => pss_cons (ps_if (pt_cmpR (op_eqA hr) (pv 0) (pe_int) (nomark _)) (pss_one (ps_expr (pe_clK c_replay_in hr (by decide) (pat_of tk2) (pa_cons (pv 1) (pa_cons (pv 2) (pa_nil))) (pk_cons (pv 3) (pk_nil))))) (pss_nil)) (pss_one (ps_if (pt_cmpR (op_eqA hr) (pv 0) (pe_int) (nomark _)) (pss_one (ps_expr (pe_clK c_first_refusal hr (by decide) (pat_of tk2) (pa_cons (pv 1) (pa_cons (pv 2) (pa_nil))) (pk_cons (pv 3) (pk_nil))))) (pss_nil)))) (fun D => by refine hs_as (k := 4) (su := fun a cls d => tSeq (tAsg (tAndV (tCB (rIsX K cls d a) (tCons (tVar 4) (tCons (tC (.ref (He.ga K "LinkError"))) (tNil)))) (tNotV (tCB (rIsX K cls d a) (tCons (tVar 4) (tCons (tC (.ref (He.ga K "LogError"))) (tNil)))))) (gName 5)) (tRet (tTup (tCons (tC (.str "size")) (tCons (tAndV (tVar 5) (tCB (rIsi K) (tCons (tXat K a cls d "size" (tVar 4)) (tCons (tC (.ty "int")) (tNil))))) (tCons (tXat K a cls d "size" (tVar 4)) (tNil))))))) sc__law_headless.nd rfl rfl ?_ ?_; exact ⟨⟨_, _, _, _, _, rfl, ⟨rfl, by decide, .inl T.g_BadSize⟩, fun a oe cls d pn hz hf => pss_cons (ps_set (i := 5) sc__law_headless.nd rfl (by first | exact Or.inl rfl | exact Or.inr rfl) (pe_and (pe_callB (call_isX hz.zc hf) (by rfl) T.b_isinstance (by decide +kernel) (pa_cons (pv 4) (pa_cons (pe_own T.g_LinkError) (pa_nil)))) (pe_one (pe_not (pe_callB (call_isX hz.zc hf) (by rfl) T.b_isinstance (by decide +kernel) (pa_cons (pv 4) (pa_cons (pe_own T.g_LogError) (pa_nil)))))))) (pss_one (ps_ret (pe_tup (pa_cons (pe_str) (pa_cons (pe_and (pv 5) (pe_one (pe_callB call_isi (by rfl) T.b_isinstance (by decide +kernel) (pa_cons (pe_xat hz.zc hf (pv 4)) (pa_cons (pe_ty "int" T.b_int (by decide +kernel)) (pa_nil)))))) (pa_cons (pe_xat hz.zc hf (pv 4)) (pa_nil)))))))⟩⟩; refine hs_as (k := 4) (su := fun a cls d => tSeq (tAsg (tAndV (tCB (rIsX K cls d a) (tCons (tVar 4) (tCons (tC (.ref (He.ga K "LinkError"))) (tNil)))) (tNotV (tCB (rIsX K cls d a) (tCons (tVar 4) (tCons (tC (.ref (He.ga K "LogError"))) (tNil)))))) (gName 5)) (tRet (tTup (tCons (tC (.str "text")) (tCons (tAndV (tVar 5) (tCB (rIsi K) (tCons (tXat K a cls d "name" (tVar 4)) (tCons (tC (.ty "str")) (tNil))))) (tCons (tXat K a cls d "name" (tVar 4)) (tNil))))))) sc__law_headless.nd rfl rfl ?_ ?_; exact ⟨⟨_, _, _, _, _, rfl, ⟨rfl, by decide, .inl T.g_BadMode⟩, fun a oe cls d pn hz hf => pss_cons (ps_set (i := 5) sc__law_headless.nd rfl (by first | exact Or.inl rfl | exact Or.inr rfl) (pe_and (pe_callB (call_isX hz.zc hf) (by rfl) T.b_isinstance (by decide +kernel) (pa_cons (pv 4) (pa_cons (pe_own T.g_LinkError) (pa_nil)))) (pe_one (pe_not (pe_callB (call_isX hz.zc hf) (by rfl) T.b_isinstance (by decide +kernel) (pa_cons (pv 4) (pa_cons (pe_own T.g_LogError) (pa_nil)))))))) (pss_one (ps_ret (pe_tup (pa_cons (pe_str) (pa_cons (pe_and (pv 5) (pe_one (pe_callB call_isi (by rfl) T.b_isinstance (by decide +kernel) (pa_cons (pe_xat hz.zc hf (pv 4)) (pa_cons (pe_ty "str" T.b_str (by decide +kernel)) (pa_nil)))))) (pa_cons (pe_xat hz.zc hf (pv 4)) (pa_nil)))))))⟩⟩; refine hs_only (su := fun a cls d => tRet (tTup (tCons (tC (.str "other")) (tCons (tC (.bl false)) (tCons (tC (.int 0)) (tNil)))))) ?_ ?_; exact ⟨⟨_, _, _, _, _, rfl, ⟨rfl, by decide, .inl T.g_LinkError⟩, fun a oe cls d pn hz hf => pss_one (ps_ret (pe_tup (pa_cons (pe_str) (pa_cons (pe_bl) (pa_cons (pe_int) (pa_nil))))))⟩⟩; exact hs_nil rfl rfl (L2N.takes_of rfl rfl rfl rfl))) (pss_one (ps_ret (pe_tup (pa_cons (pe_str) (pa_cons (pe_bl) (pa_cons (pe_int) (pa_nil))))))), rd__law_headless T vs H Q E h⟩
theorem ok__law_dump {f : Addr} {fd : FuncData} (T : Txt K mg) (F : FunD K "_law_dump" "_law_dump" (defArgs s__law_dump) (defBody s__law_dump) (defScope s__law_dump) [] [] f fd)  : FnOk P w K mg base (L2N.CX P w) 1 f fd ["book"] (sp13__law_dump K) :=
  F.ok sc__law_dump (len__law_dump K) fun cdv A outer s H vs Q E hr h => ⟨t__law_dump K E, pss_cons (ps_set (i := 1) sc__law_dump.nd rfl (by first | exact Or.inl rfl | exact Or.inr rfl) (pe_ix ix_seq (pv 0) (pe_int) (fun _ _ => rfl))) (pss_cons (ps_set (i := 2) sc__law_dump.nd rfl (by first | exact Or.inl rfl | exact Or.inr rfl) (pe_joinA (pe_str) (pe_lc (own := [("link", 6)]) (g := gName 6) (tt := tYes) (te := tCB rStrA (tCons (tVar 6) (tNil))) rfl sc__law_dump.nd (pi_list (pe_slice sl_list (pe_ix ix_seq (pv 0) (pe_int) (fun _ _ => rfl)) (po_none) (po_some (pe_op op_addA (pv 1) (pe_int))))) (blkOk_by (own := [("link", 6)]) (N := ["book", "size", "first", "second", "outs", "third", "link", "node"]) (sc := defScope s__law_dump) (by decide +kernel)) (fun _ _ _ _ _ => pg_name (i := 6) sc__law_dump.nd rfl (by first | exact Or.inl rfl | exact Or.inr rfl)) (fun _ _ _ _ _ => pts_nil) (fun _ _ _ _ _ => pe_callTy call_strA (by rfl) T.b_str (by decide +kernel) (pa_cons (pv 6) (pa_nil)))))) (pss_cons (ps_set (i := 3) sc__law_dump.nd rfl (by first | exact Or.inl rfl | exact Or.inr rfl) (pe_joinA (pe_str) (pe_lc (own := [("link", 6)]) (g := gName 6) (tt := tYes) (te := tCB rStrA (tCons (tVar 6) (tNil))) rfl sc__law_dump.nd (pi_list (pe_slice sl_list (pe_ix ix_seq (pv 0) (pe_int) (fun _ _ => rfl)) (po_some (pe_int)) (po_none))) (blkOk_by (own := [("link", 6)]) (N := ["book", "size", "first", "second", "outs", "third", "link", "node"]) (sc := defScope s__law_dump) (by decide +kernel)) (fun _ _ _ _ _ => pg_name (i := 6) sc__law_dump.nd rfl (by first | exact Or.inl rfl | exact Or.inr rfl)) (fun _ _ _ _ _ => pts_nil) (fun _ _ _ _ _ => pe_callTy call_strA (by rfl) T.b_str (by decide +kernel) (pa_cons (pv 6) (pa_nil)))))) (pss_cons (ps_setLc (i := 4) (own := [("node", 7)]) (g := gName 7) (tt := tB (tOp (rIx K) (tOp (rIx K) (tVar 0) (tC (.int 3))) (tVar 7))) (te := tCB rStrA (tCons (tVar 7) (tNil))) rfl sc__law_dump.nd rfl rfl (sw_true rfl rfl rfl (by decide +kernel)) (pi_range2 rfl T.b_range (pa_cons (pe_int) (pa_cons (pe_op op_addA (pv 1) (pe_int)) (pa_nil)))) (blkOk_by (own := [("node", 7)]) (N := ["book", "size", "first", "second", "outs", "third", "link", "node"]) (sc := defScope s__law_dump) (by decide +kernel)) (fun _ _ _ _ _ => pg_name (i := 7) sc__law_dump.nd rfl (by first | exact Or.inl rfl | exact Or.inr rfl)) (fun _ _ _ _ _ => pts_one (pt_val (pe_ix ix_seq (pe_ix ix_seq (pv 0) (pe_int) (fun _ _ => rfl)) (pv 7) (fun _ _ => rfl)))) (fun _ _ _ _ _ => pe_callTy call_strA (by rfl) T.b_str (by decide +kernel) (pa_cons (pv 7) (pa_nil)))) (pss_cons (ps_set (i := 5) sc__law_dump.nd rfl (by first | exact Or.inl rfl | exact Or.inr rfl) (pe_str)) (pss_cons (ps_if (pt_tr (pv 4) (by intro _; rfl)) (pss_one (ps_set (i := 5) sc__law_dump.nd rfl (by first | exact Or.inl rfl | exact Or.inr rfl) (pe_joinA (pe_str) (pv 4)))) (pss_nil)) (pss_one (ps_ret (pe_op op_addA (pe_op op_addA (pe_op op_addA (pe_op op_addA (pv 2) (pe_str)) (pv 3)) (pe_str)) (pv 5))))))))), rd__law_dump T vs H Q E h⟩
theorem ok__law_moved {f : Addr} {fd : FuncData} (T : Txt K mg) (F : FunD K "_law_moved" "_law_moved" (defArgs s__law_moved) (defBody s__law_moved) (defScope s__law_moved) [] [] f fd)  : FnOk P w K mg base (L2N.CX P w) 1 f fd ["book", "node"] (sp13__law_moved K) :=
  F.ok sc__law_moved (len__law_moved K) fun cdv A outer s H vs Q E hr h => ⟨t__law_moved K E, pss_cons (ps_set (i := 2) sc__law_moved.nd rfl (by first | exact Or.inl rfl | exact Or.inr rfl) (pe_callTy call_listA (by rfl) T.b_list (by decide +kernel) (pa_cons (pe_ix ix_seq (pv 0) (pe_int) (fun _ _ => rfl)) (pa_nil)))) (pss_cons (ps_set (i := 3) sc__law_moved.nd rfl (by first | exact Or.inl rfl | exact Or.inr rfl) (pe_callTy call_listA (by rfl) T.b_list (by decide +kernel) (pa_cons (pe_ix ix_seq (pv 0) (pe_int) (fun _ _ => rfl)) (pa_nil)))) (pss_cons (ps_set (i := 4) sc__law_moved.nd rfl (by first | exact Or.inl rfl | exact Or.inr rfl) (pe_callTy call_listA (by rfl) T.b_list (by decide +kernel) (pa_cons (pe_ix ix_seq (pv 0) (pe_int) (fun _ _ => rfl)) (pa_nil)))) (pss_cons (ps_set (i := 5) sc__law_moved.nd rfl (by first | exact Or.inl rfl | exact Or.inr rfl) (pe_ix ix_seq (pv 2) (pv 1) (fun _ _ => rfl))) (pss_cons (ps_set (i := 6) sc__law_moved.nd rfl (by first | exact Or.inl rfl | exact Or.inr rfl) (pe_ix ix_seq (pv 3) (pv 1) (fun _ _ => rfl))) (pss_cons (ps_if (pt_val (pe_ix ix_seq (pv 4) (pv 1) (fun _ _ => rfl))) (pss_cons (ps_asg (pv 1) (pg_sub (pv 3) (pv 5) set_list)) (pss_one (ps_asg (pv 1) (pg_sub (pv 2) (pv 6) set_list)))) (pss_cons (ps_asg (pv 6) (pg_sub (pv 3) (pv 5) set_list)) (pss_one (ps_asg (pv 5) (pg_sub (pv 2) (pv 6) set_list))))) (pss_cons (ps_asg (pe_not (pe_ix ix_seq (pv 4) (pv 1) (fun _ _ => rfl))) (pg_sub (pv 4) (pv 1) set_list)) (pss_one (ps_ret (pe_lst (pa_cons (pe_ix ix_seq (pv 0) (pe_int) (fun _ _ => rfl)) (pa_cons (pv 2) (pa_cons (pv 3) (pa_cons (pv 4) (pa_nil)))))))))))))), rd__law_moved T vs H Q E h⟩
theorem ok__law_operation {f : Addr} {fd : FuncData} (T : Txt K mg) (F : FunD K "_law_operation" "_law_operation" (defArgs s__law_operation) (defBody s__law_operation) (defScope s__law_operation) [] [] f fd)  : FnOk P w K mg base (L2N.CX P w) 1 f fd ["book", "node"] (sp__law_operation K) :=
  F.ok sc__law_operation (len__law_operation K) fun cdv A outer s H vs Q E hr h => ⟨t__law_operation K E, pss_cons (ps_if (pt_val (pe_ix ix_seq (pe_ix ix_seq (pv 0) (pe_int) (fun _ _ => rfl)) (pv 1) (fun _ _ => rfl))) (pss_one (ps_ret (pv 1))) (pss_nil)) (pss_one (ps_ret (pe_un un_neg (pv 1)))), rd__law_operation T vs H Q E h⟩
theorem ok__law_lost {f : Addr} {fd : FuncData} (T : Txt K mg) (F : FunD K "_law_lost" "_law_lost" (defArgs s__law_lost) (defBody s__law_lost) (defScope s__law_lost) [] [] f fd)  : FnOk P w K mg base (L2N.CX P w) 1 f fd ["book"] (sp16__law_lost K) :=
  F.ok sc__law_lost (len__law_lost K) fun cdv A outer s H vs Q E hr h => ⟨t__law_lost K E, pss_one (ps_ret (pe_lc (own := [("gap", 1)]) (g := gName 1) (tt := tAnd (tTest (tOp (rNeA K) (tOp (rIx K) (tOp (rIx K) (tVar 0) (tC (.int 2))) (tVar 1)) (tOp rAddA (tVar 1) (tC (.int 1))))) (tTest (tOp (rNeA K) (tOp (rIx K) (tOp (rIx K) (tVar 0) (tC (.int 1))) (tOp rAddA (tVar 1) (tC (.int 1)))) (tVar 1)))) (te := tVar 1) rfl sc__law_lost.nd (pi_range1 rfl T.b_range (pa_cons (pe_op op_addA (pe_ix ix_seq (pv 0) (pe_int) (fun _ _ => rfl)) (pe_int)) (pa_nil))) (blkOk_by (own := [("gap", 1)]) (N := ["book", "gap"]) (sc := defScope s__law_lost) (by decide +kernel)) (fun _ _ _ _ _ => pg_name (i := 1) sc__law_lost.nd rfl (by first | exact Or.inl rfl | exact Or.inr rfl)) (fun _ _ _ _ _ => pts_one ((pw_and (pt_cmpR (op_neA hr) (pe_ix ix_seq (pe_ix ix_seq (pv 0) (pe_int) (fun _ _ => rfl)) (pv 1) (fun _ _ => rfl)) (pe_op op_addA (pv 1) (pe_int)) (nomark _)) (pw_and1 (pt_cmpR (op_neA hr) (pe_ix ix_seq (pe_ix ix_seq (pv 0) (pe_int) (fun _ _ => rfl)) (pe_op op_addA (pv 1) (pe_int)) (fun _ _ => rfl)) (pv 1) (nomark _)))).pt)) (fun _ _ _ _ _ => pv 1))), rd__law_lost T vs H Q E h⟩
theorem ok__law_refusing {f : Addr} {fd : FuncData} (T : Txt K mg) (F : FunD K "_law_refusing" "_law_refusing" (defArgs s__law_refusing) (defBody s__law_refusing) (defScope s__law_refusing) [] [] f fd) (c__law_lost : Cal P w K mg base 1 "_law_lost" ["book"] (sp16__law_lost K)) (c__law_moved : Cal P w K mg base 1 "_law_moved" ["book", "node"] (sp13__law_moved K)) : FnOk P w K mg base (L2N.CX P w) 2 f fd ["book", "node", "word"] (sp11__law_refusing K) :=
  F.ok sc__law_refusing (len__law_refusing K) fun cdv A outer s H vs Q E hr h => ⟨t__law_refusing K E, pss_cons (ps_if (pt_cmpR (op_eqA hr) (pv 2) (pe_str) (nomark _)) (pss_one (ps_ret (pe_str))) (pss_nil)) (pss_cons (ps_set (i := 3) sc__law_refusing.nd rfl (by first | exact Or.inl rfl | exact Or.inr rfl) (pe_cl c__law_lost hr (by decide) (pat_of (W := fun cls d _ H => E cls d H) (L2N.takes_of rfl rfl rfl rfl)) (pa_cons (pv 0) (pa_nil)))) (pss_cons (ps_if (pt_tr (pe_lc (own := [("gap", 8)]) (g := gName 8) (tt := tTest (tOp (rIn K true) (tVar 8) (tVar 3))) (te := tVar 8) rfl sc__law_refusing.nd (pi_list (pe_cl c__law_lost hr (by decide) (pat_of (W := fun cls d _ H => E cls d H) (L2N.takes_of rfl rfl rfl rfl)) (pa_cons (pe_cl c__law_moved hr (by decide) (pat_of (W := fun cls d _ H => E cls d H) (L2N.takes_of rfl rfl rfl rfl)) (pa_cons (pv 0) (pa_cons (pv 1) (pa_nil)))) (pa_nil)))) (blkOk_by (own := [("gap", 8)]) (N := ["book", "node", "word", "known", "lower", "upper", "first", "second", "gap"]) (sc := defScope s__law_refusing) (by decide +kernel)) (fun _ _ _ _ _ => pg_name (i := 8) sc__law_refusing.nd rfl (by first | exact Or.inl rfl | exact Or.inr rfl)) (fun _ _ _ _ _ => pts_one (pt_cmpR op_notIn_seq (pv 8) (pv 3) (rfl))) (fun _ _ _ _ _ => pv 8)) (by intro _; rfl)) (pss_one (ps_ret (pe_str))) (pss_nil)) (pss_cons (ps_if (pt_cmpR (op_eqA hr) (pv 2) (pe_str) (nomark _)) (pss_one (ps_ret (pe_str))) (pss_nil)) (pss_cons (ps_set (i := 4) sc__law_refusing.nd rfl (by first | exact Or.inl rfl | exact Or.inr rfl) (pe_ix ix_seq (pe_ix ix_seq (pv 0) (pe_int) (fun _ _ => rfl)) (pv 1) (fun _ _ => rfl))) (pss_cons (ps_set (i := 5) sc__law_refusing.nd rfl (by first | exact Or.inl rfl | exact Or.inr rfl) (pe_ix ix_seq (pe_ix ix_seq (pv 0) (pe_int) (fun _ _ => rfl)) (pv 1) (fun _ _ => rfl))) (pss_cons (ps_if ((pw_and (pt_cmpR (op_neA hr) (pv 4) (pe_op op_sub (pv 1) (pe_int)) (nomark _)) (pw_and (pt_cmpR (op_eqA hr) (pe_ix ix_seq (pe_ix ix_seq (pv 0) (pe_int) (fun _ _ => rfl)) (pv 4) (fun _ _ => rfl)) (pe_op op_addA (pv 4) (pe_int)) (nomark _)) (pw_and1 (pt_not (pt_val (pe_ix ix_seq (pe_ix ix_seq (pv 0) (pe_int) (fun _ _ => rfl)) (pe_op op_addA (pv 4) (pe_int)) (fun _ _ => rfl))))))).pt) (pss_one (ps_ret (pe_str))) (pss_nil)) (pss_cons (ps_if ((pw_and (pt_cmpR (op_neA hr) (pv 5) (pe_op op_addA (pv 1) (pe_int)) (nomark _)) (pw_and (pt_cmpR (op_eqA hr) (pe_ix ix_seq (pe_ix ix_seq (pv 0) (pe_int) (fun _ _ => rfl)) (pv 5) (fun _ _ => rfl)) (pe_op op_sub (pv 5) (pe_int)) (nomark _)) (pw_and1 (pt_not (pt_val (pe_ix ix_seq (pe_ix ix_seq (pv 0) (pe_int) (fun _ _ => rfl)) (pe_op op_sub (pv 5) (pe_int)) (fun _ _ => rfl))))))).pt) (pss_one (ps_ret (pe_str))) (pss_nil)) (pss_cons (ps_if (pt_cmpR (op_eqA hr) (pv 2) (pe_str) (nomark _)) (pss_one (ps_ret (pe_str))) (pss_nil)) (pss_cons (ps_set (i := 6) sc__law_refusing.nd rfl (by first | exact Or.inl rfl | exact Or.inr rfl) (pv 5)) (pss_cons (ps_set (i := 7) sc__law_refusing.nd rfl (by first | exact Or.inl rfl | exact Or.inr rfl) (pv 4)) (pss_cons (ps_if (pt_not (pt_val (pe_ix ix_seq (pe_ix ix_seq (pv 0) (pe_int) (fun _ _ => rfl)) (pv 1) (fun _ _ => rfl)))) (pss_cons (ps_set (i := 6) sc__law_refusing.nd rfl (by first | exact Or.inl rfl | exact Or.inr rfl) (pv 1)) (pss_one (ps_set (i := 7) sc__law_refusing.nd rfl (by first | exact Or.inl rfl | exact Or.inr rfl) (pv 1)))) (pss_nil)) (pss_cons (ps_if ((pw_or (pt_val (pe_ix ix_seq (pe_ix ix_seq (pv 0) (pe_int) (fun _ _ => rfl)) (pv 4) (fun _ _ => rfl))) (pw_or (pt_val (pe_ix ix_seq (pe_ix ix_seq (pv 0) (pe_int) (fun _ _ => rfl)) (pv 5) (fun _ _ => rfl))) (pw_or (pt_cmpR (op_neA hr) (pe_ix ix_seq (pe_ix ix_seq (pv 0) (pe_int) (fun _ _ => rfl)) (pv 4) (fun _ _ => rfl)) (pv 6) (nomark _)) (pw_or1 (pt_cmpR (op_neA hr) (pe_ix ix_seq (pe_ix ix_seq (pv 0) (pe_int) (fun _ _ => rfl)) (pv 5) (fun _ _ => rfl)) (pv 7) (nomark _)))))).pt) (pss_one (ps_ret (pe_str))) (pss_nil)) (pss_one (ps_ret (pe_str))))))))))))))), rd__law_refusing T vs H Q E h⟩
theorem ok__law_whole {f : Addr} {fd : FuncData} (T : Txt K mg) (F : FunD K "_law_whole" "_law_whole" (defArgs s__law_whole) (defBody s__law_whole) (defScope s__law_whole) [] [] f fd)  : FnOk P w K mg base (L2N.CX P w) 1 f fd ["size"] (sp13__law_whole K) :=
  F.ok sc__law_whole (len__law_whole K) fun cdv A outer s H vs Q E hr h => ⟨t__law_whole K E, pss_cons (ps_setLc (i := 1) (own := [("node", 3)]) (g := gName 3) (tt := tYes) (te := tOp rSubA (tVar 3) (tC (.int 1))) rfl sc__law_whole.nd rfl rfl (sw_true rfl rfl rfl (by decide +kernel)) (pi_range1 rfl T.b_range (pa_cons (pe_op op_addA (pv 0) (pe_int)) (pa_nil))) (blkOk_by (own := [("node", 3)]) (N := ["size", "lefts", "rights", "node"]) (sc := defScope s__law_whole) (by decide +kernel)) (fun _ _ _ _ _ => pg_name (i := 3) sc__law_whole.nd rfl (by first | exact Or.inl rfl | exact Or.inr rfl)) (fun _ _ _ _ _ => pts_nil) (fun _ _ _ _ _ => pe_op op_sub (pv 3) (pe_int))) (pss_cons (ps_setLc (i := 2) (own := [("node", 3)]) (g := gName 3) (tt := tYes) (te := tOp rAddA (tVar 3) (tC (.int 1))) rfl sc__law_whole.nd rfl rfl (sw_true rfl rfl rfl (by decide +kernel)) (pi_range1 rfl T.b_range (pa_cons (pe_op op_addA (pv 0) (pe_int)) (pa_nil))) (blkOk_by (own := [("node", 3)]) (N := ["size", "lefts", "rights", "node"]) (sc := defScope s__law_whole) (by decide +kernel)) (fun _ _ _ _ _ => pg_name (i := 3) sc__law_whole.nd rfl (by first | exact Or.inl rfl | exact Or.inr rfl)) (fun _ _ _ _ _ => pts_nil) (fun _ _ _ _ _ => pe_op op_addA (pv 3) (pe_int))) (pss_one (ps_ret (pe_lst (pa_cons (pv 0) (pa_cons (pv 1) (pa_cons (pv 2) (pa_cons (pe_lc (own := [("node", 3)]) (g := gName 3) (tt := tYes) (te := tC (.bl false)) rfl sc__law_whole.nd (pi_range1 rfl T.b_range (pa_cons (pe_op op_addA (pv 0) (pe_int)) (pa_nil))) (blkOk_by (own := [("node", 3)]) (N := ["size", "lefts", "rights", "node"]) (sc := defScope s__law_whole) (by decide +kernel)) (fun _ _ _ _ _ => pg_name (i := 3) sc__law_whole.nd rfl (by first | exact Or.inl rfl | exact Or.inr rfl)) (fun _ _ _ _ _ => pts_nil) (fun _ _ _ _ _ => pe_bl)) (pa_nil))))))))), rd__law_whole T vs H Q E h⟩
theorem ok__law_fate {f : Addr} {fd : FuncData} (T : Txt K mg) (F : FunD K "_law_fate" "_law_fate" (defArgs s__law_fate) (defBody s__law_fate) (defScope s__law_fate) [] [] f fd) (c__law_dump : Cal P w K mg base 1 "_law_dump" ["book"] (sp13__law_dump K)) (c__law_moved : Cal P w K mg base 1 "_law_moved" ["book", "node"] (sp13__law_moved K)) (c__law_operation : Cal P w K mg base 1 "_law_operation" ["book", "node"] (sp__law_operation K)) (c__law_refusing : Cal P w K mg base 2 "_law_refusing" ["book", "node", "word"] (sp11__law_refusing K)) (c__law_whole : Cal P w K mg base 1 "_law_whole" ["size"] (sp13__law_whole K)) : FnOk P w K mg base (L2N.CX P w) 3 f fd ["size", "row", "word"] (sp12__law_fate K) :=
  F.ok sc__law_fate (len__law_fate K) fun cdv A outer s H vs Q E hr h => ⟨t__law_fate K E, pss_cons (ps_set (i := 3) sc__law_fate.nd rfl (by first | exact Or.inl rfl | exact Or.inr rfl) (pe_cl c__law_whole hr (by decide) (pat_of (W := fun cls d _ H => E cls d H) (L2N.takes_of rfl rfl rfl rfl)) (pa_cons (pv 0) (pa_nil)))) (pss_cons (ps_for (passes_of rfl) rfl (pi_range1 rfl T.b_range (pa_cons (pe_callB call_lenA (by rfl) T.b_len (by decide +kernel) (pa_cons (pv 1) (pa_nil))) (pa_nil))) (pg_name (i := 4) sc__law_fate.nd rfl (by first | exact Or.inl rfl | exact Or.inr rfl)) (pss_cons (ps_set (i := 5) sc__law_fate.nd rfl (by first | exact Or.inl rfl | exact Or.inr rfl) (pe_ix ix_seq (pv 1) (pv 4) (fun _ _ => rfl))) (pss_cons (ps_set (i := 6) sc__law_fate.nd rfl (by first | exact Or.inl rfl | exact Or.inr rfl) (pe_callB call_absA (by rfl) T.b_abs (by decide +kernel) (pa_cons (pv 5) (pa_nil)))) (pss_cons (ps_if ((pw_or (pt_cmpR op_lt (pv 6) (pe_int) (nomark _)) (pw_or1 (pt_cmpR op_gt (pv 6) (pv 0) (nomark _)))).pt) (pss_one (ps_ret (pe_tup (pa_cons (pe_str) (pa_cons (pv 5) (pa_cons (pv 4) (pa_cons (pe_str) (pa_nil)))))))) (pss_nil)) (pss_cons (ps_if (pt_cmpR (op_neA hr) (pv 5) (pe_cl c__law_operation hr (by decide) (pat_of (W := fun cls d _ H => E cls d H) (L2N.takes_of rfl rfl rfl rfl)) (pa_cons (pv 3) (pa_cons (pv 6) (pa_nil)))) (nomark _)) (pss_one (ps_ret (pe_tup (pa_cons (pe_str) (pa_cons (pv 5) (pa_cons (pv 4) (pa_cons (pe_str) (pa_nil)))))))) (pss_nil)) (pss_cons (ps_set (i := 7) sc__law_fate.nd rfl (by first | exact Or.inl rfl | exact Or.inr rfl) (pe_cl c__law_refusing hr (by decide) (pat_of (W := fun cls d _ H => E cls d H) (L2N.takes_of rfl rfl rfl rfl)) (pa_cons (pv 3) (pa_cons (pv 6) (pa_cons (pv 2) (pa_nil)))))) (pss_cons (ps_if (pt_cmpR (op_neA hr) (pv 7) (pe_str) (nomark _)) (pss_one (ps_ret (pe_tup (pa_cons (pe_str) (pa_cons (pv 5) (pa_cons (pv 4) (pa_cons (pv 7) (pa_nil)))))))) (pss_nil)) (pss_one (ps_set (i := 3) sc__law_fate.nd rfl (by first | exact Or.inl rfl | exact Or.inr rfl) (pe_cl c__law_moved hr (by decide) (pat_of (W := fun cls d _ H => E cls d H) (L2N.takes_of rfl rfl rfl rfl)) (pa_cons (pv 3) (pa_cons (pv 6) (pa_nil))))))))))))) (pss_one (ps_ret (pe_tup (pa_cons (pe_str) (pa_cons (pe_int) (pa_cons (pe_int) (pa_cons (pe_cl c__law_dump hr (by decide) (pat_of (W := fun cls d _ H => E cls d H) (L2N.takes_of rfl rfl rfl rfl)) (pa_cons (pv 3) (pa_nil))) (pa_nil))))))))), rd__law_fate T vs H Q E h⟩
theorem ok__law_first {f : Addr} {fd : FuncData} (T : Txt K mg) (F : FunD K "_law_first" "_law_first" (defArgs s__law_first) (defBody s__law_first) (defScope s__law_first) [] [] f fd) (c__law_fate : Cal P w K mg base 3 "_law_fate" ["size", "row", "word"] (sp12__law_fate K)) : FnOk P w K mg base (L2N.CX P w) 4 f fd ["size", "row", "word"] (sp12__law_first K) :=
  F.ok sc__law_first (len__law_first K) fun cdv A outer s H vs Q E hr h => ⟨t__law_first K E, pss_cons (ps_set (i := 3) sc__law_first.nd rfl (by first | exact Or.inl rfl | exact Or.inr rfl) (pe_cl c__law_fate hr (by decide) (pat_of (W := fun cls d _ H => E cls d H) (L2N.takes_of rfl rfl rfl rfl)) (pa_cons (pv 0) (pa_cons (pv 1) (pa_cons (pe_str) (pa_nil)))))) (pss_cons (ps_if (pt_cmpR (op_neA hr) (pe_ix ix_seq (pv 3) (pe_int) (fun _ _ => rfl)) (pe_str) (nomark _)) (pss_one (ps_ret (pv 3))) (pss_nil)) (pss_cons (ps_set (i := 3) sc__law_first.nd rfl (by first | exact Or.inl rfl | exact Or.inr rfl) (pe_cl c__law_fate hr (by decide) (pat_of (W := fun cls d _ H => E cls d H) (L2N.takes_of rfl rfl rfl rfl)) (pa_cons (pv 0) (pa_cons (pv 1) (pa_cons (pv 2) (pa_nil)))))) (pss_cons (ps_if (pt_cmpR (op_eqA hr) (pe_ix ix_seq (pv 3) (pe_int) (fun _ _ => rfl)) (pe_str) (nomark _)) (pss_one (ps_ret (pe_tup (pa_cons (pe_str) (pa_cons (pe_int) (pa_cons (pe_ix ix_seq (pv 3) (pe_int) (fun _ _ => rfl)) (pa_cons (pe_str) (pa_nil)))))))) (pss_nil)) (pss_one (ps_ret (pe_tup (pa_cons (pe_str) (pa_cons (pe_int) (pa_cons (pe_int) (pa_cons (pe_str) (pa_nil))))))))))), rd__law_first T vs H Q E h⟩
theorem ok_Links_outs {f : Addr} {fd : FuncData} (T : Txt K mg) (F : FunD K "outs" "Links.outs" (defArgs s_Links_outs) (defBody s_Links_outs) (defScope s_Links_outs) [] [] f fd)  : FnOk P w K mg base (L2N.CX P w) 1 f fd ["self"] (sp_Links_outs K) :=
  F.ok sc_Links_outs (len_Links_outs K) fun cdv A outer s H vs Q E hr h => ⟨t_Links_outs K E, pss_one (ps_ret (pe_lc (own := [("node", 1)]) (g := gName 1) (tt := tB (tOp (rIx K) (tFld K (tVar 0) "_out") (tVar 1))) (te := tVar 1) rfl sc_Links_outs.nd (pi_range2 rfl T.b_range (pa_cons (pe_int) (pa_cons (pe_op op_addA (pe_fld (pv 0) rfl) (pe_int)) (pa_nil)))) (blkOk_by (own := [("node", 1)]) (N := ["self", "node"]) (sc := defScope s_Links_outs) (by decide +kernel)) (fun _ _ _ _ _ => pg_name (i := 1) sc_Links_outs.nd rfl (by first | exact Or.inl rfl | exact Or.inr rfl)) (fun _ _ _ _ _ => pts_one (pt_val (pe_ix ix_seq (pe_fld (pv 0) rfl) (pv 1) (fun _ _ => rfl)))) (fun _ _ _ _ _ => pv 1))), rd_Links_outs T vs H Q E h⟩
theorem ok__joined {f : Addr} {fd : FuncData} (T : Txt K mg) (F : FunD K "_joined" "_joined" (defArgs s__joined) (defBody s__joined) (defScope s__joined) [] [] f fd)  : FnOk P w K mg base (L2N.CX P w) 1 f fd ["numbers"] (sp__joined K) :=
  F.ok sc__joined (len__joined K) fun cdv A outer s H vs Q E hr h => ⟨t__joined K E, pss_one (ps_ret (pe_joinA (pe_str) (pe_lc (own := [("number", 1)]) (g := gName 1) (tt := tYes) (te := tCB rStrA (tCons (tVar 1) (tNil))) rfl sc__joined.nd (pi_list (pv 0)) (blkOk_by (own := [("number", 1)]) (N := ["numbers", "number"]) (sc := defScope s__joined) (by decide +kernel)) (fun _ _ _ _ _ => pg_name (i := 1) sc__joined.nd rfl (by first | exact Or.inl rfl | exact Or.inr rfl)) (fun _ _ _ _ _ => pts_nil) (fun _ _ _ _ _ => pe_callTy call_strA (by rfl) T.b_str (by decide +kernel) (pa_cons (pv 1) (pa_nil)))))), rd__joined T vs H Q E h⟩
theorem ok_dump_of {f : Addr} {fd : FuncData} (T : Txt K mg) (F : FunD K "dump_of" "dump_of" (defArgs s_dump_of) (defBody s_dump_of) (defScope s_dump_of) [] [] f fd) (c__joined : Cal P w K mg base 1 "_joined" ["numbers"] (sp__joined K)) : FnOk P w K mg base (L2N.CX P w) 2 f fd ["rights", "lefts", "outs"] (sp_dump_of K) :=
  F.ok sc_dump_of (len_dump_of K) fun cdv A outer s H vs Q E hr h => ⟨t_dump_of K E, pss_one (ps_ret (pe_joinA (pe_str) (pe_lst (pa_cons (pe_cl c__joined hr (by decide) (pat_of (W := fun cls d _ H => E cls d H) (L2N.takes_of rfl rfl rfl rfl)) (pa_cons (pv 0) (pa_nil))) (pa_cons (pe_cl c__joined hr (by decide) (pat_of (W := fun cls d _ H => E cls d H) (L2N.takes_of rfl rfl rfl rfl)) (pa_cons (pv 1) (pa_nil))) (pa_cons (pe_ifExp (pt_tr (pv 2) (by intro _; rfl)) (pe_cl c__joined hr (by decide) (pat_of (W := fun cls d _ H => E cls d H) (L2N.takes_of rfl rfl rfl rfl)) (pa_cons (pv 2) (pa_nil))) (pe_str)) (pa_nil))))))), rd_dump_of T vs H Q E h⟩
theorem ok_Links_dump {f : Addr} {fd : FuncData} (T : Txt K mg) (F : FunD K "dump" "Links.dump" (defArgs s_Links_dump) (defBody s_Links_dump) (defScope s_Links_dump) [] [] f fd) (c_Links_outs : Met P w K mg base 1 (He.ga K "Links") "outs" ["self"] (sp_Links_outs K)) (c_dump_of : Cal P w K mg base 2 "dump_of" ["rights", "lefts", "outs"] (sp_dump_of K)) : FnOk P w K mg base (L2N.CX P w) 3 f fd ["self"] (sp_Links_dump K) :=
  F.ok sc_Links_dump (len_Links_dump K) fun cdv A outer s H vs Q E hr h => ⟨t_Links_dump K E, pss_one (ps_ret (pe_cl c_dump_of hr (by decide) (pat_of (W := fun cls d _ H => E cls d H) (L2N.takes_of rfl rfl rfl rfl)) (pa_cons (pe_fld (pv 0) rfl) (pa_cons (pe_slice sl_list (pe_fld (pv 0) rfl) (po_some (pe_int)) (po_none)) (pa_cons (pe_mt0 c_Links_outs T.cl_Links hr (by decide) (pat_of (W := fun cls d _ H => E cls d H) (L2N.takes_of rfl rfl rfl rfl)) (pv 0)) (pa_nil)))))), rd_Links_dump T vs H Q E h⟩
theorem ok__law_is {f : Addr} {fd : FuncData} (T : Txt K mg) (F : FunD K "_law_is" "_law_is" (defArgs s__law_is) (defBody s__law_is) (defScope s__law_is) [] [] f fd)  : FnOk P w K mg base (L2N.CX P w) 1 f fd ["told", "due"] (sp13__law_is K) :=
  F.ok sc__law_is (len__law_is K) fun cdv A outer s H vs Q E hr h => ⟨t__law_is K E, pss_one (ps_ret (pe_and (pe_callB call_isi (by rfl) T.b_isinstance (by decide +kernel) (pa_cons (pv 0) (pa_cons (pe_ty "int" T.b_int (by decide +kernel)) (pa_nil)))) (pe_and (pe_not (pe_callB call_isi (by rfl) T.b_isinstance (by decide +kernel) (pa_cons (pv 0) (pa_cons (pe_ty "bool" T.b_bool (by decide +kernel)) (pa_nil))))) (pe_one (pe_cmpR (op_eqA hr) (pv 0) (pv 1) (nomark _)))))), rd__law_is T vs H Q E h⟩
theorem ok__law_replayed {f : Addr} {fd : FuncData} (T : Txt K mg) (F : FunD K "_law_replayed" "_law_replayed" (defArgs s__law_replayed) (defBody s__law_replayed) (defScope s__law_replayed) [] [] f fd) (c_Links_dump : Met P w K mg base 3 (He.ga K "Links") "dump" ["self"] (sp_Links_dump K)) (c__law_is : Cal P w K mg base 1 "_law_is" ["told", "due"] (sp13__law_is K)) (c_replay_in : CalK P w K mg base 11 "replay_in" ["size", "log", "mode"] 2 ["mode"] (sp_replay_in K)) (h__law_log_error : CalX P w K mg base 2 "_law_log_error" ["raised", "operation", "index"] (sp12__law_log_error K)) : FnOk P w K mg base (L2N.CX P w) 12 f fd ["size", "row", "word"] (sp12__law_replayed K) :=
  F.ok sc__law_replayed (len__law_replayed K) fun cdv A outer s H vs Q E hr h => ⟨t__law_replayed K E, pss_cons (ps_trys (tb := fun (W : WX) => tAsg (tClK 2 (["mode"] : List Str).length (sp_replay_in K) (WE W) (tCons (tVar 0) (tCons (tVar 1) (tNil))) (tCons (tVar 2) (tNil))) (gName 3)) (F := fun D => wAs K (.ref (He.ga K "BadOperation")) 4 (fun a cls d => tSeq (tIfS (tB (tCl (sp12__law_log_error K a cls d) (fun _ => E0) (tCons (tVar 4) (tCons (tXat K a cls d "operation" (tVar 4)) (tCons (tXat K a cls d "index" (tVar 4)) (tNil)))))) (tRet (tTup (tCons (tC (.str "bad")) (tCons (tXat K a cls d "operation" (tVar 4)) (tCons (tXat K a cls d "index" (tVar 4)) (tCons (tC (.str "")) (tNil))))))) (tNext)) (tRet (tTup (tCons (tC (.str "other")) (tCons (tC (.int 0)) (tCons (tC (.int 0)) (tCons (tC (.str "")) (tNil)))))))) (wAs K (.ref (He.ga K "Illegal")) 4 (fun a cls d => tSeq (tIfS (tB (tCl (sp12__law_log_error K a cls d) (fun _ => E0) (tCons (tVar 4) (tCons (tXat K a cls d "operation" (tVar 4)) (tCons (tXat K a cls d "index" (tVar 4)) (tNil)))))) (tRet (tTup (tCons (tC (.str "illegal")) (tCons (tXat K a cls d "operation" (tVar 4)) (tCons (tXat K a cls d "index" (tVar 4)) (tCons (tC (.str "")) (tNil))))))) (tNext)) (tRet (tTup (tCons (tC (.str "other")) (tCons (tC (.int 0)) (tCons (tC (.int 0)) (tCons (tC (.str "")) (tNil)))))))) (wAs K (.ref (He.ga K "Refused")) 4 (fun a cls d => tSeq (tIfS (tAnd (tB (tCl (sp12__law_log_error K a cls d) (fun _ => E0) (tCons (tVar 4) (tCons (tXat K a cls d "operation" (tVar 4)) (tCons (tXat K a cls d "index" (tVar 4)) (tNil)))))) (tB (tCB (rIsi K) (tCons (tXat K a cls d "refusing" (tVar 4)) (tCons (tC (.ty "str")) (tNil)))))) (tRet (tTup (tCons (tC (.str "refused")) (tCons (tXat K a cls d "operation" (tVar 4)) (tCons (tXat K a cls d "index" (tVar 4)) (tCons (tXat K a cls d "refusing" (tVar 4)) (tNil))))))) (tNext)) (tRet (tTup (tCons (tC (.str "other")) (tCons (tC (.int 0)) (tCons (tC (.int 0)) (tCons (tC (.str "")) (tNil)))))))) (wOnly K (.ref (He.ga K "LinkError")) (fun a cls d => tRet (tTup (tCons (tC (.str "other")) (tCons (tC (.int 0)) (tCons (tC (.int 0)) (tCons (tC (.str "")) (tNil))))))) (fun cls d _ H => E cls d H) D) D) D) D) rfl rfl (fun W pn xe tk2 po2 => pss_one (ps_set (i := 3) sc__law_replayed.nd rfl (by first | exact Or.inl rfl | exact Or.inr rfl) (pe_clK c_replay_in hr (by decide) (pat_of tk2) (pa_cons (pv 0) (pa_cons (pv 1) (pa_nil))) (pk_cons (pv 2) (pk_nil))))) (fun D => by refine hs_as (k := 4) (su := fun a cls d => tSeq (tIfS (tB (tCl (sp12__law_log_error K a cls d) (fun _ => E0) (tCons (tVar 4) (tCons (tXat K a cls d "operation" (tVar 4)) (tCons (tXat K a cls d "index" (tVar 4)) (tNil)))))) (tRet (tTup (tCons (tC (.str "bad")) (tCons (tXat K a cls d "operation" (tVar 4)) (tCons (tXat K a cls d "index" (tVar 4)) (tCons (tC (.str "")) (tNil))))))) (tNext)) (tRet (tTup (tCons (tC (.str "other")) (tCons (tC (.int 0)) (tCons (tC (.int 0)) (tCons (tC (.str "")) (tNil)))))))) sc__law_replayed.nd rfl rfl ?_ ?_; exact ⟨⟨_, _, _, _, _, rfl, ⟨rfl, by decide, .inl T.g_BadOperation⟩, fun a oe cls d pn hz hf => pss_cons (ps_if (pt_val (pe_clX h__law_log_error (L2H.roomH_mark hr _) (by decide) (List.mem_cons_self) (hot1_suite hz hf) hz hf pat_no (pa_cons (pv 4) (pa_cons (pe_xat hz.zc hf (pv 4)) (pa_cons (pe_xat hz.zc hf (pv 4)) (pa_nil)))))) (pss_one (ps_ret (pe_tup (pa_cons (pe_str) (pa_cons (pe_xat hz.zc hf (pv 4)) (pa_cons (pe_xat hz.zc hf (pv 4)) (pa_cons (pe_str) (pa_nil)))))))) (pss_nil)) (pss_one (ps_ret (pe_tup (pa_cons (pe_str) (pa_cons (pe_int) (pa_cons (pe_int) (pa_cons (pe_str) (pa_nil))))))))⟩⟩; refine hs_as (k := 4) (su := fun a cls d => tSeq (tIfS (tB (tCl (sp12__law_log_error K a cls d) (fun _ => E0) (tCons (tVar 4) (tCons (tXat K a cls d "operation" (tVar 4)) (tCons (tXat K a cls d "index" (tVar 4)) (tNil)))))) (tRet (tTup (tCons (tC (.str "illegal")) (tCons (tXat K a cls d "operation" (tVar 4)) (tCons (tXat K a cls d "index" (tVar 4)) (tCons (tC (.str "")) (tNil))))))) (tNext)) (tRet (tTup (tCons (tC (.str "other")) (tCons (tC (.int 0)) (tCons (tC (.int 0)) (tCons (tC (.str "")) (tNil)))))))) sc__law_replayed.nd rfl rfl ?_ ?_; exact ⟨⟨_, _, _, _, _, rfl, ⟨rfl, by decide, .inl T.g_Illegal⟩, fun a oe cls d pn hz hf => pss_cons (ps_if (pt_val (pe_clX h__law_log_error (L2H.roomH_mark hr _) (by decide) (List.mem_cons_self) (hot1_suite hz hf) hz hf pat_no (pa_cons (pv 4) (pa_cons (pe_xat hz.zc hf (pv 4)) (pa_cons (pe_xat hz.zc hf (pv 4)) (pa_nil)))))) (pss_one (ps_ret (pe_tup (pa_cons (pe_str) (pa_cons (pe_xat hz.zc hf (pv 4)) (pa_cons (pe_xat hz.zc hf (pv 4)) (pa_cons (pe_str) (pa_nil)))))))) (pss_nil)) (pss_one (ps_ret (pe_tup (pa_cons (pe_str) (pa_cons (pe_int) (pa_cons (pe_int) (pa_cons (pe_str) (pa_nil))))))))⟩⟩; refine hs_as (k := 4) (su := fun a cls d => tSeq (tIfS (tAnd (tB (tCl (sp12__law_log_error K a cls d) (fun _ => E0) (tCons (tVar 4) (tCons (tXat K a cls d "operation" (tVar 4)) (tCons (tXat K a cls d "index" (tVar 4)) (tNil)))))) (tB (tCB (rIsi K) (tCons (tXat K a cls d "refusing" (tVar 4)) (tCons (tC (.ty "str")) (tNil)))))) (tRet (tTup (tCons (tC (.str "refused")) (tCons (tXat K a cls d "operation" (tVar 4)) (tCons (tXat K a cls d "index" (tVar 4)) (tCons (tXat K a cls d "refusing" (tVar 4)) (tNil))))))) (tNext)) (tRet (tTup (tCons (tC (.str "other")) (tCons (tC (.int 0)) (tCons (tC (.int 0)) (tCons (tC (.str "")) (tNil)))))))) sc__law_replayed.nd rfl rfl ?_ ?_; exact ⟨⟨_, _, _, _, _, rfl, ⟨rfl, by decide, .inl T.g_Refused⟩, fun a oe cls d pn hz hf => pss_cons (ps_if ((pw_and (pt_val (pe_clX h__law_log_error (L2H.roomH_mark hr _) (by decide) (List.mem_cons_self) (hot1_suite hz hf) hz hf pat_no (pa_cons (pv 4) (pa_cons (pe_xat hz.zc hf (pv 4)) (pa_cons (pe_xat hz.zc hf (pv 4)) (pa_nil)))))) (pw_and1 (pt_val (pe_callB call_isi (by rfl) T.b_isinstance (by decide +kernel) (pa_cons (pe_xat hz.zc hf (pv 4)) (pa_cons (pe_ty "str" T.b_str (by decide +kernel)) (pa_nil))))))).pt) (pss_one (ps_ret (pe_tup (pa_cons (pe_str) (pa_cons (pe_xat hz.zc hf (pv 4)) (pa_cons (pe_xat hz.zc hf (pv 4)) (pa_cons (pe_xat hz.zc hf (pv 4)) (pa_nil)))))))) (pss_nil)) (pss_one (ps_ret (pe_tup (pa_cons (pe_str) (pa_cons (pe_int) (pa_cons (pe_int) (pa_cons (pe_str) (pa_nil))))))))⟩⟩; refine hs_only (su := fun a cls d => tRet (tTup (tCons (tC (.str "other")) (tCons (tC (.int 0)) (tCons (tC (.int 0)) (tCons (tC (.str "")) (tNil))))))) ?_ ?_; exact ⟨⟨_, _, _, _, _, rfl, ⟨rfl, by decide, .inl T.g_LinkError⟩, fun a oe cls d pn hz hf => pss_one (ps_ret (pe_tup (pa_cons (pe_str) (pa_cons (pe_int) (pa_cons (pe_int) (pa_cons (pe_str) (pa_nil)))))))⟩⟩; exact hs_nil rfl rfl (L2N.takes_of rfl rfl rfl rfl))) (pss_cons (ps_if ((pw_or (pt_not (pt_val (pe_callB call_isi (by rfl) T.b_isinstance (by decide +kernel) (pa_cons (pv 3) (pa_cons (pe_own T.g_Links) (pa_nil)))))) (pw_or1 (pt_not (pt_val (pe_cl c__law_is hr (by decide) (pat_of (W := fun cls d _ H => E cls d H) (L2N.takes_of rfl rfl rfl rfl)) (pa_cons (pe_fld (pv 3) rfl) (pa_cons (pv 0) (pa_nil)))))))).pt) (pss_one (ps_ret (pe_tup (pa_cons (pe_str) (pa_cons (pe_int) (pa_cons (pe_int) (pa_cons (pe_str) (pa_nil)))))))) (pss_nil)) (pss_one (ps_ret (pe_tup (pa_cons (pe_str) (pa_cons (pe_int) (pa_cons (pe_int) (pa_cons (pe_mt0 c_Links_dump T.cl_Links hr (by decide) (pat_of (W := fun cls d _ H => E cls d H) (L2N.takes_of rfl rfl rfl rfl)) (pv 3)) (pa_nil))))))))), rd__law_replayed T vs H Q E h⟩
theorem ok__law_plain {f : Addr} {fd : FuncData} (T : Txt K mg) (F : FunD K "_law_plain" "_law_plain" (defArgs s__law_plain) (defBody s__law_plain) (defScope s__law_plain) [] [] f fd) (c_Links_apply : Met P w K mg base 6 (He.ga K "Links") "apply" ["self", "operation"] (sp_Links_apply K)) (c_Links_dump : Met P w K mg base 3 (He.ga K "Links") "dump" ["self"] (sp_Links_dump K)) (c__law_fate : Cal P w K mg base 3 "_law_fate" ["size", "row", "word"] (sp12__law_fate K)) (c__law_moved : Cal P w K mg base 1 "_law_moved" ["book", "node"] (sp13__law_moved K)) (c__law_operation : Cal P w K mg base 1 "_law_operation" ["book", "node"] (sp__law_operation K)) (c__law_replayed : Cal P w K mg base 12 "_law_replayed" ["size", "row", "word"] (sp12__law_replayed K)) (c__law_whole : Cal P w K mg base 1 "_law_whole" ["size"] (sp13__law_whole K)) (c_first_refusal : CalK P w K mg base 10 "first_refusal" ["size", "log", "mode"] 2 ["mode"] (sp_first_refusal K)) (c_replay_in : CalK P w K mg base 11 "replay_in" ["size", "log", "mode"] 2 ["mode"] (sp_replay_in K)) (cd_first_refusal : CalD P w K mg base 10 "first_refusal" ["size", "log", "mode"] 2 [.str "free"] (sp_first_refusal K)) (cd_replay_in : CalD P w K mg base 11 "replay_in" ["size", "log", "mode"] 2 [.str "free"] (sp_replay_in K)) : FnOk P w K mg base (L2N.CX P w) 13 f fd ["size", "row"] (sp12__law_plain K) :=
  F.ok sc__law_plain (len__law_plain K) fun cdv A outer s H vs Q E hr h => ⟨t__law_plain K E, pss_cons (ps_set (i := 2) sc__law_plain.nd rfl (by first | exact Or.inl rfl | exact Or.inr rfl) (pe_cl c__law_fate hr (by decide) (pat_of (W := fun cls d _ H => E cls d H) (L2N.takes_of rfl rfl rfl rfl)) (pa_cons (pv 0) (pa_cons (pv 1) (pa_cons (pe_str) (pa_nil)))))) (pss_cons (ps_if (pt_cmpR (op_neA hr) (pe_ix ix_seq (pv 2) (pe_int) (fun _ _ => rfl)) (pe_str) (nomark _)) (pss_one (ps_ret (pe_cmpR (op_eqA hr) (pe_cl c__law_replayed hr (by decide) (pat_of (W := fun cls d _ H => E cls d H) (L2N.takes_of rfl rfl rfl rfl)) (pa_cons (pv 0) (pa_cons (pv 1) (pa_cons (pe_str) (pa_nil))))) (pv 2) (nomark _)))) (pss_nil)) (pss_cons (ps_set (i := 3) sc__law_plain.nd rfl (by first | exact Or.inl rfl | exact Or.inr rfl) (pe_clD cd_replay_in hr (by decide) (pat_of (W := fun cls d _ H => E cls d H) (L2N.takes_of rfl rfl rfl rfl)) (pa_cons (pv 0) (pa_cons (pv 1) (pa_nil))))) (pss_cons (ps_if ((pw_or (pt_not (pt_val (pe_callB call_isi (by rfl) T.b_isinstance (by decide +kernel) (pa_cons (pv 3) (pa_cons (pe_own T.g_Links) (pa_nil)))))) (pw_or (pt_cmpR (op_neA hr) (pe_mt0 c_Links_dump T.cl_Links hr (by decide) (pat_of (W := fun cls d _ H => E cls d H) (L2N.takes_of rfl rfl rfl rfl)) (pv 3)) (pe_ix ix_seq (pv 2) (pe_int) (fun _ _ => rfl)) (nomark _)) (pw_or1 (pt_cmpR op_notNA (pe_clD cd_first_refusal hr (by decide) (pat_of (W := fun cls d _ H => E cls d H) (L2N.takes_of rfl rfl rfl rfl)) (pa_cons (pv 0) (pa_cons (pv 1) (pa_nil)))) (pe_non) (nomark _))))).pt) (pss_one (ps_ret (pe_bl))) (pss_nil)) (pss_cons (ps_set (i := 4) sc__law_plain.nd rfl (by first | exact Or.inl rfl | exact Or.inr rfl) (pe_cl c__law_whole hr (by decide) (pat_of (W := fun cls d _ H => E cls d H) (L2N.takes_of rfl rfl rfl rfl)) (pa_cons (pv 0) (pa_nil)))) (pss_cons (ps_for (passes_of rfl) rfl (pi_list (pv 1)) (pg_name (i := 5) sc__law_plain.nd rfl (by first | exact Or.inl rfl | exact Or.inr rfl)) (pss_one (ps_set (i := 4) sc__law_plain.nd rfl (by first | exact Or.inl rfl | exact Or.inr rfl) (pe_cl c__law_moved hr (by decide) (pat_of (W := fun cls d _ H => E cls d H) (L2N.takes_of rfl rfl rfl rfl)) (pa_cons (pv 4) (pa_cons (pe_callB call_absA (by rfl) T.b_abs (by decide +kernel) (pa_cons (pv 5) (pa_nil))) (pa_nil))))))) (pss_cons (ps_for (passes_of rfl) rfl (pi_range2 rfl T.b_range (pa_cons (pe_int) (pa_cons (pe_op op_addA (pe_callB (call_min2A rfl) (by rfl) T.b_min (by decide +kernel) (pa_cons (pv 0) (pa_cons (pe_int) (pa_nil)))) (pe_int)) (pa_nil)))) (pg_name (i := 6) sc__law_plain.nd rfl (by first | exact Or.inl rfl | exact Or.inr rfl)) (pss_one (ps_expr (pe_mt c_Links_apply T.cl_Links hr (by decide) (pat_of (W := fun cls d _ H => E cls d H) (L2N.takes_of rfl rfl rfl rfl)) (pv 3) (pa_cons (pe_cl c__law_operation hr (by decide) (pat_of (W := fun cls d _ H => E cls d H) (L2N.takes_of rfl rfl rfl rfl)) (pa_cons (pv 4) (pa_cons (pv 6) (pa_nil)))) (pa_nil)))))) (pss_cons (ps_set (i := 7) sc__law_plain.nd rfl (by first | exact Or.inl rfl | exact Or.inr rfl) (pe_clD cd_replay_in hr (by decide) (pat_of (W := fun cls d _ H => E cls d H) (L2N.takes_of rfl rfl rfl rfl)) (pa_cons (pv 0) (pa_cons (pv 1) (pa_nil))))) (pss_one (ps_ret (pe_cmpR (op_eqA hr) (pe_mt0 c_Links_dump T.cl_Links hr (by decide) (pat_of (W := fun cls d _ H => E cls d H) (L2N.takes_of rfl rfl rfl rfl)) (pv 7)) (pe_ix ix_seq (pv 2) (pe_int) (fun _ _ => rfl)) (nomark _))))))))))), rd__law_plain T vs H Q E h⟩
theorem ok__law_told {f : Addr} {fd : FuncData} (T : Txt K mg) (F : FunD K "_law_told" "_law_told" (defArgs s__law_told) (defBody s__law_told) (defScope s__law_told) [] [] f fd) (c_first_refusal : CalK P w K mg base 10 "first_refusal" ["size", "log", "mode"] 2 ["mode"] (sp_first_refusal K)) (h__law_log_error : CalX P w K mg base 2 "_law_log_error" ["raised", "operation", "index"] (sp12__law_log_error K)) : FnOk P w K mg base (L2N.CX P w) 11 f fd ["size", "row", "word"] (sp12__law_told K) :=
  F.ok sc__law_told (len__law_told K) fun cdv A outer s H vs Q E hr h => ⟨t__law_told K E, pss_cons (ps_trys (tb := fun (W : WX) => tAsg (tClK 2 (["mode"] : List Str).length (sp_first_refusal K) (WE W) (tCons (tVar 0) (tCons (tVar 1) (tNil))) (tCons (tVar 2) (tNil))) (gName 3)) (F := fun D => wOnly K (.ref (He.ga K "Refused")) (fun a cls d => tRet (tTup (tCons (tC (.str "other")) (tCons (tC (.int 0)) (tCons (tC (.int 0)) (tCons (tC (.str "")) (tNil))))))) (wAs K (.ref (He.ga K "Illegal")) 4 (fun a cls d => tSeq (tIfS (tB (tCl (sp12__law_log_error K a cls d) (fun _ => E0) (tCons (tVar 4) (tCons (tXat K a cls d "operation" (tVar 4)) (tCons (tXat K a cls d "index" (tVar 4)) (tNil)))))) (tRet (tTup (tCons (tC (.str "illegal")) (tCons (tXat K a cls d "operation" (tVar 4)) (tCons (tXat K a cls d "index" (tVar 4)) (tCons (tC (.str "")) (tNil))))))) (tNext)) (tRet (tTup (tCons (tC (.str "other")) (tCons (tC (.int 0)) (tCons (tC (.int 0)) (tCons (tC (.str "")) (tNil)))))))) (wAs K (.ref (He.ga K "BadOperation")) 4 (fun a cls d => tSeq (tIfS (tB (tCl (sp12__law_log_error K a cls d) (fun _ => E0) (tCons (tVar 4) (tCons (tXat K a cls d "operation" (tVar 4)) (tCons (tXat K a cls d "index" (tVar 4)) (tNil)))))) (tRet (tTup (tCons (tC (.str "bad")) (tCons (tXat K a cls d "operation" (tVar 4)) (tCons (tXat K a cls d "index" (tVar 4)) (tCons (tC (.str "")) (tNil))))))) (tNext)) (tRet (tTup (tCons (tC (.str "other")) (tCons (tC (.int 0)) (tCons (tC (.int 0)) (tCons (tC (.str "")) (tNil)))))))) (wOnly K (.ref (He.ga K "LinkError")) (fun a cls d => tRet (tTup (tCons (tC (.str "other")) (tCons (tC (.int 0)) (tCons (tC (.int 0)) (tCons (tC (.str "")) (tNil))))))) (fun cls d _ H => E cls d H) D) D) D) D) rfl rfl (fun W pn xe tk2 po2 => pss_one (ps_set (i := 3) sc__law_told.nd rfl (by first | exact Or.inl rfl | exact Or.inr rfl) (pe_clK c_first_refusal hr (by decide) (pat_of tk2) (pa_cons (pv 0) (pa_cons (pv 1) (pa_nil))) (pk_cons (pv 2) (pk_nil))))) (fun D => by refine hs_only (su := fun a cls d => tRet (tTup (tCons (tC (.str "other")) (tCons (tC (.int 0)) (tCons (tC (.int 0)) (tCons (tC (.str "")) (tNil))))))) ?_ ?_; exact ⟨⟨_, _, _, _, _, rfl, ⟨rfl, by decide, .inl T.g_Refused⟩, fun a oe cls d pn hz hf => pss_one (ps_ret (pe_tup (pa_cons (pe_str) (pa_cons (pe_int) (pa_cons (pe_int) (pa_cons (pe_str) (pa_nil)))))))⟩⟩; refine hs_as (k := 4) (su := fun a cls d => tSeq (tIfS (tB (tCl (sp12__law_log_error K a cls d) (fun _ => E0) (tCons (tVar 4) (tCons (tXat K a cls d "operation" (tVar 4)) (tCons (tXat K a cls d "index" (tVar 4)) (tNil)))))) (tRet (tTup (tCons (tC (.str "illegal")) (tCons (tXat K a cls d "operation" (tVar 4)) (tCons (tXat K a cls d "index" (tVar 4)) (tCons (tC (.str "")) (tNil))))))) (tNext)) (tRet (tTup (tCons (tC (.str "other")) (tCons (tC (.int 0)) (tCons (tC (.int 0)) (tCons (tC (.str "")) (tNil)))))))) sc__law_told.nd rfl rfl ?_ ?_; exact ⟨⟨_, _, _, _, _, rfl, ⟨rfl, by decide, .inl T.g_Illegal⟩, fun a oe cls d pn hz hf => pss_cons (ps_if (pt_val (pe_clX h__law_log_error (L2H.roomH_mark hr _) (by decide) (List.mem_cons_self) (hot1_suite hz hf) hz hf pat_no (pa_cons (pv 4) (pa_cons (pe_xat hz.zc hf (pv 4)) (pa_cons (pe_xat hz.zc hf (pv 4)) (pa_nil)))))) (pss_one (ps_ret (pe_tup (pa_cons (pe_str) (pa_cons (pe_xat hz.zc hf (pv 4)) (pa_cons (pe_xat hz.zc hf (pv 4)) (pa_cons (pe_str) (pa_nil)))))))) (pss_nil)) (pss_one (ps_ret (pe_tup (pa_cons (pe_str) (pa_cons (pe_int) (pa_cons (pe_int) (pa_cons (pe_str) (pa_nil))))))))⟩⟩; refine hs_as (k := 4) (su := fun a cls d => tSeq (tIfS (tB (tCl (sp12__law_log_error K a cls d) (fun _ => E0) (tCons (tVar 4) (tCons (tXat K a cls d "operation" (tVar 4)) (tCons (tXat K a cls d "index" (tVar 4)) (tNil)))))) (tRet (tTup (tCons (tC (.str "bad")) (tCons (tXat K a cls d "operation" (tVar 4)) (tCons (tXat K a cls d "index" (tVar 4)) (tCons (tC (.str "")) (tNil))))))) (tNext)) (tRet (tTup (tCons (tC (.str "other")) (tCons (tC (.int 0)) (tCons (tC (.int 0)) (tCons (tC (.str "")) (tNil)))))))) sc__law_told.nd rfl rfl ?_ ?_; exact ⟨⟨_, _, _, _, _, rfl, ⟨rfl, by decide, .inl T.g_BadOperation⟩, fun a oe cls d pn hz hf => pss_cons (ps_if (pt_val (pe_clX h__law_log_error (L2H.roomH_mark hr _) (by decide) (List.mem_cons_self) (hot1_suite hz hf) hz hf pat_no (pa_cons (pv 4) (pa_cons (pe_xat hz.zc hf (pv 4)) (pa_cons (pe_xat hz.zc hf (pv 4)) (pa_nil)))))) (pss_one (ps_ret (pe_tup (pa_cons (pe_str) (pa_cons (pe_xat hz.zc hf (pv 4)) (pa_cons (pe_xat hz.zc hf (pv 4)) (pa_cons (pe_str) (pa_nil)))))))) (pss_nil)) (pss_one (ps_ret (pe_tup (pa_cons (pe_str) (pa_cons (pe_int) (pa_cons (pe_int) (pa_cons (pe_str) (pa_nil))))))))⟩⟩; refine hs_only (su := fun a cls d => tRet (tTup (tCons (tC (.str "other")) (tCons (tC (.int 0)) (tCons (tC (.int 0)) (tCons (tC (.str "")) (tNil))))))) ?_ ?_; exact ⟨⟨_, _, _, _, _, rfl, ⟨rfl, by decide, .inl T.g_LinkError⟩, fun a oe cls d pn hz hf => pss_one (ps_ret (pe_tup (pa_cons (pe_str) (pa_cons (pe_int) (pa_cons (pe_int) (pa_cons (pe_str) (pa_nil)))))))⟩⟩; exact hs_nil rfl rfl (L2N.takes_of rfl rfl rfl rfl))) (pss_cons (ps_if (pt_cmpR op_isNA (pv 3) (pe_non) (nomark _)) (pss_one (ps_ret (pe_tup (pa_cons (pe_str) (pa_cons (pe_int) (pa_cons (pe_int) (pa_cons (pe_str) (pa_nil)))))))) (pss_nil)) (pss_cons (ps_if ((pw_or (pt_not (pt_val (pe_callB call_isi (by rfl) T.b_isinstance (by decide +kernel) (pa_cons (pv 3) (pa_cons (pe_ty "int" T.b_int (by decide +kernel)) (pa_nil)))))) (pw_or1 (pt_val (pe_callB call_isi (by rfl) T.b_isinstance (by decide +kernel) (pa_cons (pv 3) (pa_cons (pe_ty "bool" T.b_bool (by decide +kernel)) (pa_nil))))))).pt) (pss_one (ps_ret (pe_tup (pa_cons (pe_str) (pa_cons (pe_int) (pa_cons (pe_int) (pa_cons (pe_str) (pa_nil)))))))) (pss_nil)) (pss_one (ps_ret (pe_tup (pa_cons (pe_str) (pa_cons (pe_int) (pa_cons (pv 3) (pa_cons (pe_str) (pa_nil)))))))))), rd__law_told T vs H Q E h⟩
theorem ok__law_words {f : Addr} {fd : FuncData} (T : Txt K mg) (F : FunD K "_law_words" "_law_words" (defArgs s__law_words) (defBody s__law_words) (defScope s__law_words) [] [] f fd)  : FnOk P w K mg base (L2N.CX P w) 1 f fd [] (sp13__law_words K) :=
  F.ok sc__law_words (len__law_words K) fun cdv A outer s H vs Q E hr h => ⟨t__law_words K E, pss_one (ps_ret (pe_lst (pa_cons (pe_str) (pa_cons (pe_str) (pa_cons (pe_str) (pa_cons (pe_str) (pa_nil))))))), rd__law_words T vs H Q E h⟩
theorem ok__law_judged {f : Addr} {fd : FuncData} (T : Txt K mg) (F : FunD K "_law_judged" "_law_judged" (defArgs s__law_judged) (defBody s__law_judged) (defScope s__law_judged) [] [] f fd) (c__law_fate : Cal P w K mg base 3 "_law_fate" ["size", "row", "word"] (sp12__law_fate K)) (c__law_first : Cal P w K mg base 4 "_law_first" ["size", "row", "word"] (sp12__law_first K)) (c__law_plain : Cal P w K mg base 13 "_law_plain" ["size", "row"] (sp12__law_plain K)) (c__law_replayed : Cal P w K mg base 12 "_law_replayed" ["size", "row", "word"] (sp12__law_replayed K)) (c__law_told : Cal P w K mg base 11 "_law_told" ["size", "row", "word"] (sp12__law_told K)) (c__law_words : Cal P w K mg base 1 "_law_words" [] (sp13__law_words K)) : FnOk P w K mg base (L2N.CX P w) 14 f fd ["size", "row"] (sp12__law_judged K) :=
  F.ok sc__law_judged (len__law_judged K) fun cdv A outer s H vs Q E hr h => ⟨t__law_judged K E, pss_cons (ps_set (i := 2) sc__law_judged.nd rfl (by first | exact Or.inl rfl | exact Or.inr rfl) (pe_callTy call_listA (by rfl) T.b_list (by decide +kernel) (pa_cons (pv 1) (pa_nil)))) (pss_cons (ps_for (passes_of rfl) rfl (pi_list (pe_cl0 c__law_words hr (by decide) (pat_of (W := fun cls d _ H => E cls d H) (L2N.takes_of rfl rfl rfl rfl)))) (pg_name (i := 3) sc__law_judged.nd rfl (by first | exact Or.inl rfl | exact Or.inr rfl)) (pss_cons (ps_if (pt_cmpR (op_neA hr) (pe_cl c__law_replayed hr (by decide) (pat_of (W := fun cls d _ H => E cls d H) (L2N.takes_of rfl rfl rfl rfl)) (pa_cons (pv 0) (pa_cons (pv 2) (pa_cons (pv 3) (pa_nil))))) (pe_cl c__law_fate hr (by decide) (pat_of (W := fun cls d _ H => E cls d H) (L2N.takes_of rfl rfl rfl rfl)) (pa_cons (pv 0) (pa_cons (pv 1) (pa_cons (pv 3) (pa_nil))))) (nomark _)) (pss_one (ps_ret (pe_bl))) (pss_nil)) (pss_one (ps_if (pt_cmpR (op_neA hr) (pe_cl c__law_told hr (by decide) (pat_of (W := fun cls d _ H => E cls d H) (L2N.takes_of rfl rfl rfl rfl)) (pa_cons (pv 0) (pa_cons (pv 2) (pa_cons (pv 3) (pa_nil))))) (pe_cl c__law_first hr (by decide) (pat_of (W := fun cls d _ H => E cls d H) (L2N.takes_of rfl rfl rfl rfl)) (pa_cons (pv 0) (pa_cons (pv 1) (pa_cons (pv 3) (pa_nil))))) (nomark _)) (pss_one (ps_ret (pe_bl))) (pss_nil))))) (pss_one (ps_ret (pe_and (pe_cl c__law_plain hr (by decide) (pat_of (W := fun cls d _ H => E cls d H) (L2N.takes_of rfl rfl rfl rfl)) (pa_cons (pv 0) (pa_cons (pv 2) (pa_nil)))) (pe_one (pe_cmpR (op_eqA hr) (pv 2) (pv 1) (nomark _))))))), rd__law_judged T vs H Q E h⟩
theorem ok__law_purse {f : Addr} {fd : FuncData} (T : Txt K mg) (F : FunD K "_law_purse" "_law_purse" (defArgs s__law_purse) (defBody s__law_purse) (defScope s__law_purse) [] [] f fd)  : FnOk P w K mg base (L2N.CX P w) 1 f fd ["script"] (sp13__law_purse K) :=
  F.ok sc__law_purse (len__law_purse K) fun cdv A outer s H vs Q E hr h => ⟨t__law_purse K E, pss_cons (ps_setLc (i := 1) (own := [("cell", 3)]) (g := gName 3) (tt := tTest (tOp rGeA (tCB rAbsA (tCons (tVar 3) (tNil))) (tOp rPowA (tC (.int 10)) (tC (.int 18))))) (te := tCB rAbsA (tCons (tVar 3) (tNil))) rfl sc__law_purse.nd rfl rfl (sw_true rfl rfl rfl (by decide +kernel)) (pi_list (pe_slice sl_list (pv 0) (po_none) (po_some (pe_int)))) (blkOk_by (own := [("cell", 3)]) (N := ["script", "cells", "seed", "cell"]) (sc := defScope s__law_purse) (by decide +kernel)) (fun _ _ _ _ _ => pg_name (i := 3) sc__law_purse.nd rfl (by first | exact Or.inl rfl | exact Or.inr rfl)) (fun _ _ _ _ _ => pts_one (pt_cmpR op_ge (pe_callB call_absA (by rfl) T.b_abs (by decide +kernel) (pa_cons (pv 3) (pa_nil))) (pe_op op_pow (pe_int) (pe_int)) (nomark _))) (fun _ _ _ _ _ => pe_callB call_absA (by rfl) T.b_abs (by decide +kernel) (pa_cons (pv 3) (pa_nil)))) (pss_cons (ps_set (i := 2) sc__law_purse.nd rfl (by first | exact Or.inl rfl | exact Or.inr rfl) (pe_int)) (pss_cons (ps_for (passes_of rfl) rfl (pi_list (pe_slice sl_list (pv 0) (po_none) (po_some (pe_int)))) (pg_name (i := 3) sc__law_purse.nd rfl (by first | exact Or.inl rfl | exact Or.inr rfl)) (pss_one (ps_set (i := 2) sc__law_purse.nd rfl (by first | exact Or.inl rfl | exact Or.inr rfl) (pe_op op_mod (pe_callTy call_intA (by rfl) T.b_int (by decide +kernel) (pa_cons (pe_op op_addA (pe_op op_addA (pe_op op_mulA (pv 2) (pe_int)) (pe_op op_mod (pe_callTy call_intA (by rfl) T.b_int (by decide +kernel) (pa_cons (pv 3) (pa_nil))) (pe_int))) (pe_int)) (pa_nil))) (pe_int))))) (pss_one (ps_ret (pe_lst (pa_cons (pv 1) (pa_cons (pv 2) (pa_cons (pe_int) (pa_cons (pe_int) (pa_nil)))))))))), rd__law_purse T vs H Q E h⟩
theorem ok__law_take {f : Addr} {fd : FuncData} (T : Txt K mg) (F : FunD K "_law_take" "_law_take" (defArgs s__law_take) (defBody s__law_take) (defScope s__law_take) [] [] f fd)  : FnOk P w K mg base (L2N.CX P w) 1 f fd ["purse", "many"] (sp13__law_take K) :=
  F.ok sc__law_take (len__law_take K) fun cdv A outer s H vs Q E hr h => ⟨t__law_take K E, pss_cons (ps_asg (pe_op op_addA (pe_ix ix_seq (pv 0) (pe_int) (fun _ _ => rfl)) (pe_int)) (pg_sub (pv 0) (pe_int) set_list)) (pss_cons (ps_set (i := 2) sc__law_take.nd rfl (by first | exact Or.inl rfl | exact Or.inr rfl) (pe_ix ix_seq (pv 0) (pe_int) (fun _ _ => rfl))) (pss_cons (ps_if (pt_tr (pv 2) (by intro _; rfl)) (pss_cons (ps_set (i := 3) sc__law_take.nd rfl (by first | exact Or.inl rfl | exact Or.inr rfl) (pe_op op_mod (pe_callTy call_intA (by rfl) T.b_int (by decide +kernel) (pa_cons (pe_ix ix_seq (pv 2) (pe_int) (fun _ _ => rfl)) (pa_nil))) (pv 1))) (pss_cons (ps_asg (pe_op op_fdiv (pe_ix ix_seq (pv 2) (pe_int) (fun _ _ => rfl)) (pv 1)) (pg_sub (pv 2) (pe_int) set_list)) (pss_cons (ps_if (pt_cmpR (op_eqA hr) (pe_ix ix_seq (pv 2) (pe_int) (fun _ _ => rfl)) (pe_int) (nomark _)) (pss_one (ps_expr (pe_bm PySem.F.plainAttrs_list PySem.F.slot_list_pop PySem.F.type_list_pop mt_popAt (pv 2) (pa_cons (pe_int) (pa_nil))))) (pss_nil)) (pss_one (ps_ret (pv 3)))))) (pss_nil)) (pss_cons (ps_asg (pe_op op_mod (pe_callTy call_intA (by rfl) T.b_int (by decide +kernel) (pa_cons (pe_op op_addA (pe_op op_addA (pe_op op_mulA (pe_ix ix_seq (pv 0) (pe_int) (fun _ _ => rfl)) (pe_int)) (pe_op op_mulA (pe_ix ix_seq (pv 0) (pe_int) (fun _ _ => rfl)) (pe_int))) (pe_int)) (pa_nil))) (pe_int)) (pg_sub (pv 0) (pe_int) set_list)) (pss_cons (ps_asg (pe_op op_mod (pe_callTy call_intA (by rfl) T.b_int (by decide +kernel) (pa_cons (pe_op op_addA (pe_op op_addA (pe_op op_mulA (pe_ix ix_seq (pv 0) (pe_int) (fun _ _ => rfl)) (pe_int)) (pe_op op_fdiv (pe_ix ix_seq (pv 0) (pe_int) (fun _ _ => rfl)) (pe_int))) (pe_int)) (pa_nil))) (pe_int)) (pg_sub (pv 0) (pe_int) set_list)) (pss_one (ps_ret (pe_op op_mod (pe_callTy call_intA (by rfl) T.b_int (by decide +kernel) (pa_cons (pe_op op_addA (pe_op op_fdiv (pe_ix ix_seq (pv 0) (pe_int) (fun _ _ => rfl)) (pe_int)) (pe_ix ix_seq (pv 0) (pe_int) (fun _ _ => rfl))) (pa_nil))) (pv 1)))))))), rd__law_take T vs H Q E h⟩
theorem ok__law_path {f : Addr} {fd : FuncData} (T : Txt K mg) (F : FunD K "_law_path" "_law_path" (defArgs s__law_path) (defBody s__law_path) (defScope s__law_path) [] [] f fd) (c__law_take : Cal P w K mg base 1 "_law_take" ["purse", "many"] (sp13__law_take K)) : FnOk P w K mg base (L2N.CX P w) 2 f fd ["purse", "wide"] (sp12__law_path K) :=
  F.ok sc__law_path (len__law_path K) fun cdv A outer s H vs Q E hr h => ⟨t__law_path K E, pss_cons (ps_if ((pw_or (pt_cmpR op_lt (pv 1) (pe_int) (nomark _)) (pw_or1 (pt_cmpR (op_eqA hr) (pe_cl c__law_take hr (by decide) (pat_of (W := fun cls d _ H => E cls d H) (L2N.takes_of rfl rfl rfl rfl)) (pa_cons (pv 0) (pa_cons (pe_int) (pa_nil)))) (pe_int) (nomark _)))).pt) (pss_one (ps_ret (pe_lst (pa_nil)))) (pss_nil)) (pss_cons (ps_set (i := 2) sc__law_path.nd rfl (by first | exact Or.inl rfl | exact Or.inr rfl) (pe_lst (pa_cons (pe_lst (pa_cons (pe_int) (pa_cons (pe_int) (pa_cons (pe_int) (pa_cons (pe_int) (pa_cons (pe_int) (pa_nil))))))) (pa_cons (pe_lst (pa_cons (pe_int) (pa_cons (pe_int) (pa_cons (pe_int) (pa_cons (pe_int) (pa_cons (pe_int) (pa_cons (pe_int) (pa_nil)))))))) (pa_cons (pe_lst (pa_cons (pe_int) (pa_cons (pe_int) (pa_cons (pe_int) (pa_cons (pe_int) (pa_cons (pe_int) (pa_cons (pe_int) (pa_cons (pe_int) (pa_nil))))))))) (pa_cons (pe_lst (pa_cons (pe_int) (pa_cons (pe_int) (pa_cons (pe_int) (pa_cons (pe_int) (pa_cons (pe_int) (pa_cons (pe_int) (pa_cons (pe_int) (pa_cons (pe_int) (pa_nil)))))))))) (pa_nil))))))) (pss_cons (ps_set (i := 3) sc__law_path.nd rfl (by first | exact Or.inl rfl | exact Or.inr rfl) (pe_ix ix_seq (pv 2) (pe_cl c__law_take hr (by decide) (pat_of (W := fun cls d _ H => E cls d H) (L2N.takes_of rfl rfl rfl rfl)) (pa_cons (pv 0) (pa_cons (pe_int) (pa_nil)))) (fun _ _ => rfl))) (pss_cons (ps_if (pt_cmpR (op_eqA hr) (pe_cl c__law_take hr (by decide) (pat_of (W := fun cls d _ H => E cls d H) (L2N.takes_of rfl rfl rfl rfl)) (pa_cons (pv 0) (pa_cons (pe_int) (pa_nil)))) (pe_int) (nomark _)) (pss_one (ps_ret (pv 3))) (pss_nil)) (pss_one (ps_ret (pe_lc (own := [("place", 4)]) (g := gName 4) (tt := tYes) (te := tOp rSubA (tOp rAddA (tVar 1) (tC (.int 1))) (tVar 4)) rfl sc__law_path.nd (pi_list (pv 3)) (blkOk_by (own := [("place", 4)]) (N := ["purse", "wide", "paths", "path", "place"]) (sc := defScope s__law_path) (by decide +kernel)) (fun _ _ _ _ _ => pg_name (i := 4) sc__law_path.nd rfl (by first | exact Or.inl rfl | exact Or.inr rfl)) (fun _ _ _ _ _ => pts_nil) (fun _ _ _ _ _ => pe_op op_sub (pe_op op_addA (pv 1) (pe_int)) (pv 4)))))))), rd__law_path T vs H Q E h⟩
theorem ok__law_steered {f : Addr} {fd : FuncData} (T : Txt K mg) (F : FunD K "_law_steered" "_law_steered" (defArgs s__law_steered) (defBody s__law_steered) (defScope s__law_steered) [] [] f fd) (c__law_refusing : Cal P w K mg base 2 "_law_refusing" ["book", "node", "word"] (sp11__law_refusing K)) (c__law_take : Cal P w K mg base 1 "_law_take" ["purse", "many"] (sp13__law_take K)) : FnOk P w K mg base (L2N.CX P w) 3 f fd ["purse", "book", "shift", "word", "stop"] (sp12__law_steered K) :=
  F.ok sc__law_steered (len__law_steered K) fun cdv A outer s H vs Q E hr h => ⟨t__law_steered K E, pss_cons (ps_set (i := 5) sc__law_steered.nd rfl (by first | exact Or.inl rfl | exact Or.inr rfl) (pe_callB (call_min2A rfl) (by rfl) T.b_min (by decide +kernel) (pa_cons (pe_ix ix_seq (pv 1) (pe_int) (fun _ _ => rfl)) (pa_cons (pe_int) (pa_nil))))) (pss_cons (ps_set (i := 6) sc__law_steered.nd rfl (by first | exact Or.inl rfl | exact Or.inr rfl) (pe_cl c__law_take hr (by decide) (pat_of (W := fun cls d _ H => E cls d H) (L2N.takes_of rfl rfl rfl rfl)) (pa_cons (pv 0) (pa_cons (pv 5) (pa_nil))))) (pss_cons (ps_set (i := 7) sc__law_steered.nd rfl (by first | exact Or.inl rfl | exact Or.inr rfl) (pe_cmpR op_gt (pe_cl c__law_take hr (by decide) (pat_of (W := fun cls d _ H => E cls d H) (L2N.takes_of rfl rfl rfl rfl)) (pa_cons (pv 0) (pa_cons (pe_int) (pa_nil)))) (pe_int) (nomark _))) (pss_cons (ps_for (passes_of rfl) rfl (pi_range1 rfl T.b_range (pa_cons (pv 5) (pa_nil))) (pg_name (i := 8) sc__law_steered.nd rfl (by first | exact Or.inl rfl | exact Or.inr rfl)) (pss_cons (ps_set (i := 9) sc__law_steered.nd rfl (by first | exact Or.inl rfl | exact Or.inr rfl) (pe_op op_addA (pe_op op_addA (pe_int) (pv 2)) (pe_op op_mod (pe_op op_addA (pv 6) (pv 8)) (pv 5)))) (pss_one (ps_if ((pw_and (pt_cmpR (op_neA hr) (pv 4) (pe_str) (nomark _)) (pw_and1 (pt_cmpR (op_eqA hr) (pe_cl c__law_refusing hr (by decide) (pat_of (W := fun cls d _ H => E cls d H) (L2N.takes_of rfl rfl rfl rfl)) (pa_cons (pv 1) (pa_cons (pv 9) (pa_cons (pe_str) (pa_nil))))) (pv 4) (nomark _)))).pt) (pss_one (ps_ret (pv 9))) (pss_nil))))) (pss_cons (ps_for (passes_of rfl) rfl (pi_range1 rfl T.b_range (pa_cons (pv 5) (pa_nil))) (pg_name (i := 8) sc__law_steered.nd rfl (by first | exact Or.inl rfl | exact Or.inr rfl)) (pss_cons (ps_set (i := 9) sc__law_steered.nd rfl (by first | exact Or.inl rfl | exact Or.inr rfl) (pe_op op_addA (pe_op op_addA (pe_int) (pv 2)) (pe_op op_mod (pe_op op_addA (pv 6) (pv 8)) (pv 5)))) (pss_one (ps_if ((pw_and (pt_val (pv 7)) (pw_and1 (pt_cmpR (op_eqA hr) (pe_cl c__law_refusing hr (by decide) (pat_of (W := fun cls d _ H => E cls d H) (L2N.takes_of rfl rfl rfl rfl)) (pa_cons (pv 1) (pa_cons (pv 9) (pa_cons (pv 3) (pa_nil))))) (pe_str) (nomark _)))).pt) (pss_one (ps_ret (pv 9))) (pss_nil))))) (pss_one (ps_ret (pe_op op_addA (pe_op op_addA (pe_int) (pv 2)) (pv 6)))))))), rd__law_steered T vs H Q E h⟩
theorem ok__law_row {f : Addr} {fd : FuncData} (T : Txt K mg) (F : FunD K "_law_row" "_law_row" (defArgs s__law_row) (defBody s__law_row) (defScope s__law_row) [] [] f fd) (c__law_moved : Cal P w K mg base 1 "_law_moved" ["book", "node"] (sp13__law_moved K)) (c__law_operation : Cal P w K mg base 1 "_law_operation" ["book", "node"] (sp__law_operation K)) (c__law_path : Cal P w K mg base 2 "_law_path" ["purse", "wide"] (sp12__law_path K)) (c__law_steered : Cal P w K mg base 3 "_law_steered" ["purse", "book", "shift", "word", "stop"] (sp12__law_steered K)) (c__law_take : Cal P w K mg base 1 "_law_take" ["purse", "many"] (sp13__law_take K)) (c__law_whole : Cal P w K mg base 1 "_law_whole" ["size"] (sp13__law_whole K)) : FnOk P w K mg base (L2N.CX P w) 4 f fd ["purse", "size", "shift", "many", "word"] (sp12__law_row K) :=
  F.ok sc__law_row (len__law_row K) fun cdv A outer s H vs Q E hr h => ⟨t__law_row K E, pss_cons (ps_set (i := 5) sc__law_row.nd rfl (by first | exact Or.inl rfl | exact Or.inr rfl) (pe_cl c__law_whole hr (by decide) (pat_of (W := fun cls d _ H => E cls d H) (L2N.takes_of rfl rfl rfl rfl)) (pa_cons (pv 1) (pa_nil)))) (pss_cons (ps_set (i := 6) sc__law_row.nd rfl (by first | exact Or.inl rfl | exact Or.inr rfl) (pe_lst (pa_nil))) (pss_cons (ps_set (i := 7) sc__law_row.nd rfl (by first | exact Or.inl rfl | exact Or.inr rfl) (pe_cl c__law_take hr (by decide) (pat_of (W := fun cls d _ H => E cls d H) (L2N.takes_of rfl rfl rfl rfl)) (pa_cons (pv 0) (pa_cons (pe_int) (pa_nil))))) (pss_cons (ps_set (i := 8) sc__law_row.nd rfl (by first | exact Or.inl rfl | exact Or.inr rfl) (pe_ix ix_seq (pe_lst (pa_cons (pe_str) (pa_cons (pe_str) (pa_cons (pe_str) (pa_cons (pe_str) (pa_nil)))))) (pe_cl c__law_take hr (by decide) (pat_of (W := fun cls d _ H => E cls d H) (L2N.takes_of rfl rfl rfl rfl)) (pa_cons (pv 0) (pa_cons (pe_int) (pa_nil)))) (fun _ _ => rfl))) (pss_cons (ps_set (i := 9) sc__law_row.nd rfl (by first | exact Or.inl rfl | exact Or.inr rfl) (pe_cl c__law_path hr (by decide) (pat_of (W := fun cls d _ H => E cls d H) (L2N.takes_of rfl rfl rfl rfl)) (pa_cons (pv 0) (pa_cons (pe_callB (call_min2A rfl) (by rfl) T.b_min (by decide +kernel) (pa_cons (pv 1) (pa_cons (pe_int) (pa_nil)))) (pa_nil))))) (pss_cons (ps_for (passes_of rfl) rfl (pi_range1 rfl T.b_range (pa_cons (pe_callB (call_max2A rfl) (by rfl) T.b_max (by decide +kernel) (pa_cons (pv 3) (pa_cons (pe_callB call_lenA (by rfl) T.b_len (by decide +kernel) (pa_cons (pv 9) (pa_nil))) (pa_nil)))) (pa_nil))) (pg_name (i := 10) sc__law_row.nd rfl (by first | exact Or.inl rfl | exact Or.inr rfl)) (pss_one (ps_if (pt_cmpR op_gt (pv 1) (pe_int) (nomark _)) (pss_cons (ps_set (i := 11) sc__law_row.nd rfl (by first | exact Or.inl rfl | exact Or.inr rfl) (pe_str)) (pss_cons (ps_if (pt_cmpR op_ge (pv 10) (pv 7) (nomark _)) (pss_one (ps_set (i := 11) sc__law_row.nd rfl (by first | exact Or.inl rfl | exact Or.inr rfl) (pv 8))) (pss_nil)) (pss_cons (ps_if (pt_cmpR op_lt (pv 10) (pe_callB call_lenA (by rfl) T.b_len (by decide +kernel) (pa_cons (pv 9) (pa_nil))) (nomark _)) (pss_one (ps_set (i := 12) sc__law_row.nd rfl (by first | exact Or.inl rfl | exact Or.inr rfl) (pe_op op_addA (pv 2) (pe_ix ix_seq (pv 9) (pv 10) (fun _ _ => rfl))))) (pss_one (ps_set (i := 12) sc__law_row.nd rfl (by first | exact Or.inl rfl | exact Or.inr rfl) (pe_cl c__law_steered hr (by decide) (pat_of (W := fun cls d _ H => E cls d H) (L2N.takes_of rfl rfl rfl rfl)) (pa_cons (pv 0) (pa_cons (pv 5) (pa_cons (pv 2) (pa_cons (pv 4) (pa_cons (pv 11) (pa_nil)))))))))) (pss_cons (ps_expr (pe_bm PySem.F.plainAttrs_list PySem.F.slot_list_append PySem.F.type_list_append mt_append (pv 6) (pa_cons (pe_cl c__law_operation hr (by decide) (pat_of (W := fun cls d _ H => E cls d H) (L2N.takes_of rfl rfl rfl rfl)) (pa_cons (pv 5) (pa_cons (pv 12) (pa_nil)))) (pa_nil)))) (pss_one (ps_set (i := 5) sc__law_row.nd rfl (by first | exact Or.inl rfl | exact Or.inr rfl) (pe_cl c__law_moved hr (by decide) (pat_of (W := fun cls d _ H => E cls d H) (L2N.takes_of rfl rfl rfl rfl)) (pa_cons (pv 5) (pa_cons (pv 12) (pa_nil)))))))))) (pss_nil)))) (pss_one (ps_ret (pv 6)))))))), rd__law_row T vs H Q E h⟩
theorem ok__law_spoilt {f : Addr} {fd : FuncData} (T : Txt K mg) (F : FunD K "_law_spoilt" "_law_spoilt" (defArgs s__law_spoilt) (defBody s__law_spoilt) (defScope s__law_spoilt) [] [] f fd) (c__law_take : Cal P w K mg base 1 "_law_take" ["purse", "many"] (sp13__law_take K)) : FnOk P w K mg base (L2N.CX P w) 2 f fd ["purse", "size", "row"] (sp12__law_spoilt K) :=
  F.ok sc__law_spoilt (len__law_spoilt K) fun cdv A outer s H vs Q E hr h => ⟨t__law_spoilt K E, pss_cons (ps_set (i := 3) sc__law_spoilt.nd rfl (by first | exact Or.inl rfl | exact Or.inr rfl) (pe_cl c__law_take hr (by decide) (pat_of (W := fun cls d _ H => E cls d H) (L2N.takes_of rfl rfl rfl rfl)) (pa_cons (pv 0) (pa_cons (pe_op op_addA (pe_callB call_lenA (by rfl) T.b_len (by decide +kernel) (pa_cons (pv 2) (pa_nil))) (pe_int)) (pa_nil))))) (pss_cons (ps_set (i := 4) sc__law_spoilt.nd rfl (by first | exact Or.inl rfl | exact Or.inr rfl) (pe_op op_addA (pe_op op_addA (pv 1) (pe_int)) (pe_cl c__law_take hr (by decide) (pat_of (W := fun cls d _ H => E cls d H) (L2N.takes_of rfl rfl rfl rfl)) (pa_cons (pv 0) (pa_cons (pe_int) (pa_nil)))))) (pss_cons (ps_set (i := 5) sc__law_spoilt.nd rfl (by first | exact Or.inl rfl | exact Or.inr rfl) (pe_cl c__law_take hr (by decide) (pat_of (W := fun cls d _ H => E cls d H) (L2N.takes_of rfl rfl rfl rfl)) (pa_cons (pv 0) (pa_cons (pe_int) (pa_nil))))) (pss_cons (ps_set (i := 6) sc__law_spoilt.nd rfl (by first | exact Or.inl rfl | exact Or.inr rfl) (pe_ix ix_seq (pe_lst (pa_cons (pe_int) (pa_cons (pv 4) (pa_cons (pe_un un_neg (pv 4)) (pa_cons (pe_op op_addA (pe_op op_pow (pe_int) (pe_int)) (pv 4)) (pa_nil)))))) (pe_op op_mod (pv 5) (pe_int)) (fun _ _ => rfl))) (pss_cons (ps_if ((pw_and (pt_cmpR op_gt (pv 5) (pe_int) (nomark _)) (pw_and1 (pt_cmpR op_gt (pv 1) (pe_int) (nomark _)))).pt) (pss_cons (ps_set (i := 6) sc__law_spoilt.nd rfl (by first | exact Or.inl rfl | exact Or.inr rfl) (pe_op op_addA (pe_int) (pe_cl c__law_take hr (by decide) (pat_of (W := fun cls d _ H => E cls d H) (L2N.takes_of rfl rfl rfl rfl)) (pa_cons (pv 0) (pa_cons (pv 1) (pa_nil)))))) (pss_one (ps_if (pt_cmpR op_gt (pv 3) (pe_int) (nomark _)) (pss_one (ps_set (i := 6) sc__law_spoilt.nd rfl (by first | exact Or.inl rfl | exact Or.inr rfl) (pe_ix ix_seq (pv 2) (pe_op op_sub (pv 3) (pe_int)) (fun _ _ => rfl)))) (pss_nil)))) (pss_nil)) (pss_one (ps_ret (pe_op op_addA (pe_op op_addA (pe_slice sl_list (pv 2) (po_none) (po_some (pv 3))) (pe_lst (pa_cons (pv 6) (pa_nil)))) (pe_slice sl_list (pv 2) (po_some (pv 3)) (po_none))))))))), rd__law_spoilt T vs H Q E h⟩
theorem ok__law_run {f : Addr} {fd : FuncData} (T : Txt K mg) (F : FunD K "_law_run" "_law_run" (defArgs s__law_run) (defBody s__law_run) (defScope s__law_run) [] [] f fd) (c__law_row : Cal P w K mg base 4 "_law_row" ["purse", "size", "shift", "many", "word"] (sp12__law_row K)) (c__law_spoilt : Cal P w K mg base 2 "_law_spoilt" ["purse", "size", "row"] (sp12__law_spoilt K)) (c__law_take : Cal P w K mg base 1 "_law_take" ["purse", "many"] (sp13__law_take K)) (c__law_words : Cal P w K mg base 1 "_law_words" [] (sp13__law_words K)) : FnOk P w K mg base (L2N.CX P w) 5 f fd ["purse"] (sp12__law_run K) :=
  F.ok sc__law_run (len__law_run K) fun cdv A outer s H vs Q E hr h => ⟨t__law_run K E, pss_cons (ps_set (i := 1) sc__law_run.nd rfl (by first | exact Or.inl rfl | exact Or.inr rfl) (pe_cmpR (op_eqA hr) (pe_cl c__law_take hr (by decide) (pat_of (W := fun cls d _ H => E cls d H) (L2N.takes_of rfl rfl rfl rfl)) (pa_cons (pv 0) (pa_cons (pe_int) (pa_nil)))) (pe_int) (nomark _))) (pss_cons (ps_set (i := 2) sc__law_run.nd rfl (by first | exact Or.inl rfl | exact Or.inr rfl) (pe_ix ix_seq (pe_lst (pa_cons (pe_int) (pa_cons (pe_int) (pa_cons (pe_int) (pa_cons (pe_int) (pa_cons (pe_int) (pa_cons (pe_int) (pa_cons (pe_int) (pa_cons (pe_int) (pa_cons (pe_int) (pa_cons (pe_int) (pa_nil)))))))))))) (pe_cl c__law_take hr (by decide) (pat_of (W := fun cls d _ H => E cls d H) (L2N.takes_of rfl rfl rfl rfl)) (pa_cons (pv 0) (pa_cons (pe_int) (pa_nil)))) (fun _ _ => rfl))) (pss_cons (ps_set (i := 3) sc__law_run.nd rfl (by first | exact Or.inl rfl | exact Or.inr rfl) (pe_cl c__law_take hr (by decide) (pat_of (W := fun cls d _ H => E cls d H) (L2N.takes_of rfl rfl rfl rfl)) (pa_cons (pv 0) (pa_cons (pe_int) (pa_nil))))) (pss_cons (ps_if (pt_val (pv 1)) (pss_cons (ps_set (i := 2) sc__law_run.nd rfl (by first | exact Or.inl rfl | exact Or.inr rfl) (pe_op op_addA (pe_int) (pe_cl c__law_take hr (by decide) (pat_of (W := fun cls d _ H => E cls d H) (L2N.takes_of rfl rfl rfl rfl)) (pa_cons (pv 0) (pa_cons (pe_int) (pa_nil)))))) (pss_one (ps_set (i := 3) sc__law_run.nd rfl (by first | exact Or.inl rfl | exact Or.inr rfl) (pe_op op_addA (pv 3) (pe_cl c__law_take hr (by decide) (pat_of (W := fun cls d _ H => E cls d H) (L2N.takes_of rfl rfl rfl rfl)) (pa_cons (pv 0) (pa_cons (pe_int) (pa_nil)))))))) (pss_nil)) (pss_cons (ps_set (i := 4) sc__law_run.nd rfl (by first | exact Or.inl rfl | exact Or.inr rfl) (pe_cl c__law_take hr (by decide) (pat_of (W := fun cls d _ H => E cls d H) (L2N.takes_of rfl rfl rfl rfl)) (pa_cons (pv 0) (pa_cons (pe_callB (call_max2A rfl) (by rfl) T.b_max (by decide +kernel) (pa_cons (pe_int) (pa_cons (pe_op op_sub (pv 2) (pe_int)) (pa_nil)))) (pa_nil))))) (pss_cons (ps_set (i := 5) sc__law_run.nd rfl (by first | exact Or.inl rfl | exact Or.inr rfl) (pe_cl c__law_row hr (by decide) (pat_of (W := fun cls d _ H => E cls d H) (L2N.takes_of rfl rfl rfl rfl)) (pa_cons (pv 0) (pa_cons (pv 2) (pa_cons (pv 4) (pa_cons (pv 3) (pa_cons (pe_ix ix_seq (pe_cl0 c__law_words hr (by decide) (pat_of (W := fun cls d _ H => E cls d H) (L2N.takes_of rfl rfl rfl rfl))) (pe_cl c__law_take hr (by decide) (pat_of (W := fun cls d _ H => E cls d H) (L2N.takes_of rfl rfl rfl rfl)) (pa_cons (pv 0) (pa_cons (pe_int) (pa_nil)))) (fun _ _ => rfl)) (pa_nil)))))))) (pss_cons (ps_if (pt_cmpR (op_eqA hr) (pe_cl c__law_take hr (by decide) (pat_of (W := fun cls d _ H => E cls d H) (L2N.takes_of rfl rfl rfl rfl)) (pa_cons (pv 0) (pa_cons (pe_int) (pa_nil)))) (pe_int) (nomark _)) (pss_cons (ps_set (i := 5) sc__law_run.nd rfl (by first | exact Or.inl rfl | exact Or.inr rfl) (pe_cl c__law_spoilt hr (by decide) (pat_of (W := fun cls d _ H => E cls d H) (L2N.takes_of rfl rfl rfl rfl)) (pa_cons (pv 0) (pa_cons (pv 2) (pa_cons (pv 5) (pa_nil)))))) (pss_one (ps_if (pt_cmpR (op_eqA hr) (pe_cl c__law_take hr (by decide) (pat_of (W := fun cls d _ H => E cls d H) (L2N.takes_of rfl rfl rfl rfl)) (pa_cons (pv 0) (pa_cons (pe_int) (pa_nil)))) (pe_int) (nomark _)) (pss_one (ps_set (i := 5) sc__law_run.nd rfl (by first | exact Or.inl rfl | exact Or.inr rfl) (pe_cl c__law_spoilt hr (by decide) (pat_of (W := fun cls d _ H => E cls d H) (L2N.takes_of rfl rfl rfl rfl)) (pa_cons (pv 0) (pa_cons (pv 2) (pa_cons (pv 5) (pa_nil))))))) (pss_nil)))) (pss_nil)) (pss_one (ps_ret (pe_tup (pa_cons (pv 2) (pa_cons (pv 5) (pa_nil)))))))))))), rd__law_run T vs H Q E h⟩
theorem ok_law {f : Addr} {fd : FuncData} (T : Txt K mg) (F : FunD K "law" "law" (defArgs s_law) (defBody s_law) (defScope s_law) [] [] f fd) (c__law_headless : Cal P w K mg base 12 "_law_headless" ["way", "size", "row", "text"] (sp12__law_headless K)) (c__law_judged : Cal P w K mg base 14 "_law_judged" ["size", "row"] (sp12__law_judged K)) (c__law_purse : Cal P w K mg base 1 "_law_purse" ["script"] (sp13__law_purse K)) (c__law_run : Cal P w K mg base 5 "_law_run" ["purse"] (sp12__law_run K)) (c__law_take : Cal P w K mg base 1 "_law_take" ["purse", "many"] (sp13__law_take K)) (c__law_words : Cal P w K mg base 1 "_law_words" [] (sp13__law_words K)) : FnOk P w K mg base (L2N.CX P w) 15 f fd ["script"] (sp_law K) :=
  F.ok sc_law (len_law K) fun cdv A outer s H vs Q E hr h => ⟨t_law K E, pss_cons (ps_set (i := 1) sc_law.nd rfl (by first | exact Or.inl rfl | exact Or.inr rfl) (pe_cl c__law_purse hr (by decide) (pat_of (W := fun cls d _ H => E cls d H) (L2N.takes_of rfl rfl rfl rfl)) (pa_cons (pv 0) (pa_nil)))) (pss_cons (ps_for (passes_of rfl) rfl (pi_range1 rfl T.b_range (pa_cons (pe_int) (pa_nil))) (pg_name (i := 2) sc_law.nd rfl (by first | exact Or.inl rfl | exact Or.inr rfl)) (pss_cons (ps_set (i := 3) sc_law.nd rfl (by first | exact Or.inl rfl | exact Or.inr rfl) (pe_cl c__law_run hr (by decide) (pat_of (W := fun cls d _ H => E cls d H) (L2N.takes_of rfl rfl rfl rfl)) (pa_cons (pv 1) (pa_nil)))) (pss_cons (ps_set (i := 4) sc_law.nd rfl (by first | exact Or.inl rfl | exact Or.inr rfl) (pe_ix ix_seq (pv 3) (pe_int) (fun _ _ => rfl))) (pss_cons (ps_set (i := 5) sc_law.nd rfl (by first | exact Or.inl rfl | exact Or.inr rfl) (pe_ix ix_seq (pv 3) (pe_int) (fun _ _ => rfl))) (pss_cons (ps_if (pt_not (pt_val (pe_cl c__law_judged hr (by decide) (pat_of (W := fun cls d _ H => E cls d H) (L2N.takes_of rfl rfl rfl rfl)) (pa_cons (pv 4) (pa_cons (pv 5) (pa_nil)))))) (pss_one (ps_ret (pe_bl))) (pss_nil)) (pss_cons (ps_set (i := 6) sc_law.nd rfl (by first | exact Or.inl rfl | exact Or.inr rfl) (pe_ix ix_seq (pe_cl0 c__law_words hr (by decide) (pat_of (W := fun cls d _ H => E cls d H) (L2N.takes_of rfl rfl rfl rfl))) (pe_cl c__law_take hr (by decide) (pat_of (W := fun cls d _ H => E cls d H) (L2N.takes_of rfl rfl rfl rfl)) (pa_cons (pv 1) (pa_cons (pe_int) (pa_nil)))) (fun _ _ => rfl))) (pss_cons (ps_set (i := 7) sc_law.nd rfl (by first | exact Or.inl rfl | exact Or.inr rfl) (pe_ix ix_seq (pe_lst (pa_cons (pe_str) (pa_cons (pe_str) (pa_cons (pe_str) (pa_cons (pe_str) (pa_cons (pe_str) (pa_cons (pe_str) (pa_nil)))))))) (pe_cl c__law_take hr (by decide) (pat_of (W := fun cls d _ H => E cls d H) (L2N.takes_of rfl rfl rfl rfl)) (pa_cons (pv 1) (pa_cons (pe_int) (pa_nil)))) (fun _ _ => rfl))) (pss_cons (ps_set (i := 8) sc_law.nd rfl (by first | exact Or.inl rfl | exact Or.inr rfl) (pe_ix ix_seq (pe_lst (pa_cons (pe_op op_sub (pe_un un_neg (pe_int)) (pe_cl c__law_take hr (by decide) (pat_of (W := fun cls d _ H => E cls d H) (L2N.takes_of rfl rfl rfl rfl)) (pa_cons (pv 1) (pa_cons (pe_int) (pa_nil))))) (pa_cons (pe_op op_addA (pe_int) (pe_cl c__law_take hr (by decide) (pat_of (W := fun cls d _ H => E cls d H) (L2N.takes_of rfl rfl rfl rfl)) (pa_cons (pv 1) (pa_cons (pe_int) (pa_nil))))) (pa_nil)))) (pe_cl c__law_take hr (by decide) (pat_of (W := fun cls d _ H => E cls d H) (L2N.takes_of rfl rfl rfl rfl)) (pa_cons (pv 1) (pa_cons (pe_int) (pa_nil)))) (fun _ _ => rfl))) (pss_one (ps_for (passes_of rfl) rfl (pi_range1 rfl T.b_range (pa_cons (pe_int) (pa_nil))) (pg_name (i := 9) sc_law.nd rfl (by first | exact Or.inl rfl | exact Or.inr rfl)) (pss_cons (ps_if (pt_cmpR (op_neA hr) (pe_cl c__law_headless hr (by decide) (pat_of (W := fun cls d _ H => E cls d H) (L2N.takes_of rfl rfl rfl rfl)) (pa_cons (pv 9) (pa_cons (pv 8) (pa_cons (pv 5) (pa_cons (pv 6) (pa_nil)))))) (pe_tup (pa_cons (pe_str) (pa_cons (pe_bl) (pa_cons (pv 8) (pa_nil))))) (nomark _)) (pss_one (ps_ret (pe_bl))) (pss_nil)) (pss_cons (ps_if (pt_cmpR (op_neA hr) (pe_cl c__law_headless hr (by decide) (pat_of (W := fun cls d _ H => E cls d H) (L2N.takes_of rfl rfl rfl rfl)) (pa_cons (pv 9) (pa_cons (pv 8) (pa_cons (pv 5) (pa_cons (pv 7) (pa_nil)))))) (pe_tup (pa_cons (pe_str) (pa_cons (pe_bl) (pa_cons (pv 8) (pa_nil))))) (nomark _)) (pss_one (ps_ret (pe_bl))) (pss_nil)) (pss_one (ps_if (pt_cmpR (op_neA hr) (pe_cl c__law_headless hr (by decide) (pat_of (W := fun cls d _ H => E cls d H) (L2N.takes_of rfl rfl rfl rfl)) (pa_cons (pv 9) (pa_cons (pv 4) (pa_cons (pv 5) (pa_cons (pv 7) (pa_nil)))))) (pe_tup (pa_cons (pe_str) (pa_cons (pe_bl) (pa_cons (pv 7) (pa_nil))))) (nomark _)) (pss_one (ps_ret (pe_bl))) (pss_nil))))))))))))))) (pss_one (ps_ret (pe_bl)))), rd_law T vs H Q E h⟩
end
theorem okH__law_is {P : Program} {w : World} {K : PySem.W.Frag} {mg : Str → Option Value} {base : Heap} {f : Addr} {fd : FuncData} (T : Txt K mg) (F : FunD K "_law_is" "_law_is" (defArgs s__law_is) (defBody s__law_is) (defScope s__law_is) [] [] f fd)  : L2H.FnH P w K mg base (L2N.CX P w) 1 f fd ["told", "due"] (sp13__law_is K) :=
  okH F sc__law_is (len__law_is K) fun cdv A outer s H vs Q E p hot hr h => ⟨t__law_is K E, pss_one (ps_ret (pe_and (pe_callB call_isi (by rfl) T.b_isinstance (by decide +kernel) (pa_cons (pv 0) (pa_cons (pe_ty "int" T.b_int (by decide +kernel)) (pa_nil)))) (pe_and (pe_not (pe_callB call_isi (by rfl) T.b_isinstance (by decide +kernel) (pa_cons (pv 0) (pa_cons (pe_ty "bool" T.b_bool (by decide +kernel)) (pa_nil))))) (pe_one (pe_cmpR (op_eqAH (hr)) (pv 0) (pv 1) (nomark _)))))), rd__law_is T vs H Q E h⟩
theorem okH__law_log_error {P : Program} {w : World} {K : PySem.W.Frag} {mg : Str → Option Value} {base : Heap} {f : Addr} {fd : FuncData} (T : Txt K mg) (F : FunD K "_law_log_error" "_law_log_error" (defArgs s__law_log_error) (defBody s__law_log_error) (defScope s__law_log_error) [] [] f fd) (h__law_is : CalH P w K mg base 1 "_law_is" ["told", "due"] (sp13__law_is K)) : FnX P w K mg base (L2N.CX P w) 2 f fd ["raised", "operation", "index"] (sp12__law_log_error K) :=
  okX F sc__law_log_error (len__law_log_error K) fun cdv A outer s H vs Q E p cls d hot hz hf hr h => ⟨t__law_log_error K p.1 cls d E, pss_cons (ps_set (i := 3) sc__law_log_error.nd rfl (by first | exact Or.inl rfl | exact Or.inr rfl) (pe_and (pe_callB (call_isP (List.mem_cons_self) hz.zc hf) (by rfl) T.b_isinstance (by decide +kernel) (pa_cons (pv 0) (pa_cons (pe_own T.g_LogError) (pa_nil)))) (pe_and (pe_callB (call_isP (List.mem_cons_self) hz.zc hf) (by rfl) T.b_isinstance (by decide +kernel) (pa_cons (pv 0) (pa_cons (pe_own T.g_LinkError) (pa_nil)))) (pe_one (pe_callB (call_isP (List.mem_cons_self) hz.zc hf) (by rfl) T.b_isinstance (by decide +kernel) (pa_cons (pv 0) (pa_cons (pe_ty "ValueError" T.b_ValueError (by decide +kernel)) (pa_nil)))))))) (pss_one (ps_ret (pe_and (pv 3) (pe_and (pe_clH h__law_is (hr) (by decide) (hotC hot) pat_no (pa_cons (pv 1) (pa_cons (pv 1) (pa_nil)))) (pe_one (pe_clH h__law_is (hr) (by decide) (hotC hot) pat_no (pa_cons (pv 2) (pa_cons (pv 2) (pa_nil))))))))), rd__law_log_error T p.1 cls d vs H Q E h⟩
end G
set_option Elab.async false
set_option linter.all false
set_option maxRecDepth 100000
set_option maxHeartbeats 4000000
namespace G
open PySem PySem.Spec PyProof.Rows L2
theorem facts {P : Program} {w : World} {K : PySem.W.Frag} {h : Heap} {mg : Str → Option Value} {f : Addr} (X : K.In h) (G : h.Ns mainGlobals mg) (hfa : mg ("law" : Str) = some (.ref f)) (c : SaysS chkL fnL fsL K) (hfile : ((P.main.file : Str) == PySem.Challenge.pw_latelink_k12_whole_first_refusals.main.file) = true) (htop : (P.main.scope.names.lookup ("super" : Str)).isSome = false) :
    ∃ fd : FuncData, (∀ (s : Shared) (v : Value), BindsTo s fd ⟨[v], []⟩ [("script", v)]) ∧ ∀ base : Heap, K.In base → base.Ns mainGlobals mg → FnOk P w K mg base (L2N.CX P w) 15 f fd ["script"] (sp_law K) := by
  have T := txt_of X G c.toY
  obtain ⟨fd_Links_is_out, F_Links_is_out⟩ := c.toY.def_ 0 (d := d_Links_is_out) rfl
  obtain ⟨fd_Links_left, F_Links_left⟩ := c.toY.def_ 1 (d := d_Links_left) rfl
  obtain ⟨fd_Links_right, F_Links_right⟩ := c.toY.def_ 2 (d := d_Links_right) rfl
  obtain ⟨fd__has_fitting_neighbours, F__has_fitting_neighbours⟩ := c.toY.def_ 3 (d := d__has_fitting_neighbours) rfl
  obtain ⟨fd_Links_is_legal, F_Links_is_legal⟩ := c.toY.def_ 4 (d := d_Links_is_legal) rfl
  obtain ⟨fd_check_operation, F_check_operation⟩ := c.toY.def_ 5 (d := d_check_operation) rfl
  obtain ⟨fd_Links_check, F_Links_check⟩ := c.toY.def_ 6 (d := d_Links_check) rfl
  obtain ⟨fd_foreign_writes, F_foreign_writes⟩ := c.toY.def_ 7 (d := d_foreign_writes) rfl
  obtain ⟨fd_left_to, F_left_to⟩ := c.toY.def_ 8 (d := d_left_to) rfl
  obtain ⟨fd__leaves_a_gap_to_a_holder_that_is_in, F__leaves_a_gap_to_a_holder_that_is_in⟩ := c.toY.def_ 9 (d := d__leaves_a_gap_to_a_holder_that_is_in) rfl
  obtain ⟨fd_check_gap, F_check_gap⟩ := c.toY.def_ 10 (d := d_check_gap) rfl
  obtain ⟨fd_gap_state, F_gap_state⟩ := c.toY.def_ 11 (d := d_gap_state) rfl
  obtain ⟨fd__loses_a_gap, F__loses_a_gap⟩ := c.toY.def_ 12 (d := d__loses_a_gap) rfl
  obtain ⟨fd_FreeMode_refusal, F_FreeMode_refusal⟩ := c.toY.def_ 13 (d := d_FreeMode_refusal) rfl
  obtain ⟨fd_check_size, F_check_size⟩ := c.toY.def_ 14 (d := d_check_size) rfl
  obtain ⟨fd_Links___init__, F_Links___init__⟩ := c.toY.def_ 15 (d := d_Links___init__) rfl
  obtain ⟨fd_Links_apply_at, F_Links_apply_at⟩ := c.toY.def_ 16 (d := d_Links_apply_at) rfl
  obtain ⟨fd_Links_apply, F_Links_apply⟩ := c.toY.def_ 17 (d := d_Links_apply) rfl
  obtain ⟨fd_all_modes, F_all_modes⟩ := c.toY.def_ 18 (d := d_all_modes) rfl
  obtain ⟨fd_mode_named, F_mode_named⟩ := c.toY.def_ 19 (d := d_mode_named) rfl
  obtain ⟨fd_Links_copy, F_Links_copy⟩ := c.toY.def_ 20 (d := d_Links_copy) rfl
  obtain ⟨fd_play, F_play⟩ := c.toY.def_ 21 (d := d_play) rfl
  obtain ⟨fd_replay, F_replay⟩ := c.toY.def_ 22 (d := d_replay) rfl
  obtain ⟨fd_first_refusal, F_first_refusal⟩ := c.toY.def_ 23 (d := d_first_refusal) rfl
  obtain ⟨fd_check_admitted, F_check_admitted⟩ := c.toY.def_ 24 (d := d_check_admitted) rfl
  obtain ⟨fd_replay_in, F_replay_in⟩ := c.toY.def_ 25 (d := d_replay_in) rfl
  obtain ⟨fd__law_headless, F__law_headless⟩ := c.toY.def_ 26 (d := d__law_headless) rfl
  obtain ⟨fd__law_dump, F__law_dump⟩ := c.toY.def_ 27 (d := d__law_dump) rfl
  obtain ⟨fd__law_moved, F__law_moved⟩ := c.toY.def_ 28 (d := d__law_moved) rfl
  obtain ⟨fd__law_operation, F__law_operation⟩ := c.toY.def_ 29 (d := d__law_operation) rfl
  obtain ⟨fd__law_lost, F__law_lost⟩ := c.toY.def_ 30 (d := d__law_lost) rfl
  obtain ⟨fd__law_refusing, F__law_refusing⟩ := c.toY.def_ 31 (d := d__law_refusing) rfl
  obtain ⟨fd__law_whole, F__law_whole⟩ := c.toY.def_ 32 (d := d__law_whole) rfl
  obtain ⟨fd__law_fate, F__law_fate⟩ := c.toY.def_ 33 (d := d__law_fate) rfl
  obtain ⟨fd__law_first, F__law_first⟩ := c.toY.def_ 34 (d := d__law_first) rfl
  obtain ⟨fd_Links_outs, F_Links_outs⟩ := c.toY.def_ 35 (d := d_Links_outs) rfl
  obtain ⟨fd__joined, F__joined⟩ := c.toY.def_ 36 (d := d__joined) rfl
  obtain ⟨fd_dump_of, F_dump_of⟩ := c.toY.def_ 37 (d := d_dump_of) rfl
  obtain ⟨fd_Links_dump, F_Links_dump⟩ := c.toY.def_ 38 (d := d_Links_dump) rfl
  obtain ⟨fd__law_is, F__law_is⟩ := c.toY.def_ 39 (d := d__law_is) rfl
  obtain ⟨fd__law_log_error, F__law_log_error⟩ := c.toY.def_ 40 (d := d__law_log_error) rfl
  obtain ⟨fd__law_replayed, F__law_replayed⟩ := c.toY.def_ 41 (d := d__law_replayed) rfl
  obtain ⟨fd__law_plain, F__law_plain⟩ := c.toY.def_ 42 (d := d__law_plain) rfl
  obtain ⟨fd__law_told, F__law_told⟩ := c.toY.def_ 43 (d := d__law_told) rfl
  obtain ⟨fd__law_words, F__law_words⟩ := c.toY.def_ 44 (d := d__law_words) rfl
  obtain ⟨fd__law_judged, F__law_judged⟩ := c.toY.def_ 45 (d := d__law_judged) rfl
  obtain ⟨fd__law_purse, F__law_purse⟩ := c.toY.def_ 46 (d := d__law_purse) rfl
  obtain ⟨fd__law_take, F__law_take⟩ := c.toY.def_ 47 (d := d__law_take) rfl
  obtain ⟨fd__law_path, F__law_path⟩ := c.toY.def_ 48 (d := d__law_path) rfl
  obtain ⟨fd__law_steered, F__law_steered⟩ := c.toY.def_ 49 (d := d__law_steered) rfl
  obtain ⟨fd__law_row, F__law_row⟩ := c.toY.def_ 50 (d := d__law_row) rfl
  obtain ⟨fd__law_spoilt, F__law_spoilt⟩ := c.toY.def_ 51 (d := d__law_spoilt) rfl
  obtain ⟨fd__law_run, F__law_run⟩ := c.toY.def_ 52 (d := d__law_run) rfl
  obtain ⟨fd_law, F_law⟩ := c.toY.def_ 53 (d := d_law) rfl
  obtain ⟨fd_BadGap___init__, F_BadGap___init__⟩ := c.toY.def_ 54 (d := d_BadGap___init__) rfl
  obtain ⟨fd_BadMode___init__, F_BadMode___init__⟩ := c.toY.def_ 55 (d := d_BadMode___init__) rfl
  obtain ⟨fd_BadNode___init__, F_BadNode___init__⟩ := c.toY.def_ 56 (d := d_BadNode___init__) rfl
  obtain ⟨fd_BadSize___init__, F_BadSize___init__⟩ := c.toY.def_ 57 (d := d_BadSize___init__) rfl
  obtain ⟨fd_LogError___init__, F_LogError___init__⟩ := c.toY.def_ 58 (d := d_LogError___init__) rfl
  obtain ⟨fd_Refused___init__, F_Refused___init__⟩ := c.toY.def_ 59 (d := d_Refused___init__) rfl
  obtain ⟨fd_SavingMode_refusal, F_SavingMode_refusal⟩ := c.sup P 0 (d := d_SavingMode_refusal) hfile rfl
  obtain ⟨fd_GuardedMode_refusal, F_GuardedMode_refusal⟩ := c.sup P 1 (d := d_GuardedMode_refusal) hfile rfl
  obtain ⟨fd_CheckedMode_refusal, F_CheckedMode_refusal⟩ := c.sup P 2 (d := d_CheckedMode_refusal) hfile rfl
  have e := hfa.symm.trans T.gf_law
  cases e
  have bA := FunD.bindsA (ps := ["script"]) F_law fun _ _ _ _ _ _ us hl => match us, hl with | [_], _ => rfl
  refine ⟨fd_law, fun s v => bA s [v] rfl, fun base _ _ => ?_⟩
  have i_BadGap : FnOk P w K mg base (L2N.CX P w) 1 (He.ma K (He.ga K "BadGap") "__init__") fd_BadGap___init__ ["self", "gap"] (spIn K ["gap"]) := FunD.ok F_BadGap___init__ sc_BadGap___init__ (spIn_len rfl) fun cdv A outer s H vs Q E hr h => ⟨_, pss_one (ps_ost (pv 0) (pv 1)), ini1 rfl h⟩
  have i_BadMode : FnOk P w K mg base (L2N.CX P w) 1 (He.ma K (He.ga K "BadMode") "__init__") fd_BadMode___init__ ["self", "name"] (spIn K ["name"]) := FunD.ok F_BadMode___init__ sc_BadMode___init__ (spIn_len rfl) fun cdv A outer s H vs Q E hr h => ⟨_, pss_one (ps_ost (pv 0) (pv 1)), ini1 rfl h⟩
  have i_BadNode : FnOk P w K mg base (L2N.CX P w) 1 (He.ma K (He.ga K "BadNode") "__init__") fd_BadNode___init__ ["self", "node"] (spIn K ["node"]) := FunD.ok F_BadNode___init__ sc_BadNode___init__ (spIn_len rfl) fun cdv A outer s H vs Q E hr h => ⟨_, pss_one (ps_ost (pv 0) (pv 1)), ini1 rfl h⟩
  have i_BadSize : FnOk P w K mg base (L2N.CX P w) 1 (He.ma K (He.ga K "BadSize") "__init__") fd_BadSize___init__ ["self", "size"] (spIn K ["size"]) := FunD.ok F_BadSize___init__ sc_BadSize___init__ (spIn_len rfl) fun cdv A outer s H vs Q E hr h => ⟨_, pss_one (ps_ost (pv 0) (pv 1)), ini1 rfl h⟩
  have i_LogError : FnOk P w K mg base (L2N.CX P w) 1 (He.ma K (He.ga K "LogError") "__init__") fd_LogError___init__ ["self", "operation", "index"] (spIn K ["operation", "index"]) := FunD.ok F_LogError___init__ sc_LogError___init__ (spIn_len rfl) fun cdv A outer s H vs Q E hr h => ⟨_, pss_cons (ps_ost (pv 0) (pv 1)) (pss_one (ps_ost (pv 0) (pv 2))), ini2 rfl h⟩
  have cf_LogError : Cfn P w K mg base 1 (He.ga K "LogError") "__init__" ["self", "operation", "index"] (spIn K ["operation", "index"]) := ⟨_, fd_LogError___init__, i_LogError, T.cf_LogError.1, T.cf_LogError.2, F_LogError___init__.kp, FunD.bindsN (ps := ["self", "operation", "index"]) F_LogError___init__ fun _ _ _ _ _ _ us hl => match us, hl with | [_, _, _], _ => rfl⟩
  have i_Refused : FnOk P w K mg base (L2N.CX P w) 2 (He.ma K (He.ga K "Refused") "__init__") fd_Refused___init__ ["self", "operation", "index", "refusing"] (spIn K ["operation", "index", "refusing"]) := FunD.ok F_Refused___init__ sc_Refused___init__ (spIn_len rfl) fun cdv A outer s H vs Q E hr h => ⟨_, pss_cons (ps_expr (pe_cf (E := fun _ => E) cf_LogError hr (by decide) (pat_of (W := fun cls d _ H => E cls d H) (L2N.takes_of rfl rfl rfl rfl)) (pe_own T.g_LogError) (pa_cons (pv 0) (pa_cons (pv 1) (pa_cons (pv 2) pa_nil))))) (pss_one (ps_ost (pv 0) (pv 3))), ini3b rfl h⟩
  have x_BadGap : ExM P w K mg base 1 "BadGap" (He.ga K "BadGap") ["gap"] := ⟨T.oe_BadGap.1, T.oe_BadGap.2, T.g_BadGap, _, fd_BadGap___init__, ["self", "gap"], i_BadGap, T.in_BadGap.1, T.in_BadGap.2, FunD.bindsN (ps := ["self", "gap"]) F_BadGap___init__ fun _ _ _ _ _ _ us hl => match us, hl with | [_, _], _ => rfl⟩
  have x_BadMode : ExM P w K mg base 1 "BadMode" (He.ga K "BadMode") ["name"] := ⟨T.oe_BadMode.1, T.oe_BadMode.2, T.g_BadMode, _, fd_BadMode___init__, ["self", "name"], i_BadMode, T.in_BadMode.1, T.in_BadMode.2, FunD.bindsN (ps := ["self", "name"]) F_BadMode___init__ fun _ _ _ _ _ _ us hl => match us, hl with | [_, _], _ => rfl⟩
  have x_BadNode : ExM P w K mg base 1 "BadNode" (He.ga K "BadNode") ["node"] := ⟨T.oe_BadNode.1, T.oe_BadNode.2, T.g_BadNode, _, fd_BadNode___init__, ["self", "node"], i_BadNode, T.in_BadNode.1, T.in_BadNode.2, FunD.bindsN (ps := ["self", "node"]) F_BadNode___init__ fun _ _ _ _ _ _ us hl => match us, hl with | [_, _], _ => rfl⟩
  have x_BadOperation : ExM P w K mg base 1 "BadOperation" (He.ga K "BadOperation") ["operation", "index"] := ⟨T.oe_BadOperation.1, T.oe_BadOperation.2, T.g_BadOperation, _, fd_LogError___init__, ["self", "operation", "index"], i_LogError, (T.sm_BadOperation ▸ T.in_BadOperation).1, (T.sm_BadOperation ▸ T.in_BadOperation).2, FunD.bindsN (ps := ["self", "operation", "index"]) F_LogError___init__ fun _ _ _ _ _ _ us hl => match us, hl with | [_, _, _], _ => rfl⟩
  have x_BadSize : ExM P w K mg base 1 "BadSize" (He.ga K "BadSize") ["size"] := ⟨T.oe_BadSize.1, T.oe_BadSize.2, T.g_BadSize, _, fd_BadSize___init__, ["self", "size"], i_BadSize, T.in_BadSize.1, T.in_BadSize.2, FunD.bindsN (ps := ["self", "size"]) F_BadSize___init__ fun _ _ _ _ _ _ us hl => match us, hl with | [_, _], _ => rfl⟩
  have x_Illegal : ExM P w K mg base 1 "Illegal" (He.ga K "Illegal") ["operation", "index"] := ⟨T.oe_Illegal.1, T.oe_Illegal.2, T.g_Illegal, _, fd_LogError___init__, ["self", "operation", "index"], i_LogError, (T.sm_Illegal ▸ T.in_Illegal).1, (T.sm_Illegal ▸ T.in_Illegal).2, FunD.bindsN (ps := ["self", "operation", "index"]) F_LogError___init__ fun _ _ _ _ _ _ us hl => match us, hl with | [_, _, _], _ => rfl⟩
  have x_Refused : ExM P w K mg base 2 "Refused" (He.ga K "Refused") ["operation", "index", "refusing"] := ⟨T.oe_Refused.1, T.oe_Refused.2, T.g_Refused, _, fd_Refused___init__, ["self", "operation", "index", "refusing"], i_Refused, T.in_Refused.1, T.in_Refused.2, FunD.bindsN (ps := ["self", "operation", "index", "refusing"]) F_Refused___init__ fun _ _ _ _ _ _ us hl => match us, hl with | [_, _, _, _], _ => rfl⟩
  have h__law_is : CalH P w K mg base 1 "_law_is" ["told", "due"] (sp13__law_is K) := ⟨_, fd__law_is, okH__law_is T F__law_is , T.gf__law_is, F__law_is.kp, FunD.bindsN (ps := ["told", "due"]) F__law_is fun _ _ _ _ _ _ us hl => match us, hl with | [_, _], _ => rfl⟩
  have h__law_log_error : CalX P w K mg base 2 "_law_log_error" ["raised", "operation", "index"] (sp12__law_log_error K) := ⟨_, fd__law_log_error, okH__law_log_error T F__law_log_error h__law_is, T.gf__law_log_error, F__law_log_error.kp, FunD.bindsN (ps := ["raised", "operation", "index"]) F__law_log_error fun _ _ _ _ _ _ us hl => match us, hl with | [_, _, _], _ => rfl⟩
  have c_Links_is_out : Met P w K mg base 3 (He.ga K "Links") "is_out" ["self", "node"] (sp03_Links_is_out K) := ⟨_, fd_Links_is_out, ok_Links_is_out T F_Links_is_out x_BadNode, T.me_Links_is_out, FunD.bindsN (ps := ["self", "node"]) F_Links_is_out fun _ _ _ _ _ _ us hl => match us, hl with | [_, _], _ => rfl⟩
  have c_Links_left : Met P w K mg base 3 (He.ga K "Links") "left" ["self", "node"] (sp_Links_left K) := ⟨_, fd_Links_left, ok_Links_left T F_Links_left x_BadNode, T.me_Links_left, FunD.bindsN (ps := ["self", "node"]) F_Links_left fun _ _ _ _ _ _ us hl => match us, hl with | [_, _], _ => rfl⟩
  have c_Links_right : Met P w K mg base 3 (He.ga K "Links") "right" ["self", "node"] (sp_Links_right K) := ⟨_, fd_Links_right, ok_Links_right T F_Links_right x_BadNode, T.me_Links_right, FunD.bindsN (ps := ["self", "node"]) F_Links_right fun _ _ _ _ _ _ us hl => match us, hl with | [_, _], _ => rfl⟩
  have c__has_fitting_neighbours : Cal P w K mg base 4 "_has_fitting_neighbours" ["links", "operation"] (sp__has_fitting_neighbours K) := ⟨_, fd__has_fitting_neighbours, ok__has_fitting_neighbours T F__has_fitting_neighbours c_Links_is_out c_Links_left c_Links_right, T.gf__has_fitting_neighbours, F__has_fitting_neighbours.kp, FunD.bindsN (ps := ["links", "operation"]) F__has_fitting_neighbours fun _ _ _ _ _ _ us hl => match us, hl with | [_, _], _ => rfl⟩
  have c_Links_is_legal : Met P w K mg base 1 (He.ga K "Links") "is_legal" ["self", "operation"] (sp_Links_is_legal K) := ⟨_, fd_Links_is_legal, ok_Links_is_legal T F_Links_is_legal , T.me_Links_is_legal, FunD.bindsN (ps := ["self", "operation"]) F_Links_is_legal fun _ _ _ _ _ _ us hl => match us, hl with | [_, _], _ => rfl⟩
  have c_check_operation : Cal P w K mg base 3 "check_operation" ["size", "operation", "index"] (sp_check_operation K) := ⟨_, fd_check_operation, ok_check_operation T F_check_operation x_BadOperation, T.gf_check_operation, F_check_operation.kp, FunD.bindsN (ps := ["size", "operation", "index"]) F_check_operation fun _ _ _ _ _ _ us hl => match us, hl with | [_, _, _], _ => rfl⟩
  have c_Links_check : Met P w K mg base 4 (He.ga K "Links") "check" ["self", "operation", "index"] (sp_Links_check K) := ⟨_, fd_Links_check, ok_Links_check T F_Links_check c_Links_is_legal c_check_operation x_Illegal, T.me_Links_check, FunD.bindsN (ps := ["self", "operation", "index"]) F_Links_check fun _ _ _ _ _ _ us hl => match us, hl with | [_, _, _], _ => rfl⟩
  have c_foreign_writes : Cal P w K mg base 5 "foreign_writes" ["links", "operation"] (sp_foreign_writes K) := ⟨_, fd_foreign_writes, ok_foreign_writes T F_foreign_writes c_Links_check c_Links_left c_Links_right, T.gf_foreign_writes, F_foreign_writes.kp, FunD.bindsN (ps := ["links", "operation"]) F_foreign_writes fun _ _ _ _ _ _ us hl => match us, hl with | [_, _], _ => rfl⟩
  have c_left_to : Cal P w K mg base 1 "left_to" ["operation", "gap"] (sp17_left_to K) := ⟨_, fd_left_to, ok_left_to T F_left_to , T.gf_left_to, F_left_to.kp, FunD.bindsN (ps := ["operation", "gap"]) F_left_to fun _ _ _ _ _ _ us hl => match us, hl with | [_, _], _ => rfl⟩
  have c__leaves_a_gap_to_a_holder_that_is_in : Cal P w K mg base 6 "_leaves_a_gap_to_a_holder_that_is_in" ["links", "operation"] (sp__leaves_a_gap_to_a_holder_that_is_in K) := ⟨_, fd__leaves_a_gap_to_a_holder_that_is_in, ok__leaves_a_gap_to_a_holder_that_is_in T F__leaves_a_gap_to_a_holder_that_is_in c_Links_is_out c_foreign_writes c_left_to, T.gf__leaves_a_gap_to_a_holder_that_is_in, F__leaves_a_gap_to_a_holder_that_is_in.kp, FunD.bindsN (ps := ["links", "operation"]) F__leaves_a_gap_to_a_holder_that_is_in fun _ _ _ _ _ _ us hl => match us, hl with | [_, _], _ => rfl⟩
  have c_check_gap : Cal P w K mg base 3 "check_gap" ["size", "gap"] (sp_check_gap K) := ⟨_, fd_check_gap, ok_check_gap T F_check_gap x_BadGap, T.gf_check_gap, F_check_gap.kp, FunD.bindsN (ps := ["size", "gap"]) F_check_gap fun _ _ _ _ _ _ us hl => match us, hl with | [_, _], _ => rfl⟩
  have c_gap_state : Cal P w K mg base 4 "gap_state" ["links", "gap"] (sp_gap_state K) := ⟨_, fd_gap_state, ok_gap_state T F_gap_state c_Links_left c_Links_right c_check_gap, T.gf_gap_state, F_gap_state.kp, FunD.bindsN (ps := ["links", "gap"]) F_gap_state fun _ _ _ _ _ _ us hl => match us, hl with | [_, _], _ => rfl⟩
  have c__loses_a_gap : Cal P w K mg base 6 "_loses_a_gap" ["links", "operation"] (sp__loses_a_gap K) := ⟨_, fd__loses_a_gap, ok__loses_a_gap T F__loses_a_gap c_foreign_writes c_gap_state, T.gf__loses_a_gap, F__loses_a_gap.kp, FunD.bindsN (ps := ["links", "operation"]) F__loses_a_gap fun _ _ _ _ _ _ us hl => match us, hl with | [_, _], _ => rfl⟩
  have o_FreeMode_refusal : FnOk P w K mg base (L2N.CX P w) 5 (He.fAd K ("FreeMode", some "refusal")) fd_FreeMode_refusal ["self", "links", "operation"] (sp_FreeMode_refusal K) := ok_FreeMode_refusal T F_FreeMode_refusal c_Links_check
  have b_FreeMode_refusal : Binds K fd_FreeMode_refusal ["self", "links", "operation"] [] := FunD.bindsN (ps := ["self", "links", "operation"]) F_FreeMode_refusal fun _ _ _ _ _ _ us hl => match us, hl with | [_, _, _], _ => rfl
  have c_FreeMode_refusal : Met P w K mg base 5 (He.ga K "FreeMode") "refusal" ["self", "links", "operation"] (sp_FreeMode_refusal K) := ⟨_, fd_FreeMode_refusal, o_FreeMode_refusal, T.me_FreeMode_refusal, b_FreeMode_refusal⟩
  have o_SavingMode_refusal : FnOk P w K mg base (L2N.CX P w) 7 (He.fAd K ("SavingMode", some "refusal")) fd_SavingMode_refusal ["self", "links", "operation"] (sp_SavingMode_refusal K) := ok_SavingMode_refusal T F_SavingMode_refusal o_FreeMode_refusal b_FreeMode_refusal htop c__loses_a_gap
  have b_SavingMode_refusal : Binds K fd_SavingMode_refusal ["self", "links", "operation"] [] := FunS.bindsN (ps := ["self", "links", "operation"]) F_SavingMode_refusal fun _ _ _ _ _ _ _ us hl => match us, hl with | [_, _, _], _ => rfl
  have c_SavingMode_refusal : Met P w K mg base 7 (He.ga K "SavingMode") "refusal" ["self", "links", "operation"] (sp_SavingMode_refusal K) := ⟨_, fd_SavingMode_refusal, o_SavingMode_refusal, T.me_SavingMode_refusal, b_SavingMode_refusal⟩
  have o_GuardedMode_refusal : FnOk P w K mg base (L2N.CX P w) 8 (He.fAd K ("GuardedMode", some "refusal")) fd_GuardedMode_refusal ["self", "links", "operation"] (sp_GuardedMode_refusal K) := ok_GuardedMode_refusal T F_GuardedMode_refusal o_SavingMode_refusal b_SavingMode_refusal htop c__leaves_a_gap_to_a_holder_that_is_in
  have b_GuardedMode_refusal : Binds K fd_GuardedMode_refusal ["self", "links", "operation"] [] := FunS.bindsN (ps := ["self", "links", "operation"]) F_GuardedMode_refusal fun _ _ _ _ _ _ _ us hl => match us, hl with | [_, _, _], _ => rfl
  have c_GuardedMode_refusal : Met P w K mg base 8 (He.ga K "GuardedMode") "refusal" ["self", "links", "operation"] (sp_GuardedMode_refusal K) := ⟨_, fd_GuardedMode_refusal, o_GuardedMode_refusal, T.me_GuardedMode_refusal, b_GuardedMode_refusal⟩
  have o_CheckedMode_refusal : FnOk P w K mg base (L2N.CX P w) 9 (He.fAd K ("CheckedMode", some "refusal")) fd_CheckedMode_refusal ["self", "links", "operation"] (sp_CheckedMode_refusal K) := ok_CheckedMode_refusal T F_CheckedMode_refusal o_GuardedMode_refusal b_GuardedMode_refusal htop c__has_fitting_neighbours
  have b_CheckedMode_refusal : Binds K fd_CheckedMode_refusal ["self", "links", "operation"] [] := FunS.bindsN (ps := ["self", "links", "operation"]) F_CheckedMode_refusal fun _ _ _ _ _ _ _ us hl => match us, hl with | [_, _, _], _ => rfl
  have c_CheckedMode_refusal : Met P w K mg base 9 (He.ga K "CheckedMode") "refusal" ["self", "links", "operation"] (sp_CheckedMode_refusal K) := ⟨_, fd_CheckedMode_refusal, o_CheckedMode_refusal, T.me_CheckedMode_refusal, b_CheckedMode_refusal⟩
  have c_check_size : Cal P w K mg base 3 "check_size" ["size"] (sp_check_size K) := ⟨_, fd_check_size, ok_check_size T F_check_size x_BadSize, T.gf_check_size, F_check_size.kp, FunD.bindsN (ps := ["size"]) F_check_size fun _ _ _ _ _ _ us hl => match us, hl with | [_], _ => rfl⟩
  have m_Links : Mak P w K mg base 4 "Links" (He.ga K "Links") ["self", "size"] (sp_Links___init__ K) := ⟨_, fd_Links___init__, ok_Links___init__ T F_Links___init__ c_check_size, T.mk_Links, T.g_Links, FunD.bindsN (ps := ["self", "size"]) F_Links___init__ fun _ _ _ _ _ _ us hl => match us, hl with | [_, _], _ => rfl⟩
  have c_Links_apply_at : Met P w K mg base 5 (He.ga K "Links") "apply_at" ["self", "operation", "index"] (sp_Links_apply_at K) := ⟨_, fd_Links_apply_at, ok_Links_apply_at T F_Links_apply_at c_Links_check, T.me_Links_apply_at, FunD.bindsN (ps := ["self", "operation", "index"]) F_Links_apply_at fun _ _ _ _ _ _ us hl => match us, hl with | [_, _, _], _ => rfl⟩
  have c_Links_apply : Met P w K mg base 6 (He.ga K "Links") "apply" ["self", "operation"] (sp_Links_apply K) := ⟨_, fd_Links_apply, ok_Links_apply T F_Links_apply c_Links_apply_at, T.me_Links_apply, FunD.bindsN (ps := ["self", "operation"]) F_Links_apply fun _ _ _ _ _ _ us hl => match us, hl with | [_, _], _ => rfl⟩
  have c_all_modes : Cal P w K mg base 1 "all_modes" [] (sp_all_modes K) := ⟨_, fd_all_modes, ok_all_modes T F_all_modes , T.gf_all_modes, F_all_modes.kp, FunD.bindsN (ps := []) F_all_modes fun _ _ _ _ _ _ us hl => match us, hl with | [], _ => rfl⟩
  have c_mode_named : Cal P w K mg base 3 "mode_named" ["mode"] (sp_mode_named K) := ⟨_, fd_mode_named, ok_mode_named T F_mode_named c_all_modes x_BadMode, T.gf_mode_named, F_mode_named.kp, FunD.bindsN (ps := ["mode"]) F_mode_named fun _ _ _ _ _ _ us hl => match us, hl with | [_], _ => rfl⟩
  have c_Links_copy : Met P w K mg base 6 (He.ga K "Links") "copy" ["self"] (sp_Links_copy K) := ⟨_, fd_Links_copy, ok_Links_copy T F_Links_copy m_Links, T.me_Links_copy, FunD.bindsN (ps := ["self"]) F_Links_copy fun _ _ _ _ _ _ us hl => match us, hl with | [_], _ => rfl⟩
  have c_play : Cal P w K mg base 7 "play" ["links", "log"] (sp_play K) := ⟨_, fd_play, ok_play T F_play c_Links_apply_at c_Links_copy, T.gf_play, F_play.kp, FunD.bindsN (ps := ["links", "log"]) F_play fun _ _ _ _ _ _ us hl => match us, hl with | [_, _], _ => rfl⟩
  have c_replay : Cal P w K mg base 8 "replay" ["size", "log"] (sp_replay K) := ⟨_, fd_replay, ok_replay T F_replay m_Links c_play, T.gf_replay, F_replay.kp, FunD.bindsN (ps := ["size", "log"]) F_replay fun _ _ _ _ _ _ us hl => match us, hl with | [_, _], _ => rfl⟩
  obtain ⟨g_first_refusal, b_first_refusal⟩ := kbn_all (ps := ["size", "log", "mode"]) F_first_refusal 2 ["mode"] (List.cons_ne_nil _ _) fun _ _ _ _ _ _ us ws l1 l2 => match us, ws, l1, l2 with | [_, _], [_], _, _ => rfl
  obtain ⟨gd_first_refusal, bd_first_refusal⟩ := kbn_def (ps := ["size", "log", "mode"]) F_first_refusal 2 (List.cons_ne_nil _ _) fun _ _ _ _ _ _ us mv l1 l2 => match us, mv, l1, l2 with | [_, _], [_], _, _ => ⟨_, _, _, _, _, _, rfl, rfl, rfl⟩
  have cd_first_refusal : CalD P w K mg base 10 "first_refusal" ["size", "log", "mode"] 2 [.str "free"] (sp_first_refusal K) := ⟨_, fd_first_refusal, gd_first_refusal, ok_first_refusal T F_first_refusal c_CheckedMode_refusal c_FreeMode_refusal c_GuardedMode_refusal m_Links c_Links_apply c_SavingMode_refusal c_check_size c_mode_named c_replay, T.gf_first_refusal, F_first_refusal.kp, bd_first_refusal⟩
  have c_first_refusal : CalK P w K mg base 10 "first_refusal" ["size", "log", "mode"] 2 ["mode"] (sp_first_refusal K) := ⟨_, fd_first_refusal, g_first_refusal, ok_first_refusal T F_first_refusal c_CheckedMode_refusal c_FreeMode_refusal c_GuardedMode_refusal m_Links c_Links_apply c_SavingMode_refusal c_check_size c_mode_named c_replay, T.gf_first_refusal, F_first_refusal.kp, b_first_refusal⟩
  have c_check_admitted : Cal P w K mg base 10 "check_admitted" ["links", "operation", "index", "judge"] (sp_check_admitted K) := ⟨_, fd_check_admitted, ok_check_admitted T F_check_admitted c_CheckedMode_refusal c_FreeMode_refusal c_GuardedMode_refusal c_Links_check c_SavingMode_refusal x_Refused, T.gf_check_admitted, F_check_admitted.kp, FunD.bindsN (ps := ["links", "operation", "index", "judge"]) F_check_admitted fun _ _ _ _ _ _ us hl => match us, hl with | [_, _, _, _], _ => rfl⟩
  obtain ⟨g_replay_in, b_replay_in⟩ := kbn_all (ps := ["size", "log", "mode"]) F_replay_in 2 ["mode"] (List.cons_ne_nil _ _) fun _ _ _ _ _ _ us ws l1 l2 => match us, ws, l1, l2 with | [_, _], [_], _, _ => rfl
  obtain ⟨gd_replay_in, bd_replay_in⟩ := kbn_def (ps := ["size", "log", "mode"]) F_replay_in 2 (List.cons_ne_nil _ _) fun _ _ _ _ _ _ us mv l1 l2 => match us, mv, l1, l2 with | [_, _], [_], _, _ => ⟨_, _, _, _, _, _, rfl, rfl, rfl⟩
  have cd_replay_in : CalD P w K mg base 11 "replay_in" ["size", "log", "mode"] 2 [.str "free"] (sp_replay_in K) := ⟨_, fd_replay_in, gd_replay_in, ok_replay_in T F_replay_in m_Links c_Links_apply c_check_admitted c_mode_named, T.gf_replay_in, F_replay_in.kp, bd_replay_in⟩
  have c_replay_in : CalK P w K mg base 11 "replay_in" ["size", "log", "mode"] 2 ["mode"] (sp_replay_in K) := ⟨_, fd_replay_in, g_replay_in, ok_replay_in T F_replay_in m_Links c_Links_apply c_check_admitted c_mode_named, T.gf_replay_in, F_replay_in.kp, b_replay_in⟩
  have c__law_headless : Cal P w K mg base 12 "_law_headless" ["way", "size", "row", "text"] (sp12__law_headless K) := ⟨_, fd__law_headless, ok__law_headless T F__law_headless c_first_refusal c_replay_in, T.gf__law_headless, F__law_headless.kp, FunD.bindsN (ps := ["way", "size", "row", "text"]) F__law_headless fun _ _ _ _ _ _ us hl => match us, hl with | [_, _, _, _], _ => rfl⟩
  have c__law_dump : Cal P w K mg base 1 "_law_dump" ["book"] (sp13__law_dump K) := ⟨_, fd__law_dump, ok__law_dump T F__law_dump , T.gf__law_dump, F__law_dump.kp, FunD.bindsN (ps := ["book"]) F__law_dump fun _ _ _ _ _ _ us hl => match us, hl with | [_], _ => rfl⟩
  have c__law_moved : Cal P w K mg base 1 "_law_moved" ["book", "node"] (sp13__law_moved K) := ⟨_, fd__law_moved, ok__law_moved T F__law_moved , T.gf__law_moved, F__law_moved.kp, FunD.bindsN (ps := ["book", "node"]) F__law_moved fun _ _ _ _ _ _ us hl => match us, hl with | [_, _], _ => rfl⟩
  have c__law_operation : Cal P w K mg base 1 "_law_operation" ["book", "node"] (sp__law_operation K) := ⟨_, fd__law_operation, ok__law_operation T F__law_operation , T.gf__law_operation, F__law_operation.kp, FunD.bindsN (ps := ["book", "node"]) F__law_operation fun _ _ _ _ _ _ us hl => match us, hl with | [_, _], _ => rfl⟩
  have c__law_lost : Cal P w K mg base 1 "_law_lost" ["book"] (sp16__law_lost K) := ⟨_, fd__law_lost, ok__law_lost T F__law_lost , T.gf__law_lost, F__law_lost.kp, FunD.bindsN (ps := ["book"]) F__law_lost fun _ _ _ _ _ _ us hl => match us, hl with | [_], _ => rfl⟩
  have c__law_refusing : Cal P w K mg base 2 "_law_refusing" ["book", "node", "word"] (sp11__law_refusing K) := ⟨_, fd__law_refusing, ok__law_refusing T F__law_refusing c__law_lost c__law_moved, T.gf__law_refusing, F__law_refusing.kp, FunD.bindsN (ps := ["book", "node", "word"]) F__law_refusing fun _ _ _ _ _ _ us hl => match us, hl with | [_, _, _], _ => rfl⟩
  have c__law_whole : Cal P w K mg base 1 "_law_whole" ["size"] (sp13__law_whole K) := ⟨_, fd__law_whole, ok__law_whole T F__law_whole , T.gf__law_whole, F__law_whole.kp, FunD.bindsN (ps := ["size"]) F__law_whole fun _ _ _ _ _ _ us hl => match us, hl with | [_], _ => rfl⟩
  have c__law_fate : Cal P w K mg base 3 "_law_fate" ["size", "row", "word"] (sp12__law_fate K) := ⟨_, fd__law_fate, ok__law_fate T F__law_fate c__law_dump c__law_moved c__law_operation c__law_refusing c__law_whole, T.gf__law_fate, F__law_fate.kp, FunD.bindsN (ps := ["size", "row", "word"]) F__law_fate fun _ _ _ _ _ _ us hl => match us, hl with | [_, _, _], _ => rfl⟩
  have c__law_first : Cal P w K mg base 4 "_law_first" ["size", "row", "word"] (sp12__law_first K) := ⟨_, fd__law_first, ok__law_first T F__law_first c__law_fate, T.gf__law_first, F__law_first.kp, FunD.bindsN (ps := ["size", "row", "word"]) F__law_first fun _ _ _ _ _ _ us hl => match us, hl with | [_, _, _], _ => rfl⟩
  have c_Links_outs : Met P w K mg base 1 (He.ga K "Links") "outs" ["self"] (sp_Links_outs K) := ⟨_, fd_Links_outs, ok_Links_outs T F_Links_outs , T.me_Links_outs, FunD.bindsN (ps := ["self"]) F_Links_outs fun _ _ _ _ _ _ us hl => match us, hl with | [_], _ => rfl⟩
  have c__joined : Cal P w K mg base 1 "_joined" ["numbers"] (sp__joined K) := ⟨_, fd__joined, ok__joined T F__joined , T.gf__joined, F__joined.kp, FunD.bindsN (ps := ["numbers"]) F__joined fun _ _ _ _ _ _ us hl => match us, hl with | [_], _ => rfl⟩
  have c_dump_of : Cal P w K mg base 2 "dump_of" ["rights", "lefts", "outs"] (sp_dump_of K) := ⟨_, fd_dump_of, ok_dump_of T F_dump_of c__joined, T.gf_dump_of, F_dump_of.kp, FunD.bindsN (ps := ["rights", "lefts", "outs"]) F_dump_of fun _ _ _ _ _ _ us hl => match us, hl with | [_, _, _], _ => rfl⟩
  have c_Links_dump : Met P w K mg base 3 (He.ga K "Links") "dump" ["self"] (sp_Links_dump K) := ⟨_, fd_Links_dump, ok_Links_dump T F_Links_dump c_Links_outs c_dump_of, T.me_Links_dump, FunD.bindsN (ps := ["self"]) F_Links_dump fun _ _ _ _ _ _ us hl => match us, hl with | [_], _ => rfl⟩
  have c__law_is : Cal P w K mg base 1 "_law_is" ["told", "due"] (sp13__law_is K) := ⟨_, fd__law_is, ok__law_is T F__law_is , T.gf__law_is, F__law_is.kp, FunD.bindsN (ps := ["told", "due"]) F__law_is fun _ _ _ _ _ _ us hl => match us, hl with | [_, _], _ => rfl⟩
  have c__law_replayed : Cal P w K mg base 12 "_law_replayed" ["size", "row", "word"] (sp12__law_replayed K) := ⟨_, fd__law_replayed, ok__law_replayed T F__law_replayed c_Links_dump c__law_is c_replay_in h__law_log_error, T.gf__law_replayed, F__law_replayed.kp, FunD.bindsN (ps := ["size", "row", "word"]) F__law_replayed fun _ _ _ _ _ _ us hl => match us, hl with | [_, _, _], _ => rfl⟩
  have c__law_plain : Cal P w K mg base 13 "_law_plain" ["size", "row"] (sp12__law_plain K) := ⟨_, fd__law_plain, ok__law_plain T F__law_plain c_Links_apply c_Links_dump c__law_fate c__law_moved c__law_operation c__law_replayed c__law_whole c_first_refusal c_replay_in cd_first_refusal cd_replay_in, T.gf__law_plain, F__law_plain.kp, FunD.bindsN (ps := ["size", "row"]) F__law_plain fun _ _ _ _ _ _ us hl => match us, hl with | [_, _], _ => rfl⟩
  have c__law_told : Cal P w K mg base 11 "_law_told" ["size", "row", "word"] (sp12__law_told K) := ⟨_, fd__law_told, ok__law_told T F__law_told c_first_refusal h__law_log_error, T.gf__law_told, F__law_told.kp, FunD.bindsN (ps := ["size", "row", "word"]) F__law_told fun _ _ _ _ _ _ us hl => match us, hl with | [_, _, _], _ => rfl⟩
  have c__law_words : Cal P w K mg base 1 "_law_words" [] (sp13__law_words K) := ⟨_, fd__law_words, ok__law_words T F__law_words , T.gf__law_words, F__law_words.kp, FunD.bindsN (ps := []) F__law_words fun _ _ _ _ _ _ us hl => match us, hl with | [], _ => rfl⟩
  have c__law_judged : Cal P w K mg base 14 "_law_judged" ["size", "row"] (sp12__law_judged K) := ⟨_, fd__law_judged, ok__law_judged T F__law_judged c__law_fate c__law_first c__law_plain c__law_replayed c__law_told c__law_words, T.gf__law_judged, F__law_judged.kp, FunD.bindsN (ps := ["size", "row"]) F__law_judged fun _ _ _ _ _ _ us hl => match us, hl with | [_, _], _ => rfl⟩
  have c__law_purse : Cal P w K mg base 1 "_law_purse" ["script"] (sp13__law_purse K) := ⟨_, fd__law_purse, ok__law_purse T F__law_purse , T.gf__law_purse, F__law_purse.kp, FunD.bindsN (ps := ["script"]) F__law_purse fun _ _ _ _ _ _ us hl => match us, hl with | [_], _ => rfl⟩
  have c__law_take : Cal P w K mg base 1 "_law_take" ["purse", "many"] (sp13__law_take K) := ⟨_, fd__law_take, ok__law_take T F__law_take , T.gf__law_take, F__law_take.kp, FunD.bindsN (ps := ["purse", "many"]) F__law_take fun _ _ _ _ _ _ us hl => match us, hl with | [_, _], _ => rfl⟩
  have c__law_path : Cal P w K mg base 2 "_law_path" ["purse", "wide"] (sp12__law_path K) := ⟨_, fd__law_path, ok__law_path T F__law_path c__law_take, T.gf__law_path, F__law_path.kp, FunD.bindsN (ps := ["purse", "wide"]) F__law_path fun _ _ _ _ _ _ us hl => match us, hl with | [_, _], _ => rfl⟩
  have c__law_steered : Cal P w K mg base 3 "_law_steered" ["purse", "book", "shift", "word", "stop"] (sp12__law_steered K) := ⟨_, fd__law_steered, ok__law_steered T F__law_steered c__law_refusing c__law_take, T.gf__law_steered, F__law_steered.kp, FunD.bindsN (ps := ["purse", "book", "shift", "word", "stop"]) F__law_steered fun _ _ _ _ _ _ us hl => match us, hl with | [_, _, _, _, _], _ => rfl⟩
  have c__law_row : Cal P w K mg base 4 "_law_row" ["purse", "size", "shift", "many", "word"] (sp12__law_row K) := ⟨_, fd__law_row, ok__law_row T F__law_row c__law_moved c__law_operation c__law_path c__law_steered c__law_take c__law_whole, T.gf__law_row, F__law_row.kp, FunD.bindsN (ps := ["purse", "size", "shift", "many", "word"]) F__law_row fun _ _ _ _ _ _ us hl => match us, hl with | [_, _, _, _, _], _ => rfl⟩
  have c__law_spoilt : Cal P w K mg base 2 "_law_spoilt" ["purse", "size", "row"] (sp12__law_spoilt K) := ⟨_, fd__law_spoilt, ok__law_spoilt T F__law_spoilt c__law_take, T.gf__law_spoilt, F__law_spoilt.kp, FunD.bindsN (ps := ["purse", "size", "row"]) F__law_spoilt fun _ _ _ _ _ _ us hl => match us, hl with | [_, _, _], _ => rfl⟩
  have c__law_run : Cal P w K mg base 5 "_law_run" ["purse"] (sp12__law_run K) := ⟨_, fd__law_run, ok__law_run T F__law_run c__law_row c__law_spoilt c__law_take c__law_words, T.gf__law_run, F__law_run.kp, FunD.bindsN (ps := ["purse"]) F__law_run fun _ _ _ _ _ _ us hl => match us, hl with | [_], _ => rfl⟩
  exact ok_law T F_law c__law_headless c__law_judged c__law_purse c__law_run c__law_take c__law_words
end G
open PySem PySem.W PySem.Calls PyProof.Rows
set_option maxRecDepth 100000 in
set_option maxHeartbeats 0 in
theorem PySem.Challenge.cw_latelink_k12_whole_first_refusals_holds : PySem.Challenge.rw_latelink_k12_whole_first_refusals.Holds := by
  w_on; o_law
  refine HandSHeadRun.head_any (r := OpenLaw.row PySem.Challenge.rw_latelink_k12_whole_first_refusals) (q := view (OpenLaw.row PySem.Challenge.rw_latelink_k12_whole_first_refusals).prog [70]) (H := G.hk) (ob := G.ob) (M := 8000) (loose := G.loose) (d := HandSHeadRun.topDef (OpenLaw.row PySem.Challenge.rw_latelink_k12_whole_first_refusals).prog 70) (kwd := []) G.ob_eq
    (by kernel_rfl) (fun s => by kernel_rfl) G.run (by kernel_rfl) (by kernel_rfl) (by kernel_rfl) (by rfl) (by first | assumption | decide +kernel) (by decide +kernel) ⟨rfl, rfl, rfl, rfl, rfl, by decide +kernel⟩ ?hw ?hc
  case hw => w_witness2
  case hc =>
    refine L2.walk_ofE (l := PySem.Challenge.rw_latelink_k12_whole_first_refusals) (n := 63) (k := 15) (x := "script") (CX := L2.CX0) rfl (by decide) (by kernel_rfl) ⟨rfl, by decide, by decide⟩ ?F (fun _ _ _ _ z => z)
    case F =>
      intro w mg fa h Y Gm hmg0
      obtain ⟨K, KX, c⟩ := Y
      have hmg : mg ("law" : PySem.Str) = some (.ref fa) := by
        have e : (HandSHeadRun.topDef (OpenLaw.row PySem.Challenge.rw_latelink_k12_whole_first_refusals).prog 70).name = ("law" : PySem.Str) := by kernel_rfl
        rw [← e]
        exact hmg0
      obtain ⟨fd, hb, hF⟩ := G.facts (P := (PySem.Challenge.rw_latelink_k12_whole_first_refusals).prog) (w := w) KX Gm hmg c (by decide +kernel) (by decide +kernel)
      exact ⟨K, fd, _, KX, hb, fun H a ns hl _ hS => ⟨a, ns, rfl, hS, hl, fun _ => rfl⟩, fun base h1 h2 => G.noX (hF base h1 h2)⟩
