import PyProof.Rows.All
import Wide.All
import OpenK.AllK
import Wide.FinOn
import KE.KStateDown
import KE.KExcIs
import HandS.ForMost
import HandS.Exc
import HandS.ExcOwn
import HandS.ExcCtx
import HandS.ExcInit
import HandS.ExcField
import HandS.HotCalls
import HandS.WordsExc
import HandS.IsInst
import HandS.Conv
import HandS.Defaults
import HandS.Evl
import HandS.Head0
import HandS.Head1
import HandS.Head2
import HandS.HeadEnd
import HandS.HeadHook1
import HandS.HeadHook2
import HandS.ClsMeth
import HandS.ExcInitHot
import HandS.OwnEq
import HandS.HeadNt
import HandS.NoneIn
import HandS.Text
import HandS.Steps
import HandS.Strs
import HandS.TupAny
import HandS.Deep
import PyProof.FString3
import PyProof.Rows.StrIntSpec
import HandS.RaiseMore
import KE.KCallOwn
import PyProof.ListRange
import HandS.GenList
import HandS.GenYield
import HandS.Rev
import HandS.SetBool
import PySem.Challenge.RW_latelink_k01_rows_of_operations
set_option Elab.async false
set_option linter.all false
set_option maxRecDepth 100000
set_option maxHeartbeats 4000000
/-! Calls by bundles, own exceptions with fields, raised, caught, asked. -/
namespace G
open PySem PySem.Spec PyProof.Rows L2

/-! ### a def, a method of the text, ready to be called -/
structure Cal (P : Program) (w : World) (K : PySem.W.Frag) (mg : Str → Option Value) (base : Heap) (k : Nat) (x : Str) (ps : List Str) (sp : Sp) : Prop where
  ex : ∃ (f : Addr) (fd : FuncData), FnOk P w K mg base (L2N.CX P w) k f fd ps sp ∧ mg x = some (.ref f) ∧ PySem.W.keepIn K (.ref f) = true ∧ Binds K fd ps []
structure Met (P : Program) (w : World) (K : PySem.W.Frag) (mg : Str → Option Value) (base : Heap) (k : Nat) (C : Addr) (m : Str) (ps : List Str) (sp : Sp) : Prop where
  ex : ∃ (f : Addr) (fd : FuncData), FnOk P w K mg base (L2N.CX P w) k f fd ps sp ∧ Meth K C m f ∧ Binds K fd ps []
structure Mak (P : Program) (w : World) (K : PySem.W.Frag) (mg : Str → Option Value) (base : Heap) (k : Nat) (x : Str) (C : Addr) (ps : List Str) (sp : Sp) : Prop where
  ex : ∃ (f : Addr) (fd : FuncData), FnOk P w K mg base (L2N.CX P w) k f fd ps sp ∧ Mk K C f ∧ mg x = some (.ref C) ∧ Binds K fd ps []
/-- the same where an exception is handled -/
structure CalH (P : Program) (w : World) (K : PySem.W.Frag) (mg : Str → Option Value) (base : Heap) (k : Nat) (x : Str) (ps : List Str) (sp : Sp) : Prop where
  ex : ∃ (f : Addr) (fd : FuncData), L2H.FnH P w K mg base (L2N.CX P w) k f fd ps sp ∧ mg x = some (.ref f) ∧ PySem.W.keepIn K (.ref f) = true ∧ Binds K fd ps []
section
variable {X : Cx} {j k : Nat} {x m : Str} {ps : List Str} {sp : Sp} {E : XK} {C : Addr} {p pos apos : Pos} {e o : Expr} {es : List Expr} {t : TA} {ta : TE}
/-- f(..): what leaves it as an exception is wished for by E -/
def tCl (sp : Sp) (E : L2.St → XK) (t : TA) : TE := fun σ H Q => t σ H fun vs H1 => sp vs H1 Q (E σ)
def tMt (C : Addr) (m : Str) (sp : Sp) (E : L2.St → XK) (ta : TE) (t : TA) : TE := fun σ H Q => ta σ H fun x H1 => ∃ a dx fs, x = .ref a ∧ H1 a = some (.ins C dx fs) ∧ fs.lookup m = none ∧ t σ H1 fun vs H2 => sp (x :: vs) H2 Q (E σ)
def tMk (C : Addr) (sp : Sp) (E : L2.St → XK) (t : TA) : TE := fun σ H Q => t σ H fun vs H1 => ∀ x dx, H1 x = none → H1 dx = none → dx ≠ x → sp (.ref x :: vs) (upd (upd H1 dx (.own x)) x (.ins C dx [])) (fun v H2 => v = .non ∧ Q (.ref x) H2) (E σ)
abbrev PAt (X : Cx) (E : L2.St → XK) : Prop := ∀ σ, PassesAt (L2N.CX X.prog X.w) X σ (E σ)
theorem pat_of {X : Cx} {W : WX} (tk : L2N.Takes X W) : PAt X (WE W) := fun σ => L2N.passAt tk σ
/-- where nothing may be let out -/
theorem pat_no {X : Cx} : PAt X (fun _ => L2.E0) := fun σ pins H s e s' I c => by
  obtain ⟨_, _, _, _, _, _, _, _, _, _, _, _, z⟩ := c
  exact z.elim
variable {E : L2.St → XK}
theorem pe_cl (c : Cal X.prog X.w X.K X.mg X.base k x ps sp) (hr : Room j X.A) (hk : k ≤ j) (hx : PAt X E) (ha : PA X (e :: es) t) (hg : Gl X x := by rfl) (hdb : (x == ("__debug__" : Str)) = false := by decide)
    (he : starEach (e :: es) X.env = (false, eval e X.env) :: starEach es X.env := by rfl) (hpl : (backTo pos (starEach es X.env)).any (·.1) = false := by rfl) : PE X (.Call (.Name x p) (e :: es) [] pos) (tCl sp E t) := by
  obtain ⟨f, fd, F, hm, kp, hb⟩ := c.ex
  refine ⟨fun pins s σ H Q I h => ?_⟩
  exact (pe_callS (E := E) F (hr.mono hk) hg hm kp hb hx ha hdb he hpl).run pins s σ H Q I h
theorem pe_cl0 (c : Cal X.prog X.w X.K X.mg X.base k x ps sp) (hr : Room j X.A) (hk : k ≤ j) (hx : PAt X E) (hg : Gl X x := by rfl) (hdb : (x == ("__debug__" : Str)) = false := by decide) : PE X (.Call (.Name x p) [] [] pos) (tCl sp E tNil) := by
  obtain ⟨f, fd, F, hm, kp, hb⟩ := c.ex
  refine ⟨fun pins s σ H Q I h => wpAny_Call_Name_kw (ld_glob I hg hm ?_ hdb)⟩
  exact PySem.W.callWith_K0 I.kIn kp (run_fnS (E := E) (us := []) (vs := []) F (hr.mono hk) hb (hx σ) I .nil h)
theorem run_mt {pins : List (Addr × Obj)} {s : Shared} {σ : L2.St} {H : Hp} {Q : VK} {f : Addr} {fd : FuncData} {us : List Value} {vs : List V} (F : FnOk X.prog X.w X.K X.mg X.base (L2N.CX X.prog X.w) k f fd ps sp) (hr : Room k X.A) (hb : Binds X.K fd ps []) (hx : PAt X E) (I : Inv X pins σ H s) (r : Vals vs us)
    (h : sp vs H Q (E σ)) : wpAny (model X.prog X.w) X.A (call (.ref f) us) (EP X pins σ Q) X.xe s := run_fnS F hr hb (hx σ) I r h
theorem pe_mt {pl : Sem Bool} (c : Met X.prog X.w X.K X.mg X.base k C m ps sp) (cl : Cls X.K C) (hr : Room j X.A) (hk : k ≤ j) (hx : PAt X E) (he : PE X o ta) (ha : PA X (e :: es) t)
    (hst : starEach (e :: es) X.env = (false, eval e X.env) :: starEach es X.env := by rfl) (hpl : (backTo pos (starEach es X.env)).any (·.1) = false := by rfl)
    (ht : eval (.Call (.Attribute o m apos) (e :: es) [] pos) X.env = (do
      let ov ← eval o X.env
      standAt apos.atName
      let (f, first) ← holding [ov] (getMethod ov m pl)
      callWith pos f first (backTo pos (starEach (e :: es) X.env)) (backToKw pos (keywordEach [] X.env))) := by rfl) : PE X (.Call (.Attribute o m apos) (e :: es) [] pos) (tMt C m sp E ta t) := by
  obtain ⟨f, fd, F, hm, hb⟩ := c.ex
  refine ⟨fun pins s σ H Q I h => PySem.W.methodCall_KW (pl := pl) (thn (he.run pins s σ H _ I h) fun u s1 hh => ?_) ht⟩
  obtain ⟨x, H1, I1, rx, a, dx, fs, ex, ea, l, q⟩ := hh
  subst ex
  obtain rfl : u = Value.ref a := rx
  refine getmeth_ok I1 ea cl hm l (PySem.W.callWith_K (first := [.ref a]) (h₀ := X.base) I.ok.mod.kin hm.kp (thn (ha.run pos pins s1 σ H1 _ I1 q) fun us s2 hh => ?_) hst hpl)
  obtain ⟨vs, H2, I2, r, q2⟩ := hh
  exact ⟨I2.kIn, run_fnS (us := .ref a :: us) (vs := .ref a :: vs) F (hr.mono hk) hb (hx σ) I2 (.cons rfl r) q2⟩
theorem pe_mt0 {pl : Sem Bool} (c : Met X.prog X.w X.K X.mg X.base k C m ps sp) (cl : Cls X.K C) (hr : Room j X.A) (hk : k ≤ j) (hx : PAt X E) (he : PE X o ta)
    (ht : eval (.Call (.Attribute o m apos) [] [] pos) X.env = (do
      let ov ← eval o X.env
      standAt apos.atName
      let (f, first) ← holding [ov] (getMethod ov m pl)
      callWith pos f first (backTo pos (starEach [] X.env)) (backToKw pos (keywordEach [] X.env))) := by rfl) : PE X (.Call (.Attribute o m apos) [] [] pos) (tMt C m sp E ta tNil) := by
  obtain ⟨f, fd, F, hm, hb⟩ := c.ex
  refine ⟨fun pins s σ H Q I h => PySem.W.methodCall_KW (pl := pl) (thn (he.run pins s σ H _ I h) fun u s1 hh => ?_) ht⟩
  obtain ⟨x, H1, I1, rx, a, dx, fs, ex, ea, l, q⟩ := hh
  subst ex
  obtain rfl : u = Value.ref a := rx
  refine getmeth_ok I1 ea cl hm l ?_
  exact PySem.W.callWith_K0 (first := [.ref a]) I1.kIn hm.kp (run_fnS (us := [.ref a]) (vs := [.ref a]) F (hr.mono hk) hb (hx σ) I1 (.cons rfl .nil) q)
/-- an instance is made, what its __init__ lets out is wished for at the slots σ -/
theorem run_mk {pn : List (Addr × Obj)} {τ : L2.St} {H0 : Hp} {sh : Shared} {R : VK} {f : Addr} {fd : FuncData} {uu : List Value} {vv : List V} (M : Mk X.K C f) (F : FnOk X.prog X.w X.K X.mg X.base (L2N.CX X.prog X.w) k f fd ps sp)
    (hr : Room (k + 1) X.A) (hb : Binds X.K fd ps []) (hx : PAt X E) (I : Inv X pn τ H0 sh) (r : Vals vv uu)
    (h : ∀ x dx, H0 x = none → H0 dx = none → dx ≠ x → sp (.ref x :: vv) (upd (upd H0 dx (.own x)) x (.ins C dx [])) (fun v H2 => v = .non ∧ R (.ref x) H2) (E τ)) :
    wpAny (model X.prog X.w) X.A (call (.ref C) uu) (EP X pn τ R) X.xe sh := by
  have q0 := h (sh.heap.objs.size + 1) sh.heap.objs.size (I.hok.fresh (Nat.le_succ _)) (I.hok.fresh (Nat.le_refl _)) (Nat.ne_of_lt (Nat.lt_succ_self _))
  have J := Inv.made (C := C) I
  have rr : Vals (V.ref (sh.heap.objs.size + 1) :: vv) (Value.ref (sh.heap.objs.size + 1) :: uu) := .cons rfl r
  have ln : (Value.ref (sh.heap.objs.size + 1) :: uu ++ []).length = ps.length := by
    rw [List.append_nil, ← rr.length]
    exact F.len _ _ _ _ q0
  have bb := hb _ (Value.ref (sh.heap.objs.size + 1) :: uu) J.kIn ln
  rw [List.append_nil] at bb
  have go := F.run _ X.stack _ _ ⟨Value.ref (sh.heap.objs.size + 1) :: uu, []⟩ _ _ _ (E τ) (hr.make C uu []) (J.env0.make C uu []) bb rr q0
  refine wpAny_call (make_map (f := f) I.kIn M.makes M.init (beq_iff_eq.mp M.fn) (codeAny_mono go fun rs s2 w => ?_))
  cases rs with
  | error er => exact hx τ pn _ _ er s2 J w
  | ok fl =>
    cases fl with
    | ret u =>
      obtain ⟨v, H2, J2, rv, ev, w2⟩ := J.after w
      subst ev
      exact ⟨rv, V.ref (sh.heap.objs.size + 1), H2, J2, rfl, w2⟩
    | next => exact w.elim
    | brk => exact w.elim
    | cont => exact w.elim
theorem pe_mk (c : Mak X.prog X.w X.K X.mg X.base k x C ps sp) (hr : Room j X.A) (hk : k + 1 ≤ j) (hx : PAt X E) (ha : PA X (e :: es) t) (hg : Gl X x := by rfl) (hdb : (x == ("__debug__" : Str)) = false := by decide)
    (he : starEach (e :: es) X.env = (false, eval e X.env) :: starEach es X.env := by rfl) (hpl : (backTo pos (starEach es X.env)).any (·.1) = false := by rfl) : PE X (.Call (.Name x p) (e :: es) [] pos) (tMk C sp E t) := by
  obtain ⟨f, fd, F, M, hm, hb⟩ := c.ex
  refine ⟨fun pn s τ H Q I h => wpAny_Call_Name_kw (ld_glob I hg hm ?_ hdb)⟩
  refine PySem.W.callWith_K (h₀ := X.base) I.ok.mod.kin M.kp (thn (ha.run pos pn s τ H _ I h) fun us s1 hh => ?_) he hpl
  obtain ⟨vs, H1, I1, r, q⟩ := hh
  exact ⟨I1.kIn, run_mk M F (hr.mono hk) hb hx I1 r q⟩
end

/-! ### calls where an exception is handled -/
section
variable {X : Cx} {j k : Nat} {x : Str} {ps : List Str} {sp : Sp} {p pos : Pos} {e : Expr} {es : List Expr} {t : TA} {E : L2.St → XK}
theorem pe_clH (c : CalH X.prog X.w X.K X.mg X.base k x ps sp) (hr : L2H.RoomH j X.A) (hk : k ≤ j) (hc : L2H.HotC X) (hx : PAt X E) (ha : PA X (e :: es) t) (hg : Gl X x := by rfl) (hdb : (x == ("__debug__" : Str)) = false := by decide)
    (he : starEach (e :: es) X.env = (false, eval e X.env) :: starEach es X.env := by rfl) (hpl : (backTo pos (starEach es X.env)).any (·.1) = false := by rfl) : PE X (.Call (.Name x p) (e :: es) [] pos) (tCl sp E t) := by
  obtain ⟨f, fd, F, hm, kp, hb⟩ := c.ex
  refine ⟨fun pins s σ H Q I h => ?_⟩
  exact (L2H.pe_callH (E := E) F (hr.mono hk) hc hg hm kp hb hx ha hdb he hpl).run pins s σ H Q I h
/-- the suite of a clause is such a place -/
theorem hot_suite {X : Cx} {a : Addr} {oe : Obj} {cls : Value} {d : Option Addr} {pn : List (Addr × Obj)} (hz : L2N.Zn cls d oe) (hf : ∃ vs, oe.data = .fields vs) : L2H.HotC (X.suite a ((a, oe) :: pn)) := by
  obtain ⟨vs, hv⟩ := hf
  exact ⟨(a, oe), ⟨rfl, vs, hv, hz.2.2 vs hv⟩, List.mem_cons_self⟩
end

/-! ### own exceptions with fields -/
/-- what a class of errors must be for its instances to be asked and read -/
structure ExK (K : PySem.W.Frag) (C : Addr) : Prop where
  cl : (PySem.W.clsIn K C).isSome = true
  ga : PySem.W.findIn K (.ref C) "__getattribute__" = some (some (.builtin "BaseException.__getattribute__"))
  gg : PySem.W.findIn K (.ref C) "__getattr__" = some none
  be : PySem.W.subIn K (.ref C) (.type "BaseException") = some true
  hd : PySem.W.hasDictIn K C = true
  cc : PySem.W.findIn K (.ref C) "__class__" = some (some (.builtin "object.__class__"))
  gs : PySem.W.specialIn K (.builtin "object.__class__") "__get__" = some (some (.builtin "getset_descriptor.__get__"))
  tk : PySem.W.takesIn K (.builtin "object.__class__") = some true
  mo : PySem.W.mroIn K C (.type "object") = some true
/-- isinstance(raised, c) -/
def rIsX (K : PySem.W.Frag) (cls : Value) (d : Option Addr) (a : Addr) : List V → Hp → VK → Prop := fun xs H Q => ∃ (D dd : Addr) (fs : List (Str × V)) (c : V) (u : Value) (b : Bool),
  cls = .ref D ∧ d = some dd ∧ H dd = some (.xd fs) ∧ ExK K D ∧ xs = [.ref a, c] ∧ ClsV c u ∧ PySem.W.kitOne K (.ref D) u = some b ∧ Q (.bl b) H
section
variable {X : Cx} {a : Addr} {oe : Obj} {cls : Value} {d : Option Addr} {pn : List (Addr × Obj)}
theorem exc_at {pins : List (Addr × Obj)} {s : Shared} {σ : L2.St} {H : Hp} {D dd : Addr} {fs : List (Str × V)} (I : Inv (X.suite a ((a, oe) :: pn)) pins σ H s) (hz : Zc cls d oe) (hf : ∃ vs, oe.data = .fields vs) (ec : cls = .ref D) (ed : d = some dd)
    (hd : H dd = some (.xd fs)) : ∃ (od : Obj) (mA : Str → Option Value), PySem.W.InstAt s.heap a oe D (some od) ∧ (∀ f, RelO (fs.lookup f) (mA f)) ∧ ∀ n, PySem.W.lookIn n od = some (mA n) := by
  obtain ⟨hget, _⟩ := I.pin (a, oe) (List.mem_append_left _ List.mem_cons_self)
  obtain ⟨vs, hv⟩ := hf
  obtain ⟨mA, hns, hr⟩ := (show ObjOk X.prog X.w H s.heap dd (.xd fs) from I.hok dd _ hd)
  obtain ⟨od, ho, hl⟩ := lookIn_ns hns
  refine ⟨od, mA, ⟨hget, hz.1.trans ec, ?_, ?_⟩, hr, hl⟩
  · unfold PySem.W.notCls
    rw [hv] <;> rfl
  · rw [hz.2, ed]
    exact ho
theorem call_isX (hz : Zc cls d oe) (hf : ∃ vs, oe.data = .fields vs) : CallR (X.suite a ((a, oe) :: pn)) (.builtin "isinstance") (rIsX X.K cls d a) := by
  intro pins s σ H xs us Q I r h
  obtain ⟨D, dd, fs, c, u, b, ec, ed, hd, T, rfl, k, e, q⟩ := h
  obtain ⟨u1, u2, rfl, r1, r2⟩ := vals2 r
  cases (show u1 = Value.ref a from r1)
  have e2 := k.eq r2
  subst e2
  obtain ⟨od, mA, J, _, _⟩ := exc_at I hz hf ec ed hd
  exact PySem.W.kia_one (PySem.W.kitx_exc T.cl T.ga T.gg T.be T.cc T.gs T.tk T.mo) I.kIn J e (fun z => nomatch z) fun tk => ⟨.bl b, H, I.tok tk, rfl, q⟩
/-- raised.f -/
def tXat (K : PySem.W.Frag) (a : Addr) (cls : Value) (d : Option Addr) (f : Str) (te : TE) : TE := fun σ H Q => te σ H fun x H1 => ∃ (D dd : Addr) (fs : List (Str × V)) (v : V),
  cls = .ref D ∧ d = some dd ∧ H1 dd = some (.xd fs) ∧ ExK K D ∧ x = .ref a ∧ PySem.W.findIn K (.ref D) f = some none ∧ fs.lookup f = some v ∧ Q v H1
theorem pe_xat {e : Expr} {te : TE} {pos : Pos} {n : Str} (hz : Zc cls d oe) (hf : ∃ vs, oe.data = .fields vs) (he : PE (X.suite a ((a, oe) :: pn)) e te) (hb : attributeBase e n X.env (eval e X.env) = eval e X.env := by rfl) :
    PE (X.suite a ((a, oe) :: pn)) (.Attribute e n pos) (tXat X.K a cls d n te) := by
  refine ⟨fun pins s σ H Q I h => attr_of hb (thn (he.run pins s σ H _ I h) fun u s1 hh => ?_)⟩
  obtain ⟨x, H1, I1, rx, D, dd, fs, v, ec, ed, hd, T, ex, hno, l, q⟩ := hh
  subst ex
  obtain rfl : u = Value.ref a := rx
  obtain ⟨od, mA, J, hr, hl⟩ := exc_at I1 hz hf ec ed hd
  obtain ⟨u, hu, ru⟩ := RelO.some_of (v := v) (o := mA n) (by rw [← l]; exact hr n)
  exact HandSPX.exc_get I1.kIn J T.ga T.gg T.be (PySem.W.findObj_own T.hd hno rfl (by rw [hl, hu])) (handed_of ru) ⟨v, H1, I1.tok _, ru, q⟩
end
end G

set_option Elab.async false
set_option linter.all false
set_option maxRecDepth 100000
set_option maxHeartbeats 4000000
/-! Own errors made and raised where nothing is handled. -/
namespace G
open PySem PySem.Spec PyProof.Rows L2

/-- what an error's __init__ leaves: its fields fs hold the values us -/
def spIn (K : PySem.W.Frag) (fs : List Str) : Sp := fun vs H Q _ => ∃ (a C : Addr) (us : List V), vs = .ref a :: us ∧ us.length = fs.length ∧ OexC K C ∧ (∀ f ∈ fs, PySem.W.findIn K (.ref C) f = some none) ∧ H a = some (exo a C none) ∧
  ∀ (dx : Addr) (H' : Hp), H dx = none → dx ≠ a → H' a = some (exo a C (some dx)) → H' dx = some (exd dx (fs.zip us).reverse) → (∀ b, b ≠ a → b ≠ dx → H' b = H b) → Q .non H'
theorem spIn_len {K : PySem.W.Frag} {fs ps : List Str} (h : ps.length = fs.length + 1) : ∀ vs H Q E, spIn K fs vs H Q E → vs.length = ps.length := by
  rintro vs H Q E ⟨a, C, us, rfl, hl, _⟩
  rw [h, List.length_cons, hl]
/-- an own class of errors -/
structure ExM (P : Program) (w : World) (K : PySem.W.Frag) (mg : Str → Option Value) (base : Heap) (k : Nat) (x : Str) (C : Addr) (fs : List Str) : Prop where
  oex : OexC K C
  no : ∀ f ∈ fs, PySem.W.findIn K (.ref C) f = some none
  gl : mg x = some (.ref C)
  ex : ∃ (fI : Addr) (fd : FuncData) (ps : List Str), FnOk P w K mg base (L2N.CX P w) k fI fd ps (spIn K fs) ∧ PySem.W.findIn K (.ref C) "__init__" = some (some (.ref fI)) ∧ PySem.W.typeIn K (.ref fI) = some (.type "function") ∧ Binds K fd ps []
theorem heap_mk {H H2 : Hp} {a d : Addr} {o : HO} (ha : H a = none) (hd : d ≠ a) (k : ∀ b, b ≠ a → b ≠ d → H2 b = H b) : upd (del H2 a) d o = upd H d o := by
  funext b
  by_cases hb : b = d
  · rw [hb, upd_same, upd_same]
  · rw [upd_ne hb, upd_ne hb]
    by_cases hba : b = a
    · rw [hba, del_same, ha]
    · rw [del_ne hba, k b hba hb]
theorem mk_go {K : PySem.W.Frag} {C : Addr} {fs : List Str} {us : List V} {H : Hp} {Q : XK} (T : OexC K C) (hf : ∀ f ∈ fs, PySem.W.findIn K (.ref C) f = some none) (hl : us.length = fs.length) (h : ∀ d, H d = none → Q (.ref C) (some d) (upd H d (.xd (fs.zip us).reverse))) :
    ∀ a, H a = none → spIn K fs (.ref a :: us) (upd H a (exo a C none)) (fun v H2 => v = .non ∧ ∃ (d : Addr) (gs : List (Str × V)), H2 a = some (exo a C (some d)) ∧ H2 d = some (exd d gs) ∧ H d = none ∧ Q (.ref C) (some d) (upd (del H2 a) d (.xd gs))) (fun _ _ _ => False) := by
  intro a ha
  refine ⟨a, C, us, rfl, hl, T, hf, upd_same, fun dx H' nd ne e1 e2 k => ⟨rfl, dx, _, e1, e2, ?_, ?_⟩⟩
  · rw [upd_ne ne] at nd
    exact nd
  · have nd' : H dx = none := by
      rw [upd_ne ne] at nd
      exact nd
    rw [heap_mk ha ne fun b h1 h2 => (k b h1 h2).trans (upd_ne h1)]
    exact h dx nd'
/-- x(e, ..), x a class of errors -/
def tRz (C : Addr) (fs : List Str) (W : WX) (ta : TA) : TS := fun _ σ H => ta σ H fun us H1 => us.length = fs.length ∧ us.length ≤ 1000 ∧ ∀ d, H1 d = none → W (.ref C) (some d) σ (upd H1 d (.xd (fs.zip us).reverse))
section
variable {X : Cx} {j k : Nat} {x : Str} {C : Addr} {fs : List Str} {p pos pos2 : Pos} {e : Expr} {es : List Expr} {ta : TA}
theorem pmk_x (c : ExM X.prog X.w X.K X.mg X.base k x C fs) (hr : Room j X.A) (hk : k + 1 ≤ j) (ha : PA X (e :: es) ta) (hg : Gl X x) (hdb : (x == ("__debug__" : Str)) = false)
    (he : starEach (e :: es) X.env = (false, eval e X.env) :: starEach es X.env) (hpl : (backTo pos (starEach es X.env)).any (·.1) = false) :
    L2N.PMk X (.Call (.Name x p) (e :: es) [] pos) (fun σ H Q => ta σ H fun us H1 => us.length = fs.length ∧ us.length ≤ 1000 ∧ ∀ d, H1 d = none → Q (.ref C) (some d) (upd H1 d (.xd (fs.zip us).reverse))) := by
  obtain ⟨T, hno, hm, fI, fd, ps, F1, iC, tI, hb⟩ := c
  intro pn s τ H Q I h
  obtain ⟨nm, qn, N, bs, bm, sn, sub, ab, col, dd, k0, k1, k2, k3, k5, hC, hbm⟩ := T.cls
  refine wpAny_Call_Name_kw (ld_glob I hg hm (PySem.W.callWith_K (h₀ := X.base) I.ok.mod.kin T.kC (thn (ha.run pos pn s τ H _ I h) fun us s1 hh => ?_) he hpl) hdb)
  obtain ⟨vs, H1, I1, r1, hl, hz, q1⟩ := hh
  refine ⟨I1.kIn, ?_⟩
  obtain ⟨hp, g, dr, tk, os⟩ := s1
  show wpAny _ _ (call (.ref C) us) _ _ _
  have hle := Nat.le_succ hp.objs.size
  have hn : H1 (hp.objs.size + 1) = none := I1.hok.fresh hle
  have hq := mk_go (Q := Q) T hno hl q1 (hp.objs.size + 1) hn
  have up : ∀ b o, hp.get? b = some o → ((hp.push (PySem.W.kdv_tup us)).push (PySem.HandSPX.excO C hp.objs.size)).get? b = some o := fun b o z => Heap.get?_push_of_some _ (Heap.get?_push_of_some _ z)
  have new : ((hp.push (PySem.W.kdv_tup us)).push (PySem.HandSPX.excO C hp.objs.size)).get? (hp.objs.size + 1) = some (PySem.HandSPX.excO C hp.objs.size) := by heap_get
  have J := I1.laid (t' := tk) (a := hp.objs.size + 1) (o := exo (hp.objs.size + 1) C none) up hle (exo_ok new)
  have rr : Vals (V.ref (hp.objs.size + 1) :: vs) (Value.ref (hp.objs.size + 1) :: us) := .cons rfl r1
  have ln : (Value.ref (hp.objs.size + 1) :: us ++ []).length = ps.length := by
    rw [List.append_nil, ← rr.length]
    exact F1.len _ _ _ _ hq
  have bb := hb _ (Value.ref (hp.objs.size + 1) :: us) J.kIn ln
  rw [List.append_nil] at bb
  have sz : us.length ≤ sizeLine := by
    rw [← r1.length, sizeLine_eq]
    omega
  have hr' : Room (k + 1) X.A := hr.mono hk
  have go := F1.run _ X.stack _ _ ⟨Value.ref (hp.objs.size + 1) :: us, []⟩ _ _ _ _ (hr'.make C us []) (J.env0.make C us []) bb rr hq
  refine wpAny_call (PySem.HandSPX.call_own F.excBase_ValueError (fun Y => PySem.HandSPX.refsVE_contains Y bm hbm) (I1.kIn _ _ hC) (PySem.W.looks_findIn I1.kIn iC) (fun self => PySem.W.bind_fn I1.kIn self tI) sz (codeAny_mono go fun rs s2 w => ?_))
  cases rs with
  | error er =>
    obtain ⟨_, _, _, _, _, _, _, _, _, _, _, _, z⟩ := w
    exact z.elim
  | ok fl =>
    cases fl with
    | ret u =>
      obtain ⟨v, H2, os2, ba, un, hok, rv, ev, d, gs, ea, ed, hd1, q2⟩ := w
      subst ev
      obtain ⟨h2, g2, d2, t2, os'⟩ := s2
      obtain ⟨t0, HG, J2, kG, ge, hoe, na⟩ := mk_end0 (d2 := d2) (t2 := t2) I1 hle up un hok os2 ba ea ed hd1
      exact ⟨rv, hp.objs.size + 1, _, _, ⟨HG, g2, d2, t2, os'⟩, _, .ref C, some d, rfl, J2, kG, ge, hoe, ⟨rfl, rfl, fun zs hv => by cases hv; rfl⟩, rfl, rfl, na, rfl, ba, raises_own T.exC T.tyC, q2⟩
    | next => exact w.elim
    | brk => exact w.elim
    | cont => exact w.elim
/-- raise x(e, ..) -/
theorem ps_rz {W : WX} (c : ExM X.prog X.w X.K X.mg X.base k x C fs) (hc : X.calm = true) (tk : L2N.Takes X W) (hr : Room j X.A) (hk : k + 1 ≤ j) (ha : PA X (e :: es) ta) (hg : Gl X x := by rfl) (hdb : (x == ("__debug__" : Str)) = false := by decide)
    (he : starEach (e :: es) X.env = (false, eval e X.env) :: starEach es X.env := by rfl) (hpl : (backTo pos (starEach es X.env)).any (·.1) = false := by rfl) : PS X (.Raise (some (.Call (.Name x p) (e :: es) [] pos)) none pos2) (tRz C fs W ta) :=
  L2N.ps_raise hc tk (pmk_x c hr hk ha hg hdb he hpl)
end
/-! ### the __init__ of one field, of two -/
theorem ini1 {K : PySem.W.Frag} {f : Str} {vs : List V} {H : Hp} {Q : VK} {E : XK} {N : List Str} (hN : N.length = 2) (h : spIn K [f] vs H Q E) : (tOst K f (tVar 0) (tVar 1)) { nx := fun _ H' => Q .non H', rt := Q } (start N vs) H := by
  obtain ⟨a, C, us, rfl, hl, T, hno, ha, q⟩ := h
  match us, hl with
  | [v], _ =>
    match N, hN with
    | [_, _], _ =>
      refine ⟨_, rfl, _, rfl, a, C, rfl, T, hno f (List.mem_singleton.mpr rfl), Or.inl ⟨ha, fun dx hd ne => ?_⟩⟩
      refine q dx _ hd ne upd_same ?_ fun b h1 h2 => ?_
      · rw [upd_ne ne, upd_same] <;> rfl
      · rw [upd_ne h1, upd_ne h2]
theorem ini2 {K : PySem.W.Frag} {f g : Str} {vs : List V} {H : Hp} {Q : VK} {E : XK} {N : List Str} (hN : N.length = 3) (h : spIn K [f, g] vs H Q E) :
    (tSeq (tOst K f (tVar 0) (tVar 1)) (tOst K g (tVar 0) (tVar 2))) { nx := fun _ H' => Q .non H', rt := Q } (start N vs) H := by
  obtain ⟨a, C, us, rfl, hl, T, hno, ha, q⟩ := h
  match us, hl with
  | [v, v2], _ =>
    match N, hN with
    | [_, _, _], _ =>
      refine ⟨_, rfl, _, rfl, a, C, rfl, T, hno f List.mem_cons_self, Or.inl ⟨ha, fun dx hd ne => ?_⟩⟩
      refine ⟨_, rfl, _, rfl, a, C, rfl, T, hno g (List.mem_cons_of_mem _ List.mem_cons_self), Or.inr ⟨dx, [(f, v)], upd_same, ?_, by show 1 ≤ 900; decide, ?_⟩⟩
      · rw [upd_ne ne, upd_same]
      · refine q dx _ hd ne ?_ upd_same fun b h1 h2 => ?_
        · rw [upd_ne (Ne.symm ne), upd_same]
        · rw [upd_ne h2, upd_ne h1, upd_ne h2]
end G

set_option Elab.async false
set_option linter.all false
set_option maxRecDepth 100000
set_option maxHeartbeats 4000000
/-! Operators that take what comes, and the steps of a reading, from the front. -/
namespace G
open PySem PySem.Spec PyProof.Rows L2

/-! ### operators by values -/
def rAddA : R2 := fun x y H Q => (∃ i j, x = .int i ∧ y = .int j ∧ Q (.int (i + j)) H) ∨ (∃ i j : Str, x = .str i ∧ y = .str j ∧ i.length + j.length ≤ sizeLine ∧ Q (.str (i ++ j)) H) ∨ rCat x y H Q
def rMulA : R2 := fun x y H Q => (∃ i j, x = .int i ∧ y = .int j ∧ CMul i j ∧ Q (.int (i * j)) H) ∨ rRep x y H Q
def rEqA (K : PySem.W.Frag) : R2 := fun x y H Q => rEq x y H Q ∨ rEqD K x y H Q
def rNeA (K : PySem.W.Frag) : R2 := fun x y H Q => rNe x y H Q ∨ rNeD K x y H Q
def rLenA (K : PySem.W.Frag) : List V → Hp → VK → Prop := fun xs H Q => ∃ x n, xs = [x] ∧ LenV K x H n ∧ Q (.int n) H
def rListA (K : PySem.W.Frag) : List V → Hp → VK → Prop := fun xs H Q => ∃ p ys, xs = [.ref p] ∧ (SqL K H p ys ∨ SqT K H p ys) ∧ ∀ l, H l = none → Q (.ref l) (upd H l (.lst ys))
def rIntA : List V → Hp → VK → Prop := fun xs H Q => (∃ i, xs = [.int i] ∧ Q (.int i) H) ∨ ∃ k, xs = [.bl k] ∧ Q (.int (if k then 1 else 0)) H
def rAbsA : List V → Hp → VK → Prop := fun xs H Q => ∃ i, xs = [.int i] ∧ Q (.int (if i < 0 then -i else i)) H
def rMin2A : List V → Hp → VK → Prop := fun xs H Q => ∃ i j, xs = [.int i, .int j] ∧ Q (.int (if j < i then j else i)) H
def rMax2A : List V → Hp → VK → Prop := fun xs H Q => ∃ i j, xs = [.int i, .int j] ∧ Q (.int (if j > i then j else i)) H
def rIsNA : R2 := fun x y H Q => y = .non ∧ Q (.bl (decide (x = .non))) H
def rNotNA : R2 := fun x y H Q => y = .non ∧ Q (.bl (!decide (x = .non))) H
abbrev rSubA : R2 := rI0 fun i j => .int (i - j)
abbrev rModA : R2 := rI (fun _ j => 0 < j) fun i j => .int (i % j)
abbrev rDivA : R2 := rI CDiv fun i j => .int (i / j)
abbrev rPowA : R2 := rI CPow fun i j => .int (i ^ j.toNat)
abbrev rLtA : R2 := rI0 fun i j => .bl (decide (i < j))
abbrev rLeA : R2 := rI0 fun i j => .bl (decide (i ≤ j))
abbrev rGtA : R2 := rI0 fun i j => .bl (decide (j < i))
abbrev rGeA : R2 := rI0 fun i j => .bl (decide (j ≤ i))
abbrev rNegA : V → Hp → VK → Prop := rU fun i => .int (-i)
section
variable {X : Cx}
theorem op_addA : OpR X (binaryOp .Add) rAddA := OpR.or op_add (OpR.or op_add_str op_cat)
theorem op_mulA : OpR X (binaryOp .Mult) rMulA := OpR.or op_mul op_rep
theorem op_eqA {k : Nat} (hr : Room k X.A) : OpR X (compareOp .Eq) (rEqA X.K) := OpR.or op_eq (op_eqD hr.units)
theorem op_neA {k : Nat} (hr : Room k X.A) : OpR X (compareOp .NotEq) (rNeA X.K) := OpR.or op_ne (op_neD hr.units)
theorem call_lenA : CallR X (.builtin "len") (rLenA X.K) := call_len
theorem call_listA : CallR X (.type "list") (rListA X.K) := call_list_of
theorem call_intA : CallR X (.type "int") rIntA := call_int1
theorem call_absA : CallR X (.builtin "abs") rAbsA := call_abs
theorem call_min2A (hc : X.calm = true) : CallR X (.builtin "min") rMin2A := call_min2 hc
theorem call_max2A (hc : X.calm = true) : CallR X (.builtin "max") rMax2A := call_max2 hc
theorem op_isNA : OpR X (compareOp .Is) rIsNA := op_isN
theorem op_notNA : OpR X (compareOp .IsNot) rNotNA := op_notN
end

/-! ### what frames a step: all that was tracked but the addresses of S -/
def Kp (S : List Addr) (H H' : Hp) : Prop := ∀ b o, b ∉ S → H b = some o → H' b = some o
theorem Kp.refl (S : List Addr) (H : Hp) : Kp S H H := fun _ _ _ h => h
theorem Kp.trans {S : List Addr} {H H1 H2 : Hp} (a : Kp S H H1) (b : Kp S H1 H2) : Kp S H H2 := fun c o n h => b c o n (a c o n h)
theorem Kp.mono {S S' : List Addr} {H H1 : Hp} (a : Kp S H H1) (h : ∀ b ∈ S, b ∈ S') : Kp S' H H1 := fun c o n e => a c o (fun z => n (h c z)) e
theorem Kp.all {S : List Addr} {H H1 : Hp} (a : Kp [] H H1) : Kp S H H1 := fun c o _ e => a c o (by simp) e
theorem Kp.new {S : List Addr} {H : Hp} {p : Addr} {o : HO} (n : H p = none) : Kp S H (upd H p o) := fun b u _ e => by
  rw [upd_ne (ne_of_none e n)]
  exact e
theorem Kp.put {S : List Addr} {H : Hp} {p : Addr} {o : HO} (h : p ∈ S) : Kp S H (upd H p o) := fun b u n e => by
  have ne : b ≠ p := fun z => n (by rw [z]; exact h)
  rw [upd_ne ne]
  exact e
/-- an object that H does not know may change -/
theorem Kp.mut {S : List Addr} {H H1 : Hp} {p : Addr} {o : HO} (e : Kp S H H1) (n : H p = none) : Kp S H (upd H1 p o) := fun b u h z => by
  rw [upd_ne (ne_of_none z n)]
  exact e b u h z
theorem Kp.at0 {H H' : Hp} {b : Addr} {o : HO} (k : Kp [] H H') (h : H b = some o) : H' b = some o := k b o (by simp) h
theorem Kp.at1 {H H' : Hp} {a b : Addr} {o : HO} (k : Kp [a] H H') (n : b ≠ a) (h : H b = some o) : H' b = some o := k b o (by simpa using n) h
theorem Kp.free {S : List Addr} {H H' : Hp} {b : Addr} (k : Kp S H H') (n : b ∉ S) (h : H' b = none) : H b = none := by
  cases e : H b with
  | none => rfl
  | some o =>
    rw [k b o n e] at h
    cases h
theorem Kp.free0 {H H' : Hp} {b : Addr} (k : Kp [] H H') (h : H' b = none) : H b = none := k.free (by simp) h
theorem Kp.sql {S : List Addr} {K : PySem.W.Frag} {H H' : Hp} {a : Addr} {xs : List V} (e : Kp S H H') (n : a ∉ S) (h : SqL K H a xs) : SqL K H' a xs := by
  rcases h with (h | ⟨o, h⟩) | h
  · exact .inl (.inl (e _ _ n h))
  · exact .inl (.inr ⟨o, e _ _ n h⟩)
  · exact .inr h
theorem Kp.sqt {S : List Addr} {K : PySem.W.Frag} {H H' : Hp} {a : Addr} {xs : List V} (e : Kp S H H') (n : a ∉ S) (h : SqT K H a xs) : SqT K H' a xs := by
  rcases h with (h | ⟨o, h⟩) | h
  · exact .inl (.inl (e _ _ n h))
  · exact .inl (.inr ⟨o, e _ _ n h⟩)
  · exact .inr h

/-! ### the steps -/
section
variable {K : PySem.W.Frag} {σ : L2.St} {H : Hp} {Q : VK} {ta tb tc te : TE} {t u : TT} {x y v : V} {QB : Bool → Hp → Prop} {QA : List V → Hp → Prop} {D : Ends} {s1 s2 : TS} {tl tr : TA} {i j : Int} {n m : Nat} {p q : Addr} {xs ys : List V}
theorem w_var {k : Nat} (h : σ[k]? = some (some v)) (g : Q v H) : tVar k σ H Q := ⟨v, h, g⟩
theorem w_c (g : Q v H) : tC v σ H Q := g
theorem w_op {r : R2} (g : ta σ H fun x H1 => tb σ H1 fun y H2 => r x y H2 Q) : tOp r ta tb σ H Q := g
theorem w_un {r : V → Hp → VK → Prop} (g : ta σ H fun x H1 => r x H1 Q) : tUn r ta σ H Q := g
theorem w_test (g : te σ H fun x H1 => ∃ k, x = .bl k ∧ QB k H1) : tTest te σ H QB := g
theorem w_tb (g : te σ H fun x H1 => ∃ k, x = .bl k ∧ QB k H1) : tB te σ H QB := g
theorem w_and (g : t σ H fun c H1 => if c = true then u σ H1 QB else QB false H1) : tAnd t u σ H QB := g
theorem w_or (g : t σ H fun c H1 => if c = true then QB true H1 else u σ H1 QB) : tOr t u σ H QB := g
theorem w_not (g : t σ H fun c H1 => QB (!c) H1) : tNot t σ H QB := g
theorem w_andV (g : ta σ H fun x H1 => ∃ c, x = .bl c ∧ if c = true then tb σ H1 Q else Q (.bl false) H1) : tAndV ta tb σ H Q := g
theorem w_orV (g : ta σ H fun x H1 => ∃ c, x = .bl c ∧ if c = true then Q (.bl true) H1 else tb σ H1 Q) : tOrV ta tb σ H Q := g
theorem w_notV (g : ta σ H fun x H1 => ∃ c, x = .bl c ∧ Q (.bl (!c)) H1) : tNotV ta σ H Q := g
theorem w_ifE (g : t σ H fun c H1 => if c = true then ta σ H1 Q else tb σ H1 Q) : tIf t ta tb σ H Q := g
theorem w_chain {r r' : R2} (g : ta σ H fun x H1 => tb σ H1 fun y H2 => r x y H2 fun z H3 => ∃ k, z = .bl k ∧ (if k = true then tc σ H3 fun w' H4 => r' y w' H4 Q else Q (.bl false) H3)) : tChain r r' ta tb tc σ H Q := g
theorem w_nil (g : QA [] H) : tNil σ H QA := g
theorem w_cons (g : ta σ H fun x H1 => tr σ H1 fun xs H2 => QA (x :: xs) H2) : tCons ta tr σ H QA := g
theorem w_cb {r : List V → Hp → VK → Prop} (g : tl σ H fun vs H1 => r vs H1 Q) : tCB r tl σ H Q := g
theorem w_cl {sp : Sp} {E : L2.St → XK} (g : tl σ H fun vs H1 => sp vs H1 Q (E σ)) : tCl sp E tl σ H Q := g
theorem w_tup (g : tl σ H fun xs H1 => xs.length ≤ sizeLine ∧ ∀ p, H1 p = none → Q (.ref p) (upd H1 p (.tup xs))) : tTup tl σ H Q := g
theorem w_lst (g : tl σ H fun xs H1 => xs.length ≤ sizeLine ∧ ∀ p, H1 p = none → Q (.ref p) (upd H1 p (.lst xs))) : tLst tl σ H Q := g
theorem w_bm {T : String} {r : V → List V → Hp → VK → Prop} (g : te σ H fun x H1 => tyV K T x H1 ∧ tl σ H1 fun xs H2 => r x xs H2 Q) : tBM K T r te tl σ H Q := g
theorem w_bm0 {T : String} {r : V → List V → Hp → VK → Prop} (g : te σ H fun x H1 => tyV K T x H1 ∧ r x [] H1 Q) : tBM0 K T r te σ H Q := g
theorem w_fld {f : Str} (g : ta σ H fun x H1 => ∃ a C dx fs v, x = .ref a ∧ H1 a = some (.ins C dx fs) ∧ Cls K C ∧ NoAttr K C f ∧ fs.lookup f = some v ∧ Q v H1) : tFld K ta f σ H Q := g
theorem w_mt {C : Addr} {m : Str} {sp : Sp} {E : L2.St → XK} (g : ta σ H fun x H1 => ∃ a dx fs, x = .ref a ∧ H1 a = some (.ins C dx fs) ∧ fs.lookup m = none ∧ tl σ H1 fun vs H2 => sp (x :: vs) H2 Q (E σ)) : tMt C m sp E ta tl σ H Q := g
theorem w_seq (g : s1 { D with nx := s2 D } σ H) : tSeq s1 s2 D σ H := g
theorem w_next (g : D.nx σ H) : tNext D σ H := g
theorem w_if (g : t σ H fun b H1 => if b = true then s1 D σ H1 else s2 D σ H1) : tIfS t s1 s2 D σ H := g
theorem w_ret (g : te σ H D.rt) : tRet te D σ H := g
theorem w_drop (g : te σ H fun _ H1 => D.nx σ H1) : tDrop te D σ H := g
theorem w_asg {k : Nat} (g : te σ H fun x H1 => D.nx (σ.set k (some x)) H1) : tAsg te (gName k) D σ H := g
theorem w_asgS {to ti : TE} {r : TSet} (g : te σ H fun v H0 => to σ H0 fun o H1 => ti σ H1 fun i H2 => r o i v H2 fun H3 => D.nx σ H3) : tAsg te (gSub to ti r) D σ H := g
theorem w_ast {k : Nat} {ts : TGs} (g : te σ H fun v H0 => ∃ a xs, v = .ref a ∧ SqT K H0 a xs ∧ xs.length = k ∧ ts xs σ H0 D.nx) : tAsg te (gTup K k ts) D σ H := g
theorem w_asf {f : Str} (g : te σ H fun y H1 => ta σ H1 fun x H2 => ∃ a C dx fs, x = .ref a ∧ H2 a = some (.ins C dx fs) ∧ Cls K C ∧ NoAttr K C f ∧ fs.length < 1000 ∧ D.nx σ (upd H2 a (.ins C dx (putF f y fs)))) : sFld K ta te f D σ H := g
theorem w_ex1 {P : Bool → Prop} {b : Bool} (g : P b) : ∃ k, V.bl b = .bl k ∧ P k := ⟨b, rfl, g⟩
theorem w_iteD {c A B : Prop} [Decidable c] (h1 : c → A) (h2 : ¬ c → B) : if decide c = true then A else B := by
  by_cases h : c
  · rw [decide_eq_true h]
    exact iteT (h1 h)
  · rw [decide_eq_false h]
    exact iteF (h2 h)
theorem w_iteN {c A B : Prop} [Decidable c] (h1 : ¬ c → A) (h2 : c → B) : if (!decide c) = true then A else B := by
  by_cases h : c
  · rw [decide_eq_true h]
    exact iteF (h2 h)
  · rw [decide_eq_false h]
    exact iteT (h1 h)
theorem w_iteB {b : Bool} {A B : Prop} (h1 : b = true → A) (h2 : b = false → B) : if b = true then A else B := by
  cases b with
  | true => exact iteT (h1 rfl)
  | false => exact iteF (h2 rfl)
theorem w_iteBN {b : Bool} {A B : Prop} (h1 : b = false → A) (h2 : b = true → B) : if (!b) = true then A else B := by
  cases b with
  | true => exact iteF (h2 rfl)
  | false => exact iteT (h1 rfl)
theorem w_addI (g : Q (.int (i + j)) H) : rAddA (.int i) (.int j) H Q := .inl ⟨i, j, rfl, rfl, g⟩
theorem w_addS {a b : Str} (h : a.length + b.length ≤ sizeLine) (g : Q (.str (a ++ b)) H) : rAddA (.str a) (.str b) H Q := .inr (.inl ⟨a, b, rfl, rfl, h, g⟩)
theorem w_addL (h1 : H p = some (.lst xs)) (h2 : H q = some (.lst ys)) (h : xs.length + ys.length ≤ sizeLine) (g : ∀ r, H r = none → Q (.ref r) (upd H r (.lst (xs ++ ys)))) : rAddA (.ref p) (.ref q) H Q :=
  .inr (.inr ⟨p, q, xs, ys, rfl, rfl, h1, h2, h, g⟩)
theorem w_mulI (h : CMul i j) (g : Q (.int (i * j)) H) : rMulA (.int i) (.int j) H Q := .inl ⟨i, j, rfl, rfl, h, g⟩
theorem w_mulL (h1 : H p = some (.lst xs)) (h2 : -(2 ^ 63) ≤ j) (h3 : j < 2 ^ 63) (h : xs.length * j.toNat ≤ sizeLine) (g : ∀ r, H r = none → Q (.ref r) (upd H r (.lst (List.replicate j.toNat xs).flatten))) : rMulA (.ref p) (.int j) H Q :=
  .inr ⟨p, j, xs, rfl, rfl, h1, h2, h3, h, g⟩
theorem w_i0 {f : Int → Int → V} (g : Q (f i j) H) : rI0 f (.int i) (.int j) H Q := ⟨i, j, rfl, rfl, g⟩
theorem w_ic {C : Int → Int → Prop} {f : Int → Int → V} (h : C i j) (g : Q (f i j) H) : rI C f (.int i) (.int j) H Q := ⟨i, j, rfl, rfl, h, g⟩
theorem w_u1 {f : Int → V} (g : Q (f i) H) : rU f (.int i) H Q := ⟨i, rfl, g⟩
theorem dec_I : decide (V.int i = V.int j) = decide (i = j) := by
  rw [Bool.eq_iff_iff]
  simp
theorem dec_S {a b : Str} : decide (V.str a = V.str b) = decide (a = b) := by
  rw [Bool.eq_iff_iff]
  simp
theorem dec_B {a b : Bool} : decide (V.bl a = V.bl b) = decide (a = b) := by
  rw [Bool.eq_iff_iff]
  simp
theorem w_eqI (g : Q (.bl (decide (i = j))) H) : rEqA K (.int i) (.int j) H Q := .inl ⟨rfl, by rw [dec_I]; exact g⟩
theorem w_eqS {a b : Str} (g : Q (.bl (decide (a = b))) H) : rEqA K (.str a) (.str b) H Q := .inl ⟨rfl, by rw [dec_S]; exact g⟩
theorem w_eqB {a b : Bool} (g : Q (.bl (decide (a = b))) H) : rEqA K (.bl a) (.bl b) H Q := .inl ⟨rfl, by rw [dec_B]; exact g⟩
theorem w_neI (g : Q (.bl (!decide (i = j))) H) : rNeA K (.int i) (.int j) H Q := .inl ⟨rfl, by rw [dec_I]; exact g⟩
theorem w_neS {a b : Str} (g : Q (.bl (!decide (a = b))) H) : rNeA K (.str a) (.str b) H Q := .inl ⟨rfl, by rw [dec_S]; exact g⟩
theorem w_neB {a b : Bool} (g : Q (.bl (!decide (a = b))) H) : rNeA K (.bl a) (.bl b) H Q := .inl ⟨rfl, by rw [dec_B]; exact g⟩
theorem w_eqD {d e : PyData} (h1 : Dp K H x d) (h2 : Dp K H y e) (h3 : SeqAt.shaped d = true) (h4 : SeqAt.shaped e = true) (g : Q (.bl (PyData.eqv d e)) H) : rEqA K x y H Q := .inr ⟨d, e, h1, h2, h3, h4, g⟩
theorem w_neD {d e : PyData} (h1 : Dp K H x d) (h2 : Dp K H y e) (h3 : SeqAt.shaped d = true) (h4 : SeqAt.shaped e = true) (g : Q (.bl (!PyData.eqv d e)) H) : rNeA K x y H Q := .inr ⟨d, e, h1, h2, h3, h4, g⟩
theorem w_isN0 (g : Q (.bl true) H) : rIsNA .non .non H Q := ⟨rfl, g⟩
theorem w_isN1 (h : x ≠ .non) (g : Q (.bl false) H) : rIsNA x .non H Q := ⟨rfl, by rw [decide_eq_false h]; exact g⟩
theorem w_notN0 (g : Q (.bl false) H) : rNotNA .non .non H Q := ⟨rfl, g⟩
theorem w_notN1 (h : x ≠ .non) (g : Q (.bl true) H) : rNotNA x .non H Q := ⟨rfl, by rw [decide_eq_false h]; exact g⟩
theorem w_lenL (h : SqL K H p xs) (g : Q (.int (xs.length : Int)) H) : rLenA K [.ref p] H Q := ⟨_, _, rfl, .inl ⟨xs, h, rfl⟩, g⟩
theorem w_lenT (h : SqT K H p xs) (g : Q (.int (xs.length : Int)) H) : rLenA K [.ref p] H Q := ⟨_, _, rfl, .inr ⟨xs, h, rfl⟩, g⟩
theorem w_lenS {a : Str} (h : a.length ≤ sizeLine) (g : Q (.int (a.length : Int)) H) : rLenA K [.str a] H Q := ⟨_, _, rfl, ⟨h, rfl⟩, g⟩
theorem w_listL (h : SqL K H p xs) (g : ∀ l, H l = none → Q (.ref l) (upd H l (.lst xs))) : rListA K [.ref p] H Q := ⟨p, xs, rfl, .inl h, g⟩
theorem w_listT (h : SqT K H p xs) (g : ∀ l, H l = none → Q (.ref l) (upd H l (.lst xs))) : rListA K [.ref p] H Q := ⟨p, xs, rfl, .inr h, g⟩
theorem w_intI (g : Q (.int i) H) : rIntA [.int i] H Q := .inl ⟨i, rfl, g⟩
theorem w_abs (g : Q (.int (if i < 0 then -i else i)) H) : rAbsA [.int i] H Q := ⟨i, rfl, g⟩
theorem w_min2 (g : Q (.int (if j < i then j else i)) H) : rMin2A [.int i, .int j] H Q := ⟨i, j, rfl, g⟩
theorem w_max2 (g : Q (.int (if j > i then j else i)) H) : rMax2A [.int i, .int j] H Q := ⟨i, j, rfl, g⟩
theorem w_ixL (h : SqL K H p xs) (ha : atI xs i = some v) (g : Q v H) : rIx K (.ref p) (.int i) H Q := .inl ⟨p, xs, i, v, rfl, rfl, h, ha, g⟩
theorem w_ixT (h : SqT K H p xs) (ha : atI xs i = some v) (g : Q v H) : rIx K (.ref p) (.int i) H Q := .inr (.inl ⟨p, xs, i, v, rfl, rfl, h, ha, g⟩)
theorem w_ixS {a : Str} {c : Nat} (h : a.length ≤ sizeLine) (ha : atI a.cps.toList i = some c) (g : Q (.str ⟨#[c]⟩) H) : rIx K (.str a) (.int i) H Q := .inr (.inr ⟨a, i, c, rfl, rfl, h, ha, g⟩)
theorem w_setL {R : Hp → Prop} (h : H p = some (.lst xs)) (ha : ixN xs.length i = some n) (g : R (upd H p (.lst (xs.set n v)))) : rSetL (.ref p) (.int i) v H R := ⟨p, xs, i, n, rfl, rfl, h, ha, g⟩
theorem w_app (h : H p = some (.lst xs)) (hl : xs.length < sizeLine) (g : Q .non (upd H p (.lst (xs ++ [v])))) : tyV K "list" (.ref p) H ∧ rAppend (.ref p) [v] H Q := ⟨.inl ⟨rfl, xs, SqL.of h⟩, p, xs, v, rfl, rfl, h, hl, g⟩
theorem w_ty (h : SqL K H p xs) : tyV K "list" (.ref p) H := .inl ⟨rfl, xs, h⟩
theorem w_append (h : H p = some (.lst xs)) (hl : xs.length < sizeLine) (g : Q .non (upd H p (.lst (xs ++ [v])))) : rAppend (.ref p) [v] H Q := ⟨p, xs, v, rfl, rfl, h, hl, g⟩
end
end G

set_option Elab.async false
set_option linter.all false
set_option maxRecDepth 100000
set_option maxHeartbeats 4000000
/-! Loops, comprehensions by words; the head's own facts. -/
namespace G
open PySem PySem.Spec PyProof.Rows L2

/-! ### what a loop wants of its walk J -/
def LoopG (J : It) (g : TG) (tb : TS) (D : Ends) (σ : L2.St) (H1 : Hp) : Prop := ∃ W : Nat → Nat → L2.St → Hp → Prop, (∃ m, W 0 m σ H1) ∧ ∀ i m σ H, W i m σ H →
  (J.stop i H ∧ D.nx σ H) ∨ (J.go i H ∧ ∃ N : L2.St → Hp → Prop, (∀ σ' H', N σ' H' → ∃ m', m' < m ∧ W (i + 1) m' σ' H') ∧ ∀ x H', J.yld i H x H' → g x σ H' fun σ2 H2 => tb { D with nx := N, ct := N, bk := D.nx } σ2 H2)
def CompG (J : It) (g : TG) (tt : TT) (te : TE) (vs : List Nat) (σ : L2.St) (Q : VK) (H1 : Hp) : Prop := ∀ D, H1 D = none → ∃ W : Nat → Nat → Hp → Prop, (∃ m, W 0 m (upd H1 D (.lst []))) ∧ ∀ i m H, W i m H →
  (J.stop i H ∧ Q (.ref D) H) ∨ (J.go i H ∧ ∃ Nx : Hp → Prop, (∀ H', Nx H' → ∃ m', m' < m ∧ W (i + 1) m' H') ∧ ∀ x H', J.yld i H x H' → g x (wipe σ vs) H' fun σ2 H2 => wipe σ2 vs = wipe σ vs ∧ tt σ2 H2 fun b H3 =>
    if b = true then te σ2 H3 fun y H4 => ∃ acc, H4 D = some (.lst acc) ∧ acc.length < sizeLine ∧ Nx (upd H4 D (.lst (acc ++ [y]))) else Nx H3)
section
variable {K : PySem.W.Frag} {σ : L2.St} {H : Hp} {Q : VK} {ta : TA} {te tl : TE} {tt : TT} {D : Ends} {tb : TS} {g : TG} {wi : TI} {j : Nat} {R : It → Hp → Prop} {vs : List Nat}
theorem w_for (h : wi σ H fun J H1 => LoopG J g tb D σ H1) : tFor wi g tb D σ H := h
theorem w_lc (h : wi σ H fun J H1 => CompG J g tt te vs σ Q H1) : tLc wi g tt te vs σ H Q := h
theorem w_iR1 (h : ta σ H fun vs H1 => ∃ j : Int, vs = [.int j] ∧ -(2 ^ 62) ≤ j ∧ j < 2 ^ 62 ∧ R (Itr 0 j.toNat) H1) : iRng1 ta σ H R := h
theorem w_iR2 (h : ta σ H fun vs H1 => ∃ i j : Int, vs = [.int i, .int j] ∧ (-(2 ^ 62) ≤ i ∧ i < 2 ^ 62 ∧ -(2 ^ 62) ≤ j ∧ j < 2 ^ 62) ∧ R (Itr i (j - i).toNat) H1) : iRng2 ta σ H R := h
theorem w_rng1 {n : Int} (h : -(2 ^ 62) ≤ n ∧ n < 2 ^ 62) (g : R (Itr 0 n.toNat) H) : ∃ j : Int, [V.int n] = [.int j] ∧ -(2 ^ 62) ≤ j ∧ j < 2 ^ 62 ∧ R (Itr 0 j.toNat) H := ⟨n, rfl, h.1, h.2, g⟩
theorem w_rng2 {a b : Int} (h : -(2 ^ 62) ≤ a ∧ a < 2 ^ 62 ∧ -(2 ^ 62) ≤ b ∧ b < 2 ^ 62) (g : R (Itr a (b - a).toNat) H) :
    ∃ i j : Int, [V.int a, V.int b] = [.int i, .int j] ∧ (-(2 ^ 62) ≤ i ∧ i < 2 ^ 62 ∧ -(2 ^ 62) ≤ j ∧ j < 2 ^ 62) ∧ R (Itr i (j - i).toNat) H := ⟨a, b, rfl, h, g⟩
theorem w_iL (h : tl σ H fun x H1 => ∃ a, x = .ref a ∧ (∃ xs, SqL K H1 a xs) ∧ R (Itl K a) H1) : iList K tl σ H R := h
theorem w_iT (h : tl σ H fun x H1 => ∃ a, x = .ref a ∧ (∃ xs, SqT K H1 a xs) ∧ R (Itt K a) H1) : iTup K tl σ H R := h
theorem w_lst1 {a : Addr} {xs : List V} (h : SqL K H a xs) (g : R (Itl K a) H) : ∃ b, V.ref a = .ref b ∧ (∃ xs, SqL K H b xs) ∧ R (Itl K b) H := ⟨a, rfl, ⟨xs, h⟩, g⟩
theorem w_tup1 {a : Addr} {xs : List V} (h : SqT K H a xs) (g : R (Itt K a) H) : ∃ b, V.ref a = .ref b ∧ (∃ xs, SqT K H b xs) ∧ R (Itt K b) H := ⟨a, rfl, ⟨xs, h⟩, g⟩
theorem w_iE (h : ta σ H fun vs H1 => ∃ a xs, vs = [.ref a] ∧ SqL K H1 a xs ∧ R (Ite K a) H1) : iEnum K ta σ H R := h
theorem w_iZ (h : ta σ H fun vs H1 => ∃ a b xs ys, vs = [.ref a, .ref b] ∧ SqL K H1 a xs ∧ SqL K H1 b ys ∧ R (Itz K a b) H1) : iZip K ta σ H R := h

/-! ### loops -/
theorem lp_rng {lo : Int} {n : Nat} (Pv : Nat → L2.St → Hp → Prop) (h0 : Pv 0 σ H) (hs : ∀ (i : Nat) σ' H', i < n → Pv i σ' H' → g (.int (lo + (i : Int))) σ' H' fun σ2 H2 => tb { D with nx := Pv (i + 1), ct := Pv (i + 1), bk := D.nx } σ2 H2)
    (hd : ∀ σ' H', Pv n σ' H' → D.nx σ' H') : LoopG (Itr lo n) g tb D σ H := for_range Pv h0 hs hd
theorem lp_rng0 {n : Nat} (Pv : Nat → L2.St → Hp → Prop) (h0 : Pv 0 σ H) (hs : ∀ (i : Nat) σ' H', i < n → Pv i σ' H' → g (.int (i : Int)) σ' H' fun σ2 H2 => tb { D with nx := Pv (i + 1), ct := Pv (i + 1), bk := D.nx } σ2 H2)
    (hd : ∀ σ' H', Pv n σ' H' → D.nx σ' H') : LoopG (Itr 0 n) g tb D σ H := for_range Pv h0 (fun i σ' H' hi p => by rw [Int.zero_add]; exact hs i σ' H' hi p) hd
theorem lp_lst {a : Addr} {xs : List V} (Pv : Nat → L2.St → Hp → Prop) (h0 : Pv 0 σ H) (hl : ∀ i σ' H', i ≤ xs.length → Pv i σ' H' → SqL K H' a xs)
    (hs : ∀ i x σ' H', xs[i]? = some x → Pv i σ' H' → g x σ' H' fun σ2 H2 => tb { D with nx := Pv (i + 1), ct := Pv (i + 1), bk := D.nx } σ2 H2) (hd : ∀ σ' H', Pv xs.length σ' H' → D.nx σ' H') : LoopG (Itl K a) g tb D σ H := for_list Pv h0 hl hs hd
theorem lp_tup {a : Addr} {xs : List V} (Pv : Nat → L2.St → Hp → Prop) (h0 : Pv 0 σ H) (hl : ∀ i σ' H', i ≤ xs.length → Pv i σ' H' → SqT K H' a xs)
    (hs : ∀ i x σ' H', xs[i]? = some x → Pv i σ' H' → g x σ' H' fun σ2 H2 => tb { D with nx := Pv (i + 1), ct := Pv (i + 1), bk := D.nx } σ2 H2) (hd : ∀ σ' H', Pv xs.length σ' H' → D.nx σ' H') : LoopG (Itt K a) g tb D σ H := for_tup Pv h0 hl hs hd
theorem lp_enum {a : Addr} {xs : List V} (Pv : Nat → L2.St → Hp → Prop) (h0 : Pv 0 σ H) (hl : ∀ i σ' H', i ≤ xs.length → Pv i σ' H' → SqL K H' a xs)
    (hs : ∀ (i : Nat) (x : V) (T : Addr) σ' H', xs[i]? = some x → Pv i σ' H' → H' T = none → g (.ref T) σ' (upd H' T (.tup [.int (i : Int), x])) fun σ2 H2 => tb { D with nx := Pv (i + 1), ct := Pv (i + 1), bk := D.nx } σ2 H2)
    (hd : ∀ σ' H', Pv xs.length σ' H' → D.nx σ' H') : LoopG (Ite K a) g tb D σ H := by
  refine ⟨fun i m σ H => m = xs.length - i ∧ i ≤ xs.length ∧ Pv i σ H, ⟨xs.length, by simp, Nat.zero_le _, h0⟩, ?_⟩
  rintro i m σ H ⟨rfl, hi, p⟩
  have q := hl i σ H hi p
  by_cases lt : i < xs.length
  · refine .inr ⟨⟨xs, xs[i], q, by simp [lt]⟩, Pv (i + 1), fun σ' H' p' => ⟨xs.length - (i + 1), by omega, rfl, lt, p'⟩, fun v H' y => ?_⟩
    obtain ⟨T, x, rfl, nT, rfl, hx⟩ := y
    exact hs i x T σ H (hx xs q) p nT
  · have e : i = xs.length := by omega
    subst e
    exact .inl ⟨⟨xs, q, Nat.le_refl _⟩, hd σ H p⟩

/-! ### comprehensions: items i is what stands behind i turns -/
theorem cp_go {J : It} {n : Nat} (items : Nat → List V) (Ok : Hp → Prop) (hz : ∀ i, i < n → (items i).length < sizeLine) (h0 : items 0 = []) (ok0 : ∀ H', Kp [] H H' → Ok H') (hgo : ∀ i H', i < n → Ok H' → J.go i H') (hst : ∀ H', Ok H' → J.stop n H')
    (hs : ∀ (i : Nat) (x : V) (H' H'' : Hp) (S : V → Hp → Prop) (N : Hp → Prop), i < n → Kp [] H H' → J.yld i H' x H'' → (∀ y H4, Kp [] H' H4 → items (i + 1) = items i ++ [y] → S y H4) → (∀ H4, Kp [] H' H4 → items (i + 1) = items i → N H4) →
      g x (wipe σ vs) H'' fun σ2 H2 => wipe σ2 vs = wipe σ vs ∧ tt σ2 H2 fun b H3 => if b = true then te σ2 H3 S else N H3)
    (hd : ∀ D H', H D = none → Kp [] H H' → H' D = some (.lst (items n)) → Q (.ref D) H') : CompG J g tt te vs σ Q H := by
  intro D nD
  refine ⟨fun i m H' => m = n - i ∧ i ≤ n ∧ Kp [] H H' ∧ H' D = some (.lst (items i)), ⟨n, by simp, Nat.zero_le _, Kp.new nD, by rw [h0]; exact upd_same⟩, ?_⟩
  rintro i m H' ⟨rfl, hi, k, e⟩
  by_cases lt : i < n
  · refine .inr ⟨hgo i H' lt (ok0 H' k), fun H'' => Kp [] H H'' ∧ H'' D = some (.lst (items (i + 1))), fun H'' p => ⟨n - (i + 1), by omega, rfl, lt, p.1, p.2⟩, fun x H'' y => ?_⟩
    refine hs i x H' H'' _ _ lt k y (fun y H4 k4 ei => ⟨items i, k4.at0 e, hz i lt, ?_, ?_⟩) (fun H4 k4 ei => ⟨k.trans k4, ?_⟩)
    · exact Kp.mut (k.trans k4) nD
    · rw [ei]
      exact upd_same
    · rw [ei]
      exact k4.at0 e
  · have ei : i = n := by omega
    subst ei
    exact .inl ⟨hst H' (ok0 H' k), hd D H' nD k e⟩
theorem cp_rng {lo : Int} {n : Nat} (items : Nat → List V) (hz : ∀ i, i < n → (items i).length < sizeLine) (h0 : items 0 = [])
    (hs : ∀ (i : Nat) (H' : Hp) (S : V → Hp → Prop) (N : Hp → Prop), i < n → Kp [] H H' → (∀ y H4, Kp [] H' H4 → items (i + 1) = items i ++ [y] → S y H4) → (∀ H4, Kp [] H' H4 → items (i + 1) = items i → N H4) →
      g (.int (lo + (i : Int))) (wipe σ vs) H' fun σ2 H2 => wipe σ2 vs = wipe σ vs ∧ tt σ2 H2 fun b H3 => if b = true then te σ2 H3 S else N H3)
    (hd : ∀ D H', H D = none → Kp [] H H' → H' D = some (.lst (items n)) → Q (.ref D) H') : CompG (Itr lo n) g tt te vs σ Q H :=
  cp_go items (fun _ => True) hz h0 (fun _ _ => trivial) (fun i H' hi _ => hi) (fun H' _ => Nat.le_refl n) (fun i x H' H'' S N hi k y a b => by
    obtain ⟨rfl, rfl⟩ := y
    exact hs i H'' S N hi k a b) hd
theorem cp_lst {a : Addr} {xs : List V} (h : SqL K H a xs) (items : Nat → List V) (hz : ∀ i, i < xs.length → (items i).length < sizeLine) (h0 : items 0 = [])
    (hs : ∀ (i : Nat) (x : V) (H' : Hp) (S : V → Hp → Prop) (N : Hp → Prop), xs[i]? = some x → Kp [] H H' → (∀ y H4, Kp [] H' H4 → items (i + 1) = items i ++ [y] → S y H4) → (∀ H4, Kp [] H' H4 → items (i + 1) = items i → N H4) →
      g x (wipe σ vs) H' fun σ2 H2 => wipe σ2 vs = wipe σ vs ∧ tt σ2 H2 fun b H3 => if b = true then te σ2 H3 S else N H3)
    (hd : ∀ D H', H D = none → Kp [] H H' → H' D = some (.lst (items xs.length)) → Q (.ref D) H') : CompG (Itl K a) g tt te vs σ Q H :=
  cp_go (n := xs.length) items (fun H' => SqL K H' a xs) hz h0 (fun _ k => k.sql (by simp) h) (fun i H' hi q => ⟨xs, xs[i], q, by simp [hi]⟩) (fun H' q => ⟨xs, q, Nat.le_refl _⟩) (fun i x H' H'' S N hi k y a b => by
    obtain ⟨rfl, hx⟩ := y
    exact hs i x H'' S N (hx xs (k.sql (by simp) h)) k a b) hd
theorem cp_tup {a : Addr} {xs : List V} (h : SqT K H a xs) (items : Nat → List V) (hz : ∀ i, i < xs.length → (items i).length < sizeLine) (h0 : items 0 = [])
    (hs : ∀ (i : Nat) (x : V) (H' : Hp) (S : V → Hp → Prop) (N : Hp → Prop), xs[i]? = some x → Kp [] H H' → (∀ y H4, Kp [] H' H4 → items (i + 1) = items i ++ [y] → S y H4) → (∀ H4, Kp [] H' H4 → items (i + 1) = items i → N H4) →
      g x (wipe σ vs) H' fun σ2 H2 => wipe σ2 vs = wipe σ vs ∧ tt σ2 H2 fun b H3 => if b = true then te σ2 H3 S else N H3)
    (hd : ∀ D H', H D = none → Kp [] H H' → H' D = some (.lst (items xs.length)) → Q (.ref D) H') : CompG (Itt K a) g tt te vs σ Q H :=
  cp_go (n := xs.length) items (fun H' => SqT K H' a xs) hz h0 (fun _ k => k.sqt (by simp) h) (fun i H' hi q => ⟨xs, xs[i], q, by simp [hi]⟩) (fun H' q => ⟨xs, q, Nat.le_refl _⟩) (fun i x H' H'' S N hi k y a b => by
    obtain ⟨rfl, hx⟩ := y
    exact hs i x H'' S N (hx xs (k.sqt (by simp) h)) k a b) hd
theorem cp_enum {a : Addr} {xs : List V} (h : SqL K H a xs) (items : Nat → List V) (hz : ∀ i, i < xs.length → (items i).length < sizeLine) (h0 : items 0 = [])
    (hs : ∀ (i : Nat) (x : V) (T : Addr) (H' : Hp) (S : V → Hp → Prop) (N : Hp → Prop), xs[i]? = some x → Kp [] H H' → H' T = none → (∀ y H4, Kp [] H' H4 → items (i + 1) = items i ++ [y] → S y H4) → (∀ H4, Kp [] H' H4 → items (i + 1) = items i → N H4) →
      g (.ref T) (wipe σ vs) (upd H' T (.tup [.int (i : Int), x])) fun σ2 H2 => wipe σ2 vs = wipe σ vs ∧ tt σ2 H2 fun b H3 => if b = true then te σ2 H3 S else N H3)
    (hd : ∀ D H', H D = none → Kp [] H H' → H' D = some (.lst (items xs.length)) → Q (.ref D) H') : CompG (Ite K a) g tt te vs σ Q H :=
  cp_go (n := xs.length) items (fun H' => SqL K H' a xs) hz h0 (fun _ k => k.sql (by simp) h) (fun i H' hi q => ⟨xs, xs[i], q, by simp [hi]⟩) (fun H' q => ⟨xs, q, Nat.le_refl _⟩) (fun i v H' H'' S N hi k y a b => by
    obtain ⟨T, x, rfl, nT, rfl, hx⟩ := y
    exact hs i x T H' S N (hx xs (k.sql (by simp) h)) k nT a b) hd
end

/-! ### the head's facts: any tests of the written part -/
abbrev Chk := PySem.W.Frag → Bool
def obsX (fa : List Chk) (fn : List He.DefD) (K : PySem.W.Frag) : He.AlD := ((fa.all fun f => f K) && fn.all fun d => d.ok K, fn.map fun d => He.fnW K d.at_)
def SaysX (fa : List Chk) (fn : List He.DefD) (K : PySem.W.Frag) : Prop := obsX fa fn K = He.valD fn
def obsXG (n : Nat) (fa : List Chk) (fn : List He.DefD) (g : Addr → Option Obj) : He.AlD := obsX fa fn (He.frG g (He.asD g n ++ [cStatics]))
def hookX (n : Nat) (fa : List Chk) (fn : List He.DefD) : PySem.W.Hook where
  α := He.AlD
  obs := fun s => obsXG n fa fn s.heap.get?
  val := fun _ => He.valD fn
  says := fun _ h => ∃ K : PySem.W.Frag, K.In h ∧ SaysX fa fn K
  of := fun _ _ e => ⟨_, He.frG_in, e⟩
  keeps := fun _ _ _ ⟨K, hK, c⟩ k => ⟨K, PySem.W.Frag.In.keeps hK k, c⟩
theorem obsXG_eq {n : Nat} {fa : List Chk} {fn : List He.DefD} {g : Addr → Option Obj} {s : Shared} (h : ∀ a, g a = s.heap.get? a) : obsXG n fa fn g = (hookX n fa fn).obs s := by
  have e : g = s.heap.get? := funext h
  rw [e] <;> rfl
section
variable {fa : List Chk} {fn : List He.DefD} {K : PySem.W.Frag}
theorem SaysX.fact (c : SaysX fa fn K) (i : Nat) {f : Chk} (h : fa[i]? = some f := by rfl) : f K = true := by
  have c1 := (He.ba (show ((fa.all fun f => f K) && fn.all fun d => d.ok K) = true from congrArg (fun z : He.AlD => z.1) c)).1
  exact List.all_eq_true.mp c1 f (List.mem_of_getElem? h)
theorem SaysX.def_ (c : SaysX fa fn K) (i : Nat) {d : He.DefD} (h : fn[i]? = some d := by rfl) : ∃ fd, FunD K d.name d.qual d.params d.body d.scope (d.dvs K) (d.kws K) (He.fAd K d.at_) fd := by
  have c2 := (He.ba (show ((fa.all fun f => f K) && fn.all fun d => d.ok K) = true from congrArg (fun z : He.AlD => z.1) c)).2
  have e : fn.map (fun d => He.fnW K d.at_) = fn.map He.DefD.val := congrArg (fun z : He.AlD => z.2) c
  have e2 : (fn.map fun d => He.fnW K d.at_)[i]? = (fn.map He.DefD.val)[i]? := by rw [e]
  rw [List.getElem?_map, List.getElem?_map, h] at e2
  exact He.DefD.funD (Option.some.inj e2) (List.all_eq_true.mp c2 d (List.mem_of_getElem? h))
/-- a plain fact of He -/
abbrev fa_ (f : He.Fa) : Chk := fun K => f.ok K
/-- a class of errors, as it is made -/
def oexB (C : Addr) (K : PySem.W.Frag) : Bool := match K.lookup C with
  | some ⟨.type "type", _, .cls cd, sl⟩ => (match cd.mro, sl.toList with
    | .ref C1 :: bm, [_, _, _, _, some (.builtin n), _] => C1 == C && n == "ValueError.__new__" && !cd.hasDel && cd.hasDict && PySem.HandSPX.refsVE bm
    | _, _ => false)
  | _ => false
theorem oexB_ok {C : Addr} (q : oexB C K = true) : ∃ nm qn N bs bm sn sub ab col dd k0 k1 k2 k3 k5, K.lookup C = some (excClassObj nm qn C N bs bm true sn sub ab col dd k0 k1 k2 k3 k5 "ValueError.__new__") ∧ PySem.HandSPX.refsVE bm = true := by
  unfold oexB at q
  split at q
  · rename_i dd cd sl ho
    split at q
    · rename_i C1 bm k0 k1 k2 k3 n k5 hm hs
      simp only [Bool.and_eq_true, beq_iff_eq, Bool.not_eq_true'] at q
      obtain ⟨⟨⟨⟨rfl, rfl⟩, del⟩, hd⟩, hr⟩ := q
      obtain ⟨nm, bs, mro, ns, qn, hdd, sn, sub, ab, col, dl⟩ := cd
      dsimp only at hm del hd
      subst hm del hd
      have es : sl = #[k0, k1, k2, k3, some (.builtin "ValueError.__new__"), k5] := by
        obtain ⟨l⟩ := sl
        exact congrArg Array.mk hs
      subst es
      exact ⟨nm, qn, ns, bs, bm, sn, sub, ab, col, dd, k0, k1, k2, k3, k5, ho, hr⟩
    · cases q
  · cases q
def eqT (a b : Option Bool) : Bool := decide (a = b)
/-- all that an own class of errors C with the fields fs is asked -/
def excB (x : Str) (fs : List Str) (K : PySem.W.Frag) : Bool := oexB (He.ga K x) K && (He.eqO (PySem.W.findIn K (.ref (He.ga K x)) "__setattr__") (some (some (.builtin "object.__setattr__"))) &&
  (eqT (PySem.W.subIn K (.ref (He.ga K x)) (.type "BaseException")) (some true) && (decide (PySem.W.typeIn K (.ref (He.ga K x)) = some (.type "type")) && (PySem.W.keepIn K (.ref (He.ga K x)) &&
  (fs.all fun f => He.eqO (PySem.W.findIn K (.ref (He.ga K x)) f) (some none))))))
/-- .. and its instances are asked -/
def askB (x : Str) (K : PySem.W.Frag) : Bool := (PySem.W.clsIn K (He.ga K x)).isSome && (He.eqO (PySem.W.findIn K (.ref (He.ga K x)) "__getattribute__") (some (some (.builtin "BaseException.__getattribute__"))) &&
  (He.eqO (PySem.W.findIn K (.ref (He.ga K x)) "__getattr__") (some none) && (eqT (PySem.W.subIn K (.ref (He.ga K x)) (.type "BaseException")) (some true) && (PySem.W.hasDictIn K (He.ga K x) &&
  (He.eqO (PySem.W.findIn K (.ref (He.ga K x)) "__class__") (some (some (.builtin "object.__class__"))) && (He.eqO (PySem.W.specialIn K (.builtin "object.__class__") "__get__") (some (some (.builtin "getset_descriptor.__get__"))) &&
  (eqT (PySem.W.takesIn K (.builtin "object.__class__")) (some true) && eqT (PySem.W.mroIn K (He.ga K x) (.type "object")) (some true))))))))
theorem excB_ok {x : Str} {fs : List Str} (q : excB x fs K = true) : OexC K (He.ga K x) ∧ ∀ f ∈ fs, PySem.W.findIn K (.ref (He.ga K x)) f = some none := by
  obtain ⟨q1, q⟩ := He.ba q
  obtain ⟨q2, q⟩ := He.ba q
  obtain ⟨q3, q⟩ := He.ba q
  obtain ⟨q4, q⟩ := He.ba q
  obtain ⟨q5, q6⟩ := He.ba q
  exact ⟨⟨oexB_ok q1, He.eqO_ok q2, of_decide_eq_true q3, of_decide_eq_true q4, q5⟩, fun f hf => He.eqO_ok (List.all_eq_true.mp q6 f hf)⟩
theorem askB_ok {x : Str} (q : askB x K = true) : ExK K (He.ga K x) := by
  obtain ⟨q1, q⟩ := He.ba q
  obtain ⟨q2, q⟩ := He.ba q
  obtain ⟨q3, q⟩ := He.ba q
  obtain ⟨q4, q⟩ := He.ba q
  obtain ⟨q5, q⟩ := He.ba q
  obtain ⟨q6, q⟩ := He.ba q
  obtain ⟨q7, q⟩ := He.ba q
  obtain ⟨q8, q9⟩ := He.ba q
  exact ⟨q1, He.eqO_ok q2, He.eqO_ok q3, of_decide_eq_true q4, q5, He.eqO_ok q6, He.eqO_ok q7, of_decide_eq_true q8, of_decide_eq_true q9⟩
/-- isinstance of an instance of x by the class y, by a built-in one -/
def kitB2 (x y : Str) (b : Bool) (K : PySem.W.Frag) : Bool := eqT (PySem.W.kitOne K (.ref (He.ga K x)) (.ref (He.ga K y))) (some b)
def kitT2 (x : Str) (y : String) (b : Bool) (K : PySem.W.Frag) : Bool := eqT (PySem.W.kitOne K (.ref (He.ga K x)) (.type y)) (some b)
/-- except y takes an x -/
def exmB (x y : Str) (b : Bool) (K : PySem.W.Frag) : Bool := eqT (PySem.W.exmOne K (.ref (He.ga K x)) (.ref (He.ga K y))) (some b)
/-- the __init__ that is found, a function -/
def iniB (x : Str) (K : PySem.W.Frag) : Bool := He.eqO (PySem.W.findIn K (.ref (He.ga K x)) "__init__") (some (some (.ref (He.ma K (He.ga K x) "__init__")))) && decide (PySem.W.typeIn K (.ref (He.ma K (He.ga K x) "__init__")) = some (.type "function"))
theorem iniB_ok {x : Str} (q : iniB x K = true) : PySem.W.findIn K (.ref (He.ga K x)) "__init__" = some (some (.ref (He.ma K (He.ga K x) "__init__"))) ∧ PySem.W.typeIn K (.ref (He.ma K (He.ga K x) "__init__")) = some (.type "function") := by
  obtain ⟨q1, q2⟩ := He.ba q
  exact ⟨He.eqO_ok q1, of_decide_eq_true q2⟩
end
end G

set_option Elab.async false
set_option linter.all false
set_option maxRecDepth 100000
set_option maxHeartbeats 4000000
/-! Constants of a class; truth; two things more. -/
namespace G
open PySem PySem.Spec PyProof.Rows L2
section
variable {X : Cx} {C : Addr} {mc u : Value} {v : V} {e : Expr} {f : Str} {pos : Pos} {ta : TE}
theorem pe_cc (k : ∃ mc u, ClX.CRead X.K C mc ∧ ClX.CVal X.K C mc f v u) (he : PE X e (tC (.ref C))) (hb : attributeBase e f X.env (eval e X.env) = eval e X.env := by rfl) : PE X (.Attribute e f pos) (tC v) := by
  obtain ⟨mc, u, r, k⟩ := k
  exact ⟨fun pins s σ H Q I h => (ClX.pe_cval he hb).run pins s σ H Q I ⟨C, mc, v, u, rfl, r, k, h⟩⟩
def tTr (K : PySem.W.Frag) (ta : TE) : TT := fun σ H Q => ta σ H fun x H' => ∃ k, TruV K x H' k ∧ Q k H'
theorem pt_tr (ha : PE X e ta) (he : ∀ whole, isTrue e X.env whole = (do let v ← whole; standAt e.pos; holding [v] (truthy v))) : PT X e (tTr X.K ta) := pt_truth ha he
end
/-- x.f is the whole number i -/
def ccB (x f : Str) (i : Int) (K : PySem.W.Frag) : Bool := PySem.W.readsIn K (He.ga K x) (.type "type") && (He.eqO (PySem.W.specialIn K (.ref (He.ga K x)) "__getattribute__") (some (some (.builtin "type.__getattribute__"))) &&
  (match PySem.W.findCls K (.ref (He.ga K x)) (.type "type") f with
  | some (.val (.int j _)) => decide (j = i)
  | _ => false))
theorem ccB_ok {K : PySem.W.Frag} {x f : Str} {i : Int} (q : ccB x f i K = true) : ∃ mc u, ClX.CRead K (He.ga K x) mc ∧ ClX.CVal K (He.ga K x) mc f (.int i) u := by
  obtain ⟨q1, q⟩ := He.ba q
  obtain ⟨q2, q3⟩ := He.ba q
  have q4 : (match PySem.W.findCls K (.ref (He.ga K x)) (.type "type") f with
    | some (.val (.int j _)) => decide (j = i)
    | _ => false) = true := q3
  split at q4
  · rename_i j t e
    have ej : j = i := of_decide_eq_true q4
    subst ej
    exact ⟨.type "type", .int j t, ⟨q1, He.eqO_ok q2⟩, ⟨e, t, rfl⟩⟩
  · cases q4
/-- a fact's list is looked up -/
theorem glf_ok {K : PySem.W.Frag} {h : Heap} {mg : Str → Option Value} {x : Str} (X : K.In h) (G : h.Ns mainGlobals mg) (c : (He.Fa.glo x).ok K = true) : mg x = some (.ref (He.ga K x)) := He.glo_ok X G c
end G
namespace G
open PySem PySem.Spec PyProof.Rows L2
/-- a built-in class as a value -/
theorem pe_ty {X : Cx} {x : Str} (n : String) {pos : Pos} (hm : X.mg x = none) (hv : bootBuiltins x = some (.type n)) (hg : Gl X x := by rfl) (hn : x ≠ "__name__" := by decide) (hd : (x == ("__debug__" : Str)) = false := by decide) : PE X (.Name x pos) (tC (.ty n)) :=
  pe_bltn hg hm hv rfl hn hd
/-- an own class as a value -/
theorem pe_own {X : Cx} {x : Str} {C : Addr} {pos : Pos} (hm : X.mg x = some (.ref C)) (hg : Gl X x := by rfl) (hd : (x == ("__debug__" : Str)) = false := by decide) : PE X (.Name x pos) (tC (.ref C)) := pe_glob hg hm rfl hd
end G
namespace G
open PySem PySem.Spec PyProof.Rows L2
/-- a def of the text where an exception is handled -/
theorem okH {P : Program} {w : World} {K : PySem.W.Frag} {mg : Str → Option Value} {base : Heap} {CX : CXT} {x qual : Str} {params : Arguments} {body : List Stmt} {scope : Scope} {dvs : List V} {kws : List (Str × V)} {f : Addr} {fd : FuncData} {N ps : List Str} {k : Nat} {sp : Sp}
    (F : FunD K x qual params body scope dvs kws f fd) (S : FnScope N ps scope) (len : ∀ vs H Q E, sp vs H Q E → vs.length = ps.length)
    (hb : ∀ (cdv : Value) (A : Around) (outer : List Env) (s : Shared) (H : Hp) (vs : List V) (Q : VK) (E : XK) (p : Addr × Obj), L2H.Hot1 A p → L2H.RoomH k (A.deeper (envOfC qual scope s.heap.objs.size f cdv)) → sp vs H Q E →
      ∃ t, PSs (L2H.cxH CX P w K mg base N qual scope f cdv A outer s H E p) body t ∧ t { nx := fun _ H' => Q .non H', rt := Q } (start N vs) H) : L2H.FnH P w K mg base CX (k + 1) f fd ps sp := by
  obtain ⟨oc, od, dV, kV, doc, pm, an, cdv, ct, osl, rfl, lk, hcd, _, _⟩ := F.ex
  exact L2H.fn_ofH lk hcd S len fun A outer s H vs Q E p h1 h2 h3 => hb cdv A outer s H vs Q E p h1 h2 h3
/-- a def called there -/
theorem hotC {CX : CXT} {P : Program} {w : World} {K : PySem.W.Frag} {mg : Str → Option Value} {base : Heap} {N : List Str} {qual : Str} {scope : Scope} {f : Addr} {cd : Value} {A : Around} {outer : List Env} {s : Shared} {H : Hp} {E : XK} {p : Addr × Obj} (h : L2H.Hot1 A p) :
    L2H.HotC (L2H.cxH CX P w K mg base N qual scope f cd A outer s H E p) := ⟨p, h, List.mem_cons_self⟩
end G
namespace G
open PySem PySem.Spec PyProof.Rows L2
/-- what lets nothing out -/
theorem noX {P : Program} {w : World} {K : PySem.W.Frag} {mg : Str → Option Value} {base : Heap} {k : Nat} {f : Addr} {fd : FuncData} {ps : List Str} {sp : Sp} (F : FnOk P w K mg base (L2N.CX P w) k f fd ps sp) :
    FnOk P w K mg base L2.CX0 k f fd ps (fun vs H Q _ => sp vs H Q L2.E0) := by
  refine ⟨fun vs H Q E h => F.len vs H Q _ h, fun A outer s H args us vs Q E hr e0 hb r h => codeAny_mono (F.run A outer s H args us vs Q _ hr e0 hb r h) fun rs s2 q => ?_⟩
  cases rs with
  | error e =>
    obtain ⟨_, _, _, _, _, _, _, _, _, _, _, _, z⟩ := q
    exact z.elim
  | ok fl => cases fl <;> exact q
end G

set_option Elab.async false
set_option linter.all false
set_option maxRecDepth 100000
set_option maxHeartbeats 4000000
/-! Standings as plain lists, and what operations do to them. -/
namespace G
open PySem PySem.Spec PyProof.Rows L2

/-! ### lists by place -/
def gI (l : List Int) (i : Nat) : Int := l.getD i 0
def gB (l : List Bool) (i : Nat) : Bool := l.getD i false
theorem gI_at {l : List Int} {i : Nat} (h : i < l.length) : l[i]? = some (gI l i) := by
  unfold gI
  rw [List.getElem?_eq_getElem h, List.getD_eq_getElem?_getD, List.getElem?_eq_getElem h] <;> rfl
theorem gB_at {l : List Bool} {i : Nat} (h : i < l.length) : l[i]? = some (gB l i) := by
  unfold gB
  rw [List.getElem?_eq_getElem h, List.getD_eq_getElem?_getD, List.getElem?_eq_getElem h] <;> rfl
theorem gI_of {l : List Int} {i : Nat} {v : Int} (h : l[i]? = some v) : gI l i = v := by
  unfold gI
  rw [List.getD_eq_getElem?_getD, h] <;> rfl
theorem gB_of {l : List Bool} {i : Nat} {v : Bool} (h : l[i]? = some v) : gB l i = v := by
  unfold gB
  rw [List.getD_eq_getElem?_getD, h] <;> rfl
theorem gI_set {l : List Int} {i j : Nat} {v : Int} (h : i < l.length) : gI (l.set i v) j = if j = i then v else gI l j := by
  unfold gI
  rw [List.getD_eq_getElem?_getD, List.getD_eq_getElem?_getD]
  by_cases e : j = i
  · rw [if_pos e, e, List.getElem?_set_self h] <;> rfl
  · rw [if_neg e, List.getElem?_set_ne (Ne.symm e)]
theorem gB_set {l : List Bool} {i j : Nat} {v : Bool} (h : i < l.length) : gB (l.set i v) j = if j = i then v else gB l j := by
  unfold gB
  rw [List.getD_eq_getElem?_getD, List.getD_eq_getElem?_getD]
  by_cases e : j = i
  · rw [if_pos e, e, List.getElem?_set_self h] <;> rfl
  · rw [if_neg e, List.getElem?_set_ne (Ne.symm e)]
theorem atI_pos {α : Type} {l : List α} {i : Int} (h0 : 0 ≤ i) (h1 : i < (l.length : Int)) : atI l i = l[i.toNat]? := by
  unfold atI ixN
  rw [if_pos h0, if_pos h1] <;> rfl
theorem ixN_pos {n : Nat} {i : Int} (h0 : 0 ≤ i) (h1 : i < (n : Int)) : ixN n i = some i.toNat := by
  unfold ixN
  rw [if_pos h0, if_pos h1]
theorem at_I {l : List Int} {i : Int} (h0 : 0 ≤ i) (h1 : i < (l.length : Int)) : atI (l.map V.int) i = some (.int (gI l i.toNat)) := by
  rw [atI_pos h0 (by rw [List.length_map]; exact h1), List.getElem?_map, gI_at (by omega)] <;> rfl
theorem at_B {l : List Bool} {i : Int} (h0 : 0 ≤ i) (h1 : i < (l.length : Int)) : atI (l.map V.bl) i = some (.bl (gB l i.toNat)) := by
  rw [atI_pos h0 (by rw [List.length_map]; exact h1), List.getElem?_map, gB_at (by omega)] <;> rfl
theorem at_last {α : Type} {l : List α} {x : α} (h : l.getLast? = some x) : atI l (-1) = some x := by
  have hne : l ≠ [] := by
    intro e
    rw [e] at h
    cases h
  have hl : 0 < l.length := List.length_pos_iff.mpr hne
  unfold atI ixN
  rw [if_neg (by decide), if_pos (by omega)]
  show l[(-1 + (l.length : Int)).toNat]? = some x
  rw [show (-1 + (l.length : Int)).toNat = l.length - 1 by omega, ← List.getLast?_eq_getElem?]
  exact h
theorem set_I {l : List Int} {k : Nat} {v : Int} : (l.map V.int).set k (V.int v) = (l.set k v).map V.int := by rw [List.map_set]
theorem set_B {l : List Bool} {k : Nat} {v : Bool} : (l.map V.bl).set k (V.bl v) = (l.set k v).map V.bl := by rw [List.map_set]
theorem sz_ok {n : Nat} (h : n ≤ 1000000) : n ≤ sizeLine := by
  rw [sizeLine_eq]
  omega
theorem sz_lt {n : Nat} (h : n < 1000000) : n < sizeLine := by
  rw [sizeLine_eq]
  omega
theorem map_inj_I : ∀ {a b : List Int}, a.map V.int = b.map V.int → a = b
  | [], [], _ => rfl
  | [], _ :: _, h => by cases h
  | _ :: _, [], h => by cases h
  | x :: a, y :: b, h => by
    have h' : V.int x :: a.map V.int = V.int y :: b.map V.int := h
    injection h' with h1 h2
    injection h1 with h1
    rw [h1, map_inj_I h2]

/-! ### standings -/
structure Sd where
  n : Nat
  R : List Int
  L : List Int
  O : List Bool
structure Wf (s : Sd) : Prop where
  n60 : s.n ≤ 60
  lR : s.R.length = s.n + 1
  lL : s.L.length = s.n + 2
  lO : s.O.length = s.n + 2
  rb : ∀ v : Nat, v ≤ s.n → (v : Int) < gI s.R v ∧ gI s.R v ≤ (s.n : Int) + 1
  lb : ∀ v : Nat, 1 ≤ v → v ≤ s.n + 1 → 0 ≤ gI s.L v ∧ gI s.L v < (v : Int)
def stepS (s : Sd) (op : Int) : Sd :=
  let x := op.natAbs
  let l := (gI s.L x).toNat
  let r := (gI s.R x).toNat
  ⟨s.n, s.R.set l (if op < 0 then gI s.R x else (x : Int)), s.L.set r (if op < 0 then gI s.L x else (x : Int)), s.O.set x (decide (op < 0))⟩
/-- an operation for the size; a legal one -/
def IsOp (n : Nat) (op : Int) : Prop := 1 ≤ op.natAbs ∧ op.natAbs ≤ n
def OkOp (s : Sd) (op : Int) : Prop := IsOp s.n op ∧ gB s.O op.natAbs = decide (0 < op)
instance (n : Nat) (op : Int) : Decidable (IsOp n op) := by unfold IsOp; infer_instance
instance (s : Sd) (op : Int) : Decidable (OkOp s op) := by unfold OkOp; infer_instance
theorem Wf.step {s : Sd} (w : Wf s) {op : Int} (h : IsOp s.n op) : Wf (stepS s op) := by
  obtain ⟨h1, h2⟩ := h
  obtain ⟨r1, r2⟩ := w.rb op.natAbs (by omega)
  obtain ⟨l1, l2⟩ := w.lb op.natAbs h1 (by omega)
  have e1 : (gI s.L op.natAbs).toNat < s.R.length := by rw [w.lR]; omega
  have e2 : (gI s.R op.natAbs).toNat < s.L.length := by rw [w.lL]; omega
  refine ⟨w.n60, ?_, ?_, ?_, fun v hv => ?_, fun v hv hv2 => ?_⟩
  · show (s.R.set _ _).length = _
    rw [List.length_set]
    exact w.lR
  · show (s.L.set _ _).length = _
    rw [List.length_set]
    exact w.lL
  · show (s.O.set _ _).length = _
    rw [List.length_set]
    exact w.lO
  · show (v : Int) < gI (s.R.set _ _) v ∧ gI (s.R.set _ _) v ≤ (s.n : Int) + 1
    rw [gI_set e1]
    by_cases e : v = (gI s.L op.natAbs).toNat
    · rw [if_pos e]
      by_cases o : op < 0
      · rw [if_pos o]
        omega
      · rw [if_neg o]
        omega
    · rw [if_neg e]
      exact w.rb v hv
  · show 0 ≤ gI (s.L.set _ _) v ∧ gI (s.L.set _ _) v < (v : Int)
    rw [gI_set e2]
    by_cases e : v = (gI s.R op.natAbs).toNat
    · rw [if_pos e]
      by_cases o : op < 0
      · rw [if_pos o]
        omega
      · rw [if_neg o]
        omega
    · rw [if_neg e]
      exact w.lb v hv hv2
/-- its own links stay -/
theorem step_R {s : Sd} (w : Wf s) {op : Int} (h : IsOp s.n op) : gI (stepS s op).R op.natAbs = gI s.R op.natAbs := by
  obtain ⟨l1, l2⟩ := w.lb op.natAbs h.1 (by have := h.2; omega)
  show gI (s.R.set _ _) _ = _
  rw [gI_set (by rw [w.lR]; have := h.2; omega), if_neg (by omega)]
theorem step_L {s : Sd} (w : Wf s) {op : Int} (h : IsOp s.n op) : gI (stepS s op).L op.natAbs = gI s.L op.natAbs := by
  obtain ⟨l1, l2⟩ := w.rb op.natAbs (by have := h.2; omega)
  show gI (s.L.set _ _) _ = _
  rw [gI_set (by rw [w.lL]; omega), if_neg (by omega)]
/-- a, a + 1, .. n of them -/
def rgI (a : Int) (n : Nat) : List Int := (List.range n).map fun (i : Nat) => a + (i : Int)
theorem rgI_len (a : Int) (n : Nat) : (rgI a n).length = n := by simp [rgI]
def wholeS (n : Nat) : Sd := ⟨n, rgI 1 (n + 1), 0 :: rgI 0 (n + 1), List.replicate (n + 2) false⟩
theorem gI_range {n i : Nat} {a : Int} (h : i < n) : gI (rgI a n) i = a + (i : Int) := by
  refine gI_of ?_
  unfold rgI
  rw [List.getElem?_map, List.getElem?_range h] <;> rfl
theorem Wf.whole {n : Nat} (h : n ≤ 60) : Wf (wholeS n) := by
  refine ⟨h, rgI_len _ _, congrArg Nat.succ (rgI_len _ _), List.length_replicate, fun v hv => ?_, fun v h1 h2 => ?_⟩
  · show (v : Int) < gI (rgI 1 (n + 1)) v ∧ gI (rgI 1 (n + 1)) v ≤ (n : Int) + 1
    have hv' : v ≤ n := hv
    rw [gI_range (by omega)]
    omega
  · show 0 ≤ gI (0 :: rgI 0 (n + 1)) v ∧ gI (0 :: rgI 0 (n + 1)) v < (v : Int)
    have h2' : v ≤ n + 1 := h2
    obtain ⟨u, rfl⟩ : ∃ u, v = u + 1 := ⟨v - 1, by omega⟩
    have e : gI (0 :: rgI 0 (n + 1)) (u + 1) = gI (rgI 0 (n + 1)) u := rfl
    rw [e, gI_range (by omega)]
    omega
theorem snoc_ind {α : Type} {P : List α → Prop} (h0 : P []) (h1 : ∀ l x, P l → P (l ++ [x])) (l : List α) : P l := by
  have key : ∀ r : List α, P r.reverse := by
    intro r
    induction r with
    | nil => exact h0
    | cons x r ih =>
      rw [List.reverse_cons]
      exact h1 _ _ ih
  have e := key l.reverse
  rwa [List.reverse_reverse] at e
def runS (s : Sd) (log : List Int) : Sd := log.foldl stepS s
theorem runS_snoc (s : Sd) (log : List Int) (op : Int) : runS s (log ++ [op]) = stepS (runS s log) op := by
  unfold runS
  rw [List.foldl_append] <;> rfl
theorem stepS_n (s : Sd) (op : Int) : (stepS s op).n = s.n := rfl
theorem runS_n (s : Sd) : ∀ log : List Int, (runS s log).n = s.n := by
  intro log
  induction log using snoc_ind with
  | h0 => rfl
  | h1 l x ih => rw [runS_snoc]; exact ih
/-- every operation is legal in turn -/
def Leg (s : Sd) (log : List Int) : Prop := ∀ i op, log[i]? = some op → OkOp (runS s (log.take i)) op
theorem Leg.snoc {s : Sd} {log : List Int} {op : Int} (h : Leg s log) (o : OkOp (runS s log) op) : Leg s (log ++ [op]) := by
  intro i p hp
  by_cases hi : i < log.length
  · rw [List.getElem?_append_left hi] at hp
    rw [List.take_append_of_le_length (by omega)]
    exact h i p hp
  · rw [List.getElem?_append_right (by omega)] at hp
    have e : i = log.length := by
      have := (List.getElem?_eq_some_iff.mp hp).1
      simp at this
      omega
    subst e
    have : p = op := by simpa using hp.symm
    subst this
    rw [List.take_left']
    · exact o
    · rfl
theorem Leg.take {s : Sd} {log : List Int} (h : Leg s log) (k : Nat) : Leg s (log.take k) := by
  intro i op hp
  have hi : i < (log.take k).length := (List.getElem?_eq_some_iff.mp hp).1
  rw [List.length_take] at hi
  rw [List.getElem?_take_of_lt (by omega)] at hp
  rw [List.take_take, Nat.min_eq_left (by omega)]
  exact h i op hp
theorem Leg.wf {s : Sd} (w : Wf s) : ∀ {log : List Int}, Leg s log → Wf (runS s log) := by
  intro log
  induction log using snoc_ind with
  | h0 => exact fun _ => w
  | h1 l x ih =>
    intro h
    have h1 : Leg s l := by
      have := h.take l.length
      rwa [List.take_left' rfl] at this
    have h2 := h l.length x (by simp)
    rw [List.take_left' rfl] at h2
    rw [runS_snoc]
    exact (ih h1).step h2.1
end G

set_option Elab.async false
set_option linter.all false
set_option maxRecDepth 100000
set_option maxHeartbeats 4000000
/-! What the program's own defs promise: standings, logs, gaps. -/
namespace G
open PySem PySem.Spec PyProof.Rows L2

/-! ### a standing in the heap -/
def fl (n r l o : V) : List (Str × V) := putF "_out" o (putF "_lefts" l (putF "_rights" r (putF "size" n [])))
theorem n1 : ¬ (("size" : Str) = "_rights") := by decide +kernel
theorem n2 : ¬ (("size" : Str) = "_lefts") := by decide +kernel
theorem n3 : ¬ (("size" : Str) = "_out") := by decide +kernel
theorem n4 : ¬ (("_rights" : Str) = "_lefts") := by decide +kernel
theorem n5 : ¬ (("_rights" : Str) = "_out") := by decide +kernel
theorem n6 : ¬ (("_lefts" : Str) = "_out") := by decide +kernel
theorem fl_size (n r l o : V) : (fl n r l o).lookup ("size" : Str) = some n := by
  unfold fl
  rw [lookup_putF, if_neg n3, lookup_putF, if_neg n2, lookup_putF, if_neg n1, lookup_putF, if_pos rfl]
theorem fl_R (n r l o : V) : (fl n r l o).lookup ("_rights" : Str) = some r := by
  unfold fl
  rw [lookup_putF, if_neg n5, lookup_putF, if_neg n4, lookup_putF, if_pos rfl]
theorem fl_L (n r l o : V) : (fl n r l o).lookup ("_lefts" : Str) = some l := by
  unfold fl
  rw [lookup_putF, if_neg n6, lookup_putF, if_pos rfl]
theorem fl_O (n r l o : V) : (fl n r l o).lookup ("_out" : Str) = some o := by
  unfold fl
  rw [lookup_putF, if_pos rfl]
theorem fl_no {m : Str} (n r l o : V) (h1 : ¬ m = "size") (h2 : ¬ m = "_rights") (h3 : ¬ m = "_lefts") (h4 : ¬ m = "_out") : (fl n r l o).lookup m = none := by
  unfold fl
  rw [lookup_putF, if_neg h4, lookup_putF, if_neg h3, lookup_putF, if_neg h2, lookup_putF, if_neg h1]
  rfl
theorem fl_eq (n r l o : V) : fl n r l o = [(("size" : Str), n), ("_rights", r), ("_lefts", l), ("_out", o)] := by
  unfold fl
  simp only [putF, if_neg n1, if_neg n2, if_neg n3, if_neg n4, if_neg n5, if_neg n6]
theorem fl_len (n r l o : V) : (fl n r l o).length < 1000 := by
  rw [fl_eq]
  show 4 < 1000
  decide
theorem fl_putR (n r l o r2 : V) : putF "_rights" r2 (fl n r l o) = fl n r2 l o := by
  rw [fl_eq, fl_eq]
  simp only [putF]
  rw [if_neg n1, if_pos trivial]
theorem fl_putL (n r l o l2 : V) : putF "_lefts" l2 (fl n r l o) = fl n r l2 o := by
  rw [fl_eq, fl_eq]
  simp only [putF]
  rw [if_neg n2, if_neg n4, if_pos trivial]
theorem fl_putO (n r l o o2 : V) : putF "_out" o2 (fl n r l o) = fl n r l o2 := by
  rw [fl_eq, fl_eq]
  simp only [putF]
  rw [if_neg n3, if_neg n5, if_neg n6, if_pos trivial]
structure LinksAt (K : PySem.W.Frag) (H : Hp) (p r l o : Addr) (s : Sd) : Prop where
  ob : ∃ dx, H p = some (.ins (He.ga K "Links") dx (fl (.int s.n) (.ref r) (.ref l) (.ref o)))
  hr : H r = some (.lst (s.R.map V.int))
  hl : H l = some (.lst (s.L.map V.int))
  ho : H o = some (.lst (s.O.map V.bl))
  rl : r ≠ l
  ro : r ≠ o
  lo : l ≠ o
  wf : Wf s
theorem LinksAt.pr {K : PySem.W.Frag} {H : Hp} {p r l o : Addr} {s : Sd} (a : LinksAt K H p r l o s) : p ≠ r ∧ p ≠ l ∧ p ≠ o := by
  obtain ⟨dx, h⟩ := a.ob
  exact ⟨ne_of h a.hr (by intro z; cases z), ne_of h a.hl (by intro z; cases z), ne_of h a.ho (by intro z; cases z)⟩
theorem LinksAt.kp {K : PySem.W.Frag} {H H' : Hp} {p r l o : Addr} {s : Sd} {S : List Addr} (a : LinksAt K H p r l o s) (k : Kp S H H') (h1 : p ∉ S) (h2 : r ∉ S) (h3 : l ∉ S) (h4 : o ∉ S) : LinksAt K H' p r l o s := by
  obtain ⟨dx, h⟩ := a.ob
  exact ⟨⟨dx, k _ _ h1 h⟩, k _ _ h2 a.hr, k _ _ h3 a.hl, k _ _ h4 a.ho, a.rl, a.ro, a.lo, a.wf⟩
theorem LinksAt.k0 {K : PySem.W.Frag} {H H' : Hp} {p r l o : Addr} {s : Sd} (a : LinksAt K H p r l o s) (k : Kp [] H H') : LinksAt K H' p r l o s := a.kp k (by simp) (by simp) (by simp) (by simp)

/-! ### errors -/
/-- an error of the class x leaves, new, with these fields -/
def Ex (K : PySem.W.Frag) (x : Str) (fs : List (Str × V)) (E : XK) (H : Hp) : Prop := ∀ d, H d = none → E (.ref (He.ga K x)) (some d) (upd H d (.xd fs))
def OpE (K : PySem.W.Frag) (n : Nat) (op : Int) (i : Int) (E : XK) (H : Hp) : Prop := Ex K (if IsOp n op then "Illegal" else "BadOperation") [("index", .int i), ("operation", .int op)] E H
/-- .. the first wrong operation of a log -/
def LogE (K : PySem.W.Frag) (s : Sd) (log : List Int) (E : XK) (H : Hp) : Prop := ∀ (i : Nat) (op : Int), log[i]? = some op → Leg s (log.take i) → ¬ OkOp (runS s (log.take i)) op → ∀ H', Kp [] H H' → OpE K s.n op i E H'
def SizeOk (size : Int) : Prop := 0 ≤ size ∧ size ≤ 60
instance (size : Int) : Decidable (SizeOk size) := by unfold SizeOk; infer_instance

/-! ### gaps -/
def stT (s : Sd) (v : Nat) : Str := if gI s.R v = (v : Int) + 1 then (if gI s.L (v + 1) = (v : Int) then "joined" else "left") else (if gI s.L (v + 1) = (v : Int) then "right" else "lost")
def lostL (s : Sd) : List Nat := (List.range (s.n + 1)).filter fun v => decide (stT s v = "lost")

/-! ### promises -/
section
variable (K : PySem.W.Frag)
def sp_check_size : Sp := fun vs H Q E => ∃ size : Int, vs = [.int size] ∧ (SizeOk size → Q .non H) ∧ (¬ SizeOk size → Ex K "BadSize" [("size", .int size)] E H)
def sp_check_operation : Sp := fun vs H Q E => ∃ (n : Nat) (op i : Int), vs = [.int n, .int op, .int i] ∧ (IsOp n op → Q .non H) ∧ (¬ IsOp n op → Ex K "BadOperation" [("index", .int i), ("operation", .int op)] E H)
def sp_check_gap : Sp := fun vs H Q E => ∃ (n : Nat) (g : Int), vs = [.int n, .int g] ∧ (0 ≤ g ∧ g ≤ n → Q .non H) ∧ (¬ (0 ≤ g ∧ g ≤ n) → Ex K "BadGap" [("gap", .int g)] E H)
def sp_Links___init__ : Sp := fun vs H Q E => ∃ (p dx : Addr) (size : Int), vs = [.ref p, .int size] ∧ H p = some (.ins (He.ga K "Links") dx []) ∧
  (SizeOk size → ∀ (r l o : Addr) (H' : Hp), H r = none → H l = none → H o = none → Kp [p] H H' → LinksAt K H' p r l o (wholeS size.toNat) → Q .non H') ∧ (¬ SizeOk size → Ex K "BadSize" [("size", .int size)] E H)
def sp_Links_is_legal : Sp := fun vs H Q E => ∃ (p r l o : Addr) (s : Sd) (op : Int), vs = [.ref p, .int op] ∧ LinksAt K H p r l o s ∧ IsOp s.n op ∧ Q (.bl (decide (gB s.O op.natAbs = decide (0 < op)))) H
def sp_Links_check : Sp := fun vs H Q E => ∃ (p r l o : Addr) (s : Sd) (op i : Int), vs = [.ref p, .int op, .int i] ∧ LinksAt K H p r l o s ∧ (OkOp s op → Q .non H) ∧ (¬ OkOp s op → OpE K s.n op i E H)
def sp_Links_apply_at : Sp := fun vs H Q E => ∃ (p r l o : Addr) (s : Sd) (op i : Int), vs = [.ref p, .int op, .int i] ∧ LinksAt K H p r l o s ∧ (OkOp s op → ∀ H', Kp [r, l, o] H H' → LinksAt K H' p r l o (stepS s op) → Q .non H') ∧ (¬ OkOp s op → OpE K s.n op i E H)
def sp_Links_apply : Sp := fun vs H Q E => ∃ (p r l o : Addr) (s : Sd) (op : Int), vs = [.ref p, .int op] ∧ LinksAt K H p r l o s ∧ (OkOp s op → ∀ H', Kp [r, l, o] H H' → LinksAt K H' p r l o (stepS s op) → Q .non H') ∧ (¬ OkOp s op → OpE K s.n op 0 E H)
def sp_Links_left : Sp := fun vs H Q E => ∃ (p r l o : Addr) (s : Sd) (v : Nat), vs = [.ref p, .int v] ∧ LinksAt K H p r l o s ∧ 1 ≤ v ∧ v ≤ s.n + 1 ∧ Q (.int (gI s.L v)) H
def sp_Links_right : Sp := fun vs H Q E => ∃ (p r l o : Addr) (s : Sd) (v : Nat), vs = [.ref p, .int v] ∧ LinksAt K H p r l o s ∧ v ≤ s.n ∧ Q (.int (gI s.R v)) H
/-- a new standing s -/
def NewS (H : Hp) (s : Sd) (Q : VK) : Prop := ∀ (p r l o : Addr) (H' : Hp), H p = none → H r = none → H l = none → H o = none → Kp [] H H' → LinksAt K H' p r l o s → Q (.ref p) H'
def sp_Links_copy : Sp := fun vs H Q E => ∃ (p r l o : Addr) (s : Sd), vs = [.ref p] ∧ LinksAt K H p r l o s ∧ NewS K H s Q
def sp_play : Sp := fun vs H Q E => ∃ (p r l o a : Addr) (s : Sd) (log : List Int), vs = [.ref p, .ref a] ∧ LinksAt K H p r l o s ∧ SqL K H a (log.map V.int) ∧ (Leg s log → NewS K H (runS s log) Q) ∧ LogE K s log E H
def sp_replay : Sp := fun vs H Q E => ∃ (a : Addr) (size : Int) (log : List Int), vs = [.int size, .ref a] ∧ SqL K H a (log.map V.int) ∧ (SizeOk size → Leg (wholeS size.toNat) log → NewS K H (runS (wholeS size.toNat) log) Q) ∧
  (SizeOk size → LogE K (wholeS size.toNat) log E H) ∧ (¬ SizeOk size → ∀ H', Kp [] H H' → Ex K "BadSize" [("size", .int size)] E H')
def sp_gap_state : Sp := fun vs H Q E => ∃ (p r l o : Addr) (s : Sd) (g : Int), vs = [.ref p, .int g] ∧ LinksAt K H p r l o s ∧ (0 ≤ g ∧ g ≤ s.n → Q (.str (stT s g.toNat)) H) ∧ (¬ (0 ≤ g ∧ g ≤ s.n) → Ex K "BadGap" [("gap", .int g)] E H)
def sp_gap_states : Sp := fun vs H Q E => ∃ (p r l o : Addr) (s : Sd), vs = [.ref p] ∧ LinksAt K H p r l o s ∧ ∀ (q : Addr) (H' : Hp), H q = none → Kp [] H H' → H' q = some (.lst ((List.range (s.n + 1)).map fun (v : Nat) => V.str (stT s v))) → Q (.ref q) H'
def sp_lost_gaps : Sp := fun vs H Q E => ∃ (p r l o : Addr) (s : Sd), vs = [.ref p] ∧ LinksAt K H p r l o s ∧ ∀ (q : Addr) (H' : Hp), H q = none → Kp [] H H' → H' q = some (.lst ((lostL s).map fun (v : Nat) => V.int (v : Int))) → Q (.ref q) H'
end
end G

set_option Elab.async false
set_option linter.all false
set_option maxRecDepth 100000
set_option maxHeartbeats 4000000
/-! More steps. -/
namespace G
open PySem PySem.Spec PyProof.Rows L2
section
variable {K : PySem.W.Frag} {σ : L2.St} {H : Hp} {Q : VK} {ta tb tc te : TE} {x y v : V} {D : Ends} {tl : TA} {i j : Int} {n m : Nat} {p q : Addr} {xs ys : List V} {A B : Prop}
theorem w_tT (a : A) : if true = true then A else B := iteT a
theorem w_tF (b : B) : if false = true then A else B := iteF b
theorem w_nT (a : A) : if (!false) = true then A else B := iteT a
theorem w_nF (b : B) : if (!true) = true then A else B := iteF b
theorem w_rz {C : Addr} {fs : List Str} {W : WX} (g : tl σ H fun us H1 => us.length = fs.length ∧ us.length ≤ 1000 ∧ ∀ d, H1 d = none → W (.ref C) (some d) σ (upd H1 d (.xd (fs.zip us).reverse))) : tRz C fs W tl D σ H := g
theorem w_mk {C : Addr} {sp : Sp} {E : L2.St → XK} (g : tl σ H fun vs H1 => ∀ x dx, H1 x = none → H1 dx = none → dx ≠ x → sp (.ref x :: vs) (upd (upd H1 dx (.own x)) x (.ins C dx [])) (fun v H2 => v = .non ∧ Q (.ref x) H2) (E σ)) : tMk C sp E tl σ H Q := g
theorem w_lrg {t : L2.St → Hp → (Int → Int → Hp → Prop) → Prop} (g : t σ H fun a b H1 => RgOk a b ∧ ∀ q, H1 q = none → Q (.ref q) (upd H1 q (.lst (rgV a b)))) : tLstRg t σ H Q := g
theorem w_rg1 {R : Int → Int → Hp → Prop} (g : te σ H fun x H1 => ∃ n, x = .int n ∧ R 0 n H1) : tRg1 te σ H R := g
theorem w_rg2 {R : Int → Int → Hp → Prop} (g : ta σ H fun x H1 => tb σ H1 fun y H2 => ∃ i j, x = .int i ∧ y = .int j ∧ R i j H2) : tRg2 ta tb σ H R := g
theorem w_n1 {R : Int → Prop} (g : R i) : ∃ n, V.int i = .int n ∧ R n := ⟨i, rfl, g⟩
theorem w_n2 {R : Int → Int → Prop} (g : R i j) : ∃ a b, V.int i = .int a ∧ V.int j = .int b ∧ R a b := ⟨i, j, rfl, rfl, g⟩
theorem w_sl {r : V → Option Int → Option Int → Hp → VK → Prop} {tlo thi : TO} (g : te σ H fun x H1 => tlo σ H1 fun l H2 => thi σ H2 fun u H3 => r x l u H3 Q) : tSl r te tlo thi σ H Q := g
theorem w_np {R : Option Int → Hp → Prop} (g : R none H) : tNoPart σ H R := g
theorem w_pt {R : Option Int → Hp → Prop} (g : te σ H fun x H1 => ∃ i, x = .int i ∧ R (some i) H1) : tPart te σ H R := g
theorem w_tr {R : Bool → Hp → Prop} (g : te σ H fun x H' => ∃ k, TruV K x H' k ∧ R k H') : tTr K te σ H R := g
theorem w_truL {R : Bool → Prop} (h : SqL K H p xs) (g : R (!xs.isEmpty)) : ∃ k, TruV K (.ref p) H k ∧ R k := ⟨_, .inl ⟨xs, h, rfl⟩, g⟩
theorem w_gn {k : Nat} {R : L2.St → Hp → Prop} (g : R (σ.set k (some v)) H) : gName k v σ H R := g
theorem w_g2 {T : Addr} {g1 g2 : TG} {R : L2.St → Hp → Prop} (h : SqT K H T [x, y]) (g : g1 x σ H fun σ1 H1 => g2 y σ1 H1 R) : gTup K 2 (gCons g1 (gCons g2 gNil)) (.ref T) σ H R :=
  ⟨T, [x, y], rfl, h, rfl, x, [y], rfl, by
    show g1 x σ H _
    exact (funext fun σ1 => funext fun H1 => propext ⟨fun z => ⟨y, [], rfl, by
      show g2 y σ1 H1 _
      exact (funext fun σ2 => funext fun H2 => propext ⟨fun z => ⟨rfl, z⟩, fun z => z.2⟩ : R = fun σ2 H2 => ([] : List V) = [] ∧ R σ2 H2) ▸ z⟩, fun ⟨v, r, e, z⟩ => by
      injection e with e1 e2
      subst e1 e2
      exact (funext fun σ2 => funext fun H2 => propext ⟨fun z => z.2, fun z => ⟨rfl, z⟩⟩ : (fun σ2 H2 => ([] : List V) = [] ∧ R σ2 H2) = R) ▸ z⟩ : (fun σ1 H1 => g2 y σ1 H1 R) = fun σ1 H1 => gCons g2 gNil [y] σ1 H1 R) ▸ g⟩
theorem w_g1 {g1 : TG} {R : L2.St → Hp → Prop} (g : g1 x σ H R) : gCons g1 gNil [x] σ H R := ⟨x, [], rfl, by
  have e : (fun σ2 H2 => gNil [] σ2 H2 R) = R := funext fun σ2 => funext fun H2 => propext ⟨fun z => z.2, fun z => ⟨rfl, z⟩⟩
  rw [e]
  exact g⟩
theorem w_gc {g1 : TG} {ts : TGs} {R : L2.St → Hp → Prop} (g : g1 x σ H fun σ1 H1 => ts (y :: xs) σ1 H1 R) : gCons g1 ts (x :: y :: xs) σ H R := ⟨x, y :: xs, rfl, g⟩
theorem w_gt {T : Addr} {k : Nat} {ts : TGs} {R : L2.St → Hp → Prop} (h : SqT K H T xs) (hl : xs.length = k) (g : ts xs σ H R) : gTup K k ts (.ref T) σ H R := ⟨T, xs, rfl, h, hl, g⟩
/-- a new object: the heap goes on under a name -/
def NwU (o : HO) (H : Hp) (Q : VK) : Prop := ∀ q, H q = none → Q (.ref q) (upd H q o)
theorem nw {o : HO} (g : ∀ q H', H q = none → Kp [] H H' → H' q = some o → Q (.ref q) H') : NwU o H Q := fun q n => g q _ n (Kp.new n) upd_same
theorem nwu {o : HO} (g : ∀ q, H q = none → Q (.ref q) (upd H q o)) : NwU o H Q := g
theorem w_lstN (g : tl σ H fun xs H1 => xs.length ≤ sizeLine ∧ NwU (.lst xs) H1 Q) : tLst tl σ H Q := g
theorem w_tupN (g : tl σ H fun xs H1 => xs.length ≤ sizeLine ∧ NwU (.tup xs) H1 Q) : tTup tl σ H Q := g
theorem w_lrgN {t : L2.St → Hp → (Int → Int → Hp → Prop) → Prop} (g : t σ H fun a b H1 => RgOk a b ∧ NwU (.lst (rgV a b)) H1 Q) : tLstRg t σ H Q := g
theorem w_addLN (h1 : H p = some (.lst xs)) (h2 : H q = some (.lst ys)) (h : xs.length + ys.length ≤ sizeLine) (g : ∀ r H', H r = none → Kp [] H H' → H' r = some (.lst (xs ++ ys)) → Q (.ref r) H') : rAddA (.ref p) (.ref q) H Q := w_addL h1 h2 h (nw g)
theorem w_mulLN (h1 : H p = some (.lst xs)) (h2 : -(2 ^ 63) ≤ j) (h3 : j < 2 ^ 63) (h : xs.length * j.toNat ≤ sizeLine) (g : ∀ r H', H r = none → Kp [] H H' → H' r = some (.lst (List.replicate j.toNat xs).flatten) → Q (.ref r) H') : rMulA (.ref p) (.int j) H Q := w_mulL h1 h2 h3 h (nw g)
theorem w_listLN (h : SqL K H p xs) (g : ∀ l H', H l = none → Kp [] H H' → H' l = some (.lst xs) → Q (.ref l) H') : rListA K [.ref p] H Q := w_listL h (nw g)
theorem w_listTN (h : SqT K H p xs) (g : ∀ l H', H l = none → Kp [] H H' → H' l = some (.lst xs) → Q (.ref l) H') : rListA K [.ref p] H Q := w_listT h (nw g)
theorem w_sT {C dx : Addr} {fs : List (Str × V)} {f : Str} {R : Hp → Prop} {v : V} (cl : Cls K C) (na : NoAttr K C f) (h : H p = some (.ins C dx fs)) (hl : fs.length < 1000) (g : ∀ H', Kp [p] H H' → H' p = some (.ins C dx (putF f v fs)) → R H') :
    ∃ a C dx fs, V.ref p = .ref a ∧ H a = some (.ins C dx fs) ∧ Cls K C ∧ NoAttr K C f ∧ fs.length < 1000 ∧ R (upd H a (.ins C dx (putF f v fs))) := ⟨p, C, dx, fs, rfl, h, cl, na, hl, g _ (Kp.put (by simp)) upd_same⟩
theorem w_seT {R : Hp → Prop} (h : H p = some (.lst xs)) (ha : ixN xs.length i = some n) (g : ∀ H', Kp [p] H H' → H' p = some (.lst (xs.set n v)) → R H') : rSetL (.ref p) (.int i) v H R := w_setL h ha (g _ (Kp.put (by simp)) upd_same)
theorem w_apT (h : H p = some (.lst xs)) (hl : xs.length < sizeLine) (g : ∀ H', Kp [p] H H' → H' p = some (.lst (xs ++ [v])) → Q .non H') : rAppend (.ref p) [v] H Q := w_append h hl (g _ (Kp.put (by simp)) upd_same)
/-- an object of a class, made: its dict, the object -/
def MkU (C : Addr) (sp : Sp) (E : XK) (vs : List V) (H : Hp) (Q : VK) : Prop := ∀ x dx, H x = none → H dx = none → dx ≠ x → sp (.ref x :: vs) (upd (upd H dx (.own x)) x (.ins C dx [])) (fun v H2 => v = .non ∧ Q (.ref x) H2) E
theorem w_mkN {C : Addr} {sp : Sp} {E : L2.St → XK} (g : tl σ H fun vs H1 => MkU C sp (E σ) vs H1 Q) : tMk C sp E tl σ H Q := g
theorem mk {C : Addr} {sp : Sp} {E : XK} {vs : List V} (g : ∀ x dx H', H x = none → H' x = some (.ins C dx []) → Kp [] H H' → sp (.ref x :: vs) H' (fun v H2 => v = .non ∧ Q (.ref x) H2) E) : MkU C sp E vs H Q :=
  fun x dx n1 n2 ne => g x dx _ n1 upd_same ((Kp.new n2).trans (Kp.new (by rw [upd_ne (Ne.symm ne)]; exact n1)))
theorem w_r1 {R : Int → Prop} {n : Int} (h : -(2 ^ 62) ≤ n ∧ n < 2 ^ 62) (g : R n) : ∃ j : Int, [V.int n] = [.int j] ∧ -(2 ^ 62) ≤ j ∧ j < 2 ^ 62 ∧ R j := ⟨n, rfl, h.1, h.2, g⟩
theorem w_r2 {R : Int → Int → Prop} {a b : Int} (h : -(2 ^ 62) ≤ a ∧ a < 2 ^ 62 ∧ -(2 ^ 62) ≤ b ∧ b < 2 ^ 62) (g : R a b) : ∃ i j : Int, [V.int a, V.int b] = [.int i, .int j] ∧ (-(2 ^ 62) ≤ i ∧ i < 2 ^ 62 ∧ -(2 ^ 62) ≤ j ∧ j < 2 ^ 62) ∧ R i j := ⟨a, b, rfl, h, g⟩
theorem w_yes {R : Bool → Hp → Prop} (g : R true H) : tYes σ H R := g
theorem ref_ne : V.ref p ≠ .non := fun z => by cases z
theorem int_ne : V.int i ≠ .non := fun z => by cases z
theorem at_0 : atI (x :: xs) 0 = some x := by
  rw [atI_pos (by omega) (by rw [List.length_cons]; omega)] <;> rfl
theorem w_l1 {R : Addr → Prop} (h : SqL K H p xs) (g : R p) : ∃ a, V.ref p = .ref a ∧ (∃ xs, SqL K H a xs) ∧ R a := ⟨p, rfl, ⟨xs, h⟩, g⟩
/-- a field of a standing -/
theorem w_fR {r l o : Addr} {s : Sd} {R : V → Prop} (cl : Cls K (He.ga K "Links")) (na : NoAttr K (He.ga K "Links") "_rights") (a : LinksAt K H p r l o s) (g : R (.ref r)) :
    ∃ a C dx fs v, V.ref p = .ref a ∧ H a = some (.ins C dx fs) ∧ Cls K C ∧ NoAttr K C "_rights" ∧ fs.lookup ("_rights" : Str) = some v ∧ R v := by
  obtain ⟨dx, h⟩ := a.ob
  exact ⟨p, _, dx, _, _, rfl, h, cl, na, fl_R _ _ _ _, g⟩
theorem w_fL {r l o : Addr} {s : Sd} {R : V → Prop} (cl : Cls K (He.ga K "Links")) (na : NoAttr K (He.ga K "Links") "_lefts") (a : LinksAt K H p r l o s) (g : R (.ref l)) :
    ∃ a C dx fs v, V.ref p = .ref a ∧ H a = some (.ins C dx fs) ∧ Cls K C ∧ NoAttr K C "_lefts" ∧ fs.lookup ("_lefts" : Str) = some v ∧ R v := by
  obtain ⟨dx, h⟩ := a.ob
  exact ⟨p, _, dx, _, _, rfl, h, cl, na, fl_L _ _ _ _, g⟩
theorem w_fO {r l o : Addr} {s : Sd} {R : V → Prop} (cl : Cls K (He.ga K "Links")) (na : NoAttr K (He.ga K "Links") "_out") (a : LinksAt K H p r l o s) (g : R (.ref o)) :
    ∃ a C dx fs v, V.ref p = .ref a ∧ H a = some (.ins C dx fs) ∧ Cls K C ∧ NoAttr K C "_out" ∧ fs.lookup ("_out" : Str) = some v ∧ R v := by
  obtain ⟨dx, h⟩ := a.ob
  exact ⟨p, _, dx, _, _, rfl, h, cl, na, fl_O _ _ _ _, g⟩
theorem w_fS {r l o : Addr} {s : Sd} {R : V → Prop} (cl : Cls K (He.ga K "Links")) (na : NoAttr K (He.ga K "Links") "size") (a : LinksAt K H p r l o s) (g : R (.int s.n)) :
    ∃ a C dx fs v, V.ref p = .ref a ∧ H a = some (.ins C dx fs) ∧ Cls K C ∧ NoAttr K C "size" ∧ fs.lookup ("size" : Str) = some v ∧ R v := by
  obtain ⟨dx, h⟩ := a.ob
  exact ⟨p, _, dx, _, _, rfl, h, cl, na, fl_size _ _ _ _, g⟩
/-- .. of an object with the fields of a standing -/
theorem w_oR {dx : Addr} {n r l o : V} {R : V → Prop} (cl : Cls K (He.ga K "Links")) (na : NoAttr K (He.ga K "Links") "_rights") (h : H p = some (.ins (He.ga K "Links") dx (fl n r l o))) (g : R r) :
    ∃ a C dx fs v, V.ref p = .ref a ∧ H a = some (.ins C dx fs) ∧ Cls K C ∧ NoAttr K C "_rights" ∧ fs.lookup ("_rights" : Str) = some v ∧ R v := ⟨p, _, dx, _, _, rfl, h, cl, na, fl_R _ _ _ _, g⟩
theorem w_oL {dx : Addr} {n r l o : V} {R : V → Prop} (cl : Cls K (He.ga K "Links")) (na : NoAttr K (He.ga K "Links") "_lefts") (h : H p = some (.ins (He.ga K "Links") dx (fl n r l o))) (g : R l) :
    ∃ a C dx fs v, V.ref p = .ref a ∧ H a = some (.ins C dx fs) ∧ Cls K C ∧ NoAttr K C "_lefts" ∧ fs.lookup ("_lefts" : Str) = some v ∧ R v := ⟨p, _, dx, _, _, rfl, h, cl, na, fl_L _ _ _ _, g⟩
theorem w_oO {dx : Addr} {n r l o : V} {R : V → Prop} (cl : Cls K (He.ga K "Links")) (na : NoAttr K (He.ga K "Links") "_out") (h : H p = some (.ins (He.ga K "Links") dx (fl n r l o))) (g : R o) :
    ∃ a C dx fs v, V.ref p = .ref a ∧ H a = some (.ins C dx fs) ∧ Cls K C ∧ NoAttr K C "_out" ∧ fs.lookup ("_out" : Str) = some v ∧ R v := ⟨p, _, dx, _, _, rfl, h, cl, na, fl_O _ _ _ _, g⟩
/-- a field of an object is set -/
theorem w_st {C dx : Addr} {fs : List (Str × V)} {f : Str} {R : Hp → Prop} {v : V} (cl : Cls K C) (na : NoAttr K C f) (h : H p = some (.ins C dx fs)) (hl : fs.length < 1000) (g : R (upd H p (.ins C dx (putF f v fs)))) :
    ∃ a C dx fs, V.ref p = .ref a ∧ H a = some (.ins C dx fs) ∧ Cls K C ∧ NoAttr K C f ∧ fs.length < 1000 ∧ R (upd H a (.ins C dx (putF f v fs))) := ⟨p, C, dx, fs, rfl, h, cl, na, hl, g⟩
/-- a method of a standing -/
theorem w_me {r l o : Addr} {s : Sd} {m : Str} {R : Prop} (a : LinksAt K H p r l o s) (hm : ∀ n r l o : V, (fl n r l o).lookup m = none) (g : R) : ∃ a dx fs, V.ref p = .ref a ∧ H a = some (.ins (He.ga K "Links") dx fs) ∧ fs.lookup m = none ∧ R := by
  obtain ⟨dx, h⟩ := a.ob
  exact ⟨p, dx, _, rfl, h, hm _ _ _ _, g⟩
end
/-- a method's name is none of the fields -/
theorem no_m {m : Str} (h1 : ¬ m = "size" := by decide +kernel) (h2 : ¬ m = "_rights" := by decide +kernel) (h3 : ¬ m = "_lefts" := by decide +kernel) (h4 : ¬ m = "_out" := by decide +kernel) (n r l o : V) : (fl n r l o).lookup m = none := fl_no n r l o h1 h2 h3 h4
theorem natAbs_if (i : Int) : (if i < 0 then -i else i) = (i.natAbs : Int) := by
  split <;> omega
end G

set_option Elab.async false
set_option linter.all false
set_option maxRecDepth 100000
set_option maxHeartbeats 4000000
/-! == by an own __eq__, any answer. -/
namespace G
open PySem PySem.Spec PyProof.Rows L2
section
variable {X : Cx} {j k : Nat} {ps : List Str} {sp : Sp} {E : XK} {C f : Addr} {fd : FuncData}
def rOwn (C : Addr) (sp : Sp) (E : XK) : R2 := fun x y H Q => ∃ a b dx dy fs gs, x = .ref a ∧ y = .ref b ∧ H a = some (.ins C dx fs) ∧ H b = some (.ins C dy gs) ∧ sp [.ref a, .ref b] H (fun v H' => (∃ k, v = .bl k) ∧ Q v H') E
theorem op_own (F : FnOk X.prog X.w X.K X.mg X.base (L2N.CX X.prog X.w) k f fd ps sp) (hb : Binds X.K fd ps []) (hr : Room j X.A) (hk : k ≤ j) (hx : PAt X (fun _ => E))
    (hs : PySem.W.findIn X.K (.ref C) "__eq__" = some (some (.ref f))) (hf : PySem.W.isFn X.K (.ref f) = true) : OpR X (compareOp .Eq) (rOwn C sp E) := by
  intro pins s σ H x y u v Q I rx ry hq
  obtain ⟨a, b, dx, dy, fs, gs, rfl, rfl, ha, hb', q⟩ := hq
  cases rx
  cases ry
  obtain ⟨mA, J, _⟩ := ins_get I.hok ha
  obtain ⟨mB, J', _⟩ := ins_get I.hok hb'
  obtain ⟨od, J, _⟩ := J.look
  obtain ⟨od', J', _⟩ := J'.look
  obtain ⟨m, hF⟩ := I.fr
  show wpAny (model X.prog X.w) X.A (richCompare .Eq (.ref a) (.ref b)) (EP X pins σ Q) X.xe s
  refine PySem.W.cmp_K (op := .Eq) (tb := .ref C) hr.units0 hF I.ok.mod.kin J J'.type (by simp [PySem.W.notFirst]) hs hf ?_
  refine wpAny_mono (run_fnS (E := fun _ => E) (us := [.ref a, .ref b]) (vs := [.ref a, .ref b]) F (hr.mono hk) hb (hx σ) I (.cons rfl (.cons rfl .nil)) q) (fun r s' z => ?_) fun _ _ x => x
  obtain ⟨w, H', I', rw_, ⟨kk, rfl⟩, qq⟩ := z
  cases rw_
  exact ⟨.bl kk, H', I', rfl, qq⟩
end
end G
namespace G
open PySem PySem.Spec PyProof.Rows L2
section
variable {X : Cx} {j k : Nat} {ps : List Str} {sp : Sp} {E : XK} {C : Addr}
/-- == of data, or by the own __eq__ of the class at C -/
def rEqO (K : PySem.W.Frag) (C : Addr) (sp : Sp) (E : XK) : R2 := fun x y H Q => rEqA K x y H Q ∨ rOwn C sp E x y H Q
theorem op_eqO {i : Nat} (c : Met X.prog X.w X.K X.mg X.base k C "__eq__" ps sp) (hr : Room j X.A) (hk : k ≤ j) (hx : PAt X (fun _ => E)) : OpR X (compareOp .Eq) (rEqO X.K C sp E) := by
  obtain ⟨f, fd, F, hm, hb⟩ := c.ex
  exact OpR.or (op_eqA hr) (op_own F hb hr hk hx hm.at_ hm.fn)
end
end G
namespace G
open PySem PySem.Spec PyProof.Rows L2
/-- isinstance of an instance of an own class -/
def tyB (x : Str) (K : PySem.W.Frag) : Bool := He.eqO (PySem.W.findIn K (.ref (He.ga K x)) "__class__") (some (some (.builtin "object.__class__"))) && eqT (PySem.W.mroIn K (He.ga K x) (.type "object")) (some true)
theorem tyB_ok {x : Str} {K : PySem.W.Frag} (q : tyB x K = true) : PySem.W.findIn K (.ref (He.ga K x)) "__class__" = some (some (.builtin "object.__class__")) ∧ PySem.W.mroIn K (He.ga K x) (.type "object") = some true := by
  obtain ⟨q1, q2⟩ := He.ba q
  exact ⟨He.eqO_ok q1, of_decide_eq_true q2⟩
end G

set_option Elab.async false
set_option linter.all false
set_option maxRecDepth 100000
set_option maxHeartbeats 4000000
/-! More built-ins: str, tuple, is True, pop, insert, extend. -/
namespace G
open PySem PySem.Spec PyProof.Rows L2
def rStrA : List V → Hp → VK → Prop := fun xs H Q => ∃ i, xs = [.int i] ∧ i.natAbs.log2 < 1920 ∧ Q (.str (toString i)) H
def rTupA (K : PySem.W.Frag) : List V → Hp → VK → Prop := fun xs H Q => ∃ p ys, xs = [.ref p] ∧ ((SqL K H p ys ∧ ∀ l, H l = none → Q (.ref l) (upd H l (.tup ys))) ∨ (SqT K H p ys ∧ Q (.ref p) H))
/-- x is True, x is False, of a truth value -/
def rIsB (neg : Bool) : R2 := fun x y H Q => ∃ b c, x = .bl b ∧ y = .bl c ∧ Q (.bl (neg != decide (b = c))) H
section
variable {X : Cx}
theorem call_strA : CallR X (.type "str") rStrA := call_str_int
theorem call_tupA : CallR X (.type "tuple") (rTupA X.K) := call_tuple_of
theorem op_isB : OpR X (compareOp .Is) (rIsB false) := by
  intro pins s σ H x y v u Q I rx ry h
  obtain ⟨b, c, rfl, rfl, q⟩ := h
  cases rx
  cases ry
  show wpAny _ _ ((isSame (Value.bool b) (Value.bool c)) >>= fun z => pure (Value.bool z)) _ _ s
  refine wpAny_bind (wpAny_isSame_plain rfl (wpAny_pure (fin_bl I q ?_)))
  cases b <;> cases c <;> rfl
theorem op_isnotB : OpR X (compareOp .IsNot) (rIsB true) := by
  intro pins s σ H x y v u Q I rx ry h
  obtain ⟨b, c, rfl, rfl, q⟩ := h
  cases rx
  cases ry
  show wpAny _ _ ((isSame (Value.bool b) (Value.bool c)) >>= fun z => pure (Value.bool (!z))) _ _ s
  refine wpAny_bind (wpAny_isSame_plain rfl (wpAny_pure (fin_bl I q ?_)))
  cases b <;> cases c <;> rfl
end
section
variable {K : PySem.W.Frag} {σ : L2.St} {H : Hp} {Q : VK} {ta tb tc te : TE} {x y v : V} {i j : Int} {n m : Nat} {p q : Addr} {xs ys : List V} {b c : Bool}
theorem w_str (h : i.natAbs.log2 < 1920) (g : Q (.str (toString i)) H) : rStrA [.int i] H Q := ⟨i, rfl, h, g⟩
theorem w_tuA (h : SqL K H p xs) (g : ∀ l H', H l = none → Kp [] H H' → H' l = some (.tup xs) → Q (.ref l) H') : rTupA K [.ref p] H Q := ⟨p, xs, rfl, .inl ⟨h, nw g⟩⟩
theorem w_isB (g : Q (.bl (decide (b = c))) H) : rIsB false (.bl b) (.bl c) H Q := ⟨b, c, rfl, rfl, by
  have e : (false != decide (b = c)) = decide (b = c) := by cases decide (b = c) <;> rfl
  rw [e]; exact g⟩
theorem w_isnB (g : Q (.bl (!decide (b = c))) H) : rIsB true (.bl b) (.bl c) H Q := ⟨b, c, rfl, rfl, by
  have e : (true != decide (b = c)) = !decide (b = c) := by cases decide (b = c) <;> rfl
  rw [e]; exact g⟩
theorem w_pop (h : H p = some (.lst xs)) (hy : xs[xs.length - 1]? = some y) (g : ∀ H', Kp [p] H H' → H' p = some (.lst xs.dropLast) → Q y H') : rPop (.ref p) [] H Q := ⟨p, xs, y, rfl, rfl, h, hy, g _ (Kp.put (by simp)) upd_same⟩
theorem w_popAt {k : Nat} (h : H p = some (.lst xs)) (h1 : -(2 ^ 63) ≤ i) (h2 : i < 2 ^ 63) (hk : seqIndex? i xs.length = some k) (hy : xs[k]? = some y) (g : ∀ H', Kp [p] H H' → H' p = some (.lst (xs.eraseIdx k)) → Q y H') : rPopAt (.ref p) [.int i] H Q :=
  ⟨p, xs, i, k, y, rfl, rfl, h, h1, h2, hk, hy, g _ (Kp.put (by simp)) upd_same⟩
theorem w_inL {neg : Bool} (h : SqL K H p xs) (hx : flatV x = true) (ha : xs.all flatV = true) (g : Q (.bl (if neg then !inV x xs else inV x xs)) H) : rIn K neg x (.ref p) H Q := ⟨p, xs, rfl, .inl h, hx, ha, g⟩
theorem w_inT {neg : Bool} (h : SqT K H p xs) (hx : flatV x = true) (ha : xs.all flatV = true) (g : Q (.bl (if neg then !inV x xs else inV x xs)) H) : rIn K neg x (.ref p) H Q := ⟨p, xs, rfl, .inr h, hx, ha, g⟩
theorem flatI : ∀ l : List Int, (l.map V.int).all flatV = true
  | [] => rfl
  | a :: l => by rw [List.map_cons, List.all_cons, flatI l]; rfl
end
theorem strOk_of (s : String) : PyData.strOk (Str.ofString s) = true := by
  rw [Str.ofString_eq_toList]
  unfold PyData.strOk
  rw [Array.all_eq_true]
  intro i h
  have h' : i < s.toList.length := by simpa using h
  simp only [List.getElem_toArray, List.getElem_map, decide_eq_true_eq]
  have v := (s.toList[i]'h').valid
  rcases v with v | v
  · show (s.toList[i]'h').val.toNat < _
    have : (s.toList[i]'h').val.toNat < 0xd800 := v
    omega
  · exact v.2
end G

set_option Elab.async false
set_option linter.all false
set_option maxRecDepth 100000
set_option maxHeartbeats 4000000
/-! Static methods, texts, more in a handler; a head with defs at any address. -/
namespace G
open PySem PySem.Spec PyProof.Rows L2

/-! ### a static method by its class -/
structure Smt (P : Program) (w : World) (K : PySem.W.Frag) (mg : Str → Option Value) (base : Heap) (k : Nat) (C : Addr) (m : Str) (ps : List Str) (sp : Sp) : Prop where
  ex : ∃ (f p : Addr) (fd : FuncData) (rest : List Value), FnOk P w K mg base (L2N.CX P w) k f fd ps sp ∧ ClX.CRead K C (.type "type") ∧ PySem.W.findCls K (.ref C) (.type "type") m = some (.get (.builtin "staticmethod.__get__") (.ref p) .none (.ref C)) ∧
    PySem.W.recIn K p "staticmethod" = some (.ref f :: rest) ∧ PySem.W.keepIn K (.ref f) = true ∧ Binds K fd ps []
section
variable {X : Cx} {j k : Nat} {m : Str} {ps : List Str} {sp : Sp} {C : Addr} {pos apos : Pos} {e o : Expr} {es : List Expr} {t : TA} {E : L2.St → XK}
theorem pe_sm {pl : Sem Bool} (c : Smt X.prog X.w X.K X.mg X.base k C m ps sp) (hr : Room j X.A) (hk : k ≤ j) (hx : PAt X E) (he : PE X o (tC (.ref C))) (ha : PA X (e :: es) t)
    (hst : starEach (e :: es) X.env = (false, eval e X.env) :: starEach es X.env := by rfl) (hpl : (backTo pos (starEach es X.env)).any (·.1) = false := by rfl)
    (ht : eval (.Call (.Attribute o m apos) (e :: es) [] pos) X.env = (do
      let ov ← eval o X.env
      standAt apos.atName
      let (f, first) ← holding [ov] (getMethod ov m pl)
      callWith pos f first (backTo pos (starEach (e :: es) X.env)) (backToKw pos (keywordEach [] X.env))) := by rfl) : PE X (.Call (.Attribute o m apos) (e :: es) [] pos) (tCl sp E t) := by
  obtain ⟨f, p, fd, rest, F, r, e1, e2, kp, hb⟩ := c.ex
  refine ⟨fun pins s σ H Q I h => PySem.W.methodCall_KW (pl := pl) (thn (he.run pins s σ H (fun x H1 => x = V.ref C ∧ tCl sp E t σ H1 Q) I ⟨rfl, h⟩) fun u s1 hh => ?_) ht⟩
  obtain ⟨x, H1, I1, rx, ex, q⟩ := hh
  subst ex
  obtain rfl : u = Value.ref C := rx
  refine PySem.W.method_cls I1.kIn r.ga (PySem.W.cls_bind I1.kIn r.rd e1 (wpAny_call (PySem.W.sm_get (s := { s1 with toks := s1.toks + 1 }) I1.kIn e2 (PySem.W.handed_on rfl ?_))))
  have I2 := I1.tok (s1.toks + 1)
  refine PySem.W.callWith_K (first := []) (h₀ := X.base) I2.ok.mod.kin kp (thn (ha.run pos pins _ σ H1 _ I2 q) fun us s2 hh => ?_) hst hpl
  obtain ⟨vs, H2, I3, rv, q2⟩ := hh
  exact ⟨I3.kIn, run_fnS (E := E) (us := us) (vs := vs) F (hr.mono hk) hb (hx σ) I3 rv q2⟩
end
/-- C.m is a staticmethod -/
def smB (x m : Str) (K : PySem.W.Frag) : Bool := PySem.W.readsIn K (He.ga K x) (.type "type") && (He.eqO (PySem.W.specialIn K (.ref (He.ga K x)) "__getattribute__") (some (some (.builtin "type.__getattribute__"))) &&
  He5.wrapB K (He.ga K x) "staticmethod" "staticmethod.__get__" m)
theorem smB_ok {K : PySem.W.Frag} {x m : Str} (q : smB x m K = true) : ClX.CRead K (He.ga K x) (.type "type") ∧ ∃ (p : Addr) (rest : List Value), PySem.W.findCls K (.ref (He.ga K x)) (.type "type") m = some (.get (.builtin "staticmethod.__get__") (.ref p) .none (.ref (He.ga K x))) ∧
    PySem.W.recIn K p "staticmethod" = some (.ref (He5.wf K (He.ga K x) "staticmethod" m) :: rest) := by
  obtain ⟨q1, q⟩ := He.ba q
  obtain ⟨q2, q3⟩ := He.ba q
  obtain ⟨h1, rest, h2⟩ := He5.wrapB_ok q3
  exact ⟨⟨q1, He.eqO_ok q2⟩, _, rest, h1, h2⟩
theorem smt_of {P : Program} {w : World} {K : PySem.W.Frag} {mg : Str → Option Value} {base : Heap} {k : Nat} {x m : Str} {ps : List Str} {sp : Sp} {fd : FuncData} (q : ClX.CRead K (He.ga K x) (.type "type") ∧ ∃ (p : Addr) (rest : List Value), PySem.W.findCls K (.ref (He.ga K x)) (.type "type") m = some (.get (.builtin "staticmethod.__get__") (.ref p) .none (.ref (He.ga K x))) ∧
    PySem.W.recIn K p "staticmethod" = some (.ref (He5.wf K (He.ga K x) "staticmethod" m) :: rest)) (F : FnOk P w K mg base (L2N.CX P w) k (He5.wf K (He.ga K x) "staticmethod" m) fd ps sp) (kp : PySem.W.keepIn K (.ref (He5.wf K (He.ga K x) "staticmethod" m)) = true) (hb : Binds K fd ps []) :
    Smt P w K mg base k (He.ga K x) m ps sp := by
  obtain ⟨r, p, rest, h1, h2⟩ := q
  exact ⟨_, p, fd, rest, F, r, h1, h2, kp, hb⟩

/-! ### the head, defs at any address -/
def obsY (fa : List Chk) (fn : List He5.DefA) (K : PySem.W.Frag) : He.AlD := ((fa.all fun f => f K) && fn.all fun d => d.ok K, fn.map fun d => He5.fnA K (d.at_ K))
def valY (fn : List He5.DefA) : He.AlD := (true, fn.map He5.DefA.val)
def SaysY (fa : List Chk) (fn : List He5.DefA) (K : PySem.W.Frag) : Prop := obsY fa fn K = valY fn
def obsYG (n : Nat) (fa : List Chk) (fn : List He5.DefA) (g : Addr → Option Obj) : He.AlD := obsY fa fn (He.frG g (He.asD g n ++ [cStatics]))
def hookY (n : Nat) (fa : List Chk) (fn : List He5.DefA) : PySem.W.Hook where
  α := He.AlD
  obs := fun s => obsYG n fa fn s.heap.get?
  val := fun _ => valY fn
  says := fun _ h => ∃ K : PySem.W.Frag, K.In h ∧ SaysY fa fn K
  of := fun _ _ e => ⟨_, He.frG_in, e⟩
  keeps := fun _ _ _ ⟨K, hK, c⟩ k => ⟨K, PySem.W.Frag.In.keeps hK k, c⟩
theorem obsYG_eq {n : Nat} {fa : List Chk} {fn : List He5.DefA} {g : Addr → Option Obj} {s : Shared} (h : ∀ a, g a = s.heap.get? a) : obsYG n fa fn g = (hookY n fa fn).obs s := by
  have e : g = s.heap.get? := funext h
  rw [e] <;> rfl
section
variable {fa : List Chk} {fn : List He5.DefA} {K : PySem.W.Frag}
theorem SaysY.fact (c : SaysY fa fn K) (i : Nat) {f : Chk} (h : fa[i]? = some f := by rfl) : f K = true := by
  have c1 := (He.ba (show ((fa.all fun f => f K) && fn.all fun d => d.ok K) = true from congrArg (fun z : He.AlD => z.1) c)).1
  exact List.all_eq_true.mp c1 f (List.mem_of_getElem? h)
theorem SaysY.def_ (c : SaysY fa fn K) (i : Nat) {d : He5.DefA} (h : fn[i]? = some d := by rfl) : ∃ fd, FunD K d.name d.qual d.params d.body d.scope (d.dvs K) (d.kws K) (d.at_ K) fd := by
  have c2 := (He.ba (show ((fa.all fun f => f K) && fn.all fun d => d.ok K) = true from congrArg (fun z : He.AlD => z.1) c)).2
  have e : fn.map (fun d => He5.fnA K (d.at_ K)) = fn.map He5.DefA.val := congrArg (fun z : He.AlD => z.2) c
  have e2 : (fn.map fun d => He5.fnA K (d.at_ K))[i]? = (fn.map He5.DefA.val)[i]? := by rw [e]
  rw [List.getElem?_map, List.getElem?_map, h] at e2
  exact He5.DefA.funD (Option.some.inj e2) (List.all_eq_true.mp c2 d (List.mem_of_getElem? h))
end

/-! ### where an exception is handled -/
section
variable {X : Cx}
theorem op_eqAH {k : Nat} (hr : L2H.RoomH k X.A) : OpR X (compareOp .Eq) (rEqA X.K) := OpR.or op_eq (op_eqD (by have := hr.un; omega))
theorem op_neAH {k : Nat} (hr : L2H.RoomH k X.A) : OpR X (compareOp .NotEq) (rNeA X.K) := OpR.or op_ne (op_neD (by have := hr.un; omega))
end

/-! ### texts -/
def rJoin (K : PySem.W.Frag) : V → List V → Hp → VK → Prop := fun x xs H Q => ∃ a p, ∃ ys : List Str, x = .str a ∧ xs = [.ref p] ∧ (SqL K H p (ys.map V.str) ∨ SqT K H p (ys.map V.str)) ∧
    (ys.map (·.length)).sum + ys.length * a.length ≤ 16777216 ∧ Q (.str (Txt.join a ys)) H
def rSplit : V → List V → Hp → VK → Prop := fun x xs H Q => ∃ a b, x = .str a ∧ xs = [.str b] ∧ (b.length == 0) = false ∧ a.length + 2 ≤ sizeLine ∧ rNewStrs (Txt.split a b) H Q
def rIntS : List V → Hp → VK → Prop := fun xs H Q => ∃ a n, xs = [.str a] ∧ PySem.intText? a = some n ∧ a.length ≤ 640 ∧ Q (.int n) H
section
variable {X : Cx} {o e : Expr} {to te : TE}
theorem pe_joinA {apos pos : Pos} (ho : PE X o to) (he : PE X e te) (hs : starEach [e] X.env = [(false, eval e X.env)] := by rfl) (hbase : attributeBase o "join" X.env (eval o X.env) = eval o X.env := by rfl) (hline : (apos.endLine == pos.line) = true := by rfl) :
    PE X (.Call (.Attribute o "join" apos) [e] [] pos) (tM1 (rJoin X.K) to te) := pe_join ho he hs hbase hline
theorem pe_splitA {apos pos : Pos} (ho : PE X o to) (he : PE X e te) (hs : starEach [e] X.env = [(false, eval e X.env)] := by rfl) (hbase : attributeBase o "split" X.env (eval o X.env) = eval o X.env := by rfl) (hline : (apos.endLine == pos.line) = true := by rfl) :
    PE X (.Call (.Attribute o "split" apos) [e] [] pos) (tM1 rSplit to te) := pe_split ho he hs hbase hline
theorem call_intS : CallR X (.type "int") rIntS := call_int_str
end
section
variable {K : PySem.W.Frag} {σ : L2.St} {H : Hp} {Q : VK} {ta tb tc te : TE} {x y v : V} {i j : Int} {n m : Nat} {p q : Addr} {xs ys : List V} {b c : Bool}
theorem w_m1 {r : V → List V → Hp → VK → Prop} (g : ta σ H fun x H1 => (∃ a, x = .str a) ∧ te σ H1 fun y H2 => r x [y] H2 Q) : tM1 r ta te σ H Q := g
theorem w_joinL {a : Str} {ss : List Str} (h : SqL K H p (ss.map V.str)) (hl : (ss.map (·.length)).sum + ss.length * a.length ≤ 16777216) (g : Q (.str (Txt.join a ss)) H) : rJoin K (.str a) [.ref p] H Q := ⟨a, p, ss, rfl, rfl, .inl h, hl, g⟩
theorem w_split {a b : Str} (hb : (b.length == 0) = false) (hl : a.length + 2 ≤ sizeLine) (g : ∀ l H', H l = none → Kp [] H H' → H' l = some (.lst ((Txt.split a b).map V.str)) → Q (.ref l) H') : rSplit (.str a) [.str b] H Q := ⟨a, b, rfl, rfl, hb, hl, nw g⟩
theorem w_intS {a : Str} {k : Int} (h : PySem.intText? a = some k) (hl : a.length ≤ 640) (g : Q (.int k) H) : rIntS [.str a] H Q := ⟨a, k, rfl, h, hl, g⟩
theorem w_exS {P : Prop} {a : Str} (g : P) : (∃ b, V.str a = .str b) ∧ P := ⟨⟨a, rfl⟩, g⟩
theorem w_inS {c : Nat} {z : Str} (g : Q (.bl (decide (c ∈ z.cps.toList))) H) : rInS (.str ⟨#[c]⟩) (.str z) H Q := ⟨c, z, rfl, rfl, g⟩
theorem w_iS {R : It → Hp → Prop} (g : ta σ H fun v H1 => ∃ x, v = .str x ∧ R (Its x) H1) : iStr ta σ H R := g
theorem w_gu {T : Addr} {k : Nat} {ts : TGs} {R : L2.St → Hp → Prop} (h : SqL K H T xs) (hl : xs.length = k) (g : ts xs σ H R) : gUnl K k ts (.ref T) σ H R := ⟨T, xs, rfl, h, hl, g⟩
end
end G

set_option Elab.async false
set_option linter.all false
set_option maxRecDepth 100000
set_option maxHeartbeats 4000000
/-! What a log writes down: last writes, last changes, the first loss. Promises of the defs that read logs. -/
namespace G
open PySem PySem.Spec PyProof.Rows L2

/-! ### the book -/
structure Bk where
  s : Sd
  k : Nat
  wr : List Int
  wl : List Int
  de : List Int
  ls : Option (Nat × Nat)
def lowN (s : Sd) (op : Int) : Nat := (gI s.L op.natAbs).toNat
def hiN (s : Sd) (op : Int) : Nat := (gI s.R op.natAbs).toNat - 1
def deS (s s' : Sd) (k : Nat) (de : List Int) (g : Nat) : List Int := if stT s g = stT s' g then de else de.set g (k : Int)
def lsS (s s' : Sd) (k g : Nat) (ls : Option (Nat × Nat)) : Option (Nat × Nat) := if ls = none ∧ stT s g ≠ stT s' g ∧ stT s' g = "lost" then some (k, g) else ls
def bstep (b : Bk) (op : Int) : Bk :=
  let s' := stepS b.s op
  ⟨s', b.k + 1, b.wr.set (lowN b.s op) (b.k : Int), b.wl.set (hiN b.s op) (b.k : Int), deS b.s s' b.k (deS b.s s' b.k b.de (lowN b.s op)) (hiN b.s op), lsS b.s s' b.k (hiN b.s op) (lsS b.s s' b.k (lowN b.s op) b.ls)⟩
def bk0 (n : Nat) : Bk := ⟨wholeS n, 0, List.replicate (n + 1) (-1), List.replicate (n + 1) (-1), List.replicate (n + 1) (-1), none⟩
def bkR (n : Nat) (log : List Int) : Bk := log.foldl bstep (bk0 n)
theorem bkR_snoc (n : Nat) (log : List Int) (op : Int) : bkR n (log ++ [op]) = bstep (bkR n log) op := by
  unfold bkR
  rw [List.foldl_append] <;> rfl
theorem bkR_s (n : Nat) (log : List Int) : (bkR n log).s = runS (wholeS n) log := by
  induction log using snoc_ind with
  | h0 => rfl
  | h1 l x ih => rw [bkR_snoc, runS_snoc, ← ih] <;> rfl
theorem bkR_k (n : Nat) (log : List Int) : (bkR n log).k = log.length := by
  induction log using snoc_ind with
  | h0 => rfl
  | h1 l x ih =>
    rw [bkR_snoc, List.length_append]
    show (bkR n l).k + 1 = _
    rw [ih] <;> rfl
theorem deS_len (s s' : Sd) (k : Nat) (de : List Int) (g : Nat) : (deS s s' k de g).length = de.length := by
  unfold deS
  split
  · rfl
  · exact List.length_set
theorem bkR_len (n : Nat) (log : List Int) : (bkR n log).wr.length = n + 1 ∧ (bkR n log).wl.length = n + 1 ∧ (bkR n log).de.length = n + 1 := by
  induction log using snoc_ind with
  | h0 => exact ⟨List.length_replicate, List.length_replicate, List.length_replicate⟩
  | h1 l x ih =>
    rw [bkR_snoc]
    obtain ⟨a, b, c⟩ := ih
    refine ⟨?_, ?_, ?_⟩
    · show (List.set _ _ _).length = _
      rw [List.length_set, a]
    · show (List.set _ _ _).length = _
      rw [List.length_set, b]
    · show (deS _ _ _ _ _).length = _
      rw [deS_len, deS_len, c]
/-- bounds of the two touched gaps -/
theorem touch_bd {s : Sd} (w : Wf s) {op : Int} (h : IsOp s.n op) : lowN s op < op.natAbs ∧ op.natAbs ≤ hiN s op ∧ hiN s op ≤ s.n ∧ gI s.L op.natAbs = (lowN s op : Int) ∧ gI s.R op.natAbs = (hiN s op : Int) + 1 := by
  unfold lowN hiN
  obtain ⟨r1, r2⟩ := w.rb op.natAbs h.2
  obtain ⟨l1, l2⟩ := w.lb op.natAbs h.1 (by have := h.2; omega)
  refine ⟨by omega, by omega, by omega, by omega, by omega⟩
/-- no other gap changes -/
theorem step_st {s : Sd} (w : Wf s) {op : Int} (h : IsOp s.n op) {g : Nat} (hl : g ≠ lowN s op) (hh : g ≠ hiN s op) : stT (stepS s op) g = stT s g := by
  obtain ⟨t1, t2, t3, t4, t5⟩ := touch_bd w h
  have e1 : gI (stepS s op).R g = gI s.R g := by
    show gI (s.R.set _ _) g = _
    rw [gI_set (by rw [w.lR, t4]; have := h.2; omega), t4, if_neg (by rw [Int.toNat_natCast]; exact hl)]
  have e2 : gI (stepS s op).L (g + 1) = gI s.L (g + 1) := by
    show gI (s.L.set _ _) (g + 1) = _
    rw [gI_set (by rw [w.lL, t5]; omega), t5, if_neg (by omega)]
  unfold stT
  rw [e1, e2]
/-- the lost gaps, ascending -/
theorem mem_lost {s : Sd} {g : Nat} : g ∈ lostL s ↔ g ≤ s.n ∧ stT s g = "lost" := by
  unfold lostL
  rw [List.mem_filter, List.mem_range]
  constructor
  · exact fun ⟨a, b⟩ => ⟨by omega, of_decide_eq_true b⟩
  · exact fun ⟨a, b⟩ => ⟨by omega, decide_eq_true b⟩
theorem lost_sorted (s : Sd) : (lostL s).Pairwise (· < ·) := by
  unfold lostL
  exact List.Pairwise.filter _ List.pairwise_lt_range
theorem lost_head {s : Sd} {g : Nat} {r : List Nat} (h : lostL s = g :: r) : g ≤ s.n ∧ stT s g = "lost" ∧ ∀ x, x ≤ s.n → stT s x = "lost" → g ≤ x := by
  have m : g ∈ lostL s := by rw [h]; exact List.mem_cons_self
  obtain ⟨a, b⟩ := mem_lost.mp m
  refine ⟨a, b, fun x h1 h2 => ?_⟩
  have mx : x ∈ lostL s := mem_lost.mpr ⟨h1, h2⟩
  have so := lost_sorted s
  rw [h] at mx so
  rcases List.mem_cons.mp mx with rfl | q
  · exact Nat.le_refl _
  · exact Nat.le_of_lt ((List.pairwise_cons.mp so).1 x q)
/-- while nothing is lost, a loss stands at a touched gap -/
theorem ls_step {s : Sd} (w : Wf s) {op : Int} (h : IsOp s.n op) (k : Nat) (e : lostL s = []) :
    lsS s (stepS s op) k (hiN s op) (lsS s (stepS s op) k (lowN s op) none) = ((lostL (stepS s op)).head?.map fun g => (k, g)) := by
  obtain ⟨t1, t2, t3, t4, t5⟩ := touch_bd w h
  have no : ∀ x, x ≤ s.n → stT s x ≠ "lost" := fun x h1 h2 => by
    have := mem_lost.mpr ⟨h1, h2⟩
    rw [e] at this
    cases this
  have nl := no (lowN s op) (by have := h.2; omega)
  have nh := no (hiN s op) t3
  have key : ∀ g, g ≤ s.n → ∀ l0, lsS s (stepS s op) k g l0 = if l0 = none ∧ stT (stepS s op) g = "lost" then some (k, g) else l0 := by
    intro g hg l0
    unfold lsS
    by_cases c1 : l0 = none
    · by_cases c2 : stT (stepS s op) g = "lost"
      · rw [if_pos ⟨c1, by rw [c2]; exact no g hg, c2⟩, if_pos ⟨c1, c2⟩]
      · rw [if_neg (fun z => c2 z.2.2), if_neg (fun z => c2 z.2)]
    · rw [if_neg (fun z => c1 z.1), if_neg (fun z => c1 z.1)]
  have kl := key (lowN s op) (by have := h.2; omega) none
  have only : ∀ x, x ≤ s.n → stT (stepS s op) x = "lost" → x = lowN s op ∨ x = hiN s op := by
    intro x hx hl
    by_cases c1 : x = lowN s op
    · exact .inl c1
    · by_cases c2 : x = hiN s op
      · exact .inr c2
      · rw [step_st w h c1 c2] at hl
        exact absurd hl (no x hx)
  cases hL : lostL (stepS s op) with
  | nil =>
    have n1 : stT (stepS s op) (lowN s op) ≠ "lost" := fun z => by
      have := mem_lost.mpr ⟨show lowN s op ≤ (stepS s op).n by rw [stepS_n]; have := h.2; omega, z⟩
      rw [hL] at this
      cases this
    have n2 : stT (stepS s op) (hiN s op) ≠ "lost" := fun z => by
      have := mem_lost.mpr ⟨show hiN s op ≤ (stepS s op).n by rw [stepS_n]; exact t3, z⟩
      rw [hL] at this
      cases this
    rw [kl, if_neg (fun z => n1 z.2), key _ t3, if_neg (fun z => n2 z.2)] <;> rfl
  | cons g r =>
    obtain ⟨g1, g2, g3⟩ := lost_head hL
    rw [stepS_n] at g1 g3
    show _ = some (k, g)
    by_cases c : stT (stepS s op) (lowN s op) = "lost"
    · have := g3 _ (by have := h.2; omega) c
      have eg : g = lowN s op := by
        rcases only g g1 g2 with q | q
        · exact q
        · omega
      rw [kl, if_pos ⟨rfl, c⟩, key _ t3, if_neg (fun z => by cases z.1), eg]
    · have eg : g = hiN s op := by
        rcases only g g1 g2 with q | q
        · exact absurd (q ▸ g2) c
        · exact q
      rw [kl, if_neg (fun z => c z.2), key _ t3, if_pos ⟨rfl, eg ▸ g2⟩, eg]
/-- the last change of a gap, when one more operation comes -/
theorem de_step {s : Sd} (w : Wf s) {op : Int} (h : IsOp s.n op) (k : Nat) {de : List Int} (hl : de.length = s.n + 1) {g : Nat} (hg : g ≤ s.n) :
    gI (deS s (stepS s op) k (deS s (stepS s op) k de (lowN s op)) (hiN s op)) g = if stT s g = stT (stepS s op) g then gI de g else (k : Int) := by
  obtain ⟨t1, t2, t3, t4, t5⟩ := touch_bd w h
  have key : ∀ de' : List Int, de'.length = s.n + 1 → ∀ x, x ≤ s.n → gI (deS s (stepS s op) k de' x) g = if g = x ∧ ¬ stT s g = stT (stepS s op) g then (k : Int) else gI de' g := by
    intro de' hl' x hx
    unfold deS
    by_cases c : stT s x = stT (stepS s op) x
    · rw [if_pos c, if_neg]
      rintro ⟨rfl, n⟩
      exact n c
    · rw [if_neg c, gI_set (by omega)]
      by_cases e : g = x
      · rw [if_pos e, if_pos ⟨e, by rw [e]; exact c⟩]
      · rw [if_neg e, if_neg (fun z => e z.1)]
  rw [key _ (by rw [deS_len, hl]) _ t3, key _ hl _ (by have := h.2; omega)]
  by_cases c : stT s g = stT (stepS s op) g
  · rw [if_pos c, if_neg (fun z => z.2 c), if_neg (fun z => z.2 c)]
  · rw [if_neg c]
    by_cases e2 : g = hiN s op
    · rw [if_pos ⟨e2, c⟩]
    · rw [if_neg (fun z => e2 z.1)]
      by_cases e1 : g = lowN s op
      · rw [if_pos ⟨e1, c⟩]
      · exact absurd (step_st w h e1 e2).symm c

/-! ### promises -/
section
variable (K : PySem.W.Frag)
/-- the errors of a log from the whole list -/
structure RepE (H : Hp) (size : Int) (log : List Int) (E : XK) : Prop where
  op : SizeOk size → LogE K (wholeS size.toNat) log E H
  sz : ¬ SizeOk size → ∀ H', Kp [] H H' → Ex K "BadSize" [("size", .int size)] E H'
theorem RepE.kp {K : PySem.W.Frag} {H H1 : Hp} {size : Int} {log : List Int} {E : XK} (r : RepE K H size log E) (k : Kp [] H H1) : RepE K H1 size log E :=
  ⟨fun ok i op h l b H' k' => r.op ok i op h l b H' (k.trans k'), fun b H' k' => r.sz b H' (k.trans k')⟩
def TouchAt (H : Hp) (n : Nat) (log : List Int) (xs : List V) : Prop := xs.length = log.length ∧ ∀ (i : Nat) (op : Int), log[i]? = some op → ∃ t, xs[i]? = some (.ref t) ∧ H t = some (.tup [.int (op.natAbs : Int), .int (gI (runS (wholeS n) (log.take i)).L op.natAbs), .int (gI (runS (wholeS n) (log.take i)).R op.natAbs)])
def sp__links_of_operations : Sp := fun vs H Q E => ∃ (a : Addr) (size : Int) (log : List Int), vs = [.int size, .ref a] ∧ SqL K H a (log.map V.int) ∧ log.length ≤ 1000 ∧ RepE K H size log E ∧
  (SizeOk size → Leg (wholeS size.toNat) log → ∀ q H' xs, H q = none → Kp [] H H' → H' q = some (.lst xs) → TouchAt H' size.toNat log xs → Q (.ref q) H')
def sp_writers : Sp := fun vs H Q E => ∃ (a : Addr) (size : Int) (log : List Int), vs = [.int size, .ref a] ∧ SqL K H a (log.map V.int) ∧ log.length ≤ 1000 ∧ RepE K H size log E ∧
  (SizeOk size → Leg (wholeS size.toNat) log → ∀ t r l H', Kp [] H H' → H' t = some (.tup [.ref r, .ref l]) → H' r = some (.lst ((bkR size.toNat log).wr.map V.int)) → H' l = some (.lst ((bkR size.toNat log).wl.map V.int)) → Q (.ref t) H')
def sp_decided_by : Sp := fun vs H Q E => ∃ (a : Addr) (size g : Int) (log : List Int), vs = [.int size, .ref a, .int g] ∧ SqL K H a (log.map V.int) ∧ RepE K H size log E ∧
  (SizeOk size → Leg (wholeS size.toNat) log → ¬ (0 ≤ g ∧ g ≤ size) → ∀ H', Kp [] H H' → Ex K "BadGap" [("gap", .int g)] E H') ∧
  (SizeOk size → Leg (wholeS size.toNat) log → 0 ≤ g → g ≤ size → ∀ H', Kp [] H H' → Q (.int (gI (bkR size.toNat log).de g.toNat)) H')
/-- None or a pair -/
def OptP (H : Hp) (v : V) : Option (Nat × Nat) → Prop
  | none => v = .non
  | some (k, g) => ∃ t, v = .ref t ∧ H t = some (.tup [.int (k : Int), .int (g : Int)])
def sp_first_loss : Sp := fun vs H Q E => ∃ (a : Addr) (size : Int) (log : List Int), vs = [.int size, .ref a] ∧ SqL K H a (log.map V.int) ∧ RepE K H size log E ∧
  (SizeOk size → Leg (wholeS size.toNat) log → ∀ v H', Kp [] H H' → OptP H' v (bkR size.toNat log).ls → Q v H')
end
end G

set_option Elab.async false
set_option linter.all false
set_option maxRecDepth 100000
set_option maxHeartbeats 4000000
/-! What the law's own defs promise. -/
namespace G
open PySem PySem.Spec PyProof.Rows L2
def Bag (H : Hp) (b : Addr) : Prop := ∃ c m t : Int, H b = some (.lst [.int c, .int m, .int t])
/-- the law's own standing: a list of a size and three lists -/
structure LW (H : Hp) (w r l o : Addr) (s : Sd) : Prop where
  ob : H w = some (.lst [.int s.n, .ref r, .ref l, .ref o])
  hr : H r = some (.lst (s.R.map V.int))
  hl : ∃ L' : List Int, H l = some (.lst (L'.map V.int)) ∧ L'.length = s.n + 2 ∧ ∀ v, 1 ≤ v → gI L' v = gI s.L v
  ho : H o = some (.lst (s.O.map V.bl))
  ne : r ≠ l ∧ r ≠ o ∧ l ≠ o ∧ w ≠ r ∧ w ≠ l ∧ w ≠ o
  wf : Wf s
theorem LW.kp {H H' : Hp} {w r l o : Addr} {s : Sd} {S : List Addr} (a : LW H w r l o s) (k : Kp S H H') (h1 : w ∉ S) (h2 : r ∉ S) (h3 : l ∉ S) (h4 : o ∉ S) : LW H' w r l o s := by
  obtain ⟨L', e1, e2⟩ := a.hl
  exact ⟨k _ _ h1 a.ob, k _ _ h2 a.hr, ⟨L', k _ _ h3 e1, e2⟩, k _ _ h4 a.ho, a.ne, a.wf⟩
theorem LW.k0 {H H' : Hp} {w r l o : Addr} {s : Sd} (a : LW H w r l o s) (k : Kp [] H H') : LW H' w r l o s := a.kp k (by simp) (by simp) (by simp) (by simp)
/-- out, by the last operation of the node -/
def outF (log : List Int) (v : Nat) : Bool := match log.reverse.find? (fun x => decide (x.natAbs = v)) with
  | some x => decide (x < 0)
  | none => false
theorem outF_snoc (log : List Int) (op : Int) (v : Nat) : outF (log ++ [op]) v = if op.natAbs = v then decide (op < 0) else outF log v := by
  unfold outF
  rw [List.reverse_append, List.reverse_singleton, List.singleton_append, List.find?_cons]
  by_cases h : op.natAbs = v
  · rw [decide_eq_true h, if_pos h]
  · rw [decide_eq_false h, if_neg h]
theorem run_out {n : Nat} (hn : n ≤ 60) : ∀ log : List Int, (∀ x ∈ log, IsOp n x) → ∀ v, gB (runS (wholeS n) log).O v = outF log v := by
  intro log
  induction log using snoc_ind with
  | h0 =>
    intro _ v
    show gB (List.replicate (n + 2) false) v = false
    unfold gB
    rw [List.getD_eq_getElem?_getD]
    by_cases h : v < n + 2
    · rw [List.getElem?_replicate_of_lt h] <;> rfl
    · rw [List.getElem?_eq_none (by rw [List.length_replicate]; omega)] <;> rfl
  | h1 l x ih =>
    intro h v
    have hx := h x (by simp)
    have lo : (runS (wholeS n) l).O.length = n + 2 := by
      clear ih h hx
      induction l using snoc_ind with
      | h0 => exact List.length_replicate
      | h1 l y ih =>
        rw [runS_snoc]
        show (List.set _ _ _).length = _
        rw [List.length_set, ih]
    rw [runS_snoc, outF_snoc]
    show gB ((runS (wholeS n) l).O.set x.natAbs (decide (x < 0))) v = _
    rw [gB_set (by rw [lo]; have := hx.2; omega), ih (fun y hy => h y (by simp [hy]))]
    by_cases e : x.natAbs = v
    · rw [if_pos e.symm, if_pos e]
    · rw [if_neg (fun z => e z.symm), if_neg e]
/-- each operation turns its node -/
def Alt (log : List Int) : Prop := ∀ i op, log[i]? = some op → outF (log.take i) op.natAbs = decide (0 < op)
theorem leg_of {n : Nat} (hn : n ≤ 60) {log : List Int} (h : ∀ x ∈ log, IsOp n x) (a : Alt log) : Leg (wholeS n) log := by
  intro i op hi
  refine ⟨by rw [runS_n]; exact h op (List.mem_of_getElem? hi), ?_⟩
  rw [run_out hn _ (fun x hx => h x (List.mem_of_mem_take hx))]
  exact a i op hi
theorem Leg.isop {n : Nat} {log : List Int} (h : Leg (wholeS n) log) : ∀ x ∈ log, IsOp n x := by
  intro x hx
  obtain ⟨i, hi⟩ := List.getElem?_of_mem hx
  have := (h i x hi).1
  rwa [runS_n] at this
theorem ok_out {n : Nat} (hn : n ≤ 60) {log : List Int} (h : Leg (wholeS n) log) {op : Int} : OkOp (runS (wholeS n) log) op ↔ IsOp n op ∧ outF log op.natAbs = decide (0 < op) := by
  unfold OkOp
  rw [run_out hn log h.isop, runS_n] <;> rfl

/-- what is due for a size, a log and a gap -/
def FltV (size : Int) (log : List Int) (g : Int) (xs : List V) : Prop :=
  (¬ SizeOk size ∧ xs = [.str "size", .int size]) ∨
  (SizeOk size ∧ ∃ (i : Nat) (op : Int), log[i]? = some op ∧ Leg (wholeS size.toNat) (log.take i) ∧ ¬ OkOp (runS (wholeS size.toNat) (log.take i)) op ∧ xs = [.str (if IsOp size.toNat op then "illegal" else "operation"), .int op, .int (i : Int)]) ∨
  (SizeOk size ∧ Leg (wholeS size.toNat) log ∧ ¬ (0 ≤ g ∧ g ≤ size) ∧ xs = [.str "gap", .int g]) ∨
  (SizeOk size ∧ Leg (wholeS size.toNat) log ∧ (0 ≤ g ∧ g ≤ size) ∧ xs = [.str "done"])
theorem bad_uniq {s : Sd} {log : List Int} {i j : Nat} {a b : Int} (hi : log[i]? = some a) (hj : log[j]? = some b) (li : Leg s (log.take i)) (lj : Leg s (log.take j)) (ni : ¬ OkOp (runS s (log.take i)) a) (nj : ¬ OkOp (runS s (log.take j)) b) : i = j ∧ a = b := by
  have lt : ∀ {i j : Nat} {a : Int}, log[i]? = some a → Leg s (log.take j) → ¬ OkOp (runS s (log.take i)) a → ¬ i < j := by
    intro i j a hi lj ni h
    have := lj i a (by rw [List.getElem?_take_of_lt h]; exact hi)
    rw [List.take_take, Nat.min_eq_left (by omega)] at this
    exact ni this
  have e : i = j := by
    have := lt hi lj ni
    have := lt hj li nj
    omega
  subst e
  exact ⟨rfl, by rw [hi] at hj; injection hj⟩
theorem bad_leg {s : Sd} {log : List Int} {i : Nat} {a : Int} (hi : log[i]? = some a) (ni : ¬ OkOp (runS s (log.take i)) a) (l : Leg s log) : False := ni (l i a hi)
theorem FltV.uniq {size : Int} {log : List Int} {g : Int} {xs ys : List V} (a : FltV size log g xs) (b : FltV size log g ys) : xs = ys := by
  rcases a with ⟨a1, rfl⟩ | ⟨a1, i, op, a2, a3, a4, rfl⟩ | ⟨a1, a2, a3, rfl⟩ | ⟨a1, a2, a3, rfl⟩ <;> rcases b with ⟨b1, rfl⟩ | ⟨b1, j, oq, b2, b3, b4, rfl⟩ | ⟨b1, b2, b3, rfl⟩ | ⟨b1, b2, b3, rfl⟩
  all_goals first
    | rfl
    | exact absurd b1 a1
    | exact absurd a1 b1
    | exact absurd b3 a3
    | exact absurd a3 b3
    | exact (bad_leg a2 a4 b2).elim
    | exact (bad_leg b2 b4 a2).elim
    | (obtain ⟨rfl, rfl⟩ := bad_uniq a2 b2 a3 b3 a4 b4; rfl)
section
def sp__law_bag (K : PySem.W.Frag) : Sp := fun vs H Q E => ∃ (a : Addr) (lane : Int) (ns : List Int), vs = [.ref a, .int lane] ∧ 0 ≤ lane ∧ lane ≤ 1 ∧ SqL K H a (ns.map V.int) ∧ ns.length ≤ 63 ∧ ∀ b H', H b = none → Kp [] H H' → Bag H' b → Q (.ref b) H'
def sp__law_draw (K : PySem.W.Frag) : Sp := fun vs H Q E => ∃ (b : Addr) (many : Int), vs = [.ref b, .int many] ∧ 0 < many ∧ many < 2 ^ 30 ∧ Bag H b ∧ ∀ (d : Int) H', 0 ≤ d → d < many → Kp [b] H H' → Bag H' b → Q (.int d) H'
def sp__law_size (K : PySem.W.Frag) : Sp := fun vs H Q E => ∃ b : Addr, vs = [.ref b] ∧ Bag H b ∧ ∀ (n : Nat) H', n ≤ 60 → Kp [b] H H' → Bag H' b → Q (.int (n : Int)) H'
def sp__law_whole (K : PySem.W.Frag) : Sp := fun vs H Q E => ∃ n : Nat, vs = [.int (n : Int)] ∧ n ≤ 60 ∧ ∀ w r l o H', H w = none → H r = none → H l = none → H o = none → Kp [] H H' → LW H' w r l o (wholeS n) → Q (.ref w) H'
def sp__law_planted (K : PySem.W.Frag) : Sp := fun vs H Q E => ∃ (b : Addr) (n : Nat), vs = [.ref b, .int (n : Int)] ∧ n ≤ 60 ∧ Bag H b ∧ ∀ (ds : List Int) (q : Addr) H', H q = none → (∀ x ∈ ds, IsOp n x) → Alt ds → ds.length ≤ 9 → Kp [b] H H' → Bag H' b → H' q = some (.lst (ds.map V.int)) → Q (.ref q) H'
def sp__law_log (K : PySem.W.Frag) : Sp := fun vs H Q E => ∃ (b : Addr) (n : Nat), vs = [.ref b, .int (n : Int)] ∧ n ≤ 60 ∧ Bag H b ∧ ∀ (ds : List Int) (q : Addr) H', H q = none → (∀ x ∈ ds, IsOp n x) → Alt ds → ds.length ≤ 200 → Kp [b] H H' → Bag H' b → H' q = some (.lst (ds.map V.int)) → Q (.ref q) H'
def sp__law_state (K : PySem.W.Frag) : Sp := fun vs H Q E => ∃ (w r l o : Addr) (s : Sd) (g : Nat), vs = [.ref w, .int (g : Int)] ∧ LW H w r l o s ∧ g ≤ s.n ∧ Q (.str (stT s g)) H
def sp__law_step (K : PySem.W.Frag) : Sp := fun vs H Q E => ∃ (w r l o : Addr) (s : Sd) (op : Int), vs = [.ref w, .int op] ∧ LW H w r l o s ∧ IsOp s.n op ∧ ∀ H', Kp [r, l, o] H H' → LW H' w r l o (stepS s op) → Q .non H'
def sp__law_whole_number (K : PySem.W.Frag) : Sp := fun vs H Q E => ∃ i : Int, vs = [.int i] ∧ Q (.bl true) H
def sp__law_numbers (K : PySem.W.Frag) : Sp := fun vs H Q E => ∃ (a b : Addr) (xs : List Int), vs = [.ref a, .ref b] ∧ xs.length ≤ 1000 ∧ H a = some (.lst (xs.map V.int)) ∧ H b = some (.lst (xs.map V.int)) ∧ Q (.bl true) H
def sp__law_pair (K : PySem.W.Frag) : Sp := fun vs H Q E => ∃ (x y : V) (p : Option (Nat × Nat)), vs = [x, y] ∧ OptP H x p ∧ OptP H y p ∧ Q (.bl true) H
def sp__law_book (K : PySem.W.Frag) : Sp := fun vs H Q E => ∃ (n : Nat) (a : Addr) (log : List Int), vs = [.int (n : Int), .ref a] ∧ n ≤ 60 ∧ SqL K H a (log.map V.int) ∧ log.length ≤ 1000 ∧ Leg (wholeS n) log ∧
  ∀ q r l d v H', Kp [] H H' → H' q = some (.lst [.ref r, .ref l, .ref d, v]) → H' r = some (.lst ((bkR n log).wr.map V.int)) → H' l = some (.lst ((bkR n log).wl.map V.int)) → H' d = some (.lst ((bkR n log).de.map V.int)) → OptP H' v (bkR n log).ls → Q (.ref q) H'
def sp__law_agrees (K : PySem.W.Frag) : Sp := fun vs H Q E => ∃ (n : Nat) (a c : Addr) (log gs : List Int), vs = [.int (n : Int), .ref a, .ref c] ∧ n ≤ 60 ∧ H a = some (.lst (log.map V.int)) ∧ log.length ≤ 1000 ∧ Leg (wholeS n) log ∧ SqL K H c (gs.map V.int) ∧ (∀ g ∈ gs, 0 ≤ g ∧ g ≤ n) ∧ gs.length ≤ 1000 ∧ ∀ H', Kp [] H H' → Q (.bl true) H'
def sp__law_fault (K : PySem.W.Frag) : Sp := fun vs H Q E => ∃ (size g : Int) (a : Addr) (log : List Int), vs = [.int size, .ref a, .int g] ∧ SqL K H a (log.map V.int) ∧ log.length ≤ 1000 ∧ ∀ xs t H', FltV size log g xs → Kp [] H H' → H' t = some (.tup xs) → Q (.ref t) H'
def sp__law_answer (K : PySem.W.Frag) : Sp := fun vs H Q E => ∃ (way size g : Int) (a : Addr) (log : List Int), vs = [.int way, .int size, .ref a, .int g] ∧ (way = 0 ∨ g = 0) ∧ 0 ≤ way ∧ way ≤ 2 ∧ SqL K H a (log.map V.int) ∧ log.length ≤ 1000 ∧ ∀ xs t H', FltV size log g xs → Kp [] H H' → H' t = some (.tup xs) → Q (.ref t) H'
def sp__law_spoilt (K : PySem.W.Frag) : Sp := fun vs H Q E => ∃ (b a : Addr) (n : Nat) (log : List Int), vs = [.ref b, .int (n : Int), .ref a] ∧ n ≤ 60 ∧ Bag H b ∧ a ≠ b ∧ H a = some (.lst (log.map V.int)) ∧ log.length ≤ 400 ∧ ∀ (ds : List Int) (q : Addr) H', H q = none → ds.length ≤ 2 * log.length + 2 → Kp [b] H H' → Bag H' b → H' q = some (.lst (ds.map V.int)) → Q (.ref q) H'
/-- a trial: a size, a log, a gap -/
def Trial (H : Hp) (x : V) : Prop := ∃ (t a : Addr) (size g : Int) (log : List Int), x = .ref t ∧ H t = some (.tup [.int size, .ref a, .int g]) ∧ H a = some (.lst (log.map V.int)) ∧ log.length ≤ 1000
def sp__law_trials (K : PySem.W.Frag) : Sp := fun vs H Q E => ∃ (b a : Addr) (n : Nat) (log : List Int), vs = [.ref b, .int (n : Int), .ref a] ∧ n ≤ 60 ∧ Bag H b ∧ a ≠ b ∧ H a = some (.lst (log.map V.int)) ∧ log.length ≤ 400 ∧ ∀ (xs : List V) (q : Addr) H', Kp [b] H H' → Bag H' b → H' q = some (.lst xs) → xs.length ≤ 100 → (∀ x ∈ xs, Trial H' x) → Q (.ref q) H'
def sp__law_places (K : PySem.W.Frag) : Sp := fun vs H Q E => ∃ (b a : Addr) (n : Nat) (log : List Int), vs = [.ref b, .int (n : Int), .ref a] ∧ n ≤ 60 ∧ Bag H b ∧ a ≠ b ∧ H a = some (.lst (log.map V.int)) ∧ log.length ≤ 500 ∧ (∀ x ∈ log, IsOp n x) ∧ ∀ (gs : List Int) (q : Addr) H', gs.length ≤ 100 → (∀ g ∈ gs, 0 ≤ g ∧ g ≤ n) → Kp [b] H H' → Bag H' b → H' q = some (.lst (gs.map V.int)) → Q (.ref q) H'
def sp__law_refuses (K : PySem.W.Frag) : Sp := fun vs H Q E => ∃ (q : Addr) (xs : List V), vs = [.ref q] ∧ H q = some (.lst xs) ∧ xs.length ≤ 100 ∧ (∀ x ∈ xs, Trial H x) ∧ ∀ H', Kp [] H H' → Q (.bl true) H'
def sp_law (K : PySem.W.Frag) : Sp := fun vs H Q E => ∃ (a : Addr) (ns : List Int), vs = [.ref a] ∧ SqL K H a (ns.map V.int) ∧ ns.length ≤ 63 ∧ ∀ H', Q (.bl true) H'
end
end G

set_option Elab.async false
set_option linter.all false
set_option maxRecDepth 100000
set_option maxHeartbeats 4000000
/-! k10: verdicts, certificates, values of many kinds. -/
namespace G
open PySem PySem.Spec PyProof.Rows L2
/-- a comprehension whose turns change the heap -/
theorem cp_mut {σ : L2.St} {H : Hp} {Q : VK} {te : TE} {tt : TT} {g : TG} {vs : List Nat} {lo : Int} {n : Nat} (Pv : Addr → Nat → List V → Hp → Prop) (hn : n < sizeLine)
    (h0 : ∀ D H', H D = none → Kp [] H H' → H' D = some (.lst []) → Pv D 0 [] H')
    (hs : ∀ (D : Addr) (i : Nat) (acc : List V) (H' : Hp) (S : V → Hp → Prop) (N : Hp → Prop), H D = none → i < n → H' D = some (.lst acc) → Pv D i acc H' →
      (∀ y H4, H4 D = some (.lst acc) → (∀ H5, Kp [D] H4 H5 → H5 D = some (.lst (acc ++ [y])) → Pv D (i + 1) (acc ++ [y]) H5) → S y H4) → (∀ H4, H4 D = some (.lst acc) → Pv D (i + 1) acc H4 → N H4) →
      g (.int (lo + (i : Int))) (wipe σ vs) H' fun σ2 H2 => wipe σ2 vs = wipe σ vs ∧ tt σ2 H2 fun b H3 => if b = true then te σ2 H3 S else N H3)
    (hd : ∀ D acc H', H D = none → H' D = some (.lst acc) → acc.length ≤ n → Pv D n acc H' → Q (.ref D) H') : CompG (Itr lo n) g tt te vs σ Q H := by
  intro D nD
  refine ⟨fun i m H' => m = n - i ∧ i ≤ n ∧ ∃ acc, acc.length ≤ i ∧ H' D = some (.lst acc) ∧ Pv D i acc H', ⟨n, by simp, Nat.zero_le _, [], Nat.le_refl _, upd_same, h0 D _ nD (Kp.new nD) upd_same⟩, ?_⟩
  rintro i m H' ⟨rfl, hi, acc, la, e, p⟩
  by_cases lt : i < n
  · refine .inr ⟨lt, fun H'' => ∃ acc, acc.length ≤ i + 1 ∧ H'' D = some (.lst acc) ∧ Pv D (i + 1) acc H'', fun H'' p => ⟨n - (i + 1), by omega, rfl, lt, p⟩, fun x H'' y => ?_⟩
    obtain ⟨rfl, rfl⟩ := y
    refine hs D i acc _ _ _ nD lt e p (fun y H4 h4 k4 => ⟨acc, h4, by omega, acc ++ [y], by rw [List.length_append]; show acc.length + 1 ≤ _; omega, upd_same, k4 _ (Kp.put (by simp)) upd_same⟩) (fun H4 h4 k4 => ⟨acc, by omega, h4, k4⟩)
  · have ei : i = n := by omega
    subst ei
    exact .inl ⟨Nat.le_refl _, hd D acc H' nD e la p⟩
/-- .. over a list -/
theorem cp_mutL {K : PySem.W.Frag} {σ : L2.St} {H : Hp} {Q : VK} {te : TE} {tt : TT} {g : TG} {vs : List Nat} {a : Addr} {xs : List V} (Pv : Addr → Nat → List V → Hp → Prop) (hn : xs.length < sizeLine)
    (h0 : ∀ D H', H D = none → Kp [] H H' → H' D = some (.lst []) → Pv D 0 [] H')
    (hl : ∀ D i acc H', H D = none → Pv D i acc H' → SqL K H' a xs)
    (hs : ∀ (D : Addr) (i : Nat) (x : V) (acc : List V) (H' : Hp) (S : V → Hp → Prop) (N : Hp → Prop), H D = none → xs[i]? = some x → H' D = some (.lst acc) → Pv D i acc H' →
      (∀ y H4, H4 D = some (.lst acc) → (∀ H5, Kp [D] H4 H5 → H5 D = some (.lst (acc ++ [y])) → Pv D (i + 1) (acc ++ [y]) H5) → S y H4) → (∀ H4, H4 D = some (.lst acc) → Pv D (i + 1) acc H4 → N H4) →
      g x (wipe σ vs) H' fun σ2 H2 => wipe σ2 vs = wipe σ vs ∧ tt σ2 H2 fun b H3 => if b = true then te σ2 H3 S else N H3)
    (hd : ∀ D acc H', H D = none → H' D = some (.lst acc) → acc.length ≤ xs.length → Pv D xs.length acc H' → Q (.ref D) H') : CompG (Itl K a) g tt te vs σ Q H := by
  intro D nD
  refine ⟨fun i m H' => m = xs.length - i ∧ i ≤ xs.length ∧ ∃ acc, acc.length ≤ i ∧ H' D = some (.lst acc) ∧ Pv D i acc H', ⟨xs.length, by simp, Nat.zero_le _, [], Nat.le_refl _, upd_same, h0 D _ nD (Kp.new nD) upd_same⟩, ?_⟩
  rintro i m H' ⟨rfl, hi, acc, la, e, p⟩
  have q := hl D i acc H' nD p
  by_cases lt : i < xs.length
  · refine .inr ⟨⟨xs, xs[i], q, by simp [lt]⟩, fun H'' => ∃ acc, acc.length ≤ i + 1 ∧ H'' D = some (.lst acc) ∧ Pv D (i + 1) acc H'', fun H'' p => ⟨xs.length - (i + 1), by omega, rfl, lt, p⟩, fun x H'' y => ?_⟩
    obtain ⟨rfl, hx⟩ := y
    refine hs D i x acc _ _ _ nD (hx xs q) e p (fun y H4 h4 k4 => ⟨acc, h4, by omega, acc ++ [y], by rw [List.length_append]; show acc.length + 1 ≤ _; omega, upd_same, k4 _ (Kp.put (by simp)) upd_same⟩) (fun H4 h4 k4 => ⟨acc, by omega, h4, k4⟩)
  · have ei : i = xs.length := by omega
    subst ei
    exact .inl ⟨⟨xs, q, Nat.le_refl _⟩, hd D acc H' nD e la p⟩
/-- the nodes that are out, from the least on -/
def outN (n : Nat) (O : List Bool) : List Int := (((List.range n).map fun (v : Nat) => v + 1).filter fun v => gB O v).map fun (v : Nat) => (v : Int)
theorem outN_len (n : Nat) (O : List Bool) : (outN n O).length ≤ n := by
  unfold outN
  rw [List.length_map]
  refine Nat.le_trans (List.length_filter_le _ _) ?_
  rw [List.length_map, List.length_range]
  exact Nat.le_refl _
/-- None or a whole number -/
def Isn (v : V) : Prop := v = .non ∨ ∃ i : Int, v = .int i
/-! a verdict in the heap -/
def vfl (g a b w : V) : List (Str × V) := putF "whole" w (putF "index" b (putF "gap" a (putF "out_nodes" g [])))
theorem m1 : ¬ (("out_nodes" : Str) = "gap") := by decide +kernel
theorem m2 : ¬ (("out_nodes" : Str) = "index") := by decide +kernel
theorem m3 : ¬ (("out_nodes" : Str) = "whole") := by decide +kernel
theorem m4 : ¬ (("gap" : Str) = "index") := by decide +kernel
theorem m5 : ¬ (("gap" : Str) = "whole") := by decide +kernel
theorem m6 : ¬ (("index" : Str) = "whole") := by decide +kernel
theorem vfl_g (g a b w : V) : (vfl g a b w).lookup ("out_nodes" : Str) = some g := by
  unfold vfl
  rw [lookup_putF, if_neg m3, lookup_putF, if_neg m2, lookup_putF, if_neg m1, lookup_putF, if_pos rfl]
theorem vfl_a (g a b w : V) : (vfl g a b w).lookup ("gap" : Str) = some a := by
  unfold vfl
  rw [lookup_putF, if_neg m5, lookup_putF, if_neg m4, lookup_putF, if_pos rfl]
theorem vfl_b (g a b w : V) : (vfl g a b w).lookup ("index" : Str) = some b := by
  unfold vfl
  rw [lookup_putF, if_neg m6, lookup_putF, if_pos rfl]
theorem vfl_w (g a b w : V) : (vfl g a b w).lookup ("whole" : Str) = some w := by
  unfold vfl
  rw [lookup_putF, if_pos rfl]
def whB (a : V) (gone : List Int) : Bool := match a with
  | .non => decide ((gone.length : Int) = 0)
  | _ => false
structure VdAt (K : PySem.W.Frag) (H : Hp) (x g : Addr) (gone : List Int) (a b : V) : Prop where
  ob : ∃ dx, H x = some (.ins (He.ga K "Verdict") dx (vfl (.ref g) a b (.bl (whB a gone))))
  hg : H g = some (.lst (gone.map V.int))
theorem VdAt.kp {K : PySem.W.Frag} {H H' : Hp} {x g : Addr} {gone : List Int} {a b : V} {S : List Addr} (v : VdAt K H x g gone a b) (k : Kp S H H') (h1 : x ∉ S) (h2 : g ∉ S) : VdAt K H' x g gone a b := by
  obtain ⟨dx, h⟩ := v.ob
  exact ⟨⟨dx, k _ _ h1 h⟩, k _ _ h2 v.hg⟩
theorem VdAt.k0 {K : PySem.W.Frag} {H H' : Hp} {x g : Addr} {gone : List Int} {a b : V} (v : VdAt K H x g gone a b) (k : Kp [] H H') : VdAt K H' x g gone a b := v.kp k (by simp) (by simp)
/-- what the verdict of a log is due to tell -/
def VF (n : Nat) (log : List Int) (v w : V) : Prop :=
  (∃ i : Nat, i ≤ n ∧ (∀ j, j < i → stT (runS (wholeS n) log) j = "joined") ∧ stT (runS (wholeS n) log) i ≠ "joined" ∧ v = .int (i : Int) ∧ w = .int (gI (bkR n log).de i)) ∨
  ((∀ j, j ≤ n → stT (runS (wholeS n) log) j = "joined") ∧ v = .non ∧ w = .non)
theorem VF.isn {n : Nat} {log : List Int} {v w : V} (h : VF n log v w) : Isn v ∧ Isn w := by
  rcases h with ⟨i, _, _, _, rfl, rfl⟩ | ⟨_, rfl, rfl⟩
  · exact ⟨.inr ⟨_, rfl⟩, .inr ⟨_, rfl⟩⟩
  · exact ⟨.inl rfl, .inl rfl⟩
/-- the certificate of a gap -/
def paper (n : Nat) (log : List Int) (i : Nat) : List V := [.str (stT (runS (wholeS n) log) i), .int (gI (bkR n log).wr i), .int (gI (bkR n log).wl i)]
def PapersAt (H : Hp) (p : Addr) (n : Nat) (log : List Int) : Prop := ∃ ps : List V, H p = some (.lst ps) ∧ ps.length = n + 1 ∧ ∀ i, i ≤ n → ∃ t, ps[i]? = some (.ref t) ∧ H t = some (.tup (paper n log i))
def outS (n : Nat) (log : List Int) : List Int := outN n (runS (wholeS n) log).O
def BookAt (H : Hp) (q : Addr) (n : Nat) (log : List Int) : Prop := ∃ p d g, H q = some (.lst [.ref p, .ref d, .ref g]) ∧ PapersAt H p n log ∧ H d = some (.lst ((bkR n log).de.map V.int)) ∧ H g = some (.lst ((outS n log).map V.int))
theorem PapersAt.k0 {H H' : Hp} {p : Addr} {n : Nat} {log : List Int} (a : PapersAt H p n log) (k : Kp [] H H') : PapersAt H' p n log := by
  obtain ⟨ps, h1, h2, h3⟩ := a
  refine ⟨ps, k.at0 h1, h2, fun i hi => ?_⟩
  obtain ⟨t, h4, h5⟩ := h3 i hi
  exact ⟨t, h4, k.at0 h5⟩
theorem PapersAt.k1 {H H' : Hp} {p b : Addr} {n : Nat} {log : List Int} (a : PapersAt H p n log) (hb : Bag H b) (ne : p ≠ b) (k : Kp [b] H H') : PapersAt H' p n log := by
  obtain ⟨ps, h1, h2, h3⟩ := a
  refine ⟨ps, k.at1 ne h1, h2, fun i hi => ?_⟩
  obtain ⟨t, h4, h5⟩ := h3 i hi
  obtain ⟨c, m, t', hb⟩ := hb
  exact ⟨t, h4, k.at1 (ne_of h5 hb (by intro z; cases z)) h5⟩
/-! values of many kinds, apart from b -/
mutual
inductive Vl (b : Addr) (H : Hp) : V → PyData → Prop
  | non : Vl b H .non .none
  | bl (k : Bool) : Vl b H (.bl k) (.bool k)
  | int (i : Int) : Vl b H (.int i) (.int i)
  | str (x : Str) : Vl b H (.str x) (.str x)
  | lst {a : Addr} {xs : List V} {ds : List PyData} : a ≠ b → H a = some (.lst xs) → VlA b H xs ds → Vl b H (.ref a) (.list ds)
  | tup {a : Addr} {xs : List V} {ds : List PyData} : a ≠ b → H a = some (.tup xs) → VlA b H xs ds → Vl b H (.ref a) (.tuple ds)
inductive VlA (b : Addr) (H : Hp) : List V → List PyData → Prop
  | nil : VlA b H [] []
  | cons {v : V} {vs : List V} {d : PyData} {ds : List PyData} : Vl b H v d → VlA b H vs ds → VlA b H (v :: vs) (d :: ds)
end
mutual
theorem Vl.dp {K : PySem.W.Frag} {b : Addr} {H : Hp} : ∀ (d : PyData) (v : V), Vl b H v d → Dp K H v d
  | .none, _, h => by cases h; exact .non
  | .bool b, _, h => by cases h; exact .bl b
  | .int i, _, h => by cases h; exact .int i
  | .str x, _, h => by cases h; exact .str x
  | .list ds, _, h => by
    cases h with
    | lst ne hs ha => exact .lst (SqL.of hs) (VlA.dp ds _ ha)
  | .tuple ds, _, h => by
    cases h with
    | tup ne hs ha => exact .tup (SqT.of hs) (VlA.dp ds _ ha)
  | .dict _, _, h => by cases h
theorem VlA.dp {K : PySem.W.Frag} {b : Addr} {H : Hp} : ∀ (ds : List PyData) (vs : List V), VlA b H vs ds → DpAll K H vs ds
  | [], _, h => by cases h; exact .nil
  | d :: ds, _, h => by
    cases h with
    | cons h1 h2 => exact .cons (Vl.dp d _ h1) (VlA.dp ds _ h2)
end
mutual
theorem Vl.kp {b : Addr} {H H' : Hp} (k : Kp [b] H H') : ∀ (d : PyData) (v : V), Vl b H v d → Vl b H' v d
  | .none, _, h => by cases h; exact .non
  | .bool b, _, h => by cases h; exact .bl b
  | .int i, _, h => by cases h; exact .int i
  | .str x, _, h => by cases h; exact .str x
  | .list ds, _, h => by
    cases h with
    | lst ne hs ha => exact .lst ne (k.at1 ne hs) (VlA.kp k ds _ ha)
  | .tuple ds, _, h => by
    cases h with
    | tup ne hs ha => exact .tup ne (k.at1 ne hs) (VlA.kp k ds _ ha)
  | .dict _, _, h => by cases h
theorem VlA.kp {b : Addr} {H H' : Hp} (k : Kp [b] H H') : ∀ (ds : List PyData) (vs : List V), VlA b H vs ds → VlA b H' vs ds
  | [], _, h => by cases h; exact .nil
  | d :: ds, _, h => by
    cases h with
    | cons h1 h2 => exact .cons (Vl.kp k d _ h1) (VlA.kp k ds _ h2)
end
theorem Vl.k0 {b : Addr} {H H' : Hp} {v : V} {d : PyData} (h : Vl b H v d) (k : Kp [] H H') : Vl b H' v d := Vl.kp k.all d v h
/-- no truth value stands where a whole number should -/
def okv : PyData → Bool
  | .tuple [_, .bool _, _] => false
  | .tuple [_, _, .bool _] => false
  | _ => true
structure Val (b : Addr) (H : Hp) (v : V) : Prop where
  ex : ∃ d, Vl b H v d ∧ SeqAt.shaped d = true ∧ okv d = true
theorem Val.k1 {b : Addr} {H H' : Hp} {v : V} (h : Val b H v) (k : Kp [b] H H') : Val b H' v := by
  obtain ⟨d, h1, h2⟩ := h.ex
  exact ⟨d, Vl.kp k d v h1, h2⟩
/-- the value is the certificate -/
def cerB (d : PyData) (s : Str) (i j : Int) : Bool := match d with
  | .tuple [.str t, .int k, .int l] => decide (t = s) && (decide (k = i) && decide (l = j))
  | _ => false
def isS : PyData → Bool
  | .str _ => true
  | _ => false
def isI : PyData → Bool
  | .int _ => true
  | _ => false
def isTu : PyData → Bool
  | .tuple _ => true
  | _ => false
theorem cer_of (a b c : PyData) (s : Str) (i j : Int) : cerB (.tuple [a, b, c]) s i j = (isS a && ((isI b && isI c) && PyData.eqv (.tuple [a, b, c]) (.tuple [.str s, .int i, .int j]))) := by
  cases a <;> cases b <;> cases c <;> simp [cerB, isS, isI, PyData.eqv, PyData.eqvAll, Bool.beq_eq_decide_eq]
theorem cer_okv {d : PyData} (h : okv d = true) (s : Str) (i j : Int) : cerB d s i j = PyData.eqv d (.tuple [.str s, .int i, .int j]) := by
  cases d with
  | tuple ds =>
    match ds with
    | [] => simp [cerB, PyData.eqv, PyData.eqvAll]
    | [a] => simp [cerB, PyData.eqv, PyData.eqvAll]
    | [a, b] => simp [cerB, PyData.eqv, PyData.eqvAll]
    | [a, b, c] =>
      rw [cer_of]
      cases a <;> cases b <;> cases c <;> simp_all [isS, isI, okv, PyData.eqv, PyData.eqvAll]
    | a :: b :: c :: d :: e => simp [cerB, PyData.eqv, PyData.eqvAll]
  | _ => simp [cerB, PyData.eqv]
theorem cer_len {ds : List PyData} (h : ds.length ≠ 3) (s : Str) (i j : Int) : cerB (.tuple ds) s i j = false := by
  match ds with
  | [] => rfl
  | [a] => simp [cerB]
  | [a, b] => simp [cerB]
  | [a, b, c] => exact absurd rfl h
  | a :: b :: c :: d :: e => simp [cerB]
theorem cer_tu {d : PyData} (h : isTu d = false) (s : Str) (i j : Int) : cerB d s i j = false := by
  cases d <;> simp_all [isTu, cerB]
/-! promises -/
section
def sp_Links_outs (K : PySem.W.Frag) : Sp := fun vs H Q E => ∃ (p r l o : Addr) (s : Sd), vs = [.ref p] ∧ LinksAt K H p r l o s ∧ ∀ q H', H q = none → Kp [] H H' → H' q = some (.lst ((outN s.n s.O).map V.int)) → Q (.ref q) H'
def sp_Verdict___init__ (K : PySem.W.Frag) : Sp := fun vs H Q E => ∃ (p l dx : Addr) (a b : V) (gone : List Int), vs = [.ref p, .ref l, a, b] ∧ H p = some (.ins (He.ga K "Verdict") dx []) ∧ p ≠ l ∧ SqL K H l (gone.map V.int) ∧ gone.length ≤ 1000 ∧ Isn a ∧
  ∀ g H', H g = none → Kp [p] H H' → VdAt K H' p g gone a b → Q .non H'
def sp_verdict (K : PySem.W.Frag) : Sp := fun vs H Q E => ∃ (a : Addr) (size : Int) (log : List Int), vs = [.int size, .ref a] ∧ SqL K H a (log.map V.int) ∧ log.length ≤ 1000 ∧ RepE K H size log E ∧
  (SizeOk size → Leg (wholeS size.toNat) log → ∀ x g v w H', Kp [] H H' → VdAt K H' x g (outS size.toNat log) v w → VF size.toNat log v w → Q (.ref x) H')
def sp__law_number_or_none (K : PySem.W.Frag) : Sp := fun vs H Q E => ∃ v : V, vs = [v, v] ∧ Isn v ∧ Q (.bl true) H
def sp__law_bears (K : PySem.W.Frag) : Sp := fun vs H Q E => ∃ (x g c : Addr) (gone : List Int) (v w : V), vs = [.ref x, .ref c, v, w] ∧ VdAt K H x g gone v w ∧ H c = some (.lst (gone.map V.int)) ∧ gone.length ≤ 1000 ∧ Isn v ∧ Isn w ∧ Q (.bl true) H
def sp10__law_book (K : PySem.W.Frag) : Sp := fun vs H Q E => ∃ (n : Nat) (a : Addr) (log : List Int), vs = [.int (n : Int), .ref a] ∧ n ≤ 60 ∧ SqL K H a (log.map V.int) ∧ log.length ≤ 1000 ∧ Leg (wholeS n) log ∧ ∀ q H', Kp [] H H' → BookAt H' q n log → Q (.ref q) H'
def sp__law_verdict_fits (K : PySem.W.Frag) : Sp := fun vs H Q E => ∃ (x g q : Addr) (n : Nat) (log : List Int) (v w : V), vs = [.ref x, .ref q] ∧ n ≤ 60 ∧ VdAt K H x g (outS n log) v w ∧ VF n log v w ∧ BookAt H q n log ∧ Q (.bl true) H
def sp__law_made (K : PySem.W.Frag) : Sp := fun vs H Q E => ∃ (c : Addr) (gone : List Int) (v w : V), vs = [.ref c, v, w] ∧ H c = some (.lst (gone.map V.int)) ∧ gone.length ≤ 10 ∧ Isn v ∧ Isn w ∧ ∀ H', Kp [] H H' → Q (.bl true) H'
def sp__law_is_paper (K : PySem.W.Frag) : Sp := fun vs H Q E => ∃ (t u : Addr) (s : Str) (i j : Int), vs = [.ref t, .ref u] ∧ H t = some (.tup [.str s, .int i, .int j]) ∧ H u = some (.tup [.str s, .int i, .int j]) ∧ Q (.bl true) H
def sp__law_bents (K : PySem.W.Frag) : Sp := fun vs H Q E => ∃ (b u o : Addr) (by_ i j i' j' : Int) (s s' : Str), vs = [.ref u, .ref o, .int by_] ∧ H u = some (.tup [.str s, .int i, .int j]) ∧ H o = some (.tup [.str s', .int i', .int j']) ∧ PyData.strOk s = true ∧ PyData.strOk s' = true ∧
  -2000 ≤ i ∧ i ≤ 2000 ∧ u ≠ b ∧ o ≠ b ∧ H b ≠ none ∧ ∀ q xs H', H q = none → Kp [] H H' → H' q = some (.lst xs) → 1 ≤ xs.length → xs.length ≤ 100 → (∀ x ∈ xs, Val b H' x) → Q (.ref q) H'
def sp_is_plain_integer (K : PySem.W.Frag) : Sp := fun vs H Q E => ∃ (b : Addr) (x : V) (d : PyData), vs = [x] ∧ Vl b H x d ∧ Q (.bl (isI d)) H
def sp_gap_certificate (K : PySem.W.Frag) : Sp := fun vs H Q E => ∃ (a : Addr) (size g : Int) (log : List Int), vs = [.int size, .ref a, .int g] ∧ SqL K H a (log.map V.int) ∧ log.length ≤ 1000 ∧ RepE K H size log E ∧
  (SizeOk size → Leg (wholeS size.toNat) log → ¬ (0 ≤ g ∧ g ≤ size) → ∀ H', Kp [] H H' → Ex K "BadGap" [("gap", .int g)] E H') ∧
  (SizeOk size → Leg (wholeS size.toNat) log → 0 ≤ g → g ≤ size → ∀ t H', Kp [] H H' → H' t = some (.tup (paper size.toNat log g.toNat)) → Q (.ref t) H')
def sp_is_gap_certificate (K : PySem.W.Frag) : Sp := fun vs H Q E => ∃ (a b : Addr) (size g : Int) (log : List Int) (x : V) (d : PyData), vs = [.int size, .ref a, .int g, x] ∧ SqL K H a (log.map V.int) ∧ log.length ≤ 1000 ∧ Vl b H x d ∧ SeqAt.shaped d = true ∧ RepE K H size log E ∧
  (SizeOk size → Leg (wholeS size.toNat) log → ¬ (0 ≤ g ∧ g ≤ size) → ∀ H', Kp [] H H' → Ex K "BadGap" [("gap", .int g)] E H') ∧
  (SizeOk size → Leg (wholeS size.toNat) log → 0 ≤ g → g ≤ size → ∀ H', Kp [] H H' → Q (.bl (cerB d (stT (runS (wholeS size.toNat) log) g.toNat) (gI (bkR size.toNat log).wr g.toNat) (gI (bkR size.toNat log).wl g.toNat))) H')
def sp__law_judged (K : PySem.W.Frag) : Sp := fun vs H Q E => ∃ (n g : Nat) (a b u : Addr) (log : List Int) (x : V) (d : PyData), vs = [.int (n : Int), .ref a, .int (g : Int), x, .ref u] ∧ n ≤ 60 ∧ g ≤ n ∧ SqL K H a (log.map V.int) ∧ log.length ≤ 1000 ∧ Leg (wholeS n) log ∧
  Vl b H x d ∧ SeqAt.shaped d = true ∧ okv d = true ∧ H u = some (.tup (paper n log g)) ∧ ∀ H', Kp [] H H' → Q (.bl true) H'
def sp__law_papers_fit (K : PySem.W.Frag) : Sp := fun vs H Q E => ∃ (n : Nat) (a c p b : Addr) (log gs : List Int), vs = [.int (n : Int), .ref a, .ref c, .ref p, .ref b] ∧ n ≤ 60 ∧ H a = some (.lst (log.map V.int)) ∧ log.length ≤ 1000 ∧ Leg (wholeS n) log ∧ H c = some (.lst (gs.map V.int)) ∧ gs ≠ [] ∧
  (∀ g ∈ gs, 0 ≤ g ∧ g ≤ n) ∧ gs.length ≤ 1000 ∧ PapersAt H p n log ∧ Bag H b ∧ a ≠ b ∧ c ≠ b ∧ p ≠ b ∧ ∀ H', Kp [b] H H' → Bag H' b → Q (.bl true) H'
def sp10__law_agrees (K : PySem.W.Frag) : Sp := fun vs H Q E => ∃ (n : Nat) (a c b : Addr) (log gs : List Int), vs = [.int (n : Int), .ref a, .ref c, .ref b] ∧ n ≤ 60 ∧ H a = some (.lst (log.map V.int)) ∧ log.length ≤ 1000 ∧ Leg (wholeS n) log ∧ H c = some (.lst (gs.map V.int)) ∧ gs ≠ [] ∧
  (∀ g ∈ gs, 0 ≤ g ∧ g ≤ n) ∧ gs.length ≤ 1000 ∧ Bag H b ∧ a ≠ b ∧ c ≠ b ∧ ∀ H', Kp [b] H H' → Bag H' b → Q (.bl true) H'
def sp10__law_answer (K : PySem.W.Frag) : Sp := fun vs H Q E => ∃ (way size g : Int) (a : Addr) (log : List Int), vs = [.int way, .int size, .ref a, .int g] ∧ (way ≤ 1 ∨ g = 0) ∧ 0 ≤ way ∧ way ≤ 2 ∧ SqL K H a (log.map V.int) ∧ log.length ≤ 1000 ∧ ∀ xs t H', FltV size log g xs → Kp [] H H' → H' t = some (.tup xs) → Q (.ref t) H'
def sp10__law_places (K : PySem.W.Frag) : Sp := fun vs H Q E => ∃ (b a : Addr) (n : Nat) (log : List Int), vs = [.ref b, .int (n : Int), .ref a] ∧ n ≤ 60 ∧ Bag H b ∧ a ≠ b ∧ H a = some (.lst (log.map V.int)) ∧ log.length ≤ 500 ∧ (∀ x ∈ log, IsOp n x) ∧ ∀ (gs : List Int) (q : Addr) H', H q = none → gs ≠ [] → gs.length ≤ 100 → (∀ g ∈ gs, 0 ≤ g ∧ g ≤ n) → Kp [b] H H' → Bag H' b → H' q = some (.lst (gs.map V.int)) → Q (.ref q) H'
end
end G

set_option Elab.async false
set_option linter.all false
set_option maxRecDepth 100000
set_option maxHeartbeats 4000000
/-! Texts of numbers, and of standings. -/
namespace G
open PySem PySem.Spec PyProof.Rows L2 TL
def numI (i : Int) : Str := Str.ofString (toString i)
def spS : Str := " "
def barS : Str := " | "
def joinI (l : List Int) : Str := Txt.join spS (l.map numI)
theorem tl_numI {i : Int} (h : 0 ≤ i) : tl (numI i) = numL i.toNat := by
  obtain ⟨n, rfl⟩ : ∃ n : Nat, i = (n : Int) := ⟨i.toNat, by omega⟩
  rw [Int.toNat_natCast]
  exact tl_num n
theorem tl_spS : tl spS = [32] := by decide +kernel
theorem tl_barS : tl barS = [32, 124, 32] := by decide +kernel
theorem numI_len {i : Int} (h : 0 ≤ i) (h2 : i < 1000000000) : (numI i).length ≤ 9 := by
  rw [len_tl, tl_numI h]
  exact numL_len (by decide) (by omega)
theorem numI_pos {i : Int} (h : 0 ≤ i) : 1 ≤ (numI i).length := by
  rw [len_tl, tl_numI h]
  exact List.length_pos_iff.mpr (numL_ne _)
theorem split_joinI {l : List Int} (hne : l ≠ []) (h : ∀ i ∈ l, 0 ≤ i) : Txt.split (joinI l) spS = l.map numI := by
  refine split_join (y := spS) (s := 32) (S := []) tl_spS (by decide +kernel) (by simpa using hne) fun p hp => ?_
  obtain ⟨i, hi, rfl⟩ := List.mem_map.mp hp
  rw [tl_numI (h i hi)]
  exact numL_free (by omega)
theorem joinL_len (S : List Nat) : ∀ ps : List (List Nat), (joinL S ps).length ≤ (ps.map List.length).sum + ps.length * S.length
  | [] => by simp [joinL]
  | [p] => by simp [joinL]
  | p :: q :: r => by
    have ih := joinL_len S (q :: r)
    show (p ++ (S ++ joinL S (q :: r))).length ≤ _
    simp only [List.length_append, List.map_cons, List.sum_cons, List.length_cons, Nat.add_mul, Nat.one_mul] at ih ⊢
    omega
theorem sum_le9 : ∀ {l : List Int}, (∀ i ∈ l, 0 ≤ i ∧ i < 1000000000) → ((l.map numI).map (·.length)).sum ≤ 9 * l.length
  | [], _ => by simp
  | i :: l, h => by
    have ih := sum_le9 (l := l) fun j hj => h j (List.mem_cons_of_mem _ hj)
    have h0 := h i List.mem_cons_self
    have := numI_len h0.1 h0.2
    simp only [List.map_cons, List.sum_cons, List.length_cons]
    omega
theorem joinI_len {l : List Int} (h : ∀ i ∈ l, 0 ≤ i ∧ i < 1000000000) : (joinI l).length ≤ 10 * l.length := by
  unfold joinI
  rw [len_tl, join_eq, tl_join]
  refine Nat.le_trans (joinL_len _ _) ?_
  have := sum_le9 h
  rw [tl_spS, List.map_map, List.length_map, List.length_map]
  have e : (List.map (List.length ∘ tl) (List.map numI l)).sum = ((l.map numI).map (·.length)).sum := by
    congr 1
  rw [e]
  show _ + l.length * 1 ≤ _
  omega
theorem join_cost {l : List Int} (h : ∀ i ∈ l, 0 ≤ i ∧ i < 1000000000) (hl : l.length ≤ 1000) : ((l.map numI).map (·.length)).sum + (l.map numI).length * spS.length ≤ 16777216 := by
  have := sum_le9 h
  have e : spS.length = 1 := by decide +kernel
  rw [e, List.length_map]
  omega
theorem intText_num {i : Int} (h : 0 ≤ i) (h2 : i < 1000000000) : intText? (numI i) = some i := by
  obtain ⟨n, rfl⟩ : ∃ n : Nat, i = (n : Int) := ⟨i.toNat, by omega⟩
  refine int_num ?_
  have := numL_len (n := n) (k := 9) (by decide) (by omega)
  omega
theorem numI_inj {i j : Int} (hi : 0 ≤ i) (hj : 0 ≤ j) (e : numI i = numI j) : i = j := by
  have e2 := congrArg tl e
  rw [tl_numI hi, tl_numI hj] at e2
  have := numL_inj e2
  omega
theorem zeroS : numI 0 = ("0" : Str) := by decide +kernel
theorem numI_ne0 {i : Int} (h : 1 ≤ i) : ¬ numI i = ("0" : Str) := fun e => by
  rw [← zeroS] at e
  have := numI_inj (by omega) (by omega) e
  omega
theorem numL_head : ∀ n : Nat, 1 ≤ n → ∀ c r, numL n = c :: r → c ≠ 48 := by
  intro n
  induction n using Nat.strongRecOn with
  | _ n ih =>
    intro h c r e
    by_cases h10 : n < 10
    · rw [numL_lt h10] at e
      injection e with e1 e2
      omega
    · rw [numL_step (by omega)] at e
      cases e2 : numL (n / 10) with
      | nil => exact absurd e2 (numL_ne _)
      | cons d t =>
        rw [e2, List.cons_append] at e
        injection e with e3 e4
        have := ih (n / 10) (by omega) (by omega) d t e2
        omega
def digS : Str := "0123456789"
theorem digs_mem {c : Nat} (h : 48 ≤ c ∧ c ≤ 57) : c ∈ digS.cps.toList := by
  have e : digS.cps.toList = [48, 49, 50, 51, 52, 53, 54, 55, 56, 57] := by decide +kernel
  rw [e]
  have : c = 48 ∨ c = 49 ∨ c = 50 ∨ c = 51 ∨ c = 52 ∨ c = 53 ∨ c = 54 ∨ c = 55 ∨ c = 56 ∨ c = 57 := by omega
  simp only [List.mem_cons, List.not_mem_nil, or_false]
  exact this
theorem numI_digits {i : Int} (h : 0 ≤ i) {c : Nat} (hc : c ∈ (numI i).cps.toList) : c ∈ digS.cps.toList := by
  have e : (numI i).cps.toList = numL i.toNat := tl_numI h
  rw [e] at hc
  exact digs_mem (numL_digits _ _ hc)
/-! ### a text's parts -/
def GoodP (p : List Nat) : Prop := 124 ∉ p ∧ ∀ q, p ≠ q ++ [32]
theorem pre_bar {x y : Nat} (r : List Nat) (h : y ≠ 124) : pre [32, 124, 32] (x :: y :: r) = false := by
  cases hp : pre [32, 124, 32] (x :: y :: r) with
  | false => rfl
  | true =>
    have e : (x :: y :: r).take 3 = [32, 124, 32] := eq_of_beq hp
    rw [List.take_succ_cons, List.take_succ_cons] at e
    injection e with e1 e2
    injection e2 with e3 e4
    exact absurd e3 h
theorem good_free {p rest : List Nat} (g : GoodP p) : ∀ i, i < p.length → pre [32, 124, 32] ((p ++ rest).drop i) = false := by
  intro i hi
  have h1 : i < (p ++ rest).length := by rw [List.length_append]; omega
  have e1 : (p ++ rest).drop i = (p ++ rest)[i] :: (p ++ rest).drop (i + 1) := List.drop_eq_getElem_cons h1
  have e2 : (p ++ rest)[i] = p[i] := List.getElem_append_left hi
  rw [e1, e2]
  by_cases c : p[i] = 32
  · have lt : i + 1 < p.length := by
      apply Classical.byContradiction
      intro nlt
      have ei : i = p.length - 1 := by omega
      refine g.2 p.dropLast ?_
      have hne : p ≠ [] := fun z => by rw [z] at hi; simp at hi
      have := List.dropLast_concat_getLast hne
      rw [← this]
      congr 1
      · rw [List.dropLast_concat]
      · congr 1
        rw [List.getLast_eq_getElem]
        subst ei
        exact c
    have h2 : i + 1 < (p ++ rest).length := by rw [List.length_append]; omega
    have e3 : (p ++ rest).drop (i + 1) = (p ++ rest)[i + 1] :: (p ++ rest).drop (i + 2) := List.drop_eq_getElem_cons h2
    have e4 : (p ++ rest)[i + 1] = p[i + 1] := List.getElem_append_left lt
    rw [e3, e4]
    exact pre_bar _ fun z => g.1 (by rw [← z]; exact List.getElem_mem lt)
  · exact pre_of_head _ _ c
theorem split_bar {a b c : Str} (ga : GoodP (tl a)) (gb : GoodP (tl b)) (gc : GoodP (tl c)) : Txt.split (Txt.join barS [a, b, c]) barS = [a, b, c] := by
  refine map_tl_inj ?_
  rw [split_spl _ barS (by rw [tl_barS]; simp) (kind_ok (by decide +kernel)), join_eq, tl_join, tl_barS]
  show spl [32, 124, 32] 0 [] (tl a ++ ([32, 124, 32] ++ (tl b ++ ([32, 124, 32] ++ tl c)))) = [tl a, tl b, tl c]
  rw [spl_part (by simp) (good_free ga), spl_part (by simp) (good_free gb), spl_last (fun i hi => by
    have := good_free (rest := []) gc i hi
    rw [List.append_nil] at this
    exact this)]
  rfl
theorem joinL_mem {S : List Nat} {c : Nat} : ∀ {ps : List (List Nat)}, c ∈ joinL S ps → c ∈ S ∨ ∃ p ∈ ps, c ∈ p
  | [], h => by cases h
  | [p], h => .inr ⟨p, List.mem_singleton.mpr rfl, h⟩
  | p :: q :: r, h => by
    have h : c ∈ p ++ (S ++ joinL S (q :: r)) := h
    rcases List.mem_append.mp h with h | h
    · exact .inr ⟨p, List.mem_cons_self, h⟩
    rcases List.mem_append.mp h with h | h
    · exact .inl h
    rcases joinL_mem h with h | ⟨z, hz, h⟩
    · exact .inl h
    · exact .inr ⟨z, List.mem_cons_of_mem _ hz, h⟩
theorem joinL_last {S : List Nat} : ∀ {ps : List (List Nat)}, ps ≠ [] → (∀ p ∈ ps, p ≠ [] ∧ ∀ q, p ≠ q ++ [32]) → joinL S ps ≠ [] ∧ ∀ q, joinL S ps ≠ q ++ [32]
  | [], h, _ => absurd rfl h
  | [p], _, h => h p (List.mem_singleton.mpr rfl)
  | p :: q :: r, _, h => by
    obtain ⟨i1, i2⟩ := joinL_last (S := S) (ps := q :: r) (by simp) fun z hz => h z (List.mem_cons_of_mem _ hz)
    have hj : joinL S (p :: q :: r) = (p ++ S) ++ joinL S (q :: r) := (List.append_assoc ..).symm
    rw [hj]
    refine ⟨fun z => i1 (List.append_eq_nil_iff.mp z).2, fun t ht => ?_⟩
    have e := congrArg List.getLast? ht
    rw [List.getLast?_append, List.getLast?_concat, List.getLast?_eq_some_getLast i1, Option.some_or] at e
    have d := List.dropLast_concat_getLast i1
    have gl : (joinL S (q :: r)).getLast i1 = 32 := by injection e
    rw [gl] at d
    exact i2 _ d.symm
theorem numL_last (n : Nat) : ∀ q, numL n ≠ q ++ [32] := fun q e => by
  have := numL_digits n 32 (by rw [e]; simp)
  omega
theorem good_joinI {l : List Int} (hne : l ≠ []) (h : ∀ i ∈ l, 0 ≤ i) : GoodP (tl (joinI l)) := by
  unfold joinI
  rw [join_eq, tl_join, tl_spS]
  have hp : ∀ p ∈ (l.map numI).map tl, ∃ n, p = numL n := by
    intro p hp
    obtain ⟨z, hz, rfl⟩ := List.mem_map.mp hp
    obtain ⟨i, hi, rfl⟩ := List.mem_map.mp hz
    exact ⟨_, tl_numI (h i hi)⟩
  refine ⟨fun hm => ?_, (joinL_last (by simpa using hne) fun p hq => ?_).2⟩
  · rcases joinL_mem hm with z | ⟨p, hq, z⟩
    · simp at z
    · obtain ⟨n, rfl⟩ := hp p hq
      have := numL_digits n _ z
      omega
  · obtain ⟨n, rfl⟩ := hp p hq
    exact ⟨numL_ne n, numL_last n⟩
def noneS : Str := "none"
theorem good_none : GoodP (tl noneS) := by
  have e : tl noneS = [110, 111, 110, 101] := by decide +kernel
  rw [e]
  refine ⟨by decide, fun q h => ?_⟩
  have := congrArg List.getLast? h
  rw [List.getLast?_concat] at this
  simp at this
/-! ### the dump -/
def outsT (l : List Int) : Str := if l = [] then noneS else joinI l
def dumpS (s : Sd) : Str := Txt.join barS [joinI s.R, joinI (s.L.drop 1), outsT (outN s.n s.O)]
theorem joinI_ne_none {l : List Int} (hne : l ≠ []) (h : ∀ i ∈ l, 0 ≤ i) : ¬ joinI l = noneS := fun e => by
  have e2 := split_joinI hne h
  rw [e] at e2
  have d : Txt.split noneS spS = [noneS] := by
    refine map_tl_inj ?_
    rw [split_spl _ spS (by rw [tl_spS]; simp) (kind_ok (by decide +kernel))]
    decide +kernel
  rw [d] at e2
  match l, hne with
  | i :: r, _ =>
    rw [List.map_cons] at e2
    injection e2 with e3 e4
    have hi := h i List.mem_cons_self
    have t := congrArg tl e3
    rw [tl_numI hi] at t
    have m : (110 : Nat) ∈ numL i.toNat := by
      rw [← t]
      decide +kernel
    have := numL_digits _ _ m
    omega
theorem outN_bd {n : Nat} {O : List Bool} {i : Int} (h : i ∈ outN n O) : 1 ≤ i ∧ i ≤ n ∧ gB O i.toNat = true := by
  unfold outN at h
  obtain ⟨v, hv, rfl⟩ := List.mem_map.mp h
  obtain ⟨h1, h2⟩ := List.mem_filter.mp hv
  obtain ⟨u, hu, rfl⟩ := List.mem_map.mp h1
  have := List.mem_range.mp hu
  refine ⟨by omega, by omega, ?_⟩
  rw [Int.toNat_natCast]
  exact h2
end G

set_option Elab.async false
set_option linter.all false
set_option maxRecDepth 100000
set_option maxHeartbeats 4000000
/-! k07, k06: standings read from texts; what an operation changes. -/
namespace G
open PySem PySem.Spec PyProof.Rows L2
/-- a standing that can be read back: no left link of the head, the sentinels in -/
structure Snd (s : Sd) : Prop where
  l0 : ∃ t, s.L = 0 :: t
  o0 : gB s.O 0 = false
  o1 : gB s.O (s.n + 1) = false
theorem stepS_snd {s : Sd} (w : Wf s) (d : Snd s) {op : Int} (h : IsOp s.n op) : Snd (stepS s op) := by
  obtain ⟨t, e⟩ := d.l0
  obtain ⟨r1, r2⟩ := w.rb op.natAbs (by have := h.2; omega)
  have h1 := h.1
  have h2 := h.2
  refine ⟨?_, ?_, ?_⟩
  · obtain ⟨k, ek⟩ : ∃ k, (gI s.R op.natAbs).toNat = k + 1 := ⟨(gI s.R op.natAbs).toNat - 1, by omega⟩
    refine ⟨t.set k (if op < 0 then gI s.L op.natAbs else (op.natAbs : Int)), ?_⟩
    show s.L.set (gI s.R op.natAbs).toNat _ = _
    rw [ek]
    generalize (if op < 0 then gI s.L op.natAbs else (op.natAbs : Int)) = v
    rw [e]
    rfl
  · show gB (s.O.set op.natAbs _) 0 = false
    rw [gB_set (by rw [w.lO]; omega), if_neg (by omega)]
    exact d.o0
  · show gB (s.O.set op.natAbs _) (s.n + 1) = false
    rw [gB_set (by rw [w.lO]; omega), if_neg (by omega)]
    exact d.o1
theorem runS_snd {s : Sd} (w : Wf s) (d : Snd s) : ∀ {log : List Int}, Leg s log → Snd (runS s log) := by
  intro log
  induction log using snoc_ind with
  | h0 => exact fun _ => d
  | h1 l x ih =>
    intro h
    have h1 : Leg s l := by
      have := h.take l.length
      rwa [List.take_left' rfl] at this
    have h2 := h l.length x (by simp)
    rw [List.take_left' rfl] at h2
    rw [runS_snoc]
    exact stepS_snd (h1.wf w) (ih h1) h2.1
theorem wholeS_snd (n : Nat) : Snd (wholeS n) := by
  refine ⟨⟨_, rfl⟩, ?_, ?_⟩
  · exact gB_of (by show (List.replicate (n + 2) false)[0]? = _; rw [List.getElem?_replicate_of_lt (by omega)])
  · exact gB_of (by show (List.replicate (n + 2) false)[n + 1]? = _; rw [List.getElem?_replicate_of_lt (by omega)])
/-! ### the gaps of foreign writes -/
def forW (s : Sd) (x : Nat) : List Int :=
  (if gI s.L x ≠ (x : Int) - 1 ∧ gI s.R (gI s.L x).toNat = gI s.L x + 1 then [gI s.L x] else []) ++
  (if gI s.R x ≠ (x : Int) + 1 ∧ gI s.L (gI s.R x).toNat = gI s.R x - 1 then [gI s.R x - 1] else [])
theorem forW_len (s : Sd) (x : Nat) : (forW s x).length ≤ 2 := by
  unfold forW
  rw [List.length_append]
  split <;> split <;> simp
/-! ### changes -/
abbrev Tr := Nat × Str × Str
def trV (t : Tr) : List V := [.int (t.1 : Int), .str t.2.1, .str t.2.2]
def chg (s s' : Sd) : List Tr := ((List.range (s.n + 1)).filter fun g => !decide (stT s g = stT s' g)).map fun g => (g, stT s g, stT s' g)
def TupsAt (H : Hp) (xs : List V) (ts : List Tr) : Prop := xs.length = ts.length ∧ ∀ (i : Nat) (t : Tr), ts[i]? = some t → ∃ a, xs[i]? = some (.ref a) ∧ H a = some (.tup (trV t))
theorem TupsAt.kp {S : List Addr} {H H' : Hp} {xs : List V} {ts : List Tr} (h : TupsAt H xs ts) (k : Kp S H H') (hS : ∀ b ∈ S, ∀ ys, H b ≠ some (.tup ys)) : TupsAt H' xs ts := by
  refine ⟨h.1, fun i t e => ?_⟩
  obtain ⟨a, h1, h2⟩ := h.2 i t e
  exact ⟨a, h1, k _ _ (fun z => hS a z _ h2) h2⟩
theorem TupsAt.k0 {H H' : Hp} {xs : List V} {ts : List Tr} (h : TupsAt H xs ts) (k : Kp [] H H') : TupsAt H' xs ts := h.kp k (by simp)
theorem TupsAt.snoc {H : Hp} {xs : List V} {ts : List Tr} {a : Addr} {t : Tr} (h : TupsAt H xs ts) (ha : H a = some (.tup (trV t))) : TupsAt H (xs ++ [.ref a]) (ts ++ [t]) := by
  refine ⟨by rw [List.length_append, List.length_append, h.1] <;> rfl, fun i u e => ?_⟩
  by_cases c : i < ts.length
  · rw [List.getElem?_append_left c] at e
    obtain ⟨b, h1, h2⟩ := h.2 i u e
    exact ⟨b, by rw [List.getElem?_append_left (by rw [h.1]; exact c)]; exact h1, h2⟩
  · have hl := (List.getElem?_eq_some_iff.mp e).1
    rw [List.length_append] at hl
    have ei : i = ts.length := by simp at hl; omega
    subst ei
    rw [List.getElem?_append_right (Nat.le_refl _), Nat.sub_self] at e
    have eu : t = u := by simpa using e
    subst eu
    exact ⟨a, by rw [List.getElem?_append_right (by rw [h.1]; exact Nat.le_refl _), h.1, Nat.sub_self] <;> rfl, ha⟩
theorem TupsAt.nil {H : Hp} : TupsAt H [] [] := ⟨rfl, fun i t e => by simp at e⟩
theorem chg_len (s s' : Sd) : (chg s s').length ≤ s.n + 1 := by
  unfold chg
  rw [List.length_map]
  have := List.length_filter_le (fun g => !decide (stT s g = stT s' g)) (List.range (s.n + 1))
  rw [List.length_range] at this
  exact this
/-- the two ends of an operation: the gap, its state behind it -/
structure Ends2 (s : Sd) (op : Int) (es : List (Nat × Str)) : Prop where
  ex : ∃ c1 c2 : Bool, es = (if c1 then [(lowN s op, stT (stepS s op) (lowN s op))] else []) ++ (if c2 then [(hiN s op, stT (stepS s op) (hiN s op))] else []) ∧
    (c1 = false → stT (stepS s op) (lowN s op) = stT s (lowN s op)) ∧ (c2 = false → stT (stepS s op) (hiN s op) = stT s (hiN s op))
def chE (s : Sd) (es : List (Nat × Str)) : List Tr := (es.filter fun e => !decide (stT s e.1 = e.2)).map fun e => (e.1, stT s e.1, e.2)
theorem filter_two {n a b : Nat} {p : Nat → Bool} (hab : a < b) (hb : b < n) (h : ∀ g, g < n → g ≠ a → g ≠ b → p g = false) : (List.range n).filter p = (if p a then [a] else []) ++ (if p b then [b] else []) := by
  have key : ∀ m, (List.range m).filter p = (if a < m ∧ p a = true then [a] else []) ++ (if b < m ∧ p b = true then [b] else []) ∨ n < m := by
    intro m
    induction m with
    | zero => left; rw [if_neg (by omega), if_neg (by omega)]; rfl
    | succ m ih =>
      by_cases hm : n < m + 1
      · exact .inr hm
      rcases ih with ih | ih
      · left
        rw [List.range_succ, List.filter_append, ih]
        by_cases e1 : m = a
        · subst e1
          rw [if_neg (by omega), if_neg (by omega : ¬ (b < m ∧ p b = true)), if_neg (by omega : ¬ (b < m + 1 ∧ p b = true))]
          cases hp : p m with
          | true => rw [List.filter_cons_of_pos hp, if_pos ⟨by omega, rfl⟩]; rfl
          | false => rw [List.filter_cons_of_neg (by rw [hp]; exact Bool.false_ne_true), if_neg (by simp)]; rfl
        · by_cases e2 : m = b
          · subst e2
            rw [if_neg (by omega : ¬ (m < m ∧ p m = true))]
            have i1 : (a < m ∧ p a = true) = (a < m + 1 ∧ p a = true) := by
              refine propext ⟨fun z => ⟨by omega, z.2⟩, fun z => ⟨by omega, z.2⟩⟩
            simp only [i1, List.append_nil]
            cases hp : p m with
            | true => rw [List.filter_cons_of_pos hp, if_pos (⟨by omega, rfl⟩ : m < m + 1 ∧ true = true)]; rfl
            | false => rw [List.filter_cons_of_neg (by rw [hp]; exact Bool.false_ne_true), if_neg (by simp : ¬ (m < m + 1 ∧ false = true))]; rfl
          · rw [List.filter_cons_of_neg (by rw [h m (by omega) e1 e2]; exact Bool.false_ne_true)]
            have i1 : (a < m ∧ p a = true) = (a < m + 1 ∧ p a = true) := by
              refine propext ⟨fun z => ⟨by omega, z.2⟩, fun z => ⟨by omega, z.2⟩⟩
            have i2 : (b < m ∧ p b = true) = (b < m + 1 ∧ p b = true) := by
              refine propext ⟨fun z => ⟨by omega, z.2⟩, fun z => ⟨by omega, z.2⟩⟩
            simp only [i1, i2]
            rw [List.filter_nil, List.append_nil]
      · omega
  rcases key n with k | k
  · rw [k]
    congr 1
    · by_cases c : p a = true
      · rw [if_pos ⟨by omega, c⟩, if_pos c]
      · rw [if_neg (fun z => c z.2), if_neg c]
    · by_cases c : p b = true
      · rw [if_pos ⟨by omega, c⟩, if_pos c]
      · rw [if_neg (fun z => c z.2), if_neg c]
  · omega
theorem ends_chg {s : Sd} (w : Wf s) {op : Int} (h : IsOp s.n op) {es : List (Nat × Str)} (e : Ends2 s op es) : chE s es = chg s (stepS s op) := by
  obtain ⟨t1, t2, t3, t4, t5⟩ := touch_bd w h
  unfold chg
  rw [filter_two (a := lowN s op) (b := hiN s op) (by omega) (by omega) (fun g hg g1 g2 => by rw [step_st w h g1 g2, decide_eq_true rfl]; rfl)]
  obtain ⟨c1, c2, rfl, h1, h2⟩ := e.ex
  unfold chE
  rw [List.filter_append, List.map_append, List.map_append]
  congr 1
  · cases c1 with
    | true =>
      by_cases d : stT s (lowN s op) = stT (stepS s op) (lowN s op)
      · rw [decide_eq_true d]
        simp [d]
      · rw [decide_eq_false d]
        simp [d]
    | false =>
      have d := h1 rfl
      rw [d, decide_eq_true rfl]
      rfl
  · cases c2 with
    | true =>
      by_cases d : stT s (hiN s op) = stT (stepS s op) (hiN s op)
      · rw [decide_eq_true d]
        simp [d]
      · rw [decide_eq_false d]
        simp [d]
    | false =>
      have d := h2 rfl
      rw [d, decide_eq_true rfl]
      rfl
theorem ne_w : ¬ ("joined" : Str) = "lost" ∧ ¬ ("left" : Str) = "lost" ∧ ¬ ("right" : Str) = "lost" ∧ ¬ ("left" : Str) = "joined" ∧ ¬ ("right" : Str) = "joined" ∧ ¬ ("lost" : Str) = "joined" ∧ ¬ ("right" : Str) = "left" ∧ ¬ ("lost" : Str) = "left" ∧ ¬ ("lost" : Str) = "right" ∧ ¬ ("joined" : Str) = "left" ∧ ¬ ("joined" : Str) = "right" ∧ ¬ ("left" : Str) = "right" := by
  decide +kernel
theorem stT_lost {s : Sd} {g : Nat} : stT s g = "lost" ↔ gI s.R g ≠ (g : Int) + 1 ∧ gI s.L (g + 1) ≠ (g : Int) := by
  obtain ⟨a, b, c, _⟩ := ne_w
  unfold stT
  by_cases h1 : gI s.R g = (g : Int) + 1 <;> by_cases h2 : gI s.L (g + 1) = (g : Int)
  · rw [if_pos h1, if_pos h2]
    exact ⟨fun z => absurd z a, fun z => absurd h1 z.1⟩
  · rw [if_pos h1, if_neg h2]
    exact ⟨fun z => absurd z b, fun z => absurd h1 z.1⟩
  · rw [if_neg h1, if_pos h2]
    exact ⟨fun z => absurd z c, fun z => absurd h2 z.2⟩
  · rw [if_neg h1, if_neg h2]
    exact ⟨fun _ => ⟨h1, h2⟩, fun _ => rfl⟩
theorem step_gR {s : Sd} (w : Wf s) {op : Int} (h : IsOp s.n op) (g : Nat) : gI (stepS s op).R g = if g = lowN s op then (if op < 0 then (hiN s op : Int) + 1 else (op.natAbs : Int)) else gI s.R g := by
  obtain ⟨t1, t2, t3, t4, t5⟩ := touch_bd w h
  show gI (s.R.set _ _) g = _
  rw [gI_set (by rw [w.lR, t4]; have := h.2; omega), t4, Int.toNat_natCast, t5]
theorem step_gL {s : Sd} (w : Wf s) {op : Int} (h : IsOp s.n op) (g : Nat) : gI (stepS s op).L (g + 1) = if g = hiN s op then (if op < 0 then (lowN s op : Int) else (op.natAbs : Int)) else gI s.L (g + 1) := by
  obtain ⟨t1, t2, t3, t4, t5⟩ := touch_bd w h
  show gI (s.L.set _ _) (g + 1) = _
  rw [gI_set (by rw [w.lL, t5]; omega), t5, t4, show ((hiN s op : Int) + 1).toNat = hiN s op + 1 by omega]
  by_cases c : g = hiN s op
  · rw [if_pos c, if_pos (by omega)]
  · rw [if_neg c, if_neg (by omega)]
/-- what is lost stays lost -/
theorem lost_stays {s : Sd} (w : Wf s) {op : Int} (h : IsOp s.n op) {g : Nat} (hl : stT s g = "lost") : stT (stepS s op) g = "lost" := by
  obtain ⟨t1, t2, t3, t4, t5⟩ := touch_bd w h
  obtain ⟨a, b⟩ := stT_lost.mp hl
  refine stT_lost.mpr ⟨?_, ?_⟩
  · rw [step_gR w h]
    by_cases c : g = lowN s op
    · rw [if_pos c]
      by_cases o : op < 0
      · rw [if_pos o]
        omega
      · rw [if_neg o]
        intro z
        have e : g + 1 = op.natAbs := by omega
        rw [e, t4] at b
        omega
    · rw [if_neg c]
      exact a
  · rw [step_gL w h]
    by_cases c : g = hiN s op
    · rw [if_pos c]
      by_cases o : op < 0
      · rw [if_pos o]
        omega
      · rw [if_neg o]
        intro z
        have e : g = op.natAbs := by omega
        rw [e, t5] at a
        omega
    · rw [if_neg c]
      exact b
/-- the state of the lower gap behind the operation -/
theorem st_low {s : Sd} (w : Wf s) {op : Int} (h : IsOp s.n op) : stT (stepS s op) (lowN s op) = if lowN s op + 1 = op.natAbs then (if 0 < op then ("joined" : Str) else "right") else (if gI s.L (lowN s op + 1) = (lowN s op : Int) then ("right" : Str) else "lost") := by
  obtain ⟨t1, t2, t3, t4, t5⟩ := touch_bd w h
  have h1 := h.1
  have eR : gI (stepS s op).R (lowN s op) = if op < 0 then (hiN s op : Int) + 1 else (op.natAbs : Int) := by rw [step_gR w h, if_pos rfl]
  have eL : gI (stepS s op).L (lowN s op + 1) = gI s.L (lowN s op + 1) := by rw [step_gL w h, if_neg (by omega)]
  unfold stT
  rw [eR, eL]
  by_cases c : lowN s op + 1 = op.natAbs
  · rw [if_pos c]
    have e : gI s.L (lowN s op + 1) = (lowN s op : Int) := by rw [c]; exact t4
    rw [if_pos e, if_pos e]
    by_cases o : op < 0
    · rw [if_pos o, if_neg (by omega), if_neg (by omega)]
    · rw [if_neg o, if_pos (by omega), if_pos (by omega)]
  · rw [if_neg c]
    by_cases o : op < 0
    · rw [if_pos o, if_neg (by omega)]
    · rw [if_neg o, if_neg (by omega)]
theorem st_hi {s : Sd} (w : Wf s) {op : Int} (h : IsOp s.n op) : stT (stepS s op) (hiN s op) = if hiN s op = op.natAbs then (if 0 < op then ("joined" : Str) else "left") else (if gI s.R (hiN s op) = (hiN s op : Int) + 1 then ("left" : Str) else "lost") := by
  obtain ⟨t1, t2, t3, t4, t5⟩ := touch_bd w h
  have h1 := h.1
  have eR : gI (stepS s op).R (hiN s op) = gI s.R (hiN s op) := by rw [step_gR w h, if_neg (by omega)]
  have eL : gI (stepS s op).L (hiN s op + 1) = if op < 0 then (lowN s op : Int) else (op.natAbs : Int) := by rw [step_gL w h, if_pos rfl]
  unfold stT
  rw [eR, eL]
  by_cases c : hiN s op = op.natAbs
  · rw [if_pos c]
    have e : gI s.R (hiN s op) = (hiN s op : Int) + 1 := by rw [c, t5, c]
    rw [if_pos e]
    by_cases o : op < 0
    · rw [if_pos o, if_neg (by omega), if_neg (by omega)]
    · rw [if_neg o, if_pos (by omega), if_pos (by omega)]
  · rw [if_neg c]
    have n1 : ¬ (if op < 0 then (lowN s op : Int) else (op.natAbs : Int)) = (hiN s op : Int) := by
      by_cases o : op < 0
      · rw [if_pos o]
        omega
      · rw [if_neg o]
        omega
    rw [if_neg n1, if_neg n1]
/-! ### promises -/
section
def Num9 (l : List Int) : Prop := ∀ i ∈ l, 0 ≤ i ∧ i < 1000000000
/-- a new list -/
def NewL (H : Hp) (xs : List V) (Q : VK) : Prop := ∀ a H', H a = none → Kp [] H H' → H' a = some (.lst xs) → Q (.ref a) H'
def Any (H : Hp) (v : V) (Q : VK) : Prop := ∀ H', Kp [] H H' → Q v H'
def sp_is_positive (K : PySem.W.Frag) : Sp := fun vs H Q E => ∃ i : Int, vs = [.str (numI i)] ∧ 1 ≤ i ∧ i < 1000000000 ∧ Any H (.bl true) Q
def sp__read_numbers (K : PySem.W.Frag) : Sp := fun vs H Q E => ∃ (l : List Int) (part : Int), vs = [.str (joinI l), .int part] ∧ l ≠ [] ∧ Num9 l ∧ l.length ≤ 100 ∧ NewL H (l.map V.int) Q
def sp__read_rights (K : PySem.W.Frag) : Sp := fun vs H Q E => ∃ (n : Nat) (l : List Int), vs = [.str (joinI l)] ∧ n ≤ 60 ∧ l.length = n + 1 ∧ (∀ v, v ≤ n → (v : Int) < gI l v ∧ gI l v ≤ (n : Int) + 1) ∧ NewL H (l.map V.int) Q
def sp__read_lefts (K : PySem.W.Frag) : Sp := fun vs H Q E => ∃ (n : Nat) (l : List Int), vs = [.str (joinI l), .int (n : Int)] ∧ n ≤ 60 ∧ l.length = n + 1 ∧ (∀ v, v ≤ n → 0 ≤ gI l v ∧ gI l v ≤ (v : Int)) ∧ NewL H (l.map V.int) Q
def sp__read_outs (K : PySem.W.Frag) : Sp := fun vs H Q E => ∃ (n : Nat) (O : List Bool), vs = [.str (outsT (outN n O)), .int (n : Int)] ∧ n ≤ 60 ∧ NewL H ((outN n O).map V.int) Q
def sp_Links_read (K : PySem.W.Frag) : Sp := fun vs H Q E => ∃ s : Sd, vs = [.str (dumpS s)] ∧ Wf s ∧ Snd s ∧ NewS K H s Q
def sp__joined (K : PySem.W.Frag) : Sp := fun vs H Q E => ∃ (a : Addr) (l : List Int), vs = [.ref a] ∧ SqL K H a (l.map V.int) ∧ Num9 l ∧ l.length ≤ 100 ∧ Any H (.str (joinI l)) Q
def sp_dump_of (K : PySem.W.Frag) : Sp := fun vs H Q E => ∃ (r l o : Addr) (R L O : List Int), vs = [.ref r, .ref l, .ref o] ∧ SqL K H r (R.map V.int) ∧ SqL K H l (L.map V.int) ∧ SqL K H o (O.map V.int) ∧ (Num9 R ∧ R.length ≤ 100) ∧ (Num9 L ∧ L.length ≤ 100) ∧ (Num9 O ∧ O.length ≤ 100) ∧
  Any H (.str (Txt.join barS [joinI R, joinI L, outsT O])) Q
def sp_Links_dump (K : PySem.W.Frag) : Sp := fun vs H Q E => ∃ (p r l o : Addr) (s : Sd), vs = [.ref p] ∧ LinksAt K H p r l o s ∧ Any H (.str (dumpS s)) Q
def sp_foreign_writes (K : PySem.W.Frag) : Sp := fun vs H Q E => ∃ (p r l o : Addr) (s : Sd) (op : Int), vs = [.ref p, .int op] ∧ LinksAt K H p r l o s ∧ (OkOp s op → NewL H ((forW s op.natAbs).map V.int) Q) ∧ (¬ OkOp s op → OpE K s.n op 0 E H)
def sp_gap_changes (K : PySem.W.Frag) : Sp := fun vs H Q E => ∃ (p r l o : Addr) (s : Sd) (op : Int), vs = [.ref p, .int op] ∧ LinksAt K H p r l o s ∧
  (OkOp s op → ∀ xs q H', H q = none → Kp [] H H' → H' q = some (.lst xs) → TupsAt H' xs (chg s (stepS s op)) → Q (.ref q) H') ∧ (¬ OkOp s op → ∀ H', Kp [] H H' → OpE K s.n op 0 E H')
def sp__law_standing (K : PySem.W.Frag) : Sp := fun vs H Q E => ∃ (b : Addr) (n : Nat), vs = [.ref b, .int (n : Int)] ∧ n ≤ 60 ∧ Bag H b ∧ ∀ (s : Sd) w r l o H', s.n = n → Snd s → H w = none → H r = none → H l = none → H o = none → Kp [b] H H' → Bag H' b → LW H' w r l o s → Q (.ref w) H'
def sp__law_text (K : PySem.W.Frag) : Sp := fun vs H Q E => ∃ (w r l o : Addr) (s : Sd), vs = [.ref w] ∧ LW H w r l o s ∧ Any H (.str (dumpS s)) Q
def sp__law_words (K : PySem.W.Frag) : Sp := fun vs H Q E => ∃ (a b : Addr) (xs : List Str), vs = [.ref a, .ref b] ∧ xs.length ≤ 1000 ∧ H a = some (.lst (xs.map V.str)) ∧ H b = some (.lst (xs.map V.str)) ∧ Q (.bl true) H
def sp__law_triples (K : PySem.W.Frag) : Sp := fun vs H Q E => ∃ (a b : Addr) (xs ys : List V) (ts : List Tr), vs = [.ref a, .ref b] ∧ ts.length ≤ 1000 ∧ H a = some (.lst xs) ∧ H b = some (.lst ys) ∧ TupsAt H xs ts ∧ TupsAt H ys ts ∧ (∀ t ∈ ts, PyData.strOk t.2.1 = true ∧ PyData.strOk t.2.2 = true) ∧ Q (.bl true) H
def sp__law_states (K : PySem.W.Frag) : Sp := fun vs H Q E => ∃ (w r l o : Addr) (s : Sd), vs = [.ref w] ∧ LW H w r l o s ∧ NewL H ((List.range (s.n + 1)).map fun (v : Nat) => V.str (stT s v)) Q
def legO (s : Sd) (v : Nat) : Int := if gB s.O v then (v : Int) else -(v : Int)
def sp__law_legal (K : PySem.W.Frag) : Sp := fun vs H Q E => ∃ (w r l o : Addr) (s : Sd) (v : Nat), vs = [.ref w, .int (v : Int)] ∧ LW H w r l o s ∧ 1 ≤ v ∧ v ≤ s.n ∧ Q (.int (legO s v)) H
def sp__law_foreign (K : PySem.W.Frag) : Sp := fun vs H Q E => ∃ (w r l o : Addr) (s : Sd) (v : Nat), vs = [.ref w, .int (v : Int)] ∧ LW H w r l o s ∧ 1 ≤ v ∧ v ≤ s.n ∧ NewL H ((forW s v).map V.int) Q
/-- the pairs of a gap and a state -/
def PrsAt (H : Hp) (xs : List V) (es : List (Nat × Str)) : Prop := xs.length = es.length ∧ ∀ (i : Nat) (e : Nat × Str), es[i]? = some e → ∃ a, xs[i]? = some (.ref a) ∧ H a = some (.tup [.int (e.1 : Int), .str e.2])
def sp__law_ends (K : PySem.W.Frag) : Sp := fun vs H Q E => ∃ (w r l o : Addr) (s : Sd) (op : Int), vs = [.ref w, .int op] ∧ LW H w r l o s ∧ IsOp s.n op ∧ ∀ es xs q H', Ends2 s op es → H q = none → Kp [] H H' → H' q = some (.lst xs) → PrsAt H' xs es → Q (.ref q) H'
def sp__law_changes (K : PySem.W.Frag) : Sp := fun vs H Q E => ∃ (w r l o : Addr) (s : Sd) (op : Int), vs = [.ref w, .int op] ∧ LW H w r l o s ∧ IsOp s.n op ∧ ∀ xs q H', H q = none → Kp [] H H' → H' q = some (.lst xs) → TupsAt H' xs (chg s (stepS s op)) → Q (.ref q) H'
def sp7__law_agrees (K : PySem.W.Frag) : Sp := fun vs H Q E => ∃ (p r l o w wr wl wo : Addr) (s : Sd) (v : Nat), vs = [.ref p, .ref w, .int (v : Int)] ∧ LinksAt K H p r l o s ∧ LW H w wr wl wo s ∧ 1 ≤ v ∧ v ≤ s.n ∧ Any H (.bl true) Q
def sp__law_all_agree (K : PySem.W.Frag) : Sp := fun vs H Q E => ∃ (p r l o w wr wl wo a : Addr) (s : Sd) (ns : List Int), vs = [.ref p, .ref w, .ref a] ∧ LinksAt K H p r l o s ∧ LW H w wr wl wo s ∧ SqL K H a (ns.map V.int) ∧ (∀ x ∈ ns, 1 ≤ x ∧ x ≤ s.n) ∧ Any H (.bl true) Q
def sp__law_refusal (K : PySem.W.Frag) : Sp := fun vs H Q E => ∃ (p r l o : Addr) (s : Sd) (way op : Int), vs = [.int way, .ref p, .int op] ∧ LinksAt K H p r l o s ∧ ¬ OkOp s op ∧ ∀ t H', Kp [] H H' → H' t = some (.tup [.str (if IsOp s.n op then "not legal" else "no operation"), .int op, .int 0]) → Q (.ref t) H'
def sp7__law_refuses (K : PySem.W.Frag) : Sp := fun vs H Q E => ∃ (p r l o w wr wl wo a : Addr) (s : Sd) (ns : List Int) (far : Int), vs = [.ref p, .ref w, .ref a, .int far] ∧ LinksAt K H p r l o s ∧ LW H w wr wl wo s ∧ SqL K H a (ns.map V.int) ∧ (∀ x ∈ ns, 1 ≤ x ∧ x ≤ s.n) ∧ 0 ≤ far ∧ Any H (.bl true) Q
def sp__law_nodes (K : PySem.W.Frag) : Sp := fun vs H Q E => ∃ (b : Addr) (n : Nat), vs = [.ref b, .int (n : Int)] ∧ n ≤ 60 ∧ Bag H b ∧ ∀ (ns : List Int) a H', (∀ x ∈ ns, 1 ≤ x ∧ x ≤ n) → H a = none → Kp [b] H H' → Bag H' b → H' a = some (.lst (ns.map V.int)) → Q (.ref a) H'
/-- what stands apart -/
structure Apart (p r l o w wr wl wo b : Addr) : Prop where
  a1 : r ≠ wr ∧ r ≠ wl ∧ r ≠ wo ∧ l ≠ wr ∧ l ≠ wl ∧ l ≠ wo ∧ o ≠ wr ∧ o ≠ wl ∧ o ≠ wo
  a2 : w ≠ r ∧ w ≠ l ∧ w ≠ o ∧ p ≠ wr ∧ p ≠ wl ∧ p ≠ wo
  a3 : b ≠ p ∧ b ≠ r ∧ b ≠ l ∧ b ≠ o ∧ b ≠ w ∧ b ≠ wr ∧ b ≠ wl ∧ b ≠ wo
def sp__law_run (K : PySem.W.Frag) : Sp := fun vs H Q E => ∃ (p r l o w wr wl wo b : Addr) (s : Sd), vs = [.ref p, .ref w, .ref b] ∧ LinksAt K H p r l o s ∧ LW H w wr wl wo s ∧ Bag H b ∧ Apart p r l o w wr wl wo b ∧ 1 ≤ s.n ∧ Snd s ∧
  ∀ s' H', s'.n = s.n → LinksAt K H' p r l o s' → LW H' w wr wl wo s' → Kp [b, r, l, o, wr, wl, wo] H H' → Q (.bl true) H'
end
end G

set_option Elab.async false
set_option linter.all false
set_option maxRecDepth 100000
set_option maxHeartbeats 4000000
/-! Comprehensions over texts and pairs; cuts; all. -/
namespace G
open PySem PySem.Spec PyProof.Rows L2
section
variable {K : PySem.W.Frag} {σ : L2.St} {H : Hp} {Q : VK} {te : TE} {tt : TT} {g : TG} {vs : List Nat} {p : Addr} {xs ys : List V}
theorem cp_str {x : Str} (items : Nat → List V) (hz : ∀ i, i < x.cps.size → (items i).length < sizeLine) (h0 : items 0 = [])
    (hs : ∀ (i : Nat) (c : Nat) (H' : Hp) (S : V → Hp → Prop) (N : Hp → Prop), x.cps[i]? = some c → Kp [] H H' → (∀ y H4, Kp [] H' H4 → items (i + 1) = items i ++ [y] → S y H4) → (∀ H4, Kp [] H' H4 → items (i + 1) = items i → N H4) →
      g (.str ⟨#[c]⟩) (wipe σ vs) H' fun σ2 H2 => wipe σ2 vs = wipe σ vs ∧ tt σ2 H2 fun b H3 => if b = true then te σ2 H3 S else N H3)
    (hd : ∀ D H', H D = none → Kp [] H H' → H' D = some (.lst (items x.cps.size)) → Q (.ref D) H') : CompG (Its x) g tt te vs σ Q H :=
  cp_go (n := x.cps.size) items (fun _ => True) hz h0 (fun _ _ => trivial) (fun i H' hi _ => hi) (fun H' _ => Nat.le_refl _) (fun i v H' H'' S N hi k y a b => by
    obtain ⟨rfl, c, hc, rfl⟩ := y
    exact hs i c H'' S N hc k a b) hd
theorem cp_zip {a b : Addr} (h1 : SqL K H a xs) (h2 : SqL K H b ys) (hl : ys.length ≤ xs.length) (items : Nat → List V) (hz : ∀ i, i < ys.length → (items i).length < sizeLine) (h0 : items 0 = [])
    (hs : ∀ (i : Nat) (x y : V) (T : Addr) (H' : Hp) (S : V → Hp → Prop) (N : Hp → Prop), xs[i]? = some x → ys[i]? = some y → Kp [] H H' → H' T = none → (∀ z H4, Kp [] H' H4 → items (i + 1) = items i ++ [z] → S z H4) → (∀ H4, Kp [] H' H4 → items (i + 1) = items i → N H4) →
      g (.ref T) (wipe σ vs) (upd H' T (.tup [x, y])) fun σ2 H2 => wipe σ2 vs = wipe σ vs ∧ tt σ2 H2 fun b H3 => if b = true then te σ2 H3 S else N H3)
    (hd : ∀ D H', H D = none → Kp [] H H' → H' D = some (.lst (items ys.length)) → Q (.ref D) H') : CompG (Itz K a b) g tt te vs σ Q H :=
  cp_go (n := ys.length) items (fun H' => SqL K H' a xs ∧ SqL K H' b ys) hz h0 (fun _ k => ⟨k.sql (by simp) h1, k.sql (by simp) h2⟩)
    (fun i H' hi q => ⟨xs, ys, xs[i]'(by omega), ys[i], q.1, q.2, by simp [show i < xs.length by omega], by simp [hi]⟩) (fun H' q => ⟨xs, ys, q.1, q.2, .inr (Nat.le_refl _)⟩) (fun i v H' H'' S N hi k y e1 e2 => by
    obtain ⟨T, x, y, rfl, nT, rfl, hx, hy⟩ := y
    exact hs i x y T H' S N (hx xs (k.sql (by simp) h1)) (hy ys (k.sql (by simp) h2)) k nT e1 e2) hd
theorem w_slL {lo hi : Option Int} (h : SqL K H p xs) (g : ∀ q H', H q = none → Kp [] H H' → H' q = some (.lst (cutV xs lo hi)) → Q (.ref q) H') : rSlL K (.ref p) lo hi H Q := ⟨p, xs, rfl, h, nw g⟩
theorem cut_drop (xs : List V) (k : Nat) (h : k ≤ xs.length) : cutV xs (some (k : Int)) none = xs.drop k := by
  unfold cutV
  rw [HT.sIx_nat, HT.sIx_none, Nat.min_eq_left h]
  refine List.take_of_length_le ?_
  rw [List.length_drop] <;> omega
theorem cut_take (xs : List V) (k : Nat) (h : k ≤ xs.length) : cutV xs none (some (k : Int)) = xs.take k := by
  unfold cutV
  rw [HT.sIx_nat, HT.sIx_none, Nat.min_eq_left h, List.drop_zero, Nat.sub_zero]
theorem w_allT {n : Nat} (h : SqL K H p (List.replicate n (V.bl true))) (g : Q (.bl true) H) : rAll K [.ref p] H Q := ⟨p, List.replicate n true, rfl, by rw [List.map_replicate]; exact h, by
  have e : (List.replicate n true).all id = true := by
    rw [List.all_eq_true]
    intro x hx
    rw [(List.mem_replicate.mp hx).2] <;> rfl
  rw [e]
  exact g⟩
theorem w_asu {D : Ends} {k : Nat} {ts : TGs} (h : te σ H fun v H0 => gUnl K k ts v σ H0 D.nx) : tAsg te (gUnl K k ts) D σ H := h
theorem rep_snoc {α : Type} (n : Nat) (x : α) : List.replicate (n + 1) x = List.replicate n x ++ [x] := List.replicate_succ'
theorem map_snoc {l : List Int} {i : Nat} {x : Int} {f : Int → V} (h : l[i]? = some x) : (l.take (i + 1)).map f = (l.take i).map f ++ [f x] := by
  rw [List.take_succ, h, List.map_append] <;> rfl
end
/-! ### joins behind an if -/
section
variable {σ : L2.St} {H : Hp} {s1 s2 a b : TS} {t : TT} {D : Ends}
def SeqIf (t : TT) (a b s2 : TS) : TS := tSeq (tIfS t a b) s2
theorem w_seqI (g : SeqIf t a b s2 D σ H) : tSeq (tIfS t a b) s2 D σ H := g
theorem w_seqO (g : tSeq (tIfS t a b) s2 D σ H) : SeqIf t a b s2 D σ H := g
theorem w_ifK (P : Hp → Prop) (h1 : ∀ N : L2.St → Hp → Prop, (∀ H', P H' → N σ H') → tIfS t a b { D with nx := N } σ H) (h2 : ∀ H', P H' → s2 D σ H') : SeqIf t a b s2 D σ H := h1 _ h2
theorem w_ifJ (P : L2.St → Hp → Prop) (h1 : ∀ N : L2.St → Hp → Prop, (∀ σ' H', P σ' H' → N σ' H') → tIfS t a b { D with nx := N } σ H) (h2 : ∀ σ' H', P σ' H' → s2 D σ' H') : SeqIf t a b s2 D σ H := h1 _ h2
theorem w_seqK (P : Hp → Prop) (h1 : ∀ N : L2.St → Hp → Prop, (∀ H', P H' → N σ H') → s1 { D with nx := N } σ H) (h2 : ∀ H', P H' → s2 D σ H') : tSeq s1 s2 D σ H := h1 _ h2
theorem w_seqJ (P : L2.St → Hp → Prop) (h1 : ∀ N : L2.St → Hp → Prop, (∀ σ' H', P σ' H' → N σ' H') → s1 { D with nx := N } σ H) (h2 : ∀ σ' H', P σ' H' → s2 D σ' H') : tSeq s1 s2 D σ H := h1 _ h2
end
section
variable {K : PySem.W.Frag} {H : Hp} {Q : VK}
theorem w_isiS {x : Str} {t : String} {r : Bool} (h : kitB "str" t = some r) (g : Q (.bl r) H) : rIsi K [.str x, .ty t] H Q := ⟨_, _, _, _, r, rfl, .ty t, .base (.str x), kit_ty h, g⟩
theorem w_neT {p q : Addr} {xs : List V} {ds : List PyData} (h1 : H p = some (.tup xs)) (h2 : H q = some (.tup xs)) (d : DpAll K H xs ds) (s : SeqAt.shaped (.tuple ds) = true) (g : Q (.bl false) H) : rNeA K (.ref p) (.ref q) H Q :=
  w_neD (.tup (SqT.of h1) d) (.tup (SqT.of h2) d) s s (by
    rw [SeqAt.eqv_refl _ (SeqAt.canLay_of_shaped s)]
    exact g)
theorem inI (i : Int) (l : List Int) : inV (.int i) (l.map V.int) = decide (i ∈ l) := by
  unfold inV
  rw [Bool.eq_iff_iff, List.any_eq_true, decide_eq_true_iff]
  constructor
  · rintro ⟨y, hy, e⟩
    obtain ⟨j, hj, rfl⟩ := List.mem_map.mp hy
    have : j = i := by simpa [eqV] using e
    rw [← this]
    exact hj
  · intro h
    exact ⟨.int i, List.mem_map.mpr ⟨i, h, rfl⟩, by simp [eqV]⟩
theorem stOk (s : Sd) (g : Nat) : PyData.strOk (stT s g) = true := by
  unfold stT
  split <;> split <;> decide +kernel
end
end G

set_option Elab.async false
set_option linter.all false
set_option maxRecDepth 100000
set_option maxHeartbeats 4000000
/-! for over a tuple, a list, where an exception is handled. -/
namespace G
open PySem PySem.Spec PyProof.Rows L2 HotX
section
variable {prog : Program} {w : World} {A : Around} {E : Value → Shared → Prop} {s : Shared}
theorem pyNext_tuple_end_hot {it t x1 : Addr} {i : Nat} {items : Array Value} {Q : Option Value → Shared → Prop} (hot : HotAt A x1 s.heap) (hit : s.heap.IsTupleIter it t i) (ht : s.heap.IsTuple t items) (hx : items[i]? = none)
    (hQ : ∀ h', (∀ b o, b ≠ it → s.heap.get? b = some o → h'.get? b = some o) → Q none { s with heap := h' }) : wpAny (model prog w) A (pyNext (.ref it)) Q E s := by
  obtain ⟨o, ho, hc, hd⟩ := id hit
  obtain ⟨ol, hol, _, nl, hdl⟩ := ht
  obtain ⟨hh, o1, vs1, h1, d1, c1⟩ := hot
  have ne : x1 ≠ it := by
    rintro rfl
    rw [ho] at h1
    injection h1 with e
    subst e
    rw [hd] at d1
    injection d1 with e2
    subst e2
    simp at c1
  unfold pyNext
  refine wpAny_bind (wpAny_attempt (wpAny_callSpecial?_slot (name := Str.ofString "__next__") hit.typeIs F.slot_tuple_iterator_next
    (wpAny_call_entry F.slot_tuple_iterator_next hit.typeIs F.entry_tuple_iterator_next ?_ (F.args_tuple_iterator_next_1 _))))
  show wpAny _ _ (field (.ref it) 0 >>= _) _ _ s
  refine wpAny_bind (wpAny_field ho hd (x := .ref t) rfl ?_)
  show wpAny _ _ (if (Value.ref t == Value.none) = true then _ else _) _ _ s
  rw [if_neg (show ¬ ((Value.ref t == Value.none) = true) from Bool.false_ne_true)]
  show wpAny _ _ (field (.ref it) 1 >>= _) _ _ s
  refine wpAny_bind (wpAny_field ho hd (x := .int i 0) rfl ?_)
  show wpAny _ _ (seqItems? (.ref t) >>= _) _ _ s
  refine wpAny_bind (wpAny_seqItems hol hdl ?_)
  simp only [Int.toNat_natCast, hx]
  refine wpAny_bind (wpAny_rule (wpAny_bind (wpAny_setField ho hd (by simp) ?_)))
  show wpAny _ _ (newExc (.type "StopIteration") [] >>= _) _ _ _
  refine wpAny_bind ?_
  simp only [newExc, newTuple]
  refine wpAny_bind (wpAny_newObj_type ?_ (by size_fits))
  refine wpAny_bind (m := firstArgMember _ _) (wpAny_of_eq (a := Value.none) (by first | rfl | (simp only [firstArgMember]; rfl)) ?_)
  refine wpAny_newObj_type ?_ (by size_fits)
  have h1' := (Heap.get?_update_other (h := s.heap) (a := it) (b := x1) (Obj.mapFields (·.setIfInBounds 0 Value.none)) (Ne.symm ne)).trans h1
  refine raiseNew_hot ⟨hh, o1, vs1, Heap.get?_push_of_some _ (Heap.get?_push_of_some _ h1'), d1, c1⟩ (Nat.ne_of_lt (Heap.lt_size (Heap.get?_push_of_some _ h1'))) (Heap.get?_push_size _ rfl) rfl (by first | (simp; done) | (simp; omega) | (simp only [Array.size_append]; simp; omega)) ?_
  refine wpAny_bind (wpAny_isInstance (T := "StopIteration") (b := true) ⟨_, Heap.get?_update_self _ (Heap.get?_push_size _ rfl) rfl, rfl⟩ isSubtype_stop ?_)
  refine wpAny_pure (hQ _ fun b o nb e => ?_)
  have e' := (Heap.get?_update_other (h := s.heap) (a := it) (b := b) (Obj.mapFields (·.setIfInBounds 0 Value.none)) (Ne.symm nb)).trans e
  rw [Heap.get?_update_other _ _ (Nat.ne_of_gt (Heap.lt_size (Heap.get?_push_of_some _ e')))]
  exact Heap.get?_push_of_some _ (Heap.get?_push_of_some _ e')
end
theorem turn_tupH {P : Program} {w : World} {K : PySem.W.Frag} {tg : Expr} (a it : Addr) : L2H.TurnH P w K tg (Itt K a) [it] it (fun i h => h.IsTupleIter it a i) where
  mem := by simp
  obj := fun i h st b hb => by
    have e : b = it := by simpa using hb
    subst e
    obtain ⟨o, e, c, d⟩ := st
    exact ⟨o, e, fun v z => by rw [d] at z; cases z⟩
  keep := fun i h h' st k => st.at fun o e => k it (by simp) o e
  item := by
    intro X hP hw hK hc i pins s σ H E I hf st hg
    subst hP hw hK
    obtain ⟨xs, x, hq, hx⟩ := hg
    obtain ⟨its, rv, p, hz⟩ := I.tuple hq
    obtain ⟨u, hu, ru⟩ := rv.get hx
    obtain ⟨f0, f1, f2, f3, f4, f5⟩ := hf it (by simp)
    refine wpAny_pyNext_tuple_item st (show s.heap.IsTuple a its.toArray from p) (x := u) (by simpa using hu) fun h' st' sb => ?_
    have I1 : Inv X pins σ H { s with heap := h' } := I.turned (t' := s.toks) (fun b o hb e => (sb.2 b hb).trans e) f0 f1 f3 f4 f5
    obtain ⟨o, e, c, d⟩ := id st'
    exact ⟨u, rfl, go_of (s := { s with heap := h' }) e c d (by decide) ⟨x, H, I1, ru, ⟨rfl, fun ys hy => by rw [I.tuple_inj hy hq]; exact hx⟩, st', fun b hb => (hf b hb).1⟩⟩
  done := by
    intro X hP hw hK hc i pins s σ H E I hf st hg
    subst hP hw hK
    obtain ⟨xs, hq, hx⟩ := hg
    obtain ⟨its, rv, p, hz⟩ := I.tuple hq
    obtain ⟨f0, f1, f2, f3, f4, f5⟩ := hf it (by simp)
    have hl := rv.length
    obtain ⟨x1, hot⟩ := hc.at I
    exact pyNext_tuple_end_hot hot st (show s.heap.IsTuple a its.toArray from p) (by simp; omega) fun h' eb => ⟨rfl, I.turned (t' := s.toks) (fun b o hb e => eb b o hb e) f0 f1 f3 f4 f5⟩
  self := fun _ _ _ _ _ st h => wpAny_pyIter_tupleiter st h
theorem pi_tupH {X : Cx} {tg : Expr} {l : Expr} {tl : TE} (hl : PE X l tl) : L2H.PIH X tg l (iTup X.K tl) := by
  refine ⟨fun pins s σ H R I h => ?_⟩
  refine thn (hl.run pins s σ H _ I h) fun v s1 ⟨x, H1, I1, r1, q1⟩ => ?_
  obtain ⟨a, e, ⟨xs, hq⟩, q⟩ := q1
  subst e
  cases r1
  obtain ⟨its, rv, p, hz⟩ := I1.tuple hq
  refine wpAny_pyIter_tuple (show s1.heap.IsTuple a its.toArray from p) ?_
  refine ⟨s1.heap.objs.size, [s1.heap.objs.size], _, _, H1, rfl, I1.kept (t' := s1.toks) fun b o e => Heap.get?_push_of_some _ e, turn_tupH a _, ⟨_, Heap.get?_push_size _ rfl, rfl, rfl⟩, fun b hb => ?_, q⟩
  have e : b = s1.heap.objs.size := by simpa using hb
  subst e
  exact I1.fpOk (Nat.le_refl _) (I1.hok.fresh (Nat.le_refl _))
section
variable {K : PySem.W.Frag} {σ : L2.St} {H : Hp} {Q : VK} {x y v : V} {p q : Addr} {xs ys : List V} {k : Nat}
theorem w_catT (h1 : SqT K H p xs) (h2 : SqT K H q ys) (n1 : xs ≠ []) (n2 : ys ≠ []) (hl : xs.length + ys.length ≤ sizeLine) (g : ∀ r H', H r = none → Kp [] H H' → H' r = some (.tup (xs ++ ys)) → Q (.ref r) H') : rCatA K (.ref p) (.ref q) H Q :=
  ⟨p, q, xs, ys, rfl, rfl, h1, h2, hl, fun z => absurd z n1, fun _ z => absurd z n2, fun _ _ => nw g⟩
end
end G

set_option Elab.async false
set_option linter.all false
set_option maxRecDepth 100000
set_option maxHeartbeats 4000000
/-! xs[lo::k], `in` over data of any depth. -/
namespace G
open PySem PySem.Spec PyProof.Rows L2
section
variable {X : Cx} {e : Expr} {te : TE} {lo hi st : Option Expr} {tl th ts : TO} {pos p2 : Pos}
theorem op_inDA {k : Nat} (hr : Room k X.A) : OpR X (compareOp .In) (rInD X.K) := op_inD (by have := hr.un; omega)
/-- a stepped slice of a list: a new list of some of its items -/
def tSl3 (K : PySem.W.Frag) (te : TE) (tl th ts : TO) : TE := fun σ H Q => te σ H fun x H1 => tl σ H1 fun l H2 => th σ H2 fun u H3 => ts σ H3 fun z H4 => ∃ a xs, x = .ref a ∧ SqL K H4 a xs ∧ z ≠ some 0 ∧
  ∀ p ys, H4 p = none → ys.length ≤ xs.length → (∀ y ∈ ys, y ∈ xs) → Q (.ref p) (upd H4 p (.lst ys))
theorem vals_pick {xs : List V} {us : List Value} (r : Vals xs us) (f : Nat → Nat) : ∀ js : List Nat, ∃ ys : List V, Vals ys (js.filterMap fun m => us[f m]?) ∧ ys.length ≤ js.length ∧ ∀ y ∈ ys, y ∈ xs
  | [] => ⟨[], .nil, Nat.le_refl _, fun y h => by cases h⟩
  | j :: js => by
    obtain ⟨ys, h1, h2, h3⟩ := vals_pick r f js
    rw [List.filterMap_cons]
    cases c : us[f j]? with
    | none => exact ⟨ys, h1, Nat.le_trans h2 (Nat.le_succ _), h3⟩
    | some u =>
      have hl : f j < us.length := (List.getElem?_eq_some_iff.mp c).1
      obtain ⟨x, hx⟩ : ∃ x, xs[f j]? = some x := ⟨_, List.getElem?_eq_getElem (by rw [r.length]; exact hl)⟩
      obtain ⟨u', hu, ru⟩ := r.get hx
      rw [c] at hu
      injection hu with hu
      subst hu
      refine ⟨x :: ys, .cons ru h1, by rw [List.length_cons, List.length_cons]; omega, fun y hy => ?_⟩
      rcases List.mem_cons.mp hy with e | e
      · rw [e]
        exact List.mem_of_getElem? hx
      · exact h3 y e
theorem pe_sl3 {est : Expr} (he : PE X e te) (hl : PO X lo tl) (hu : PO X hi th) (hst : PO X (some est) ts) : PE X (.Subscript e (.Slice lo hi (some est) p2) pos) (tSl3 X.K te tl th ts) := by
  refine ⟨fun pins s σ H Q I h => ?_⟩
  refine Subscript_ (thn (he.run pins s σ H _ I h) fun v s1 ⟨x, H1, I1, r1, q1⟩ => ?_)
  refine wpAny_Slice (thn (hl.run pins s1 σ H1 _ I1 q1) fun vl s2 ⟨l, H2, I2, pl, q2⟩ => thn (hu.run pins s2 σ H2 _ I2 q2) fun vu s3 ⟨u, H3, I3, pu, q3⟩ => thn (hst.run pins s3 σ H3 _ I3 q3) fun vs s4 ⟨z, H4, I4, pz, q4⟩ => ?_)
  have I5 : Inv X pins σ H4 { s4 with heap := s4.heap.push { cls := .type "slice", data := .fields #[vl, vu, vs] } } := I4.kept (t' := s4.toks) fun b ob q => Heap.get?_push_of_some _ q
  obtain ⟨a, xs, rfl, hx, nz, q⟩ := q4
  cases r1
  obtain ⟨its, r, ht, hz⟩ := I5.list hx
  have hlen := r.length
  show wpAny (model X.prog X.w) X.A (subscriptTail e (.Slice lo hi (some est) p2) (.ref a) (.ref s4.heap.objs.size)) (EP X pins σ Q) X.xe { s4 with heap := s4.heap.push { cls := .type "slice", data := .fields #[vl, vu, vs] } }
  refine tail_any (ops := [.ref a, .ref s4.heap.objs.size]) (T := "list") ht.isList.typeIs slot_list_getitem.lookup ?_ (by with_unfolding_all rfl)
  refine wpAny_getItem_list_slice ht.isList (Heap.IsSliceOf.new ..) pl pu pz nz ?_ (by rw [List.size_toArray] <;> omega)
  obtain ⟨ys, h1, h2, h3⟩ := vals_pick r id (sliceRange (sliceBounds l u z its.toArray.size).1 (sliceBounds l u z its.toArray.size).2.1 (sliceBounds l u z its.toArray.size).2.2)
  have e : slicePick its.toArray l u z = ((sliceRange (sliceBounds l u z its.toArray.size).1 (sliceBounds l u z its.toArray.size).2.1 (sliceBounds l u z its.toArray.size).2.2).filterMap fun m => its[id m]?).toArray := by
    unfold slicePick
    simp
  have sz := slicePick_size_le its.toArray l u z
  rw [e] at sz ⊢
  have l1 := h1.length
  simp only [List.size_toArray] at sz l1
  rw [← l1] at sz
  refine ⟨.ref _, _, I5.laid (t' := s4.toks) (o := .lst ys) (fun b ob q => Heap.get?_push_of_some _ q) (Nat.le_refl _) ?_, rfl, q _ ys (I5.hok.fresh (Nat.le_refl _)) (by omega) h3⟩
  exact ⟨by omega, _, 0, h1, Heap.get?_push_size _ rfl⟩
end
end G

set_option Elab.async false
set_option linter.all false
set_option maxRecDepth 100000
set_option maxHeartbeats 1000000
/-! Words with a sign; f"{x:+d}". -/
namespace G
open PySem PySem.Spec PyProof.Rows L2 TL NumText
theorem signed_seen {x : Str} {c : Nat} {cs : List Nat} (hx : tl x = c :: cs) (hc : c = 43 ∨ c = 45) (h : AllDigits cs) : numTextOf x = tl x ∧ numSeenOf x = tl x := by
  have small : ∀ d ∈ tl x, 1 ≤ d ∧ d < 128 := by
    rw [hx]
    intro d hd
    rcases List.mem_cons.mp hd with e | hd
    · omega
    · have := h d hd
      omega
  have e1 : numTextOf x = tl x := if_pos (by
    rw [← Array.all_toList, List.all_eq_true]
    exact fun d hd => decide_eq_true (small d hd).2)
  refine ⟨e1, ?_⟩
  show (numTextOf x).takeWhile _ = _
  rw [e1]
  exact takeWhile_all fun d hd => bne_iff_ne.mpr (by have := small d hd; omega)
theorem intText_signed {x : Str} {c : Nat} {cs : List Nat} (hx : tl x = c :: cs) (hc : c = 43 ∨ c = 45) (h : AllDigits cs) (h1 : cs ≠ []) (h2 : x.length ≤ 4300) :
    intText? x = some (if c = 45 then -((digitsVal cs : Nat) : Int) else ((digitsVal cs : Nat) : Int)) := by
  obtain ⟨e1, e2⟩ := signed_seen hx hc h
  have hl : cs.length + 1 = x.length := by rw [len_tl, hx, List.length_cons]
  unfold intText?
  rw [e1, e2, hx, if_pos (beq_self_eq_true _)]
  have eb : (c :: cs).dropWhile blank = c :: cs := dropWhile_of (by omega)
  have es : sign (c :: cs) = (decide (c = 45), cs) := by
    rcases hc with rfl | rfl <;> rfl
  have ec : core (c :: cs) = cs := by
    unfold core
    rw [eb, es]
    show (cs.reverse.dropWhile blank).reverse = cs
    rw [dropWhile_digits h.reverse, List.reverse_reverse]
  rw [ec, eb, es, digits_of h h1]
  have sz : (cs.foldl (fun acc c => acc.push (c - 48)) (#[] : Array Nat)).size ≤ 4300 := by
    rw [push_size cs #[]]
    simp only [Array.size_empty]
    omega
  show (if _ ≤ 4300 then some (worth _ _) else none) = _
  rw [if_pos sz]
  have v : (cs.foldl (fun acc c => acc.push (c - 48)) (#[] : Array Nat)).foldl (fun acc d => acc * 10 + d) 0 = digitsVal cs := push_foldl cs #[]
  unfold worth
  rw [v]
  rcases hc with rfl | rfl <;> rfl
/-! ### a number in the form +d -/
def sgL (i : Int) : List Nat := (if i < 0 then 45 else 43) :: numL i.natAbs
def sgS (i : Int) : Str := ⟨(sgL i).toArray⟩
theorem tl_sgS (i : Int) : tl (sgS i) = sgL i := rfl
end G

set_option Elab.async false
set_option linter.all false
set_option maxRecDepth 100000
set_option maxHeartbeats 1000000
namespace G
open PySem PySem.Spec PyProof.Rows L2 TL NumText
def plusD : Str := "+d"
section
variable {M : Model} {A : Around} {E : Value → Shared → Prop} {s : Shared}
theorem ret_of {x y : Str} {Q : Fin → Shared → Prop} (e : x = y) (h : wpAny M A (retStr y) Q E s) : wpAny M A (retStr x) Q E s := e ▸ h
end
open Builtin Builtin.Int Builtin.Float in
theorem gives_plus (i : Int) (t u : Tok) (h : i.natAbs.log2 < 1920) : Gives («int.__format__» ⟨[.int i t, .str plusD u], []⟩) (.str (sgS i)) := by
  intro prog w A R s hq
  have e1 : (plusD.length == 0) = false := by decide +kernel
  have e2 : ((plusD.cps.toList.drop 1).any (· ≥ 128) || (plusD.cps.getD 0 0 ≥ 128 && !([60, 62, 61, 94] : List Nat).contains (plusD.cps.getD 1 0))) = false := by decide +kernel
  have e3 : ∀ n, parseFormatSpec plusD.cps.toList n 62 = .ok { align := 62, sign := some 43, type := some 100 } := fun n => by
    have : plusD.cps.toList = [43, 100] := by decide +kernel
    rw [this]
    rfl
  unfold Builtin.«int.__format__»
  simp only [selfAndOne, noKeywords, Int.intOfSelf, asInt?, asStr?, List.isEmpty_nil, if_true, pure_bind, bind_pure, bind_assoc, e1, e2, Bool.false_eq_true, if_false, show (Value.str plusD u == Value.none) = false from rfl]
  refine wpAny_bind (wpAny_typeNameOf (T := "str") (typeIs_str _ _ _) (by decide) fun _ => ?_)
  refine wpAny_bind (wpAny_typeNameOfCut_int ?_)
  simp only [e3]
  rw [if_pos (by decide)]
  show wpAny _ _ (Builtin.overDigitLimit? i >>= fun r => _) _ _ _
  rw [PySem.overDigitLimit_small h]
  refine wpAny_bind (wpAny_pure ?_)
  refine ret_of (y := sgS i) ?_ ?_
  · have e : numL i.natAbs = (Nat.toDigits 10 i.natAbs).map Char.toNat := rfl
    have hs : sgL i = (if i < 0 then 45 else 43) :: (Nat.toDigits 10 i.natAbs).map Char.toNat := rfl
    have ne : Nat.toDigits 10 i.natAbs ≠ [] := fun z => numL_ne i.natAbs (by rw [e, z] <;> rfl)
    unfold sgS
    rw [hs]
    generalize Nat.toDigits 10 i.natAbs = ds at ne
    cases ds with
    | nil => exact absurd rfl ne
    | cons c r =>
      by_cases c0 : i < 0
      · rw [decide_eq_true c0, if_pos c0]
        conv => lhs; whnf
        simp
        omega
      · rw [decide_eq_false c0, if_neg c0]
        conv => lhs; whnf
        simp
        omega
  · unfold retStr
    refine wpAny_bind (wpAny_mkStr (wpAny_pure hq.2) hq.1)
section
variable {X : Cx}
/-- f"{x:+d}" -/
def tFmtP (te : TE) : TE := fun σ H Q => te σ H fun x H1 => ∃ i : Int, x = .int i ∧ i.natAbs.log2 < 1920 ∧ (sgS i).length ≤ sizeLine ∧ Q (.str (sgS i)) H1
theorem pe_fmtP {e : Expr} {te : TE} {pos p1 p2 p3 : Pos} {k : Nat} (he : PE X e te) : PE X (.JoinedStr [.FormattedValue e (-1) (some (.JoinedStr [.Constant (.str plusD) k p1] p2)) pos] p3) (tFmtP te) := by
  refine ⟨fun pins s σ H Q I h => wpAny_JoinedStr_one ?_⟩
  refine wpAny_FormattedValue_spec (thn (he.run pins s σ H _ I h) fun v s1 hv => ?_)
  obtain ⟨x, H1, I1, r1, i, rfl, hz, hl, q⟩ := hv
  obtain ⟨t, rfl⟩ := r1
  refine wpAny_JoinedStr_one (PySem.wpAny_Constant_str ⟨plusD, _, rfl, ?_⟩)
  refine wpAny_formatField_spec (by decide +kernel) (fun s' => typeIs_int s' i t) PySem.F.slot_int_format PySem.F.entry_int_format PySem.F.args_int_format_2 (fun u => gives_plus i t u hz) ?_ (by decide +kernel) hl
  exact ⟨.str (sgS i), H1, (I1.tok _).tok _, ⟨_, rfl⟩, q⟩
end
end G

set_option Elab.async false
set_option linter.all false
set_option maxRecDepth 100000
set_option maxHeartbeats 1000000
/-! Words of logs, the text of a log, pieces of texts. -/
namespace G
open PySem PySem.Spec PyProof.Rows L2 TL NumText
def spC : Str := " "
theorem tl_spC : tl spC = [32] := by decide +kernel
theorem tl_from (z : Str) (n : Nat) : tl (cutS z (some (n : Int)) none) = (tl z).drop n := by
  show ((tl z).drop (HT.sIx z.length 0 (some (n : Int)))).take (HT.sIx z.length z.length none - HT.sIx z.length 0 (some (n : Int))) = _
  rw [HT.sIx_nat, HT.sIx_none, len_tl]
  by_cases c : n ≤ (tl z).length
  · rw [Nat.min_eq_left c]
    exact List.take_of_length_le (by rw [List.length_drop]; omega)
  · rw [Nat.min_eq_right (by omega), Nat.sub_self, List.take_zero, List.drop_eq_nil_of_le (by omega)]
theorem tl_upto (z : Str) (n : Nat) : tl (cutS z none (some (n : Int))) = (tl z).take n := by
  show ((tl z).drop (HT.sIx z.length 0 none)).take (HT.sIx z.length z.length (some (n : Int)) - HT.sIx z.length 0 none) = _
  rw [HT.sIx_nat, HT.sIx_none, len_tl, List.drop_zero, Nat.sub_zero]
  by_cases c : n ≤ (tl z).length
  · rw [Nat.min_eq_left c]
  · rw [Nat.min_eq_right (by omega), List.take_of_length_le (by omega), List.take_of_length_le (by omega)]
def posL (cs : List Nat) : Bool := decide (cs ≠ [] ∧ cs.length ≤ 9 ∧ cs.head? ≠ some 48) && cs.all fun c => decide (48 ≤ c ∧ c ≤ 57)
theorem posL_iff {cs : List Nat} : posL cs = true ↔ (cs ≠ [] ∧ cs.length ≤ 9 ∧ cs.head? ≠ some 48) ∧ AllDigits cs := by
  unfold posL
  rw [Bool.and_eq_true, decide_eq_true_iff, List.all_eq_true]
  refine and_congr Iff.rfl ⟨fun h c hc => of_decide_eq_true (h c hc), fun h c hc => decide_eq_true (h c hc)⟩
def okW (w : Str) : Bool := match tl w with
  | [] => false
  | c :: cs => decide (c = 43 ∨ c = 45) && posL cs
def valW (w : Str) : Int := match tl w with
  | [] => 0
  | c :: cs => if c = 45 then -((digitsVal cs : Nat) : Int) else ((digitsVal cs : Nat) : Int)
def numV (cs : List Nat) : Nat := if posL cs = true then digitsVal cs else 0
theorem fold_ge : ∀ (cs : List Nat) (a : Nat), a ≤ cs.foldl (fun acc c => acc * 10 + (c - 48)) a
  | [], a => Nat.le_refl _
  | c :: cs, a => Nat.le_trans (by omega) (fold_ge cs (a * 10 + (c - 48)))
theorem posL_val {cs : List Nat} (h : posL cs = true) : 1 ≤ digitsVal cs := by
  obtain ⟨⟨h1, h2, h3⟩, h4⟩ := posL_iff.mp h
  cases cs with
  | nil => exact absurd rfl h1
  | cons c r =>
    have hc := h4.head
    have h5 : c ≠ 48 := fun z => h3 (by rw [z] <;> rfl)
    have := fold_ge r (0 * 10 + (c - 48))
    show 1 ≤ r.foldl _ (0 * 10 + (c - 48))
    omega
theorem okW_cons {w : Str} (h : okW w = true) : ∃ c cs, tl w = c :: cs ∧ (c = 43 ∨ c = 45) ∧ posL cs = true := by
  unfold okW at h
  cases e : tl w with
  | nil => rw [e] at h; cases h
  | cons c cs =>
    rw [e] at h
    simp only [Bool.and_eq_true, decide_eq_true_eq] at h
    exact ⟨c, cs, rfl, h.1, h.2⟩
theorem okW_of {w : Str} {c : Nat} {cs : List Nat} (e : tl w = c :: cs) : okW w = (decide (c = 43 ∨ c = 45) && posL cs) := by
  unfold okW
  rw [e]
theorem valW_of {w : Str} {c : Nat} {cs : List Nat} (e : tl w = c :: cs) : valW w = if c = 45 then -((digitsVal cs : Nat) : Int) else ((digitsVal cs : Nat) : Int) := by
  unfold valW
  rw [e]
theorem okW_len {w : Str} (h : okW w = true) : w.length ≤ 10 := by
  obtain ⟨c, cs, e, hc, hp⟩ := okW_cons h
  obtain ⟨⟨_, h2, _⟩, _⟩ := posL_iff.mp hp
  rw [len_tl, e, List.length_cons]
  omega
theorem okW_int {w : Str} (h : okW w = true) : intText? w = some (valW w) := by
  have hl := okW_len h
  obtain ⟨c, cs, e, hc, hp⟩ := okW_cons h
  obtain ⟨⟨h1, h2, _⟩, h4⟩ := posL_iff.mp hp
  rw [valW_of e]
  exact intText_signed e hc h4 h1 (by omega)
theorem posL_int {w : Str} (h : posL (tl w) = true) : intText? w = some ((digitsVal (tl w) : Nat) : Int) := by
  obtain ⟨⟨h1, h2, _⟩, h4⟩ := posL_iff.mp h
  exact intText_digits h4 h1 (by rw [len_tl]; omega)
/-! ### the numbers of a log -/
def OpT (i : Int) : Prop := i ≠ 0 ∧ i.natAbs < 1000000000
theorem num_head : ∀ n : Nat, 1 ≤ n → (numL n).head? ≠ some 48 := by
  intro n
  induction n using Nat.strongRecOn with
  | _ n ih =>
    intro h
    by_cases h10 : n < 10
    · rw [numL_lt h10]
      show some (48 + n) ≠ some 48
      intro z
      injection z with z
      omega
    · rw [numL_step (by omega)]
      have i1 := ih (n / 10) (by omega) (by omega)
      cases e : numL (n / 10) with
      | nil => exact absurd e (numL_ne _)
      | cons d t =>
        rw [e] at i1
        exact i1
theorem posL_num {n : Nat} (h : 1 ≤ n) (h2 : n < 1000000000) : posL (numL n) = true :=
  posL_iff.mpr ⟨⟨numL_ne n, numL_len (by decide) (by omega), num_head n h⟩, numL_digits n⟩
theorem okW_sg {i : Int} (h : OpT i) : okW (sgS i) = true := by
  have e : tl (sgS i) = (if i < 0 then 45 else 43) :: numL i.natAbs := rfl
  rw [okW_of e, posL_num (by have := h.1; omega) h.2, Bool.and_true, decide_eq_true_iff]
  split
  · exact .inr rfl
  · exact .inl rfl
theorem valW_sg (i : Int) : valW (sgS i) = i := by
  have e : tl (sgS i) = (if i < 0 then 45 else 43) :: numL i.natAbs := rfl
  rw [valW_of e, numL_val]
  by_cases c : i < 0
  · rw [if_pos c, if_pos rfl]
    omega
  · rw [if_neg c, if_neg (by decide)]
    omega
theorem sgS_len {i : Int} (h : OpT i) : (sgS i).length ≤ 10 := okW_len (okW_sg h)
theorem sgS_minus {i : Int} (h : i < 0) : ("-" : Str) ++ Str.ofString (toString (-i)) = sgS i := by
  refine ext_tl ?_
  have e1 : tl ("-" : Str) = [45] := by decide +kernel
  have e2 : -i = ((i.natAbs : Nat) : Int) := by omega
  rw [tl_append, e1, e2, tl_num]
  show _ = (if i < 0 then 45 else 43) :: numL i.natAbs
  rw [if_pos h]
  rfl
theorem sgS_plus {i : Int} (h : ¬ i < 0) : ("+" : Str) ++ Str.ofString (toString i) = sgS i := by
  refine ext_tl ?_
  have e1 : tl ("+" : Str) = [43] := by decide +kernel
  have e2 : i = ((i.natAbs : Nat) : Int) := by omega
  rw [tl_append, e1]
  conv => lhs; rw [e2]
  rw [tl_num]
  show _ = (if i < 0 then 45 else 43) :: numL i.natAbs
  rw [if_neg h]
  rfl
def logT (log : List Int) : Str := Txt.join spC (log.map sgS)
def wordsT (t : Str) : List Str := if t = "" then [] else Txt.split t spC
def badW (ws : List Str) : Option Nat := ws.findIdx? fun w => !okW w
theorem logT_nil : logT [] = "" := by decide +kernel
theorem logT_ne {i : Int} {log : List Int} : ¬ logT (i :: log) = "" := fun z => by
  have e := congrArg tl z
  unfold logT at e
  rw [join_eq, tl_join] at e
  have e2 : tl ("" : Str) = [] := by decide +kernel
  rw [e2] at e
  cases log with
  | nil => exact absurd e (List.cons_ne_nil _ _)
  | cons j r => exact absurd e (List.cons_ne_nil _ _)
theorem words_log {log : List Int} (h : ∀ i ∈ log, OpT i) : wordsT (logT log) = log.map sgS := by
  unfold wordsT
  cases log with
  | nil => rw [if_pos logT_nil]; rfl
  | cons i r =>
    rw [if_neg logT_ne]
    refine split_join (y := spC) (s := 32) (S := []) tl_spC (by decide +kernel) (by simp) fun p hp => ?_
    obtain ⟨j, hj, rfl⟩ := List.mem_map.mp hp
    show 32 ∉ (if j < 0 then 45 else 43) :: numL j.natAbs
    intro z
    rcases List.mem_cons.mp z with z | z
    · split at z <;> omega
    · exact numL_free (by omega) z
theorem bad_log {log : List Int} (h : ∀ i ∈ log, OpT i) : badW (log.map sgS) = none := by
  unfold badW
  rw [List.findIdx?_eq_none_iff]
  intro w hw
  obtain ⟨i, hi, rfl⟩ := List.mem_map.mp hw
  rw [okW_sg (h i hi)]
  rfl
theorem vals_log (log : List Int) : (log.map sgS).map valW = log := by
  rw [List.map_map]
  conv => rhs; rw [← List.map_id log]
  exact List.map_congr_left fun i _ => valW_sg i
/-! ### lengths -/
def sumL (ws : List Str) : Nat := (ws.map (·.length)).sum
theorem sumL_cons (w : Str) (ws : List Str) : sumL (w :: ws) = w.length + sumL ws := by
  unfold sumL
  rw [List.map_cons, List.sum_cons]
theorem sumL_le {ws : List Str} {k : Nat} (h : ∀ w ∈ ws, w.length ≤ k) : sumL ws ≤ k * ws.length := by
  induction ws with
  | nil => exact Nat.zero_le _
  | cons w r ih =>
    have := ih fun z hz => h z (List.mem_cons_of_mem _ hz)
    have := h w List.mem_cons_self
    rw [sumL_cons, List.length_cons, Nat.mul_succ]
    omega
theorem sumL_mem {ws : List Str} {w : Str} (h : w ∈ ws) : w.length ≤ sumL ws := by
  induction ws with
  | nil => cases h
  | cons x r ih =>
    rw [sumL_cons]
    rcases List.mem_cons.mp h with rfl | h
    · omega
    · have := ih h
      omega
theorem sumL_append (a b : List Str) : sumL (a ++ b) = sumL a + sumL b := by
  unfold sumL
  rw [List.map_append, List.sum_append]
theorem sumL_set (x : Str) : ∀ (ws : List Str) (k : Nat), sumL (ws.set k x) ≤ sumL ws + x.length
  | [], k => by show sumL ([] : List Str) ≤ _; omega
  | w :: r, 0 => by
    show sumL (x :: r) ≤ _
    rw [sumL_cons, sumL_cons]
    omega
  | w :: r, k + 1 => by
    show sumL (w :: r.set k x) ≤ _
    have := sumL_set x r k
    rw [sumL_cons, sumL_cons]
    omega
theorem jn_len (S : List Nat) : ∀ ps : List (List Nat), (joinL S ps).length ≤ (ps.map List.length).sum + ps.length * S.length
  | [] => Nat.zero_le _
  | [p] => by
    show p.length ≤ _
    simp only [List.map_cons, List.map_nil, List.sum_cons, List.sum_nil]
    omega
  | p :: q :: r => by
    have ih := jn_len S (q :: r)
    show (p ++ (S ++ joinL S (q :: r))).length ≤ _
    simp only [List.length_append, List.map_cons, List.sum_cons, List.length_cons, Nat.add_mul, Nat.one_mul] at ih ⊢
    omega
theorem join_len (ws : List Str) : (Txt.join spC ws).length ≤ sumL ws + ws.length := by
  rw [len_tl, join_eq, tl_join, tl_spC]
  have h := jn_len [32] (ws.map tl)
  have e : (List.map List.length (ws.map tl)).sum = sumL ws := by
    unfold sumL
    rw [List.map_map]
    congr 1
  rw [e, List.length_map] at h
  show _ ≤ sumL ws + ws.length
  have : [32].length = 1 := rfl
  rw [this] at h
  omega
theorem spl_sum : ∀ (l acc : List Nat), ((spl [32] 0 acc l).map List.length).sum ≤ acc.length + l.length ∧ (spl [32] 0 acc l).length ≤ l.length + 1 ∧ spl [32] 0 acc l ≠ []
  | [], acc => by
    rw [spl_nil]
    refine ⟨by simp, by simp, by simp⟩
  | c :: r, acc => by
    cases h : pre [32] (c :: r) with
    | true =>
      rw [spl_hit h]
      obtain ⟨i1, i2, i3⟩ := spl_sum r []
      show ((acc :: spl [32] 0 [] r).map List.length).sum ≤ _ ∧ (acc :: spl [32] 0 [] r).length ≤ _ ∧ acc :: spl [32] 0 [] r ≠ []
      refine ⟨?_, ?_, by simp⟩
      · simp only [List.map_cons, List.sum_cons, List.length_cons, List.length_nil] at i1 ⊢
        omega
      · simp only [List.length_cons] at i2 ⊢
        omega
    | false =>
      rw [spl_miss h]
      obtain ⟨i1, i2, i3⟩ := spl_sum r (acc ++ [c])
      refine ⟨?_, ?_, i3⟩
      · simp only [List.length_append, List.length_cons, List.length_nil] at i1 ⊢
        omega
      · simp only [List.length_cons] at i2 ⊢
        omega
theorem split_sum (t : Str) : sumL (Txt.split t spC) ≤ t.length ∧ (Txt.split t spC).length ≤ t.length + 1 ∧ Txt.split t spC ≠ [] := by
  have e := split_spl t spC (by rw [tl_spC]; simp) (kind_ok (by decide +kernel))
  rw [tl_spC] at e
  obtain ⟨h1, h2, h3⟩ := spl_sum (tl t) []
  rw [← e] at h1 h2 h3
  refine ⟨?_, ?_, fun z => h3 (by rw [z] <;> rfl)⟩
  · have : (List.map List.length ((Txt.split t spC).map tl)).sum = sumL (Txt.split t spC) := by
      unfold sumL
      rw [List.map_map]
      congr 1
    rw [this] at h1
    rw [len_tl]
    simpa using h1
  · rw [List.length_map] at h2
    rw [len_tl]
    exact h2
theorem words_sum (t : Str) : sumL (wordsT t) ≤ t.length ∧ (wordsT t).length ≤ t.length + 1 := by
  unfold wordsT
  split
  · exact ⟨Nat.zero_le _, Nat.zero_le _⟩
  · exact ⟨(split_sum t).1, (split_sum t).2.1⟩
theorem logT_len {log : List Int} (h : ∀ i ∈ log, OpT i) : (logT log).length ≤ 11 * log.length := by
  have h1 := join_len (log.map sgS)
  have h2 := sumL_le (ws := log.map sgS) (k := 10) fun w hw => by
    obtain ⟨i, hi, rfl⟩ := List.mem_map.mp hw
    exact sgS_len (h i hi)
  rw [List.length_map] at h1 h2
  unfold logT
  omega
theorem logT_cost {log : List Int} (h : ∀ i ∈ log, OpT i) (hl : log.length ≤ 1000) : ((log.map sgS).map (·.length)).sum + (log.map sgS).length * spC.length ≤ 16777216 := by
  have h2 := sumL_le (ws := log.map sgS) (k := 10) fun w hw => by
    obtain ⟨i, hi, rfl⟩ := List.mem_map.mp hw
    exact sgS_len (h i hi)
  rw [List.length_map] at h2
  have e : spC.length = 1 := by decide +kernel
  rw [e, List.length_map]
  show sumL (log.map sgS) + _ ≤ _
  omega
end G

set_option Elab.async false
set_option linter.all false
set_option maxRecDepth 100000
set_option maxHeartbeats 4000000
/-! Steps over texts: cuts, signs that are not in a text, insert, f"{x:+d}". -/
namespace G
open PySem PySem.Spec PyProof.Rows L2
def rNInS : R2 := fun x y H Q => ∃ (c : Nat) (z : Str), x = .str ⟨#[c]⟩ ∧ y = .str z ∧ Q (.bl (!decide (c ∈ z.cps.toList))) H
def rInsert : V → List V → Hp → VK → Prop := fun x vs H Q => ∃ (l : Addr) (xs : List V) (i : Int) (y : V), x = .ref l ∧ vs = [.int i, y] ∧ H l = some (.lst xs) ∧ xs.length < sizeLine ∧ 0 ≤ i ∧ i < 2 ^ 63 ∧ Q .non (upd H l (.lst (xs.take i.toNat ++ [y] ++ xs.drop i.toNat)))
theorem op_ninS {X : Cx} : OpR X (compareOp .NotIn) rNInS := op_notIn_sign
section
variable {K : PySem.W.Frag} {σ : L2.St} {H : Hp} {Q : VK} {ta tb tc te : TE} {x y v : V} {i j : Int} {n m : Nat} {p q : Addr} {xs ys : List V} {b c : Bool}
theorem w_ninS {c : Nat} {z : Str} (g : Q (.bl (!decide (c ∈ z.cps.toList))) H) : rNInS (.str ⟨#[c]⟩) (.str z) H Q := ⟨c, z, rfl, rfl, g⟩
theorem w_ins {k : Nat} (h : H p = some (.lst xs)) (hl : xs.length < sizeLine) (hk : k < 2 ^ 62) (g : ∀ H', Kp [p] H H' → H' p = some (.lst (xs.take k ++ [y] ++ xs.drop k)) → Q .non H') : rInsert (.ref p) [.int (k : Int), y] H Q :=
  ⟨p, xs, (k : Int), y, rfl, rfl, h, hl, by omega, by omega, by
    rw [Int.toNat_natCast]
    exact g _ (Kp.put (by simp)) upd_same⟩
theorem w_fmtP (g : te σ H fun x H1 => ∃ i : Int, x = .int i ∧ i.natAbs.log2 < 1920 ∧ (sgS i).length ≤ sizeLine ∧ Q (.str (sgS i)) H1) : tFmtP te σ H Q := g
theorem lp_str {D : Ends} {tb : TS} {g : TG} {x : Str} (Pv : Nat → L2.St → Hp → Prop) (h0 : Pv 0 σ H) (hs : ∀ (i : Nat) (c : Nat) σ' H', x.cps[i]? = some c → Pv i σ' H' → g (.str ⟨#[c]⟩) σ' H' fun σ2 H2 => tb { D with nx := Pv (i + 1), ct := Pv (i + 1), bk := D.nx } σ2 H2)
    (hd : ∀ σ' H', Pv x.cps.size σ' H' → D.nx σ' H') : LoopG (Its x) g tb D σ H := by
  refine ⟨fun i m σ H => m = x.cps.size - i ∧ i ≤ x.cps.size ∧ Pv i σ H, ⟨x.cps.size, by simp, Nat.zero_le _, h0⟩, ?_⟩
  rintro i m σ H ⟨rfl, hi, p⟩
  by_cases lt : i < x.cps.size
  · refine .inr ⟨lt, Pv (i + 1), fun σ' H' p' => ⟨x.cps.size - (i + 1), by omega, rfl, lt, p'⟩, fun v H' y => ?_⟩
    obtain ⟨rfl, c, hc, rfl⟩ := y
    exact hs i c σ _ hc p
  · have e : i = x.cps.size := by omega
    subst e
    exact .inl ⟨Nat.le_refl _, hd σ H p⟩
/-- a cut of a text -/
theorem w_slS {z : Str} {lo hi : Option Int} (hz : z.length ≤ sizeLine) (g : Q (.str (cutS z lo hi)) H) : rSlS (.str z) lo hi H Q := ⟨z, rfl, hz, g⟩
/-- the sign of a word -/
def sgnB (w : Str) : Bool := match TL.tl w with
  | [] => false
  | c :: _ => decide (c = 43 ∨ c = 45)
theorem okW_sgn (w : Str) : okW w = (sgnB w && posL (TL.tl (cutS w (some 1) none))) := by
  have e : TL.tl (cutS w (some 1) none) = (TL.tl w).drop 1 := tl_from w 1
  rw [e]
  unfold okW sgnB
  cases TL.tl w with
  | nil => rfl
  | cons c cs => rfl
theorem sg1 (w : Str) : inV (.str (cutS w none (some 1))) [.str "-", .str "+"] = sgnB w := by
  have e : TL.tl (cutS w none (some 1)) = (TL.tl w).take 1 := tl_upto w 1
  have em : ("-" : Str) = ⟨#[45]⟩ := by decide +kernel
  have ep : ("+" : Str) = ⟨#[43]⟩ := by decide +kernel
  unfold sgnB
  generalize hz : cutS w none (some 1) = z at e
  have key : ∀ k : Nat, eqV (.str ⟨#[k]⟩) (.str z) = decide (TL.tl z = [k]) := fun k => by
    show ((⟨#[k]⟩ : Str) == z) = _
    rw [Bool.eq_iff_iff, beq_iff_eq, decide_eq_true_iff]
    exact ⟨fun h => by rw [← h], fun h => (TL.ext_tl (by rw [h])).symm⟩
  unfold inV
  rw [em, ep]
  show (eqV _ _ || (eqV _ _ || false)) = _
  rw [key, key, e]
  cases TL.tl w with
  | nil => rfl
  | cons c cs =>
    show (decide ([c] = [45]) || (decide ([c] = [43]) || false)) = decide (c = 43 ∨ c = 45)
    rw [Bool.eq_iff_iff]
    simp
    omega
theorem sg2 (w : Str) : inV (.str (cutS w none (some 1))) [.str "+", .str "-"] = sgnB w := by
  rw [← sg1 w]
  unfold inV
  show (_ || (_ || false)) = (_ || (_ || false))
  rw [Bool.or_false, Bool.or_false, Bool.or_comm]
theorem bad_at {ws : List Str} {i : Nat} {w : Str} (h : ws[i]? = some w) (hb : okW w = false) (hp : ∀ x ∈ ws.take i, okW x = true) : badW ws = some i := by
  unfold badW
  rw [List.findIdx?_eq_some_iff_getElem]
  obtain ⟨l, e⟩ := List.getElem?_eq_some_iff.mp h
  refine ⟨l, by rw [e, hb]; rfl, fun j hj => ?_⟩
  have := hp ws[j] (List.mem_iff_getElem.mpr ⟨j, by rw [List.length_take]; omega, by rw [List.getElem_take]⟩)
  rw [this]
  exact Bool.false_ne_true
theorem bad_no {ws : List Str} (hp : ∀ x ∈ ws, okW x = true) : badW ws = none := by
  unfold badW
  rw [List.findIdx?_eq_none_iff]
  intro x hx
  rw [hp x hx]
  rfl
theorem take_all {α : Type} {P : α → Prop} {l : List α} {i : Nat} {x : α} (hx : l[i]? = some x) (h : ∀ y ∈ l.take i, P y) (hP : P x) : ∀ y ∈ l.take (i + 1), P y := by
  rw [List.take_succ, hx]
  intro y hy
  rcases List.mem_append.mp hy with hy | hy
  · exact h y hy
  · rw [Option.mem_toList.mp hy |> Option.some.inj |> Eq.symm]
    exact hP
end
end G

set_option Elab.async false
set_option linter.all false
set_option maxRecDepth 100000
set_option maxHeartbeats 4000000
/-! k00: promises. -/
namespace G
open PySem PySem.Spec PyProof.Rows L2 TL
/-- the law's box of draws: cells, place, number, seed, count -/
structure BxI (H : Hp) (b c : Addr) : Prop where
  ob : ∃ p q m t : Int, H b = some (.lst [.ref c, .int p, .int q, .int m, .int t]) ∧ 0 ≤ p
  hc : ∃ ns : List Int, H c = some (.lst (ns.map V.int)) ∧ ns.length ≤ 63
theorem BxI.ne {H : Hp} {b c : Addr} (h : BxI H b c) : b ≠ c := by
  obtain ⟨p, q, m, t, h1, _⟩ := h.ob
  obtain ⟨ns, h2, _⟩ := h.hc
  rintro rfl
  rw [h1] at h2
  injection h2 with h2
  injection h2 with h2
  cases ns with
  | nil => cases h2
  | cons x ns =>
    injection h2 with h2
    cases h2
theorem BxI.kp {H H' : Hp} {b c : Addr} {S : List Addr} (a : BxI H b c) (k : Kp S H H') (h1 : b ∉ S) (h2 : c ∉ S) : BxI H' b c := by
  obtain ⟨p, q, m, t, e1, p0⟩ := a.ob
  obtain ⟨ns, e2, e3⟩ := a.hc
  exact ⟨⟨p, q, m, t, k _ _ h1 e1, p0⟩, ⟨ns, k _ _ h2 e2, e3⟩⟩
theorem BxI.k0 {H H' : Hp} {b c : Addr} (a : BxI H b c) (k : Kp [] H H') : BxI H' b c := a.kp k (by simp) (by simp)
theorem BxI.fr {H : Hp} {b c x : Addr} (a : BxI H b c) (n : H x = none) : x ≠ b ∧ x ≠ c := by
  obtain ⟨_, _, _, _, e1, _⟩ := a.ob
  obtain ⟨_, e2, _⟩ := a.hc
  exact ⟨(ne_of_none e1 n).symm, (ne_of_none e2 n).symm⟩
/-- what a reading of the text is due to tell -/
def DueA (H : Hp) (t : Str) (xs : List V) : Prop := (∃ k : Nat, badW (wordsT t) = some k ∧ xs = [.bl false, .int (k : Int)]) ∨ (badW (wordsT t) = none ∧ ∃ l, xs = [.bl true, .ref l] ∧ H l = some (.lst (((wordsT t).map valW).map V.int)))
theorem DueA.k0 {H H' : Hp} {t : Str} {xs : List V} (h : DueA H t xs) (k : Kp [] H H') : DueA H' t xs := by
  rcases h with h | ⟨h, l, e, hl⟩
  · exact .inl h
  · exact .inr ⟨h, l, e, k.at0 hl⟩
section
def sp00__law_box (K : PySem.W.Frag) : Sp := fun vs H Q E => ∃ (a : Addr) (ns : List Int), vs = [.ref a] ∧ SqL K H a (ns.map V.int) ∧ ns.length ≤ 63 ∧ ∀ b c H', H b = none → H c = none → Kp [] H H' → BxI H' b c → Q (.ref b) H'
def sp00__law_draw (K : PySem.W.Frag) : Sp := fun vs H Q E => ∃ (b c : Addr) (many : Int), vs = [.ref b, .int many] ∧ 0 < many ∧ many < 2 ^ 30 ∧ BxI H b c ∧ ∀ (d : Int) H', 0 ≤ d → d < many → Kp [b] H H' → BxI H' b c → Q (.int d) H'
def sp00__law_is (K : PySem.W.Frag) : Sp := fun vs H Q E => ∃ i : Int, vs = [.int i, .int i] ∧ Q (.bl true) H
def sp00__law_integers (K : PySem.W.Frag) : Sp := fun vs H Q E => ∃ (a b : Addr) (xs : List Int), vs = [.ref a, .ref b] ∧ xs.length ≤ 100000 ∧ H a = some (.lst (xs.map V.int)) ∧ H b = some (.lst (xs.map V.int)) ∧ Q (.bl true) H
def sp00__law_node (K : PySem.W.Frag) : Sp := fun vs H Q E => ∃ (b c : Addr), vs = [.ref b] ∧ BxI H b c ∧ ∀ (d : Int) H', 1 ≤ d → d < 1000000000 → Kp [b] H H' → BxI H' b c → Q (.int d) H'
def sp00__law_log (K : PySem.W.Frag) : Sp := fun vs H Q E => ∃ (b c : Addr), vs = [.ref b] ∧ BxI H b c ∧ ∀ (log : List Int) q H', (∀ i ∈ log, OpT i) → log.length ≤ 47 → H q = none → Kp [b] H H' → BxI H' b c → H' q = some (.lst (log.map V.int)) → Q (.ref q) H'
def sp00__law_word (K : PySem.W.Frag) : Sp := fun vs H Q E => ∃ i : Int, vs = [.int i] ∧ OpT i ∧ Q (.str (sgS i)) H
def sp00__law_sign (K : PySem.W.Frag) : Sp := fun vs H Q E => ∃ (b c : Addr), vs = [.ref b] ∧ BxI H b c ∧ ∀ (s : Str) H', s.length = 1 → Kp [b] H H' → BxI H' b c → Q (.str s) H'
def sp00__law_odd_word (K : PySem.W.Frag) : Sp := fun vs H Q E => ∃ (b c : Addr) (w : Str), vs = [.ref b, .str w] ∧ w.length ≤ 20000 ∧ BxI H b c ∧ ∀ (s : Str) H', s.length ≤ 2 * w.length + 12 → Kp [b] H H' → BxI H' b c → Q (.str s) H'
def sp00__law_spoilt (K : PySem.W.Frag) : Sp := fun vs H Q E => ∃ (b c : Addr) (t : Str), vs = [.ref b, .str t] ∧ t.length ≤ 6000 ∧ BxI H b c ∧ ∀ (s : Str) H', s.length ≤ 5 * t.length + 30 → Kp [b] H H' → BxI H' b c → Q (.str s) H'
def sp00__law_number (K : PySem.W.Frag) : Sp := fun vs H Q E => ∃ w : Str, vs = [.str w] ∧ w.length ≤ 1000000 ∧ Q (.int (numV (tl w) : Nat)) H
def sp00__law_read (K : PySem.W.Frag) : Sp := fun vs H Q E => ∃ t : Str, vs = [.str t] ∧ t.length ≤ 40000 ∧ ∀ q xs H', H q = none → Kp [] H H' → H' q = some (.tup xs) → DueA H' t xs → Q (.ref q) H'
def sp00_is_positive (K : PySem.W.Frag) : Sp := fun vs H Q E => ∃ w : Str, vs = [.str w] ∧ w.length ≤ 1000000 ∧ Any H (.bl (posL (tl w))) Q
def sp_parse_log (K : PySem.W.Frag) : Sp := fun vs H Q E => ∃ t : Str, vs = [.str t] ∧ t.length ≤ 40000 ∧ (∀ k : Nat, badW (wordsT t) = some k → ∀ H', Kp [] H H' → Ex K "BadText" [("place", .int (k : Int))] E H') ∧
  (badW (wordsT t) = none → NewL H (((wordsT t).map valW).map V.int) Q)
def sp_format_log (K : PySem.W.Frag) : Sp := fun vs H Q E => ∃ (a : Addr) (log : List Int), vs = [.ref a] ∧ H a = some (.lst (log.map V.int)) ∧ log.length ≤ 1000 ∧
  (∀ k : Nat, log[k]? = some 0 → (∀ x ∈ log.take k, x ≠ 0) → ∀ H', Kp [] H H' → Ex K "BadOperation" [("index", .int (k : Int)), ("operation", .int 0)] E H') ∧
  ((0 : Int) ∉ log → (∀ x ∈ log, OpT x) ∧ Any H (.str (logT log)) Q)
def sp00__law_parse_right (K : PySem.W.Frag) : Sp := fun vs H Q E => ∃ (t : Str) (q : Addr) (xs : List V), vs = [.str t, .ref q] ∧ t.length ≤ 40000 ∧ H q = some (.tup xs) ∧ DueA H t xs ∧ Any H (.bl true) Q
def sp00__law_format_right (K : PySem.W.Frag) : Sp := fun vs H Q E => ∃ (a : Addr) (log : List Int), vs = [.ref a, .str (logT log)] ∧ H a = some (.lst (log.map V.int)) ∧ log.length ≤ 100 ∧ (∀ i ∈ log, OpT i) ∧ Any H (.bl true) Q
def sp00__law_zero_refused (K : PySem.W.Frag) : Sp := fun vs H Q E => ∃ (a : Addr) (log : List Int) (place more : Nat), vs = [.ref a, .int (place : Int), .int (more : Int)] ∧ H a = some (.lst (log.map V.int)) ∧ log.length ≤ 100 ∧ (∀ i ∈ log, OpT i) ∧ place ≤ log.length ∧ more ≤ 1 ∧ Any H (.bl true) Q
end
end G

set_option Elab.async false
set_option linter.all false
set_option maxRecDepth 100000
set_option maxHeartbeats 4000000
/-! k03: dumps of any form. -/
namespace G
open PySem PySem.Spec PyProof.Rows L2 TL NumText
/-! ### canonical digits -/
theorem digitsVal_snoc (cs : List Nat) (d : Nat) : digitsVal (cs ++ [d]) = digitsVal cs * 10 + (d - 48) := by
  unfold digitsVal
  rw [List.foldl_append]
  rfl
theorem num_back : ∀ cs : List Nat, cs ≠ [] → cs.head? ≠ some 48 → AllDigits cs → 1 ≤ digitsVal cs ∧ numL (digitsVal cs) = cs := by
  intro cs
  induction cs using snoc_ind with
  | h0 => exact fun h => absurd rfl h
  | h1 l x ih =>
    intro _ hh ha
    have hx : 48 ≤ x ∧ x ≤ 57 := ha x (by simp)
    rw [digitsVal_snoc]
    cases l with
    | nil =>
      have h0 : x ≠ 48 := fun z => hh (by rw [z] <;> rfl)
      have e0 : digitsVal [] = 0 := rfl
      rw [e0]
      refine ⟨by omega, ?_⟩
      rw [numL_lt (by omega), show 48 + (0 * 10 + (x - 48)) = x by omega]
      rfl
    | cons c r =>
      obtain ⟨i1, i2⟩ := ih (by simp) (by simpa using hh) (fun d hd => ha d (List.mem_append_left _ hd))
      refine ⟨by omega, ?_⟩
      rw [numL_step (by omega), show (digitsVal (c :: r) * 10 + (x - 48)) / 10 = digitsVal (c :: r) by omega, i2, show 48 + (digitsVal (c :: r) * 10 + (x - 48)) % 10 = x by omega]
def okN (w : Str) : Bool := decide (tl w = [48]) || posL (tl w)
def numZ (w : Str) : Int := if tl w = [48] then 0 else if posL (tl w) = true then ((digitsVal (tl w) : Nat) : Int) else -1
theorem numZ_no {w : Str} (h : okN w = false) : numZ w = -1 := by
  unfold okN at h
  rw [Bool.or_eq_false_iff, decide_eq_false_iff_not] at h
  unfold numZ
  rw [if_neg h.1, if_neg (by rw [h.2]; exact Bool.false_ne_true)]
theorem numZ_ok {w : Str} (h : okN w = true) : 0 ≤ numZ w ∧ w = numI (numZ w) ∧ w.length ≤ 9 ∧ intText? w = some (numZ w) := by
  unfold okN at h
  rw [Bool.or_eq_true, decide_eq_true_iff] at h
  by_cases c : tl w = [48]
  · have e : numZ w = 0 := if_pos c
    have ew : w = numI 0 := ext_tl (by rw [c]; decide +kernel)
    rw [e]
    refine ⟨by omega, ew, by rw [len_tl, c]; decide, ?_⟩
    rw [ew]
    decide +kernel
  · have hp : posL (tl w) = true := by
      rcases h with h | h
      · exact absurd h c
      · exact h
    have e : numZ w = ((digitsVal (tl w) : Nat) : Int) := by
      unfold numZ
      rw [if_neg c, if_pos hp]
    obtain ⟨⟨h1, h2, h3⟩, h4⟩ := posL_iff.mp hp
    rw [e]
    refine ⟨by omega, ext_tl ?_, by rw [len_tl]; omega, posL_int hp⟩
    rw [tl_numI (by omega), Int.toNat_natCast, (num_back _ h1 h3 h4).2]
theorem numZ_lt {w : Str} (h : 0 ≤ numZ w) : okN w = true := by
  cases e : okN w with
  | true => rfl
  | false =>
    rw [numZ_no e] at h
    omega
theorem numZ_ge (w : Str) : -1 ≤ numZ w := by
  cases e : okN w with
  | true =>
    have := (numZ_ok e).1
    omega
  | false =>
    rw [numZ_no e]
    omega
/-! ### what is split is joined again -/
theorem joinL_cons {S p : List Nat} {ps : List (List Nat)} (h : ps ≠ []) : joinL S (p :: ps) = p ++ (S ++ joinL S ps) := by
  cases ps with
  | nil => exact absurd rfl h
  | cons q r => rfl
theorem spl_ne (S : List Nat) : ∀ (l acc : List Nat) (k : Nat), spl S k acc l ≠ [] := by
  intro l
  induction l with
  | nil =>
    intro acc k
    rw [spl_nil]
    simp
  | cons c r ih =>
    intro acc k
    cases k with
    | zero =>
      cases h : pre S (c :: r) with
      | true =>
        rw [spl_hit h]
        simp
      | false =>
        rw [spl_miss h]
        exact ih _ _
    | succ k => exact ih _ _
theorem join_spl {S : List Nat} (hS : S ≠ []) : ∀ (n : Nat) (l acc : List Nat), l.length ≤ n → joinL S (spl S 0 acc l) = acc ++ l := by
  intro n
  induction n with
  | zero =>
    intro l acc h
    cases l with
    | nil =>
      rw [spl_nil, List.append_nil]
      rfl
    | cons c r => simp at h
  | succ n ih =>
    intro l acc h
    cases l with
    | nil =>
      rw [spl_nil, List.append_nil]
      rfl
    | cons c r =>
      cases hp : pre S (c :: r) with
      | true =>
        have lS : 0 < S.length := List.length_pos_iff.mpr hS
        rw [spl_hit hp, joinL_cons (spl_ne _ _ _ _), spl_pass, ih _ _ (by rw [List.length_drop]; simp at h; omega), List.nil_append]
        congr 1
        have e : (c :: r).take S.length = S := eq_of_beq hp
        have e2 : r.drop (S.length - 1) = (c :: r).drop S.length := by
          obtain ⟨k, hk⟩ : ∃ k, S.length = k + 1 := ⟨S.length - 1, by omega⟩
          rw [hk]
          rfl
        rw [e2]
        conv => lhs; arg 1; rw [← e]
        exact List.take_append_drop _ _
      | false =>
        rw [spl_miss hp, ih _ _ (by simp at h; omega), List.append_assoc]
        rfl
theorem join_split' {x y : Str} (hy : tl y ≠ []) (hk : y.cps.all (· < 256) = true) : Txt.join y (Txt.split x y) = x := by
  refine ext_tl ?_
  rw [join_eq, tl_join, split_spl x y hy (kind_ok hk), join_spl hy _ _ _ (Nat.le_refl _), List.nil_append]
theorem join_words (t : Str) : Txt.join spS (Txt.split t spS) = t := join_split' (by rw [tl_spS]; simp) (by decide +kernel)
theorem join_parts (t : Str) : Txt.join barS (Txt.split t barS) = t := join_split' (by rw [tl_barS]; simp) (by decide +kernel)
theorem spl_sumG {S : List Nat} : ∀ (l acc : List Nat) (k : Nat), ((spl S k acc l).map List.length).sum ≤ acc.length + l.length ∧ (spl S k acc l).length ≤ l.length + 1 := by
  intro l
  induction l with
  | nil =>
    intro acc k
    rw [spl_nil]
    refine ⟨by simp, by simp⟩
  | cons c r ih =>
    intro acc k
    cases k with
    | zero =>
      cases h : pre S (c :: r) with
      | true =>
        rw [spl_hit h]
        obtain ⟨i1, i2⟩ := ih [] (S.length - 1)
        refine ⟨?_, ?_⟩
        · simp only [List.map_cons, List.sum_cons, List.length_cons, List.length_nil] at i1 ⊢
          omega
        · simp only [List.length_cons] at i2 ⊢
          omega
      | false =>
        rw [spl_miss h]
        obtain ⟨i1, i2⟩ := ih (acc ++ [c]) 0
        refine ⟨?_, ?_⟩
        · simp only [List.length_append, List.length_cons, List.length_nil] at i1 ⊢
          omega
        · simp only [List.length_cons] at i2 ⊢
          omega
    | succ k =>
      obtain ⟨i1, i2⟩ := ih acc k
      have e : spl S (k + 1) acc (c :: r) = spl S k acc r := rfl
      rw [e]
      simp only [List.length_cons]
      exact ⟨by omega, by omega⟩
theorem parts_sum (t : Str) : sumL (Txt.split t barS) ≤ t.length ∧ (Txt.split t barS).length ≤ t.length + 1 ∧ Txt.split t barS ≠ [] := by
  have e := split_spl t barS (by rw [tl_barS]; simp) (kind_ok (by decide +kernel))
  obtain ⟨h1, h2⟩ := spl_sumG (S := tl barS) (tl t) [] 0
  have h3 := spl_ne (tl barS) (tl t) [] 0
  rw [← e] at h1 h2 h3
  refine ⟨?_, ?_, fun z => h3 (by rw [z] <;> rfl)⟩
  · have : (List.map List.length ((Txt.split t barS).map tl)).sum = sumL (Txt.split t barS) := by
      unfold sumL
      rw [List.map_map]
      congr 1
    rw [this] at h1
    rw [len_tl]
    simpa using h1
  · rw [List.length_map] at h2
    rw [len_tl]
    exact h2
/-! ### the parts of a dump -/
def nz (t : Str) : List Int := (Txt.split t spS).map numZ
theorem nz_len (t : Str) : (nz t).length = (Txt.split t spS).length := List.length_map ..
theorem nz_ne (t : Str) : nz t ≠ [] := fun z => (split_sum t).2.2 (by
  have := nz_len t
  rw [z] at this
  exact List.length_eq_zero_iff.mp this.symm)
theorem nz_at {t : Str} {i : Nat} {w : Str} (h : (Txt.split t spS)[i]? = some w) : gI (nz t) i = numZ w := gI_of (by unfold nz; rw [List.getElem?_map, h] <;> rfl)
theorem emp_split : Txt.split ("" : Str) spS = ([""] : List Str) := by
  refine map_tl_inj ?_
  rw [split_spl _ spS (by rw [tl_spS]; simp) (kind_ok (by decide +kernel))]
  decide +kernel
theorem nz_emp : nz "" = [-1] := by
  unfold nz
  rw [emp_split]
  have : numZ "" = -1 := numZ_no (by decide +kernel)
  rw [List.map_cons, this]
  rfl
def okR (R : List Int) : Prop := R.length ≤ 61 ∧ ∀ v, v < R.length → (v : Int) < gI R v ∧ gI R v ≤ R.length
def okL (L : List Int) (n : Nat) : Prop := L.length = n + 1 ∧ ∀ v, v ≤ n → 0 ≤ gI L v ∧ gI L v ≤ v
def okO (O : List Int) (n : Nat) : Prop := ∀ i, i < O.length → gI (0 :: O) i < gI O i ∧ gI O i ≤ n
def prt (t : Str) (i : Nat) : Str := (Txt.split t barS ++ (["", ""] : List Str)).getD i ""
def szT (t : Str) : Nat := (nz (prt t 0)).length - 1
def osT (t : Str) : List Int := if prt t 2 = noneS then [] else nz (prt t 2)
open Classical in
noncomputable def badP (t : Str) : Int :=
  if ¬ okR (nz (prt t 0)) then 0 else if ¬ okL (nz (prt t 1)) (szT t) then 1 else if ¬ okO (osT t) (szT t) then 2 else if 3 < (Txt.split t barS).length then 3 else -1
def bitsO (n : Nat) (O : List Int) : List Bool := (List.range (n + 2)).map fun (v : Nat) => decide ((v : Int) ∈ O)
def sdT (t : Str) : Sd := ⟨szT t, nz (prt t 0), 0 :: nz (prt t 1), bitsO (szT t) (osT t)⟩
theorem bits_len (n : Nat) (O : List Int) : (bitsO n O).length = n + 2 := by
  unfold bitsO
  rw [List.length_map, List.length_range]
theorem bits_at {n v : Nat} (O : List Int) (h : v < n + 2) : gB (bitsO n O) v = decide ((v : Int) ∈ O) := gB_of (by
  unfold bitsO
  rw [List.getElem?_map, List.getElem?_range h] <;> rfl)
theorem okO_lt {O : List Int} {n : Nat} (h : okO O n) : ∀ i, i < O.length → 1 ≤ gI O i ∧ gI O i ≤ n := by
  intro i
  induction i with
  | zero =>
    intro hi
    have := h 0 hi
    have e : gI (0 :: O) 0 = 0 := rfl
    rw [e] at this
    omega
  | succ i ih =>
    intro hi
    have := h (i + 1) hi
    have e : gI (0 :: O) (i + 1) = gI O i := rfl
    rw [e] at this
    have := ih (by omega)
    omega
theorem okO_mem {O : List Int} {n : Nat} (h : okO O n) {x : Int} (hx : x ∈ O) : 1 ≤ x ∧ x ≤ n := by
  obtain ⟨i, hi, rfl⟩ := List.mem_iff_getElem.mp hx
  have := okO_lt h i hi
  rwa [gI_of (List.getElem?_eq_getElem hi)] at this
theorem okO_pair {O : List Int} {n : Nat} (h : okO O n) : O.Pairwise (· < ·) := by
  rw [List.pairwise_iff_getElem]
  intro i j hi hj hij
  have key : ∀ k, i + 1 + k < O.length → gI O i < gI O (i + 1 + k) := by
    intro k
    induction k with
    | zero => exact fun hk => (h (i + 1) hk).1
    | succ k ih =>
      intro hk
      have := (h (i + 1 + (k + 1)) hk).1
      have e : gI (0 :: O) (i + 1 + (k + 1)) = gI O (i + 1 + k) := rfl
      rw [e] at this
      have := ih (by omega)
      omega
  have := key (j - (i + 1)) (by omega)
  rw [show i + 1 + (j - (i + 1)) = j by omega, gI_of (List.getElem?_eq_getElem hi), gI_of (List.getElem?_eq_getElem hj)] at this
  exact this
theorem filter_range_eq {n : Nat} : ∀ {O : List Int}, O.Pairwise (· < ·) → (∀ x ∈ O, 1 ≤ x ∧ x ≤ n) → (((List.range n).map fun (v : Nat) => v + 1).filter fun (v : Nat) => decide ((v : Int) ∈ O)).map (fun (v : Nat) => (v : Int)) = O := by
  intro O hp hb
  have s1 : ((((List.range n).map fun (v : Nat) => v + 1).filter fun (v : Nat) => decide ((v : Int) ∈ O)).map (fun (v : Nat) => (v : Int))).Pairwise (· < ·) := by
    rw [List.pairwise_map]
    refine List.Pairwise.imp (fun {a b} (h : a < b) => by omega) (List.Pairwise.filter _ ?_)
    rw [List.pairwise_map]
    exact List.Pairwise.imp (fun {a b} (h : a < b) => by omega) List.pairwise_lt_range
  have m : ∀ x : Int, x ∈ ((((List.range n).map fun (v : Nat) => v + 1).filter fun (v : Nat) => decide ((v : Int) ∈ O)).map (fun (v : Nat) => (v : Int))) ↔ x ∈ O := by
    intro x
    rw [List.mem_map]
    constructor
    · rintro ⟨v, hv, rfl⟩
      exact of_decide_eq_true (List.mem_filter.mp hv).2
    · intro hx
      have := hb x hx
      refine ⟨x.toNat, List.mem_filter.mpr ⟨List.mem_map.mpr ⟨x.toNat - 1, List.mem_range.mpr (by omega), by omega⟩, decide_eq_true ?_⟩, by omega⟩
      rw [Int.toNat_of_nonneg (by omega)]
      exact hx
  have nd : ∀ {l : List Int}, l.Pairwise (· < ·) → l.Nodup := fun h => List.Pairwise.imp (fun h => by omega) h
  have perm := (List.perm_ext_iff_of_nodup (nd s1) (nd hp)).mpr m
  exact perm.eq_of_pairwise (fun a b _ _ h1 h2 => by omega) s1 hp
theorem outs_bits {n : Nat} {O : List Int} (h : okO O n) : outN n (bitsO n O) = O := by
  unfold outN
  have e : (((List.range n).map fun (v : Nat) => v + 1).filter fun v => gB (bitsO n O) v) = (((List.range n).map fun (v : Nat) => v + 1).filter fun (v : Nat) => decide ((v : Int) ∈ O)) := by
    refine List.filter_congr fun v hv => ?_
    obtain ⟨u, hu, rfl⟩ := List.mem_map.mp hv
    have := List.mem_range.mp hu
    exact bits_at O (by omega)
  rw [e]
  exact filter_range_eq (okO_pair h) fun x hx => okO_mem h hx
/-- a right text -/
structure RightT (t : Str) : Prop where
  r : okR (nz (prt t 0))
  l : okL (nz (prt t 1)) (szT t)
  o : okO (osT t) (szT t)
theorem RightT.wf {t : Str} (h : RightT t) : Wf (sdT t) := by
  have hn := List.length_pos_iff.mpr (nz_ne (prt t 0))
  have e : (nz (prt t 0)).length = szT t + 1 := by
    unfold szT
    omega
  refine ⟨?_, e, by show (nz (prt t 1)).length + 1 = _; rw [h.l.1] <;> rfl, bits_len _ _, fun v hv => ?_, fun v h1 h2 => ?_⟩
  · have := h.r.1
    show szT t ≤ 60
    omega
  · have := h.r.2 v (by rw [e]; exact Nat.lt_succ_of_le hv)
    rw [e] at this
    exact this
  · obtain ⟨u, rfl⟩ : ∃ u, v = u + 1 := ⟨v - 1, by omega⟩
    have := h.l.2 u (by show u ≤ szT t; have : u + 1 ≤ szT t + 1 := h2; omega)
    show 0 ≤ gI (nz (prt t 1)) u ∧ gI (nz (prt t 1)) u < _
    omega
theorem RightT.snd {t : Str} (h : RightT t) : Snd (sdT t) := by
  refine ⟨⟨_, rfl⟩, ?_, ?_⟩
  · show gB (bitsO (szT t) (osT t)) 0 = false
    rw [bits_at _ (by omega)]
    exact decide_eq_false fun z => by have := okO_mem h.o z; omega
  · show gB (bitsO (szT t) (osT t)) (szT t + 1) = false
    rw [bits_at _ (by omega)]
    exact decide_eq_false fun z => by have := okO_mem h.o z; omega
theorem okR_num {t : Str} (h : okR (nz t)) : ∀ w ∈ Txt.split t spS, okN w = true := by
  intro w hw
  obtain ⟨i, hi, rfl⟩ := List.mem_iff_getElem.mp hw
  have := h.2 i (by rw [nz_len]; exact hi)
  rw [nz_at (List.getElem?_eq_getElem hi)] at this
  exact numZ_lt (by omega)
theorem okL_num {t : Str} {n : Nat} (h : okL (nz t) n) : ∀ w ∈ Txt.split t spS, okN w = true := by
  intro w hw
  obtain ⟨i, hi, rfl⟩ := List.mem_iff_getElem.mp hw
  have := h.2 i (by have := h.1; rw [nz_len] at this; omega)
  rw [nz_at (List.getElem?_eq_getElem hi)] at this
  exact numZ_lt (by omega)
theorem okO_num {t : Str} {n : Nat} (h : okO (nz t) n) : ∀ w ∈ Txt.split t spS, okN w = true := by
  intro w hw
  obtain ⟨i, hi, rfl⟩ := List.mem_iff_getElem.mp hw
  have := okO_lt h i (by rw [nz_len]; exact hi)
  rw [nz_at (List.getElem?_eq_getElem hi)] at this
  exact numZ_lt (by omega)
theorem joinI_nz {t : Str} (h : ∀ w ∈ Txt.split t spS, okN w = true) : joinI (nz t) = t := by
  unfold joinI nz
  rw [List.map_map]
  conv => rhs; rw [← join_words t]
  congr 1
  conv => rhs; rw [← List.map_id (Txt.split t spS)]
  exact List.map_congr_left fun w hw => (numZ_ok (h w hw)).2.1.symm
theorem prt_len {t : Str} (h : RightT t) : 3 ≤ (Txt.split t barS).length := by
  apply Classical.byContradiction
  intro z
  have ne := List.length_pos_iff.mpr (parts_sum t).2.2
  generalize eP : Txt.split t barS = P at z ne
  match P, z, ne with
  | [a], _, _ =>
    have e : prt t 1 = "" := by
      unfold prt
      rw [eP]
      rfl
    have := h.l
    rw [e, nz_emp] at this
    have := this.2 0 (by omega)
    have e1 : gI [-1] 0 = -1 := rfl
    rw [e1] at this
    omega
  | [a, b], _, _ =>
    have e : prt t 2 = "" := by
      unfold prt
      rw [eP]
      rfl
    have h2 := h.o
    have e2 : osT t = [-1] := by
      unfold osT
      rw [e, if_neg (by decide +kernel), nz_emp]
    rw [e2] at h2
    have := (h2 0 (by decide)).1
    have e1 : gI [-1] 0 = -1 := rfl
    have e3 : gI [0, -1] 0 = 0 := rfl
    rw [e1, e3] at this
    omega
  | _ :: _ :: _ :: r, z, _ => simp at z
theorem dump_back {t : Str} (h : RightT t) (hl : ¬ 3 < (Txt.split t barS).length) : dumpS (sdT t) = t := by
  have l3 := prt_len h
  conv => rhs; rw [← join_parts t]
  unfold dumpS
  show Txt.join barS [joinI (nz (prt t 0)), joinI (nz (prt t 1)), outsT (outN (szT t) (bitsO (szT t) (osT t)))] = _
  rw [outs_bits h.o, joinI_nz (okR_num h.r), joinI_nz (okL_num h.l)]
  have eo : outsT (osT t) = prt t 2 := by
    have ho := h.o
    unfold osT at ho ⊢
    by_cases c : prt t 2 = noneS
    · rw [if_pos c, c]
      rfl
    · rw [if_neg c] at ho ⊢
      unfold outsT
      rw [if_neg (nz_ne _), joinI_nz (okO_num ho)]
  rw [eo]
  unfold prt
  generalize Txt.split t barS = P at l3 hl
  match P, l3, hl with
  | [a, b, c], _, _ => rfl
  | _ :: _ :: _ :: _ :: r, _, hl => simp at hl
theorem badP_0 {t : Str} (h : ¬ okR (nz (prt t 0))) : badP t = 0 := if_pos h
theorem badP_1 {t : Str} (h0 : okR (nz (prt t 0))) (h : ¬ okL (nz (prt t 1)) (szT t)) : badP t = 1 := by
  unfold badP
  rw [if_neg (fun z => z h0), if_pos h]
theorem badP_2 {t : Str} (h0 : okR (nz (prt t 0))) (h1 : okL (nz (prt t 1)) (szT t)) (h : ¬ okO (osT t) (szT t)) : badP t = 2 := by
  unfold badP
  rw [if_neg (fun z => z h0), if_neg (fun z => z h1), if_pos h]
theorem badP_3 {t : Str} (h : RightT t) (hl : 3 < (Txt.split t barS).length) : badP t = 3 := by
  unfold badP
  rw [if_neg (fun z => z h.r), if_neg (fun z => z h.l), if_neg (fun z => z h.o), if_pos hl]
theorem badP_no {t : Str} (h : RightT t) (hl : ¬ 3 < (Txt.split t barS).length) : badP t = -1 := by
  unfold badP
  rw [if_neg (fun z => z h.r), if_neg (fun z => z h.l), if_neg (fun z => z h.o), if_neg hl]
theorem badP_right {t : Str} (h : badP t = -1) : RightT t ∧ ¬ 3 < (Txt.split t barS).length := by
  by_cases h0 : okR (nz (prt t 0))
  · by_cases h1 : okL (nz (prt t 1)) (szT t)
    · by_cases h2 : okO (osT t) (szT t)
      · by_cases hl : 3 < (Txt.split t barS).length
        · rw [badP_3 ⟨h0, h1, h2⟩ hl] at h
          omega
        · exact ⟨⟨h0, h1, h2⟩, hl⟩
      · rw [badP_2 h0 h1 h2] at h
        omega
    · rw [badP_1 h0 h1] at h
      omega
  · rw [badP_0 h0] at h
    omega
end G

set_option Elab.async false
set_option linter.all false
set_option maxRecDepth 100000
set_option maxHeartbeats 4000000
/-! k03: promises. -/
namespace G
open PySem PySem.Spec PyProof.Rows L2 TL
/-- the law's lists of links -/
structure WdZ (H : Hp) (r l o : Addr) (n : Nat) (R L : List Int) (O : List Bool) : Prop where
  hr : H r = some (.lst (R.map V.int))
  hl : H l = some (.lst (L.map V.int))
  ho : H o = some (.lst (O.map V.bl))
  ne : r ≠ l ∧ r ≠ o ∧ l ≠ o
  lR : R.length = n + 1
  lL : L.length = n + 2
  lO : O.length = n + 2
  rb : ∀ v : Nat, v ≤ n → (v : Int) < gI R v ∧ gI R v ≤ (n : Int) + 1
  lb : ∀ v : Nat, 1 ≤ v → v ≤ n + 1 → 0 ≤ gI L v ∧ gI L v < (v : Int)
  o0 : gB O 0 = false
  o1 : gB O (n + 1) = false
theorem WdZ.kp {H H' : Hp} {r l o : Addr} {n : Nat} {R L : List Int} {O : List Bool} {S : List Addr} (a : WdZ H r l o n R L O) (k : Kp S H H') (h1 : r ∉ S) (h2 : l ∉ S) (h3 : o ∉ S) : WdZ H' r l o n R L O :=
  ⟨k _ _ h1 a.hr, k _ _ h2 a.hl, k _ _ h3 a.ho, a.ne, a.lR, a.lL, a.lO, a.rb, a.lb, a.o0, a.o1⟩
theorem WdZ.k0 {H H' : Hp} {r l o : Addr} {n : Nat} {R L : List Int} {O : List Bool} (a : WdZ H r l o n R L O) (k : Kp [] H H') : WdZ H' r l o n R L O := a.kp k (by simp) (by simp) (by simp)
theorem WdZ.setR {H H' : Hp} {r l o : Addr} {n v : Nat} {x : Int} {R L : List Int} {O : List Bool} (a : WdZ H r l o n R L O) (hv : v ≤ n) (h1 : (v : Int) < x) (h2 : x ≤ (n : Int) + 1) (k : Kp [r] H H') (h : H' r = some (.lst ((R.map V.int).set v (.int x)))) : WdZ H' r l o n (R.set v x) L O := by
  refine ⟨by rw [h, set_I], k.at1 (Ne.symm a.ne.1) a.hl, k.at1 (Ne.symm a.ne.2.1) a.ho, a.ne, by rw [List.length_set, a.lR], a.lL, a.lO, fun u hu => ?_, a.lb, a.o0, a.o1⟩
  rw [gI_set (by rw [a.lR]; omega)]
  by_cases c : u = v
  · rw [if_pos c]
    omega
  · rw [if_neg c]
    exact a.rb u hu
theorem WdZ.setL {H H' : Hp} {r l o : Addr} {n v : Nat} {x : Int} {R L : List Int} {O : List Bool} (a : WdZ H r l o n R L O) (hv1 : 1 ≤ v) (hv : v ≤ n + 1) (h1 : 0 ≤ x) (h2 : x < (v : Int)) (k : Kp [l] H H') (h : H' l = some (.lst ((L.map V.int).set v (.int x)))) : WdZ H' r l o n R (L.set v x) O := by
  refine ⟨k.at1 a.ne.1 a.hr, by rw [h, set_I], k.at1 (Ne.symm a.ne.2.2) a.ho, a.ne, a.lR, by rw [List.length_set, a.lL], a.lO, a.rb, fun u hu1 hu => ?_, a.o0, a.o1⟩
  rw [gI_set (by rw [a.lL]; omega)]
  by_cases c : u = v
  · rw [if_pos c]
    omega
  · rw [if_neg c]
    exact a.lb u hu1 hu
theorem WdZ.setO {H H' : Hp} {r l o : Addr} {n v : Nat} {x : Bool} {R L : List Int} {O : List Bool} (a : WdZ H r l o n R L O) (hv1 : 1 ≤ v) (hv : v ≤ n) (k : Kp [o] H H') (h : H' o = some (.lst ((O.map V.bl).set v (.bl x)))) : WdZ H' r l o n R L (O.set v x) := by
  refine ⟨k.at1 a.ne.2.1 a.hr, k.at1 a.ne.2.2 a.hl, by rw [h, set_B], a.ne, a.lR, a.lL, by rw [List.length_set, a.lO], a.rb, a.lb, ?_, ?_⟩
  · rw [gB_set (by rw [a.lO]; omega), if_neg (by omega)]
    exact a.o0
  · rw [gB_set (by rw [a.lO]; omega), if_neg (by omega)]
    exact a.o1
def dumpW (n : Nat) (R L : List Int) (O : List Bool) : Str := Txt.join barS [joinI R, joinI (L.drop 1), outsT (outN n O)]
section
def sp03__law_world (K : PySem.W.Frag) : Sp := fun vs H Q E => ∃ (b c : Addr) (n : Nat), vs = [.ref b, .int (n : Int)] ∧ n ≤ 62 ∧ BxI H b c ∧ ∀ (R L : List Int) (O : List Bool) w r l o H', H w = none → H r = none → H l = none → H o = none → Kp [b] H H' → BxI H' b c → H' w = some (.lst [.ref r, .ref l, .ref o]) → WdZ H' r l o n R L O → Q (.ref w) H'
def sp03__law_bend (K : PySem.W.Frag) : Sp := fun vs H Q E => ∃ (b c r l o : Addr) (n : Nat) (R L : List Int) (O : List Bool), vs = [.ref b, .int (n : Int), .ref r, .ref l] ∧ n ≤ 62 ∧ BxI H b c ∧ WdZ H r l o n R L O ∧ (b ≠ r ∧ b ≠ l ∧ b ≠ o ∧ c ≠ r ∧ c ≠ l) ∧ ∀ (R' L' : List Int) H', Kp [b, r, l] H H' → BxI H' b c → WdZ H' r l o n R' L' O → Q .non H'
def sp03__law_dump (K : PySem.W.Frag) : Sp := fun vs H Q E => ∃ (r l o : Addr) (n : Nat) (R L : List Int) (O : List Bool), vs = [.int (n : Int), .ref r, .ref l, .ref o] ∧ n ≤ 62 ∧ WdZ H r l o n R L O ∧ Any H (.str (dumpW n R L O)) Q
def sp03__law_dump_size (K : PySem.W.Frag) : Sp := fun vs H Q E => ∃ (b c : Addr), vs = [.ref b] ∧ BxI H b c ∧ ∀ (n : Nat) H', n ≤ 62 → Kp [b] H H' → BxI H' b c → Q (.int (n : Int)) H'
def sp03__law_any_word (K : PySem.W.Frag) : Sp := fun vs H Q E => ∃ (b c : Addr) (n p : Nat), vs = [.ref b, .int (n : Int), .int (p : Int)] ∧ n ≤ 100 ∧ p ≤ 1000000 ∧ BxI H b c ∧ ∀ (s : Str) H', s.length ≤ 12 → Kp [b] H H' → BxI H' b c → Q (.str s) H'
def sp03__law_bent_words (K : PySem.W.Frag) : Sp := fun vs H Q E => ∃ (b c a : Addr) (n : Nat) (W : List Str), vs = [.ref b, .int (n : Int), .ref a] ∧ n ≤ 100 ∧ H a = some (.lst (W.map V.str)) ∧ W ≠ [] ∧ W.length ≤ 100000 ∧ sumL W ≤ 100000 ∧ BxI H b c ∧
  ∀ (X : List Str) q H', sumL X ≤ 3 * sumL W + 24 → X.length ≤ W.length + 1 → H q = none → Kp [b] H H' → BxI H' b c → H' q = some (.lst (X.map V.str)) → Q (.ref q) H'
def sp03__law_sign (K : PySem.W.Frag) : Sp := fun vs H Q E => ∃ (b c : Addr), vs = [.ref b] ∧ BxI H b c ∧ ∀ (s : Str) H', s.length = 1 → Kp [b] H H' → BxI H' b c → Q (.str s) H'
def sp03__law_bent_text (K : PySem.W.Frag) : Sp := fun vs H Q E => ∃ (b c a : Addr) (x y z : Str), vs = [.ref b, .ref a] ∧ H a = some (.lst [.str x, .str y, .str z]) ∧ x.length ≤ 30000 ∧ y.length ≤ 30000 ∧ z.length ≤ 30000 ∧ BxI H b c ∧ a ≠ b ∧
  ∀ (s : Str) H', s.length ≤ 200000 → Kp [b] H H' → BxI H' b c → Q (.str s) H'
def sp03__law_number (K : PySem.W.Frag) : Sp := fun vs H Q E => ∃ w : Str, vs = [.str w] ∧ w.length ≤ 1000000 ∧ Q (.int (numZ w)) H
def sp03__law_bad_part (K : PySem.W.Frag) : Sp := fun vs H Q E => ∃ t : Str, vs = [.str t] ∧ t.length ≤ 300000 ∧ Any H (.int (badP t)) Q
def sp03__law_standing_right (K : PySem.W.Frag) : Sp := fun vs H Q E => ∃ (p r l o : Addr) (t : Str), vs = [.ref p, .str t] ∧ t.length ≤ 300000 ∧ LinksAt K H p r l o (sdT t) ∧ RightT t ∧ ¬ 3 < (Txt.split t barS).length ∧ Any H (.bl true) Q
def sp03__law_read_right (K : PySem.W.Frag) : Sp := fun vs H Q E => ∃ t : Str, vs = [.str t] ∧ t.length ≤ 300000 ∧ Any H (.bl true) Q
def BadD (K : PySem.W.Frag) (k : Int) (E : XK) (H : Hp) : Prop := ∀ H', Kp [] H H' → Ex K "BadDump" [("part", .int k)] E H'
def sp03__read_numbers (K : PySem.W.Frag) : Sp := fun vs H Q E => ∃ (t : Str) (k : Int), vs = [.str t, .int k] ∧ t.length ≤ 300000 ∧ ((∃ w ∈ Txt.split t spS, okN w = false) → BadD K k E H) ∧ ((∀ w ∈ Txt.split t spS, okN w = true) → NewL H ((nz t).map V.int) Q)
def sp03__read_rights (K : PySem.W.Frag) : Sp := fun vs H Q E => ∃ (t : Str), vs = [.str t] ∧ t.length ≤ 300000 ∧ (¬ okR (nz t) → BadD K 0 E H) ∧ (okR (nz t) → NewL H ((nz t).map V.int) Q)
def sp03__read_lefts (K : PySem.W.Frag) : Sp := fun vs H Q E => ∃ (t : Str) (n : Nat), vs = [.str t, .int (n : Int)] ∧ t.length ≤ 300000 ∧ n ≤ 60 ∧ (¬ okL (nz t) n → BadD K 1 E H) ∧ (okL (nz t) n → NewL H ((nz t).map V.int) Q)
def sp03__read_outs (K : PySem.W.Frag) : Sp := fun vs H Q E => ∃ (t : Str) (n : Nat), vs = [.str t, .int (n : Int)] ∧ t.length ≤ 300000 ∧ n ≤ 60 ∧ (¬ okO (if t = noneS then [] else nz t) n → BadD K 2 E H) ∧ (okO (if t = noneS then [] else nz t) n → NewL H ((if t = noneS then [] else nz t).map V.int) Q)
def sp03_Links_read (K : PySem.W.Frag) : Sp := fun vs H Q E => ∃ t : Str, vs = [.str t] ∧ t.length ≤ 300000 ∧ (badP t ≠ -1 → BadD K (badP t) E H) ∧ (badP t = -1 → NewS K H (sdT t) Q)
def sp03_Links_is_out (K : PySem.W.Frag) : Sp := fun vs H Q E => ∃ (p r l o : Addr) (s : Sd) (v : Nat), vs = [.ref p, .int (v : Int)] ∧ LinksAt K H p r l o s ∧ v ≤ s.n + 1 ∧ Q (.bl (gB s.O v)) H
end
end G

set_option Elab.async false
set_option linter.all false
set_option maxRecDepth 100000
set_option maxHeartbeats 4000000
/-! Two clauses under one name. -/
namespace G
open PySem PySem.Spec PyProof.Rows L2
/-- an except clause of the text with the name y: the class it names, what its suite does -/
structure Cls1 (Y : Cx) (y : Str) (hd : ExceptHandler) (kl : Value) (su : Addr → Value → Option Addr → TS) : Prop where
  ex : ∃ (nm : Str) (p1 p2 : Pos) (st : Stmt) (sts : List Stmt), hd = .ExceptHandler (some (.Name nm p1)) (some y) (st :: sts) p2 ∧ Names Y nm kl ∧
    ∀ (e : Addr) (ob : Obj) (kc : Value) (dd : Option Addr) (pp : List (Addr × Obj)), L2N.Zn kc dd ob → (∃ fs, ob.data = .fields fs) → PSs (Y.suite e ((e, ob) :: pp)) (st :: sts) (su e kc dd)
/-- what stands of an error that has come down to its try -/
structure Down (Y : Cx) (pp : List (Addr × Obj)) (τ : L2.St) (G0 : Hp) (e : Addr) (kc : Value) (dd : Option Addr) (B : Heap) (u0 : Shared) (u : Shared) (g : Heap) : Prop where
  inv : Inv Y pp τ G0 u0
  keep : ∀ b o, u0.heap.get? b = some o → b ∉ frs Y.stack → B.get? b = some o
  slots : u0.heap.UpToSlots g
  fly : PySem.HandSPX.FlyingZ B (Y.env :: Y.outer) e (L2N.Zn kc dd) g
  nw : G0 e = none
  os : u.os = u0.os
  bare : AllBare u.gens
  nl : e ≠ Y.env.locals
  nf : e ∉ Y.fs
section
variable {Y : Cx} {y : Str} {k : Nat} {pp : List (Addr × Obj)} {τ : L2.St} {G0 : Hp} {e : Addr} {kc : Value} {dd : Option Addr} {B : Heap} {u0 u : Shared} {g : Heap} {D : Ends} {Wo : WX}
/-- what the clauses from here on do with it -/
def After (Y : Cx) (pp : List (Addr × Obj)) (D : Ends) (e : Addr) (hds : List ExceptHandler) (u : Shared) (g : Heap) : Prop :=
  wpAny (model Y.prog Y.w) Y.A (handleBy (.ref e) Y.env hds) (SP Y pp D) Y.xe { u with heap := g }
theorem Down.held (d0 : Down Y pp τ G0 e kc dd B u0 u g) : Inv Y pp τ G0 { u with heap := g } := Inv.landed d0.inv d0.keep d0.fly.1 d0.slots d0.os d0.bare
/-- no clause takes it: it goes on -/
theorem after_none (sk : Y.stack = Y.env :: Y.outer) (fr : Y.env.frame = some Y.env.locals) (tk : L2N.Takes Y Wo) (d0 : Down Y pp τ G0 e kc dd B u0 u g) (w : Wo kc dd τ G0) : After Y pp D e [] u g := by
  refine wpAny_handleBy_nil ?_
  obtain ⟨-, -, -, ob, fs, T, -, -, hob, -, hfs, h1, -⟩ := id d0.fly
  unfold PySem.passOn
  refine wpAny_bind (wpAny_field hob hfs h1 ?_)
  rw [if_neg (by simp : ¬ ((Value.ref T == Value.none) = true))]
  have out : wpAny (model Y.prog Y.w) Y.A (setFlight (.ref e) Y.env.frame) (fun _ v => wpAny (model Y.prog Y.w) Y.A (throw (.ref e) : Sem Flow) (SP Y pp D) Y.xe v) Y.xe { u with heap := g } := by
    rw [fr]
    exact HandSPX.setFlight_upZ d0.fly fun g2 hh2 up2 => wpAny_throw (tk _ _ ⟨e, B, u0, pp, τ, G0, kc, dd, rfl, d0.inv, d0.keep, d0.slots.trans up2, .inr (.inr (sk ▸ hh2)), d0.nw, d0.os, d0.bare, w⟩)
  first
    | exact wpAny_bind (wpAny_pure (wpAny_bind out))
    | exact wpAny_bind out
/-- one clause, the others behind it -/
theorem after_one {hd : ExceptHandler} {hds : List ExceptHandler} {kl : Value} {su : Addr → Value → Option Addr → TS} (nd : Y.N.Nodup) (at_ : Y.N[k]? = some y) (lo : Y.env.kindOf y = some .local) (c : Cls1 Y y hd kl su)
    (rest : ∀ g2, Down Y pp τ G0 e kc dd B u0 u g2 → Wo kc dd τ G0 → After Y pp D e hds u g2) (d0 : Down Y pp τ G0 e kc dd B u0 u g) (w : wAs Y.K kl k su Wo D kc dd τ G0) : After Y pp D e (hd :: hds) u g := by
  obtain ⟨nm, p1, p2, st, sts, rfl, hn, hs⟩ := c.ex
  obtain ⟨hit, m1, yes, no⟩ := w
  obtain ⟨ob, fs, hob, hz, hfs⟩ := d0.fly.there
  have J := d0.held
  have here : Inv (Y.suite e ((e, ob) :: (Y.pn ++ pp))) [] τ G0 { u with heap := g } := J.suite hob hfs d0.nw d0.nl d0.nf
  have told := PySem.W.exm_one (M := model Y.prog Y.w) J.kIn (fun A Q E s keep q => wpAny_typeOf_ref (keep _ _ hob) (by rw [hz.1]; exact q) : PySem.W.Looks (model Y.prog Y.w) g (typeOf (.ref e)) kc) m1
  have name_ : ∀ {Q : Value → Shared → Prop} {E : Value → Shared → Prop}, Q kl { u with heap := g } → wpAny (model Y.prog Y.w) (Y.A.mark (some (.ref e))) (eval (.Name nm p1) Y.env) Q E { u with heap := g } := fun {Q E} q => by
    rcases hn with ⟨hg, hb, m | ⟨m, v, nn⟩⟩
    · exact ld_glob (X := Y.suite e ((e, ob) :: (Y.pn ++ pp))) here hg m q hb
    · exact ld_blt (X := Y.suite e ((e, ob) :: (Y.pn ++ pp))) here hg m v q nn hb
  refine wpAny_handleBy_cons (codeAny_handlers_test (name_ (told.here ?_))) (by rintro ⟨⟩)
  cases hit with
  | false => exact rest g d0 (no rfl)
  | true =>
    refine codeAny_handlers_suite_as (HandSPX.lands_againZ d0.fly fun g2 f2 up2 => ?_)
    have d2 : Down Y pp τ G0 e kc dd B u0 u g2 := { d0 with slots := d0.slots.trans up2, fly := f2 }
    obtain ⟨ob2, fs2, hob2, hz2, hfs2⟩ := f2.there
    have here2 := d2.held.suite hob2 hfs2 d0.nw d0.nl d0.nf
    refine store_ok (X := Y.suite e ((e, ob2) :: (Y.pn ++ pp))) (v := .ref e) here2 nd at_ (.inl lo) rfl (fun u5 I5 => ?_) (.inr lo)
    have bye : ∀ {τ6 : L2.St} {G6 : Hp} {u6 : Shared} {R : Shared → Prop}, Inv (Y.suite e ((e, ob2) :: (Y.pn ++ pp))) [] τ6 G6 u6 → (∀ u7, Inv Y pp (τ6.set k none) G6 u7 → R u7) →
        wpAny (model Y.prog Y.w) Y.A (do bindName Y.env y .none; unbindBehindTheSuite Y.env y p2) (fun _ u7 => R u7) Y.xe u6 := fun i6 q => gone_ok (i6.unsuite J.ok) nd at_ lo q
    refine wpAny_mono ((hs e ob2 kc dd (Y.pn ++ pp) hz2 ⟨_, hfs2⟩).run [] u5 _ G0 _ I5 (yes rfl e d0.nw)) (fun fl u6 sp => ?_) (fun _ _ z => z.elim)
    rcases fl with _ | _ | _ | v
    · obtain ⟨τ6, G6, i6, q6⟩ := sp
      exact bye i6 fun u7 j7 => ⟨_, _, j7, q6⟩
    · obtain ⟨τ6, G6, i6, q6⟩ := sp
      exact bye i6 fun u7 j7 => ⟨_, _, j7, q6⟩
    · obtain ⟨τ6, G6, i6, q6⟩ := sp
      exact bye i6 fun u7 j7 => ⟨_, _, j7, q6⟩
    · obtain ⟨v6, τ6, G6, i6, r6, q6⟩ := sp
      exact bye i6 fun u7 j7 => ⟨_, _, _, j7, r6, q6⟩
/-- a try with two clauses under one name -/
theorem ps_try2 {body : List Stmt} {h1 h2 : ExceptHandler} {pos : Pos} {tb : WX → TS} {c1 c2 : Value} {s1 s2 : Addr → Value → Option Addr → TS} (sk : Y.stack = Y.env :: Y.outer) (fr : Y.env.frame = some Y.env.locals) (nd : Y.N.Nodup) (at_ : Y.N[k]? = some y)
    (lo : Y.env.kindOf y = some .local) (tk : L2N.Takes Y Wo) (hb : ∀ (W : WX) (pn : List (Addr × Obj)) (xe : Value → Shared → Prop), L2N.Takes (Y.tr pn xe) W → PassesOwn (model Y.prog Y.w) Y.A Y.env xe → PSs (Y.tr pn xe) body (tb W))
    (k1 : Cls1 Y y h1 c1 s1) (k2 : Cls1 Y y h2 c2 s2) : PS Y (.Try body [h1, h2] [] [] pos) (fun D σ H => tb (wAs Y.K c1 k s1 (wAs Y.K c2 k s2 Wo D) D) D σ H) := by
  refine ⟨fun pp u τ G0 D I q => ?_⟩
  have ok := I.ok
  refine wpAny_Try_except (wpAny_mono ((hb (wAs Y.K c1 k s1 (wAs Y.K c2 k s2 Wo D) D) (Y.pn ++ pp) (fun v v1 => wpAny (model Y.prog Y.w) Y.A (noteFrame v Y.env) (fun _ v2 => wpAny (model Y.prog Y.w) Y.A (setFlight v none) (fun _ v3 =>
    wpAny (model Y.prog Y.w) Y.A (handleBy v Y.env [h1, h2]) (SP Y pp D) Y.xe v3) Y.xe v2) Y.xe v1) (fun v u' air => ?_) PassesOwn.looking).run [] u τ G0 D (I.toTry _) q) (fun fl v1 sp => ?_) fun _ _ z => z)
  · obtain ⟨e, B, u0, pp', τ1, G1, kc, dd, rfl, J', keep, up, sky, na, os, ag, w⟩ := air
    have J : Inv Y pp τ1 G1 u0 := J'.ofTry ok
    refine L2N.Sky.land L2N.Zn.steady (by rw [ok.frames, sk]) fr (sk ▸ sky) fun g f1 up1 => ?_
    obtain ⟨ob, fs, hob, -, hfs⟩ := f1.there
    have off : e ∉ frs (Y.env :: Y.outer) := fun hm => by
      obtain ⟨-, o', e', nf⟩ := f1.2.2.1.mem hm
      rw [hob] at e'
      cases e'
      exact nf _ hfs
    have d0 : Down Y pp τ1 G1 e kc dd B u0 u' g := ⟨J, keep, up.trans up1, f1, na, os, ag, fun z => off (List.mem_filterMap.mpr ⟨Y.env, List.mem_cons_self, by rw [fr, z]⟩), fun hm => by
      obtain ⟨v, hv, q⟩ := List.mem_filterMap.mp hm
      exact off (List.mem_filterMap.mpr ⟨v, List.mem_cons_of_mem _ hv, q⟩)⟩
    exact after_one nd at_ lo k1 (fun g2 d2 w2 => after_one nd at_ lo k2 (fun g3 d3 w3 => after_none sk fr tk d3 w3) d2 w2) d0 w
  · rcases fl with _ | _ | _ | v
    · obtain ⟨τ1, G1, j1, q1⟩ := sp
      exact wpAny_execs_nil ⟨τ1, G1, j1.ofTry ok, q1⟩
    · obtain ⟨τ1, G1, j1, q1⟩ := sp
      exact ⟨τ1, G1, j1.ofTry ok, q1⟩
    · obtain ⟨τ1, G1, j1, q1⟩ := sp
      exact ⟨τ1, G1, j1.ofTry ok, q1⟩
    · obtain ⟨v1, τ1, G1, j1, r1, q1⟩ := sp
      exact ⟨v1, τ1, G1, j1.ofTry ok, r1, q1⟩
end
end G

set_option Elab.async false
set_option linter.all false
set_option maxRecDepth 100000
set_option maxHeartbeats 4000000
/-! == with data of another kind, len and str by an own method, len(range(..)). -/
namespace G
open PySem PySem.Spec PyProof.Rows L2
/-- an own def, run behind built-ins -/
theorem run_at {X : Cx} {k : Nat} {f : Addr} {fd : FuncData} {ps : List Str} {sp : Sp} {A' : Around} {pins : List (Addr × Obj)} {σ : L2.St} {H : Hp} {s : Shared} {Q : VK} {E : XK} {us : List Value} {vs : List V} (F : FnOk X.prog X.w X.K X.mg X.base (L2N.CX X.prog X.w) k f fd ps sp) (hr : Room k A') (hb : Binds X.K fd ps [])
    (he : Env0 X.prog X.w X.K X.mg X.base A' X.stack s H) (hx : PAt X (fun _ => E)) (I : Inv X pins σ H s) (r : Vals vs us) (h : sp vs H Q E) : wpAny (model X.prog X.w) A' (call (.ref f) us) (EP X pins σ Q) X.xe s := by
  have hl : us.length = ps.length := by rw [← r.length]; exact F.len _ _ _ _ h
  have b := hb s us I.kIn (by rw [List.append_nil]; exact hl)
  rw [List.append_nil] at b
  refine wpAny_call (codeAny_mono (F.run A' X.stack s H ⟨us, []⟩ us vs Q E hr he b r h) fun r s' hq => ?_)
  cases r with
  | error e => exact hx σ pins H s e s' I hq
  | ok fl =>
    cases fl with
    | ret u => exact I.after hq
    | next => exact False.elim hq
    | brk => exact False.elim hq
    | cont => exact False.elim hq
section
variable {X : Cx} {j k : Nat} {ps : List Str} {sp : Sp} {E : XK} {C f : Addr} {fd : FuncData}
/-- == of an instance with text or a number -/
def rOwnF (K : PySem.W.Frag) (C : Addr) (sp : Sp) (E : XK) : R2 := fun x y H Q => ∃ a dx fs, x = .ref a ∧ H a = some (.ins C dx fs) ∧ ((∃ z, y = .str z ∧ PySem.W.notFirst K C (.type "str") = true) ∨ (∃ i, y = .int i ∧ PySem.W.notFirst K C (.type "int") = true)) ∧ sp [.ref a, y] H (fun v H' => (∃ k, v = .bl k) ∧ Q v H') E
theorem op_ownF (F : FnOk X.prog X.w X.K X.mg X.base (L2N.CX X.prog X.w) k f fd ps sp) (hb : Binds X.K fd ps []) (hr : Room j X.A) (hk : k ≤ j) (hx : PAt X (fun _ => E))
    (hs : PySem.W.findIn X.K (.ref C) "__eq__" = some (some (.ref f))) (hf : PySem.W.isFn X.K (.ref f) = true) : OpR X (compareOp .Eq) (rOwnF X.K C sp E) := by
  intro pins s σ H x y u v Q I rx ry hq
  obtain ⟨a, dx, fs, rfl, ha, hy, q⟩ := hq
  cases rx
  obtain ⟨mA, J, _⟩ := ins_get I.hok ha
  obtain ⟨od, J, _⟩ := J.look
  obtain ⟨m, hF⟩ := I.fr
  show wpAny (model X.prog X.w) X.A (richCompare .Eq (.ref a) v) (EP X pins σ Q) X.xe s
  have body := run_fnS (E := fun _ => E) (us := [.ref a, v]) (vs := [.ref a, y]) F (hr.mono hk) hb (hx σ) I (.cons rfl (.cons ry .nil)) q
  have body' : wpAny (model X.prog X.w) X.A (call (.ref f) [.ref a, v]) (PySem.W.CmpBack (EP X pins σ Q)) X.xe s := by
    refine wpAny_mono body (fun r s' z => ?_) fun _ _ x => x
    obtain ⟨w, H', I', rw_, ⟨kk, rfl⟩, qq⟩ := z
    cases rw_
    exact ⟨.bl kk, H', I', rfl, qq⟩
  rcases hy with ⟨z, rfl, hn⟩ | ⟨i, rfl, hn⟩
  · obtain ⟨t, rfl⟩ := ry
    exact PySem.W.cmp_K (op := .Eq) (tb := .type "str") hr.units0 hF I.ok.mod.kin J (fun A Q E s _ q => wpAny_pure q) hn hs hf body'
  · obtain ⟨t, rfl⟩ := ry
    exact PySem.W.cmp_K (op := .Eq) (tb := .type "int") hr.units0 hF I.ok.mod.kin J (fun A Q E s _ q => wpAny_pure q) hn hs hf body'
end
end G
namespace G
open PySem PySem.Spec PyProof.Rows L2
section
variable {X : Cx} {j k : Nat} {ps : List Str} {sp : Sp} {E : XK} {C f : Addr} {fd : FuncData}
/-- == of data, of two instances, of an instance with text or a number -/
def rEqF (K : PySem.W.Frag) (C : Addr) (sp : Sp) (E : XK) : R2 := fun x y H Q => rEqO K C sp E x y H Q ∨ rOwnF K C sp E x y H Q
theorem op_eqF {i : Nat} (c : Met X.prog X.w X.K X.mg X.base k C "__eq__" ps sp) (hr : Room j X.A) (hk : k ≤ j) (hx : PAt X (fun _ => E)) : OpR X (compareOp .Eq) (rEqF X.K C sp E) := by
  have o1 : OpR X (compareOp .Eq) (rEqO X.K C sp E) := op_eqO (i := i) c hr hk hx
  obtain ⟨f, fd, F, hm, hb⟩ := c.ex
  exact OpR.or o1 (op_ownF F hb hr hk hx hm.at_ hm.fn)
/-- len(e) by an own method -/
def rLenO (C : Addr) (sp : Sp) (E : XK) : List V → Hp → VK → Prop := fun xs H Q => ∃ a dx fs, xs = [.ref a] ∧ H a = some (.ins C dx fs) ∧ sp [.ref a] H (fun v H' => ∃ n : Int, v = .int n ∧ (0 ≤ n ∧ n < 2 ^ 63) ∧ Q (.int n) H') E
theorem call_lenO (c : Met X.prog X.w X.K X.mg X.base k C "__len__" ps sp) (hr : Room j X.A) (hk : k + 1 ≤ j) (hx : PAt X (fun _ => E)) : CallR X (.builtin "len") (rLenO C sp E) := by
  obtain ⟨f, fd, F, hm, hb⟩ := c.ex
  intro pins s σ H xs us Q I r h
  obtain ⟨a, dx, fs, rfl, ha, q⟩ := h
  obtain ⟨u, rfl, ru⟩ := vals1 r
  cases ru
  obtain ⟨mA, J, _⟩ := ins_get I.hok ha
  obtain ⟨od, J, _⟩ := J.look
  obtain ⟨m, hF⟩ := I.fr
  refine PySem.W.len_K hF I.ok.mod.kin J hm.at_ hm.fn ?_
  refine wpAny_mono (run_at (E := E) (us := [.ref a]) (vs := [.ref a]) F ((hr.mono hk).in1) hb I.env0.in1 hx I (.cons rfl .nil) q) (fun r s' z => ?_) fun _ _ x => x
  obtain ⟨w, H', I', rw_, ⟨n, rfl, hn, qq⟩⟩ := z
  obtain ⟨t, rfl⟩ := rw_
  exact ⟨hn, ⟨.int n, H', I'.tok _, ⟨_, rfl⟩, qq⟩⟩
/-- str(e) by an own method -/
def rStrO (C : Addr) (sp : Sp) (E : XK) : List V → Hp → VK → Prop := fun xs H Q => ∃ a dx fs, xs = [.ref a] ∧ H a = some (.ins C dx fs) ∧ sp [.ref a] H (fun v H' => ∃ z : Str, v = .str z ∧ Q (.str z) H') E
theorem call_strO (c : Met X.prog X.w X.K X.mg X.base k C "__str__" ps sp) (hr : Room j X.A) (hk : k + 2 ≤ j) (hx : PAt X (fun _ => E)) : CallR X (.type "str") (rStrO C sp E) := by
  obtain ⟨f, fd, F, hm, hb⟩ := c.ex
  intro pins s σ H xs us Q I r h
  obtain ⟨a, dx, fs, rfl, ha, q⟩ := h
  obtain ⟨u, rfl, ru⟩ := vals1 r
  cases ru
  obtain ⟨mA, J, _⟩ := ins_get I.hok ha
  obtain ⟨od, J, _⟩ := J.look
  have hr2 : Room k X.A.in1.in1 := ((show Room (k + 1 + 1) X.A from hr.mono hk).in1).in1
  refine PySem.W.kso_call hr2.units0 I.kIn J hm.at_ hm.fn ?_
  refine wpAny_mono (run_at (E := E) (us := [.ref a]) (vs := [.ref a]) F hr2 hb I.env0.in1.in1 hx I (.cons rfl .nil) q) (fun r s' z => ?_) fun _ _ x => x
  obtain ⟨w, H', I', rw_, ⟨z, rfl, qq⟩⟩ := z
  obtain ⟨t, rfl⟩ := rw_
  exact ⟨.str z, H', I', ⟨_, rfl⟩, qq⟩
/-- str(text) -/
def rStrS : List V → Hp → VK → Prop := fun xs H Q => ∃ z, xs = [.str z] ∧ Q (.str z) H
theorem call_strS : CallR X (.type "str") rStrS := SkE.call_str_str
/-- len(range(n)) -/
def tLenRg (te : L2.St → Hp → (Int → Int → Hp → Prop) → Prop) : TE := fun σ H Q => te σ H fun a b H1 => ∃ n : Nat, b - a = n ∧ n < 1000000 ∧ Q (.int n) H1
theorem pe_lenRg {e : Expr} {te : L2.St → Hp → (Int → Int → Hp → Prop) → Prop} {p pos : Pos} (hg : Gl X "len") (hm : X.mg "len" = none) (he : PRg X e te) (na : starEach [e] X.env = (false, eval e X.env) :: starEach [] X.env := by rfl) : PE X (.Call (.Name "len" p) [e] [] pos) (tLenRg te) := by
  refine ⟨fun pins s σ H Q I h => ?_⟩
  refine Call_ (ld_blt (u := .builtin "len") I hg hm (by decide +kernel) ?_)
  refine PyProof.Rows.callWith_builtin1 ?_ na (by rfl)
  rw [na]
  show wpAny _ _ (spliced ((false, eval e X.env) :: backTo pos (starEach [] X.env))) _ _ s
  refine Calls.spliced_cons (thn (he pins s σ H _ I h) fun x s1 ⟨r, a, b, t, u, v, H1, ex, hr, I1, n, e1, e2, q⟩ => ?_)
  refine Calls.spliced_nil ?_
  subst ex
  have e3 := rangeSize_nat a b
  have e4 : (b - a).toNat = n := by omega
  rw [e4] at e3
  exact PySem.call_len_range (n := n) hr e3 (by omega) ⟨.int n, H1, I1.tok _, ⟨_, rfl⟩, q⟩
end
section
variable {K : PySem.W.Frag} {σ : L2.St} {H : Hp} {Q : VK} {sp : Sp} {E : XK} {C : Addr} {x y : V}
theorem w_lenRg {te : TE} {i : Int} (h : te σ H fun x H1 => x = .int i ∧ 0 ≤ i ∧ i < 1000000 ∧ Q (.int i) H1) (mono : ∀ {P P' : VK}, te σ H P → (∀ x H1, P x H1 → P' x H1) → te σ H P') : tLenRg (tRg1 te) σ H Q :=
  mono h fun x H1 ⟨e, h0, h1, q⟩ => ⟨i, e, i.toNat, by omega, by omega, by rw [Int.toNat_of_nonneg h0]; exact q⟩
theorem w_strS {z : Str} (g : Q (.str z) H) : rStrS [.str z] H Q := ⟨z, rfl, g⟩
theorem w_lenO {a dx : Addr} {fs} (ha : H a = some (.ins C dx fs)) (g : sp [.ref a] H (fun v H' => ∃ n : Int, v = .int n ∧ (0 ≤ n ∧ n < 2 ^ 63) ∧ Q (.int n) H') E) : rLenO C sp E [.ref a] H Q := ⟨a, dx, fs, rfl, ha, g⟩
theorem w_strO {a dx : Addr} {fs} (ha : H a = some (.ins C dx fs)) (g : sp [.ref a] H (fun v H' => ∃ z : Str, v = .str z ∧ Q (.str z) H') E) : rStrO C sp E [.ref a] H Q := ⟨a, dx, fs, rfl, ha, g⟩
theorem w_eqFS {a dx : Addr} {fs} {z : Str} (ha : H a = some (.ins C dx fs)) (hn : PySem.W.notFirst K C (.type "str") = true) (g : sp [.ref a, .str z] H (fun v H' => (∃ k, v = .bl k) ∧ Q v H') E) : rEqF K C sp E (.ref a) (.str z) H Q := .inr ⟨a, dx, fs, rfl, ha, .inl ⟨z, rfl, hn⟩, g⟩
theorem w_eqFI {a dx : Addr} {fs} {i : Int} (ha : H a = some (.ins C dx fs)) (hn : PySem.W.notFirst K C (.type "int") = true) (g : sp [.ref a, .int i] H (fun v H' => (∃ k, v = .bl k) ∧ Q v H') E) : rEqF K C sp E (.ref a) (.int i) H Q := .inr ⟨a, dx, fs, rfl, ha, .inr ⟨i, rfl, hn⟩, g⟩
theorem w_eqFO {a b dx dy : Addr} {fs gs} (ha : H a = some (.ins C dx fs)) (hb : H b = some (.ins C dy gs)) (g : sp [.ref a, .ref b] H (fun v H' => (∃ k, v = .bl k) ∧ Q v H') E) : rEqF K C sp E (.ref a) (.ref b) H Q := .inl (.inr ⟨a, b, dx, dy, fs, gs, rfl, rfl, ha, hb, g⟩)
end
/-- facts: text, numbers and an own class -/
def frB (x : Str) (t : String) (K : PySem.W.Frag) : Bool := PySem.W.notFirst K (He.ga K x) (.type t) && eqT (PySem.W.kitOne K (.type t) (.ref (He.ga K x))) (some false)
theorem frB_ok {x : Str} {t : String} {K : PySem.W.Frag} (q : frB x t K = true) : PySem.W.notFirst K (He.ga K x) (.type t) = true ∧ PySem.W.kitOne K (.type t) (.ref (He.ga K x)) = some false := by
  obtain ⟨q1, q2⟩ := He.ba q
  exact ⟨q1, of_decide_eq_true q2⟩
end G

set_option Elab.async false
set_option linter.all false
set_option maxRecDepth 100000
set_option maxHeartbeats 4000000
/-! k02: mathematics and promises. -/
namespace G
open PySem PySem.Spec PyProof.Rows L2 TL
/-! ### the standing of the law's lists -/
def wS (n : Nat) (R L : List Int) (O : List Bool) : Sd := ⟨n, R, 0 :: L.drop 1, O⟩
theorem gI_wL {L : List Int} {v : Nat} (h : 1 ≤ v) : gI (0 :: L.drop 1) v = gI L v := by
  obtain ⟨u, rfl⟩ : ∃ u, v = u + 1 := ⟨v - 1, by omega⟩
  show (L.drop 1).getD u 0 = L.getD (u + 1) 0
  rw [List.getD_eq_getElem?_getD, List.getD_eq_getElem?_getD, List.getElem?_drop, Nat.add_comm]
theorem set_wL {L : List Int} {v : Nat} {x : Int} (h : 1 ≤ v) : 0 :: (L.set v x).drop 1 = (0 :: L.drop 1).set v x := by
  obtain ⟨u, rfl⟩ : ∃ u, v = u + 1 := ⟨v - 1, by omega⟩
  rw [List.set_cons_succ]
  congr 1
  cases L with
  | nil => simp
  | cons a r => rfl
theorem WdZ.wf {H : Hp} {r l o : Addr} {n : Nat} {R L : List Int} {O : List Bool} (a : WdZ H r l o n R L O) (hn : n ≤ 60) : Wf (wS n R L O) := by
  refine ⟨hn, a.lR, ?_, a.lO, a.rb, fun v h1 h2 => ?_⟩
  · show (L.drop 1).length + 1 = n + 2
    rw [List.length_drop, a.lL]
    omega
  · show 0 ≤ gI (0 :: L.drop 1) v ∧ gI (0 :: L.drop 1) v < _
    rw [gI_wL h1]
    exact a.lb v h1 h2
theorem WdZ.snd {H : Hp} {r l o : Addr} {n : Nat} {R L : List Int} {O : List Bool} (a : WdZ H r l o n R L O) : Snd (wS n R L O) := ⟨⟨_, rfl⟩, a.o0, a.o1⟩
theorem dump_wS (n : Nat) (R L : List Int) (O : List Bool) : dumpS (wS n R L O) = dumpW n R L O := rfl
theorem whole_wS (n : Nat) : wS n (rgI 1 (n + 1)) (rgI (-1) (n + 2)) (List.replicate (n + 2) false) = wholeS n := by
  have e : (rgI (-1) (n + 2)).drop 1 = rgI 0 (n + 1) := by
    refine List.ext_getElem? fun i => ?_
    unfold rgI
    rw [List.getElem?_drop, List.getElem?_map, List.getElem?_map]
    by_cases h : i < n + 1
    · rw [List.getElem?_range (by omega), List.getElem?_range h]
      simp only [Option.map_some]
      congr 1
      omega
    · rw [List.getElem?_eq_none (by rw [List.length_range]; omega), List.getElem?_eq_none (by rw [List.length_range]; omega)]
      rfl
  unfold wS wholeS
  rw [e]
theorem step_wS {n : Nat} {R L : List Int} {O : List Bool} (w : Wf (wS n R L O)) {op : Int} (h : IsOp n op) :
    stepS (wS n R L O) op = wS n (R.set (gI L op.natAbs).toNat (if op < 0 then gI R op.natAbs else (op.natAbs : Int))) (L.set (gI R op.natAbs).toNat (if op < 0 then gI L op.natAbs else (op.natAbs : Int))) (O.set op.natAbs (decide (op < 0))) := by
  have h1 := h.1
  have h2 := h.2
  have hr := w.rb op.natAbs h2
  have e : gI (wS n R L O).L op.natAbs = gI L op.natAbs := gI_wL h1
  show Sd.mk n (R.set (gI (wS n R L O).L op.natAbs).toNat (if op < 0 then gI R op.natAbs else (op.natAbs : Int))) ((0 :: L.drop 1).set (gI R op.natAbs).toNat (if op < 0 then gI (wS n R L O).L op.natAbs else (op.natAbs : Int))) _ = wS _ _ _ _
  rw [e]
  unfold wS
  rw [set_wL (by have : (op.natAbs : Int) < gI R op.natAbs := hr.1; omega)]
/-! ### dumps are alike exactly if the standings are -/
theorem map_numI_inj : ∀ {a b : List Int}, (∀ i ∈ a, 0 ≤ i) → (∀ i ∈ b, 0 ≤ i) → a.map numI = b.map numI → a = b
  | [], [], _, _, _ => rfl
  | [], _ :: _, _, _, e => by simp at e
  | _ :: _, [], _, _, e => by simp at e
  | x :: a, y :: b, ha, hb, e => by
    rw [List.map_cons, List.map_cons, List.cons.injEq] at e
    rw [numI_inj (ha x (List.mem_cons_self ..)) (hb y (List.mem_cons_self ..)) e.1, map_numI_inj (fun i h => ha i (List.mem_cons_of_mem _ h)) (fun i h => hb i (List.mem_cons_of_mem _ h)) e.2]
theorem joinI_inj {a b : List Int} (na : a ≠ []) (nb : b ≠ []) (ha : ∀ i ∈ a, 0 ≤ i) (hb : ∀ i ∈ b, 0 ≤ i) (e : joinI a = joinI b) : a = b := by
  have e2 := congrArg (fun t => Txt.split t spS) e
  simp only [split_joinI na ha, split_joinI nb hb] at e2
  exact map_numI_inj ha hb e2
theorem outsT_inj {a b : List Int} (ha : ∀ i ∈ a, 0 ≤ i) (hb : ∀ i ∈ b, 0 ≤ i) (e : outsT a = outsT b) : a = b := by
  unfold outsT at e
  by_cases ca : a = [] <;> by_cases cb : b = []
  · rw [ca, cb]
  · rw [if_pos ca, if_neg cb] at e
    exact absurd e.symm (joinI_ne_none cb hb)
  · rw [if_neg ca, if_pos cb] at e
    exact absurd e (joinI_ne_none ca ha)
  · rw [if_neg ca, if_neg cb] at e
    exact joinI_inj ca cb ha hb e
theorem Wf.goods {s : Sd} (w : Wf s) : (s.R ≠ [] ∧ ∀ i ∈ s.R, 0 ≤ i) ∧ (s.L.drop 1 ≠ [] ∧ ∀ i ∈ s.L.drop 1, 0 ≤ i) ∧ ∀ i ∈ outN s.n s.O, 0 ≤ i := by
  refine ⟨⟨fun z => ?_, fun i hi => ?_⟩, ⟨fun z => ?_, fun i hi => ?_⟩, fun i hi => ?_⟩
  · have := w.lR
    rw [z] at this
    simp at this
  · obtain ⟨k, hk, rfl⟩ := List.mem_iff_getElem.mp hi
    have h1 := w.lR
    have := (w.rb k (by omega)).1
    rw [gI_of (List.getElem?_eq_getElem hk)] at this
    omega
  · have := congrArg List.length z
    rw [List.length_drop, w.lL] at this
    simp at this
  · obtain ⟨k, hk, rfl⟩ := List.mem_iff_getElem.mp hi
    have h1 := w.lL
    rw [List.length_drop] at hk
    have e : s.L[k + 1]? = some ((s.L.drop 1)[k]) := by
      rw [← List.getElem?_eq_getElem, List.getElem?_drop, Nat.add_comm]
    have := (w.lb (k + 1) (by omega) (by omega)).1
    rw [gI_of e] at this
    exact this
  · exact Int.le_trans (by decide) (outN_bd hi).1
theorem good_outs {l : List Int} (h : ∀ i ∈ l, 0 ≤ i) : GoodP (tl (outsT l)) := by
  unfold outsT
  by_cases c : l = []
  · rw [if_pos c]
    exact good_none
  · rw [if_neg c]
    exact good_joinI c h
theorem split_dumpS {s : Sd} (w : Wf s) : Txt.split (dumpS s) barS = [joinI s.R, joinI (s.L.drop 1), outsT (outN s.n s.O)] :=
  split_bar (good_joinI w.goods.1.1 w.goods.1.2) (good_joinI w.goods.2.1.1 w.goods.2.1.2) (good_outs w.goods.2.2)
theorem outN_inj {n : Nat} {O P : List Bool} (e : outN n O = outN n P) : ∀ v, 1 ≤ v → v ≤ n → gB O v = gB P v := by
  intro v h1 h2
  have key : ∀ (Z : List Bool), gB Z v = decide ((v : Int) ∈ outN n Z) := by
    intro Z
    cases c : gB Z v with
    | true =>
      refine (decide_eq_true ?_).symm
      unfold outN
      exact List.mem_map.mpr ⟨v, List.mem_filter.mpr ⟨List.mem_map.mpr ⟨v - 1, List.mem_range.mpr (by omega), by omega⟩, c⟩, rfl⟩
    | false =>
      refine (decide_eq_false fun z => ?_).symm
      have := (outN_bd z).2.2
      rw [Int.toNat_natCast, c] at this
      exact absurd this (by decide)
  rw [key O, key P, e]
theorem dump_inj {s t : Sd} (w : Wf s) (d : Snd s) (w' : Wf t) (d' : Snd t) (e : dumpS s = dumpS t) : s = t := by
  have e2 := congrArg (fun x => Txt.split x barS) e
  simp only [split_dumpS w, split_dumpS w', List.cons.injEq, and_true] at e2
  obtain ⟨a, b, c⟩ := e2
  have eR := joinI_inj w.goods.1.1 w'.goods.1.1 w.goods.1.2 w'.goods.1.2 a
  have eL := joinI_inj w.goods.2.1.1 w'.goods.2.1.1 w.goods.2.1.2 w'.goods.2.1.2 b
  have eO := outsT_inj w.goods.2.2 w'.goods.2.2 c
  have en : s.n = t.n := by
    have h1 := w.lR
    have h2 := w'.lR
    rw [eR] at h1
    omega
  obtain ⟨x, hx⟩ := d.l0
  obtain ⟨y, hy⟩ := d'.l0
  rw [hx, hy] at eL
  have eL2 : x = y := eL
  have eO2 : s.O = t.O := by
    refine List.ext_getElem? fun i => ?_
    have h1 := w.lO
    have h2 := w'.lO
    by_cases hi : i < s.n + 2
    · rw [gB_at (l := s.O) (by omega), gB_at (l := t.O) (by omega)]
      congr 1
      by_cases c0 : i = 0
      · rw [c0, d.o0, d'.o0]
      · by_cases c1 : i = s.n + 1
        · have := d'.o1
          rw [← en] at this
          rw [c1, d.o1, this]
        · rw [← en] at eO
          exact outN_inj eO i (by omega) (by omega)
    · rw [List.getElem?_eq_none (by omega), List.getElem?_eq_none (by omega)]
  obtain ⟨n, R, L, O⟩ := s
  obtain ⟨n', R', L', O'⟩ := t
  subst en eR eO2
  rw [show L = _ from hx, show L' = _ from hy, eL2]
def eqS (s t : Sd) : Bool := decide (s.R = t.R) && (decide (s.L = t.L) && decide (s.O = t.O))
theorem eqS_self (s : Sd) : eqS s s = true := by simp [eqS]
theorem eqS_dump {s t : Sd} (w : Wf s) (d : Snd s) (w' : Wf t) (d' : Snd t) : eqS s t = decide (dumpS t = dumpS s) := by
  by_cases c : dumpS t = dumpS s
  · rw [decide_eq_true c, dump_inj w' d' w d c, eqS_self]
  · rw [decide_eq_false c]
    cases h : eqS s t with
    | false => rfl
    | true =>
      unfold eqS at h
      simp only [Bool.and_eq_true, decide_eq_true_eq] at h
      obtain ⟨h1, h2, h3⟩ := h
      refine absurd ?_ c
      have en : s.n = t.n := by
        have e1 := w.lR
        have e2 := w'.lR
        rw [h1] at e1
        omega
      obtain ⟨n, R, L, O⟩ := s
      obtain ⟨n', R', L', O'⟩ := t
      cases en; cases h1; cases h2; cases h3
      rfl
theorem eqS_O {s t : Sd} {v : Nat} (h : gB s.O v ≠ gB t.O v) : eqS s t = false := by
  cases e : eqS s t with
  | false => rfl
  | true =>
    unfold eqS at e
    simp only [Bool.and_eq_true, decide_eq_true_eq] at e
    exact absurd (by rw [e.2.2]) h
theorem eqS_n {s t : Sd} (w : Wf s) (w' : Wf t) (h : s.n ≠ t.n) : eqS s t = false := by
  cases e : eqS s t with
  | false => rfl
  | true =>
    unfold eqS at e
    simp only [Bool.and_eq_true, decide_eq_true_eq] at e
    have e1 := w.lR
    have e2 := w'.lR
    rw [e.1] at e1
    exact absurd (by omega) h
theorem step_O {s : Sd} (w : Wf s) {op : Int} (h : IsOp s.n op) : gB (stepS s op).O op.natAbs = decide (op < 0) := by
  show gB (s.O.set op.natAbs _) op.natAbs = _
  have := w.lO
  have := h.2
  rw [gB_set (by omega), if_pos rfl]
theorem ok_O {s : Sd} {op : Int} (h : OkOp s op) : gB s.O op.natAbs ≠ decide (op < 0) := by
  rw [h.2]
  have := h.1.1
  by_cases c : op < 0
  · rw [decide_eq_true c, decide_eq_false (by omega)]
    decide
  · rw [decide_eq_false c, decide_eq_true (by omega)]
    decide
theorem ok_not {s : Sd} {op : Int} (h : IsOp s.n op) : OkOp s op ↔ gB s.O op.natAbs ≠ decide (op < 0) := by
  refine ⟨ok_O, fun z => ⟨h, ?_⟩⟩
  have := h.1
  by_cases c : op < 0
  · rw [decide_eq_true c] at z
    rw [decide_eq_false (by omega)]
    simpa using z
  · rw [decide_eq_false c] at z
    rw [decide_eq_true (by omega)]
    simpa using z
theorem ok_back {s : Sd} (w : Wf s) {op : Int} (h : OkOp s op) : OkOp (stepS s op) (-op) ∧ ¬ OkOp (stepS s op) op := by
  have h1 := h.1.1
  have e := step_O w h.1
  refine ⟨⟨⟨by omega, by have := h.1.2; show (-op).natAbs ≤ s.n; omega⟩, ?_⟩, fun z => ?_⟩
  · rw [Int.natAbs_neg, e]
    by_cases c : op < 0
    · rw [decide_eq_true c, decide_eq_true (by omega)]
    · rw [decide_eq_false c, decide_eq_false (by omega)]
  · exact ok_O z e
end G

set_option Elab.async false
set_option linter.all false
set_option maxRecDepth 100000
set_option maxHeartbeats 4000000
/-! k02: promises. -/
namespace G
open PySem PySem.Spec PyProof.Rows L2 TL
def sp02_Links_left (K : PySem.W.Frag) : Sp := fun vs H Q E => ∃ (p r l o : Addr) (s : Sd) (v : Int), vs = [.ref p, .int v] ∧ LinksAt K H p r l o s ∧ ((1 ≤ v ∧ v ≤ (s.n : Int) + 1) → Q (.int (gI s.L v.toNat)) H) ∧ (¬ (1 ≤ v ∧ v ≤ (s.n : Int) + 1) → Ex K "BadNode" [("node", .int v)] E H)
def sp02_Links_right (K : PySem.W.Frag) : Sp := fun vs H Q E => ∃ (p r l o : Addr) (s : Sd) (v : Int), vs = [.ref p, .int v] ∧ LinksAt K H p r l o s ∧ ((0 ≤ v ∧ v ≤ (s.n : Int)) → Q (.int (gI s.R v.toNat)) H) ∧ (¬ (0 ≤ v ∧ v ≤ (s.n : Int)) → Ex K "BadNode" [("node", .int v)] E H)
def sp02_Links_is_out (K : PySem.W.Frag) : Sp := fun vs H Q E => ∃ (p r l o : Addr) (s : Sd) (v : Int), vs = [.ref p, .int v] ∧ LinksAt K H p r l o s ∧ ((0 ≤ v ∧ v ≤ (s.n : Int) + 1) → Q (.bl (gB s.O v.toNat)) H) ∧ (¬ (0 ≤ v ∧ v ≤ (s.n : Int) + 1) → Ex K "BadNode" [("node", .int v)] E H)
def sp02_Links___eq__ (K : PySem.W.Frag) : Sp := fun vs H Q E => ∃ (p r l o : Addr) (s : Sd) (y : V), vs = [.ref p, y] ∧ LinksAt K H p r l o s ∧
  ((∃ (p2 r2 l2 o2 : Addr) (t : Sd), y = .ref p2 ∧ LinksAt K H p2 r2 l2 o2 t ∧ Q (.bl (eqS s t)) H) ∨ (((∃ z, y = .str z) ∨ ∃ i, y = .int i) ∧ Q (.bl false) H))
def sp02_Links___len__ (K : PySem.W.Frag) : Sp := fun vs H Q E => ∃ (p r l o : Addr) (s : Sd), vs = [.ref p] ∧ LinksAt K H p r l o s ∧ Q (.int (s.n : Int)) H
def sp02_Links___str__ (K : PySem.W.Frag) : Sp := fun vs H Q E => ∃ (p r l o : Addr) (s : Sd), vs = [.ref p] ∧ LinksAt K H p r l o s ∧ Any H (.str (dumpS s)) Q
def sp02__law_size (K : PySem.W.Frag) : Sp := fun vs H Q E => ∃ (b c : Addr), vs = [.ref b] ∧ BxI H b c ∧ ∀ (n : Nat) H', n ≤ 60 → Kp [b] H H' → BxI H' b c → Q (.int (n : Int)) H'
def sp02__law_far_size (K : PySem.W.Frag) : Sp := fun vs H Q E => ∃ (b c : Addr), vs = [.ref b] ∧ BxI H b c ∧ ∀ (f : Int) H', ¬ SizeOk f → Kp [b] H H' → BxI H' b c → Q (.int f) H'
def sp02__law_near (K : PySem.W.Frag) : Sp := fun vs H Q E => ∃ (b c w r l o : Addr) (n : Nat) (R L : List Int) (O : List Bool), vs = [.ref b, .int (n : Int), .ref w] ∧ n ≤ 60 ∧ BxI H b c ∧ H w = some (.lst [.ref r, .ref l, .ref o]) ∧ WdZ H r l o n R L O ∧
  ∀ (R' L' : List Int) (O' : List Bool) w' r' l' o' H', H w' = none → H r' = none → H l' = none → H o' = none → Kp [b] H H' → BxI H' b c → H' w' = some (.lst [.ref r', .ref l', .ref o']) → WdZ H' r' l' o' n R' L' O' → Q (.ref w') H'
def sp02__law_operation (K : PySem.W.Frag) : Sp := fun vs H Q E => ∃ (b c o : Addr) (n : Nat) (O : List Bool), vs = [.ref b, .int (n : Int), .ref o] ∧ n ≤ 60 ∧ BxI H b c ∧ o ≠ b ∧ H o = some (.lst (O.map V.bl)) ∧ O.length = n + 2 ∧ ∀ (op : Int) H', Kp [b] H H' → BxI H' b c → Q (.int op) H'
def sp02__law_write (K : PySem.W.Frag) : Sp := fun vs H Q E => ∃ (r l o : Addr) (n : Nat) (R L : List Int) (O : List Bool) (op : Int), vs = [.ref r, .ref l, .ref o, .int op] ∧ n ≤ 60 ∧ WdZ H r l o n R L O ∧ IsOp n op ∧
  ∀ (R' L' : List Int) (O' : List Bool) H', wS n R' L' O' = stepS (wS n R L O) op → Kp [r, l, o] H H' → WdZ H' r l o n R' L' O' → Q .non H'
def sp02__law_shown (K : PySem.W.Frag) : Sp := fun vs H Q E => ∃ (p a b c r l o : Addr) (n : Nat) (R L : List Int) (O : List Bool), vs = [.ref p, .int (n : Int), .ref r, .ref l, .ref o] ∧ n ≤ 60 ∧ LinksAt K H p a b c (wS n R L O) ∧ WdZ H r l o n R L O ∧ Any H (.bl true) Q
def NoNd (s : Sd) (w : Nat) (v : Int) : Prop := if w = 0 then ¬ (1 ≤ v ∧ v ≤ (s.n : Int) + 1) else if w = 1 then ¬ (0 ≤ v ∧ v ≤ (s.n : Int)) else ¬ (0 ≤ v ∧ v ≤ (s.n : Int) + 1)
def sp02__law_node_refused (K : PySem.W.Frag) : Sp := fun vs H Q E => ∃ (p a b c : Addr) (s : Sd) (w : Nat) (v : Int), vs = [.int (w : Int), .ref p, .int v] ∧ LinksAt K H p a b c s ∧ NoNd s w v ∧ Any H (.bl true) Q
def sp02__law_nodes_refused (K : PySem.W.Frag) : Sp := fun vs H Q E => ∃ (p a b c : Addr) (s : Sd) (far : Int), vs = [.ref p, .int (s.n : Int), .int far] ∧ LinksAt K H p a b c s ∧ 0 ≤ far ∧ Any H (.bl true) Q
def sp02__law_whole_right (K : PySem.W.Frag) : Sp := fun vs H Q E => ∃ (n : Nat) (far : Int), vs = [.int (n : Int), .int far] ∧ n ≤ 60 ∧ ¬ SizeOk far ∧ Any H (.bl true) Q
def sp02__law_equal (K : PySem.W.Frag) : Sp := fun vs H Q E => ∃ (p r l o : Addr) (s : Sd) (y : V) (due : Bool), vs = [.ref p, y, .bl due] ∧ LinksAt K H p r l o s ∧
  ((∃ (p2 r2 l2 o2 : Addr) (t : Sd), y = .ref p2 ∧ LinksAt K H p2 r2 l2 o2 t ∧ due = eqS s t) ∨ (((∃ z, y = .str z) ∨ ∃ i, y = .int i) ∧ due = false)) ∧ Q (.bl true) H
def sp02__law_equals_right (K : PySem.W.Frag) : Sp := fun vs H Q E => ∃ (p a b c : Addr) (n : Nat) (w r l o : Addr) (R L : List Int) (O : List Bool) (x r' l' o' : Addr) (R' L' : List Int) (O' : List Bool), vs = [.ref p, .int (n : Int), .ref w, .ref x] ∧ n ≤ 60 ∧ LinksAt K H p a b c (wS n R L O) ∧
  H w = some (.lst [.ref r, .ref l, .ref o]) ∧ WdZ H r l o n R L O ∧ H x = some (.lst [.ref r', .ref l', .ref o']) ∧ WdZ H r' l' o' n R' L' O' ∧ Any H (.bl true) Q
def sp02__law_refused (K : PySem.W.Frag) : Sp := fun vs H Q E => ∃ (p a b c : Addr) (s : Sd) (op : Int) (bad : Bool), vs = [.ref p, .int op, .bl bad] ∧ LinksAt K H p a b c s ∧ (bad = true ↔ ¬ IsOp s.n op) ∧ ¬ OkOp s op ∧ Any H (.bl true) Q
def sp02__law_turn_right (K : PySem.W.Frag) : Sp := fun vs H Q E => ∃ (p a b c r l o : Addr) (n : Nat) (R L : List Int) (O : List Bool) (op : Int), vs = [.ref p, .int (n : Int), .ref r, .ref l, .ref o, .int op] ∧ n ≤ 60 ∧ LinksAt K H p a b c (wS n R L O) ∧ WdZ H r l o n R L O ∧
  (p ∉ [r, l, o] ∧ a ∉ [r, l, o] ∧ b ∉ [r, l, o] ∧ c ∉ [r, l, o]) ∧
  ∀ (R' L' : List Int) (O' : List Bool) H', Kp [a, b, c, r, l, o] H H' → LinksAt K H' p a b c (wS n R' L' O') → WdZ H' r l o n R' L' O' → Q (.bl true) H'
end G

set_option Elab.async false
set_option linter.all false
set_option maxRecDepth 100000
set_option maxHeartbeats 4000000
/-! Generators by a method, `in` by an own method, comprehensions over reversed lists. -/
namespace G
open PySem PySem.Spec PyProof.Rows L2
/-- a generator method and its promise -/
structure MetG (P : Program) (w : World) (K : PySem.W.Frag) (mg : Str → Option Value) (base : Heap) (k : Nat) (C : Addr) (m : Str) (ps : List Str) (sp : SpG) : Prop where
  ex : ∃ (f : Addr) (fd : FuncData), GFn P w K mg base k f fd ps sp ∧ Meth K C m f ∧ Binds K fd ps []
section
variable {P : Program} {w : World} {K : PySem.W.Frag} {mg : Str → Option Value} {base : Heap} {x qual : Str} {params : Arguments} {body : List Stmt} {scope : Scope} {dvs : List V} {kws : List (Str × V)} {f : Addr} {fd : FuncData}
theorem okG {N ps : List Str} {k : Nat} {sp : SpG} (F : FunD K x qual params body scope dvs kws f fd) (S : GScope N ps scope) (len : ∀ vs H Q E, sp vs H Q E → vs.length = ps.length)
    (hbody : ∀ (cdv : Value) (A : Around) (outer : List Env) (s : Shared) (H : Hp) (vs : List V) (Q : List V → Hp → Prop) (E : XK) (pn : List (Addr × Obj)), Room k (A.deeper (envOfC qual scope s.heap.objs.size f cdv)) → sp vs H Q E →
      ∃ t, GSs (gcxOf P w K mg base N qual scope f cdv A outer s H E pn) body t ∧ t { nx := fun ys _ H' => Q ys H', rt := fun ys v H' => v = .non ∧ Q ys H' } [] (start N vs) H) : GFn P w K mg base (k + 1) f fd ps sp := by
  obtain ⟨oc, od, dV, kV, doc, pm, an, cdv, ct, osl, rfl, lk, hcd, _, _⟩ := F.ex
  exact gfn_of lk hcd S len fun A outer s H vs Q E pn hr h => hbody cdv A outer s H vs Q E pn hr h
end
def tListMG (C : Addr) (m : Str) (sp : SpG) (ta : TE) : TE := tListG (tMethG C m sp [] L2.E0 ta tNil)
section
variable {X : Cx} {j k : Nat} {ps : List Str} {C : Addr} {m : Str} {o : Expr} {ta : TE} {p pos pos' apos : Pos}
theorem noStop0 {K : PySem.W.Frag} : NoStop K L2.E0 := fun _ _ _ h => False.elim h
theorem pe_listMG {sp : SpG} {pl : Sem Bool} (c : MetG X.prog X.w X.K X.mg X.base k C m ps sp) (cl : Cls X.K C) (hr : Room j X.A) (hk : k + 3 ≤ j) (hg : Gl X "list") (hmg : X.mg "list" = none) (he : PE X o ta)
    (ht : eval (.Call (.Attribute o m apos) [] [] pos') X.env = (do
      let ov ← eval o X.env
      standAt apos.atName
      let (f, first) ← holding [ov] (getMethod ov m pl)
      callWith pos' f first (backTo pos' (starEach [] X.env)) (backToKw pos' (keywordEach [] X.env))) := by rfl)
    (hs : starEach [Expr.Call (.Attribute o m apos) [] [] pos'] X.env = (false, eval (.Call (.Attribute o m apos) [] [] pos') X.env) :: starEach [] X.env := by rfl) :
    PE X (.Call (.Name "list" p) [.Call (.Attribute o m apos) [] [] pos'] [] pos) (tListMG C m sp ta) := by
  obtain ⟨f, fd, F, hm, hb⟩ := c.ex
  exact pe_listG (pgen_meth0 (pl := pl) he cl hm F ((hr.mono hk).mono (by omega)) hb .nil ht) (fun pins σ H s e s' I h => by
    obtain ⟨a, B, H', cls, d, z1, fl, z2, ub, z3, z4, z5, z6⟩ := h
    exact False.elim z6) noStop0 (hr.mono hk) hg hmg (by decide +kernel) (he := hs)
/-- x in e by an own method -/
def rInO (C : Addr) (sp : Sp) (E : XK) : R2 := fun x y H Q => ∃ a dx fs, y = .ref a ∧ H a = some (.ins C dx fs) ∧ sp [.ref a, x] H (fun v H' => ∃ b, v = .bl b ∧ Q (.bl b) H') E
theorem op_inO {sp : Sp} {E : XK} (c : Met X.prog X.w X.K X.mg X.base k C "__contains__" ps sp) (hr : Room j X.A) (hk : k ≤ j) (hx : PAt X (fun _ => E)) : OpR X (compareOp .In) (rInO C sp E) := by
  obtain ⟨f, fd, F, hm, hb⟩ := c.ex
  intro pins s σ H x y u v Q I rx ry h
  obtain ⟨a, dx, fs, rfl, ha, q⟩ := h
  cases ry
  obtain ⟨mA, J, _⟩ := ins_get I.hok ha
  obtain ⟨od, J, _⟩ := J.look
  obtain ⟨m, hF⟩ := I.fr
  refine PySem.W.in_K hF I.ok.mod.kin J hm.at_ hm.fn ?_
  refine wpAny_mono (run_fnS (E := fun _ => E) (us := [.ref a, u]) (vs := [.ref a, x]) F (hr.mono hk) hb (hx σ) I (.cons rfl (.cons rx .nil)) q) (fun r s' z => ?_) fun _ _ x => x
  obtain ⟨w, H', I', rw_, ⟨b, rfl, qq⟩⟩ := z
  cases rw_
  exact wpAny_truthy_bool ⟨.bl b, H', I', rfl, qq⟩
end
section
variable {K : PySem.W.Frag} {σ : L2.St} {H : Hp} {Q : VK} {C : Addr} {m : Str} {ta : TE} {sp : SpG}
theorem w_listMG (g : ta σ H fun x H1 => ∃ a dx fs, x = .ref a ∧ H1 a = some (.ins C dx fs) ∧ fs.lookup m = none ∧ sp [x] H1 (fun out H2 => ∀ q, H2 q = none → Q (.ref q) (upd H2 q (.lst out))) L2.E0) : tListMG C m sp ta σ H Q := g
theorem nwL {xs : List V} (g : ∀ q H', H q = none → Kp [] H H' → H' q = some (.lst xs) → Q (.ref q) H') : ∀ q, H q = none → Q (.ref q) (upd H q (.lst xs)) := nw g
theorem w_inO {a dx : Addr} {fs} {sp : Sp} {E : XK} {x : V} (ha : H a = some (.ins C dx fs)) (g : sp [.ref a, x] H (fun v H' => ∃ b, v = .bl b ∧ Q (.bl b) H') E) : rInO C sp E x (.ref a) H Q := ⟨a, dx, fs, rfl, ha, g⟩
/-- the loops of a generator -/
theorem gw {c : TT} {tb : TGn} {D : GEnds} {ys : List V} (W : Nat → List V → L2.St → Hp → Prop) (m : Nat) (h0 : W m ys σ H) (hs : ∀ m ys σ H, W m ys σ H → c σ H fun b H1 => if b = true then ∃ N : List V → L2.St → Hp → Prop, (∀ ys' σ' H', N ys' σ' H' → ∃ m', m' < m ∧ W m' ys' σ' H') ∧ tb { D with nx := N, ct := N, bk := D.nx } ys σ H1 else D.nx ys σ H1) : tGWhile c tb D ys σ H := ⟨W, ⟨m, h0⟩, hs⟩
end
section
variable {K : PySem.W.Frag} {σ : L2.St} {H : Hp} {Q : VK} {g : TG} {tt : TT} {te : TE} {vs : List Nat}
theorem cp_rev {a : Addr} {xs : List V} (h : SqL K H a xs) (items : Nat → List V) (hz : ∀ i, i < xs.length → (items i).length < sizeLine) (h0 : items 0 = [])
    (hs : ∀ (i : Nat) (x : V) (H' : Hp) (S : V → Hp → Prop) (N : Hp → Prop), i < xs.length → xs[xs.length - 1 - i]? = some x → Kp [] H H' → (∀ y H4, Kp [] H' H4 → items (i + 1) = items i ++ [y] → S y H4) → (∀ H4, Kp [] H' H4 → items (i + 1) = items i → N H4) →
      g x (wipe σ vs) H' fun σ2 H2 => wipe σ2 vs = wipe σ vs ∧ tt σ2 H2 fun b H3 => if b = true then te σ2 H3 S else N H3)
    (hd : ∀ D H', H D = none → Kp [] H H' → H' D = some (.lst (items xs.length)) → Q (.ref D) H') : CompG (Itv K a xs.length) g tt te vs σ Q H :=
  cp_go (n := xs.length) items (fun H' => SqL K H' a xs) hz h0 (fun _ k => k.sql (by simp) h) (fun i H' hi q => ⟨hi, xs, xs[xs.length - 1 - i]'(by omega), q, List.getElem?_eq_getElem (by omega)⟩) (fun H' q => Nat.le_refl _) (fun i x H' H'' S N hi k y a b => by
    obtain ⟨rfl, hx⟩ := y
    exact hs i x H'' S N hi (hx xs (k.sql (by simp) h)) k a b) hd
theorem w_rev {a : Addr} {xs : List V} {R : It → Hp → Prop} (h : SqL K H a xs) (g : R (Itv K a xs.length) H) : ∃ (b : Addr) (ys : List V), V.ref a = .ref b ∧ ((SqL K H b ys ∧ R (Itv K b ys.length) H) ∨ (SqT K H b ys ∧ R (RT.ItvT K b ys.length) H)) := ⟨a, xs, rfl, .inl ⟨h, g⟩⟩
end
end G

set_option Elab.async false
set_option linter.all false
set_option maxRecDepth 100000
set_option maxHeartbeats 4000000
/-! a < b < c < d. -/
namespace G
open PySem PySem.Spec PyProof.Rows L2
section
variable {X : Cx} {a b c d : Expr} {ta tb tc td : TE} {pos : Pos}
def tChain3 (r1 r2 r3 : R2) (ta tb tc td : TE) : TE := fun σ H Q => ta σ H fun x H1 => tb σ H1 fun y H2 => r1 x y H2 fun z H3 => ∃ k, z = .bl k ∧
  (if k = true then tc σ H3 fun v H4 => r2 y v H4 fun z' H5 => ∃ k', z' = .bl k' ∧ (if k' = true then td σ H5 fun w H6 => r3 v w H6 Q else Q (.bl false) H5) else Q (.bl false) H3)
theorem pe_chain3 {o1 o2 o3 : CmpOp} {r1 r2 r3 : R2} (h1 : OpR X (compareOp o1) r1) (h2 : OpR X (compareOp o2) r2) (h3 : OpR X (compareOp o3) r3) (ha : PE X a ta) (hb : PE X b tb) (hc : PE X c tc) (hd : PE X d td)
    (hm : lastMarks [o1, o2, o3] [b, c, d] = false := by with_unfolding_all rfl) : PE X (.Compare a [o1, o2, o3] [b, c, d] pos) (tChain3 r1 r2 r3 ta tb tc td) := by
  refine ⟨fun pins s σ H Q I h => Compare_chain ?_ hm⟩
  refine thn (ha.run pins s σ H _ I h) fun v1 s1 ⟨x, H1, I1, e1, q1⟩ => chain_link ?_
  refine thn (hb.run pins s1 σ H1 _ I1 q1) fun v2 s2 ⟨y, H2, I2, e2, q2⟩ => ?_
  refine thn (h1 pins s2 σ H2 x y v1 v2 _ I2 e1 e2 q2) fun t s3 ⟨z, H3, I3, e3, k, ez, q3⟩ => ?_
  subst ez
  cases e3
  refine wpAny_truthy_bool ?_
  cases k with
  | false => exact ite_ff ⟨.bl false, H3, I3, rfl, q3⟩
  | true =>
    refine ite_tt (chain_link ?_)
    refine thn (hc.run pins s3 σ H3 _ I3 q3) fun v3 s4 ⟨u, H4, I4, e4, q4⟩ => ?_
    refine thn (h2 pins s4 σ H4 y u v2 v3 _ I4 e2 e4 q4) fun t' s5 ⟨z', H5, I5, e5, k', ez', q5⟩ => ?_
    subst ez'
    cases e5
    refine wpAny_truthy_bool ?_
    cases k' with
    | false => exact ite_ff ⟨.bl false, H5, I5, rfl, q5⟩
    | true => exact ite_tt (chain_last (thn (hd.run pins s5 σ H5 _ I5 q5) fun v4 s6 ⟨w, H6, I6, e6, q6⟩ => h3 pins s6 σ H6 u w v3 v4 Q I6 e4 e6 q6))
theorem pt_chain3 {o1 o2 o3 : CmpOp} {r1 r2 r3 : R2} (h1 : OpR X (compareOp o1) r1) (h2 : OpR X (compareOp o2) r2) (h3 : OpR X (compareOp o3) r3) (ha : PE X a ta) (hb : PE X b tb) (hc : PE X c tc) (hd : PE X d td)
    (hm : lastMarks [o1, o2, o3] [b, c, d] = false := by with_unfolding_all rfl) : PT X (.Compare a [o1, o2, o3] [b, c, d] pos) (tTest (tChain3 r1 r2 r3 ta tb tc td)) := by
  refine ⟨fun pins s σ H Q I h => isTrue_chain ?_ hm⟩
  refine thn (ha.run pins s σ H _ I h) fun v1 s1 ⟨x, H1, I1, e1, q1⟩ => test_link ?_
  refine thn (hb.run pins s1 σ H1 _ I1 q1) fun v2 s2 ⟨y, H2, I2, e2, q2⟩ => ?_
  refine thn (h1 pins s2 σ H2 x y v1 v2 _ I2 e1 e2 q2) fun t s3 ⟨z, H3, I3, e3, k, ez, q3⟩ => ?_
  subst ez
  cases e3
  refine wpAny_truthy_bool ?_
  cases k with
  | false =>
    obtain ⟨k', e', q'⟩ := q3
    cases e'
    exact ite_ff ⟨H3, I3, q'⟩
  | true =>
    refine ite_tt (test_link ?_)
    refine thn (hc.run pins s3 σ H3 _ I3 q3) fun v3 s4 ⟨u, H4, I4, e4, q4⟩ => ?_
    refine thn (h2 pins s4 σ H4 y u v2 v3 _ I4 e2 e4 q4) fun t' s5 ⟨z', H5, I5, e5, k', ez', q5⟩ => ?_
    subst ez'
    cases e5
    refine wpAny_truthy_bool ?_
    cases k' with
    | false =>
      obtain ⟨k2, e', q'⟩ := q5
      cases e'
      exact ite_ff ⟨H5, I5, q'⟩
    | true =>
      refine ite_tt (test_last (thn (hd.run pins s5 σ H5 _ I5 q5) fun v4 s6 ⟨w, H6, I6, e6, q6⟩ => thn (h3 pins s6 σ H6 u w v3 v4 _ I6 e4 e6 q6) fun t2 s7 ⟨z2, H7, I7, e7, k2, ez2, q7⟩ => ?_))
      subst ez2
      cases e7
      exact wpAny_truthy_bool ⟨H7, I7, q7⟩
end
end G

set_option Elab.async false
set_option linter.all false
set_option maxRecDepth 100000
set_option maxHeartbeats 4000000
/-! {elt for x in xs}, elt a whole number that leaves the heap as it is; sorted of it. -/
namespace G
open PySem PySem.Spec PyProof.Rows L2
/-- the heap while the set at D is being filled -/
def setH (w : World) (H : Hp) (D : Addr) (S : Int → Bool) (c : Nat) : Hp := upd H D (SetO w D S c)
/-- what such a comprehension wants of its walk: n turns, the i-th gives f i -/
def SetG (w : World) (J : It) (g : TG) (te : TE) (vs : List Nat) (σ : L2.St) (Q : VK) (H : Hp) : Prop := ∃ (n : Nat) (f : Nat → Int), n + 1 < scanBound ∧ ∀ D, H D = none → ∀ S c,
  (∀ i, i < n → J.go i (setH w H D S c) ∧ ∀ x H', J.yld i (setH w H D S c) x H' → g x (wipe σ vs) H' fun σ2 H2 => wipe σ2 vs = wipe σ vs ∧ te σ2 H2 fun y H4 => y = .int (f i) ∧ H4 = setH w H D S c) ∧ J.stop n (setH w H D S c) ∧
  ((∀ k, S k = true ↔ ∃ i, i < n ∧ f i = k) → c ≤ n → Q (.ref D) (setH w H D S c))
def tSetI (w : World) (wi : TI) (g : TG) (te : TE) (vs : List Nat) : TE := fun σ H Q => wi σ H fun J H1 => SetG w J g te vs σ Q H1
section
variable {X : Cx}
theorem addI_ok {pins : List (Addr × Obj)} {σ : L2.St} {H : Hp} {s : Shared} {D : Addr} {S : Int → Bool} {c : Nat} {k : Int} {v : Value} {Q : Value → Shared → Prop} (I : Inv X pins σ (setH X.w H D S c) s) (rv : RelV (.int k) v) (room : c + 1 < scanBound) (hx : X.xe = fun _ _ => False) {E : Value → Shared → Prop}
    (h : ∀ r s', Inv X pins σ (setH X.w H D (fun j => S j || decide (j = k)) (if S k = true then c else c + 1)) s' → Q r s') : wpAny (model X.prog X.w) X.A (call (.builtin "set.add") [.ref D, v]) Q E s := by
  have r0 := (mt_sadd pins s σ _ (.ref D) [.int k] (.ref D) [v] (fun _ H' => H' = setH X.w H D (fun j => S j || decide (j = k)) (if S k = true then c else c + 1)) I rfl (.cons rv .nil) ⟨D, k, S, c, rfl, rfl, upd_same, room, by unfold setH; rw [upd_upd]⟩)
  rw [hx] at r0
  exact thnF r0 fun r s' ⟨_, H', I', _, e⟩ => h r s' (by rw [← e]; exact I')
end
section
variable {B : Cx} {tg iter elt : Expr} {g : TG} {te : TE} {fp : List Addr} {it : Addr} {tn : Nat → Heap → Prop} {J : It} {n : Nat} {f : Nat → Int} {H : Hp} {D : Addr} {vs : List Nat} {τ : L2.St}
/-- where the walk stands behind i turns -/
def SetAtI (B : Cx) (fp : List Addr) (tn : Nat → Heap → Prop) (n : Nat) (f : Nat → Int) (H : Hp) (D : Addr) (τ : L2.St) (m : Nat) (s : Shared) : Prop :=
  ∃ (i : Nat) (S : Int → Bool) (c : Nat), i + m = n ∧ c ≤ i ∧ (∀ k, S k = true ↔ ∃ j, j < i ∧ f j = k) ∧ Inv B [] τ (setH B.w H D S c) s ∧ tn i s.heap ∧ ∀ b ∈ fp, setH B.w H D S c b = none
theorem setH_none {w : World} {S S' : Int → Bool} {c c' : Nat} {b : Addr} (h : setH w H D S c b = none) : setH w H D S' c' b = none := by
  unfold setH at *
  by_cases e : b = D
  · rw [e] at h
    rw [upd_same] at h
    cases h
  · rw [upd_ne e] at *
    exact h
theorem set_turn (T : Turn B.prog B.w B.K tg J fp it tn) (hc : B.calm = true) (pg : PG B tg g) (pe : PE B elt te) (hn : n + 1 < scanBound) (hx : B.xe = fun _ _ => False)
    (h : ∀ S c, (∀ i, i < n → J.go i (setH B.w H D S c) ∧ ∀ x H', J.yld i (setH B.w H D S c) x H' → g x τ H' fun σ2 H2 => wipe σ2 vs = τ ∧ te σ2 H2 fun y H4 => y = .int (f i) ∧ H4 = setH B.w H D S c) ∧ J.stop n (setH B.w H D S c))
    (stat : ∀ {σ' : L2.St} {H' : Hp} {s' : Shared}, Inv B [] σ' H' s' → (∀ b ∈ fp, H' b = none) → ∀ b ∈ fp, FpOk B [] H' b)
    {R : Result → Shared → Prop} {scope : Scope} {pos : Pos}
    (done : ∀ S c s, (∀ k, S k = true ↔ ∃ i, i < n ∧ f i = k) → c ≤ n → Inv B [] τ (setH B.w H D S c) s → R (.ok .next) s) {s : Shared} (h0 : SetAtI B fp tn n f H D τ n s) :
    codeAny (model B.prog B.w) B.A (.compLoop (.SetComp elt [⟨tg, iter, [], 0⟩] scope pos) 0 (.ref it) (.ref D) B.env) R s := by
  refine PpSet.compLoopS_any (SetAtI B fp tn n f H D τ) (fun m s ⟨i, S, c, him, hci, hS, I, st, nf⟩ => ?_) n h0
  obtain ⟨ha, hb⟩ := h S c
  rcases Nat.lt_or_ge i n with lt | ge
  · obtain ⟨go, step⟩ := ha i lt
    refine thnF (T.item B rfl rfl rfl hc i [] s τ _ (fun _ _ => False) I (stat I nf) st go) fun r s6 ⟨u, hr, h6⟩ => ?_
    subst hr
    refine thnF h6 fun _ s7 ⟨x, H7, I7, r7, y7, st7, n7⟩ => ?_
    have J7 := I7.pinned (stat I7 n7) (T.obj _ _ st7)
    have r8 := pg.run _ s7 _ H7 x u _ J7 r7 (step x H7 y7)
    rw [hx] at r8
    refine thnF r8 fun _ s8 ⟨σ8, H8, I8, hw8, q8⟩ => ?_
    have r9 := (pts_nil (X := B)).run _ s8 σ8 H8 (fun b H' => b = true ∧ H' = H8) I8 ⟨rfl, rfl⟩
    rw [hx] at r9
    refine thnF r9 fun b s9 ⟨H9, I9, eb, e9⟩ => ?_
    subst eb e9
    have ra := pe.run _ s9 σ8 _ _ I9 q8
    rw [hx] at ra
    refine thnF ra fun z s10 ⟨yv, H10, I10, r10, ey, e10⟩ => ?_
    subst ey e10
    refine addI_ok I10 r10 (by omega) hx fun r s11 I11 => ?_
    have pin' : ∀ b ∈ fp, ∀ o, s7.heap.get? b = some o → s11.heap.get? b = some o := fun b hb o e => (I11.pin (b, o) (List.mem_append_right _ (List.mem_append_right _ (mem_pinsAt hb e)))).1
    have hl : τ.length = σ8.length := by rw [← hw8, wipe_length]
    refine ⟨n - (i + 1), by omega, i + 1, _, _, by omega, by split <;> omega, fun k => ?_, (I11.unpinned (pins := [])).weak hl fun j v e => ?_, T.keep _ _ _ st7 pin', fun b hb => setH_none (nf b hb)⟩
    · rw [Bool.or_eq_true, decide_eq_true_eq, hS k]
      constructor
      · rintro (⟨j, hj, e⟩ | e)
        · exact ⟨j, by omega, e⟩
        · exact ⟨i, by omega, e.symm⟩
      · rintro ⟨j, hj, e⟩
        rcases Nat.lt_or_ge j i with l | l
        · exact .inl ⟨j, l, e⟩
        · have : j = i := by omega
          exact .inr (by rw [← e, this])
    · rw [← hw8] at e
      exact (wipe_some e).1
  · have ei : i = n := by omega
    subst ei
    refine thnF (T.done B rfl rfl rfl hc i [] s τ _ (fun _ _ => False) I (stat I nf) st hb) fun r s6 ⟨hr, I6⟩ => ?_
    subst hr
    exact done S c s6 hS hci I6
end
section
variable {X : Cx}
theorem pe_setI {elt tg iter : Expr} {scope : Scope} {own : List (PySem.Str × Nat)} {pos : Pos} {wi : TI} {g : TG} {te : TE} (hc : X.calm = true) (hN : X.N.Nodup) (hi : PI X tg iter wi) (ok : BlkOk X.N X.env.scope scope own)
    (hg : ∀ (s : Shared) (H : Hp) (C : Addr) (cl : List (PySem.Str × Addr)) (fp : List Addr), PG (X.blk s H scope (compEnvC scope cl C X.env) fp) tg g)
    (he : ∀ (s : Shared) (H : Hp) (C : Addr) (cl : List (PySem.Str × Addr)) (fp : List Addr), PE (X.blk s H scope (compEnvC scope cl C X.env) fp) elt te) (hs : ∀ x, foldedSetIterable iter X.env x = pure x := by intro _; rfl) :
    PE X (.SetComp elt [⟨tg, iter, [], 0⟩] scope pos) (tSetI X.w wi g te (own.map (·.2))) := by
  refine ⟨fun pins s σ H Q I h => ?_⟩
  have free : ∀ y ∈ scope.names, y.2 = .free → ∃ c, X.env.cells.lookup y.1 = some c := fun y hy e => (ok.free y hy e).elim (fun k => I.ok.has _ (.inl k)) fun k => I.ok.has _ (.inr k)
  rw [PpSet.eval_SetComp]
  refine wpAny_comprehension_free (use := none) rfl hs (closure_ok free) ok.kind (fun y hy e => by rw [ok.uniq y hy, e]) (thn (hi.run pins s σ H _ I h) fun xv s1 hx => thn hx fun itv s2 h2 => ?_)
  obtain ⟨it, fp, tn, J, H2, e, I2, T, st2, f2, n, f, hn, q⟩ := h2
  subst e
  refine PpSet.newSet_ok (newEnv_comp ?_)
  have nD : H2 s2.heap.objs.size = none := I2.hok.fresh (Nat.le_refl _)
  have q' := q _ nD
  have I3 : Inv X pins σ (setH X.w H2 s2.heap.objs.size (fun _ => false) 0) { s2 with heap := s2.heap.push { cls := .type "set", dict := none, data := .set #[] 0 (.fresh 0 0 (!X.w.params.followText "set-order")) } } :=
    I2.laid (t' := s2.toks) (fun b o e => Heap.get?_push_of_some _ e) (Nat.le_refl _) (setO_new (setR_fresh X.w))
  have f3 : ∀ b ∈ fp, FpOk X pins (setH X.w H2 s2.heap.objs.size (fun _ => false) 0) b ∧ b < ({ s2 with heap := s2.heap.push { cls := .type "set", dict := none, data := .set #[] 0 (.fresh 0 0 (!X.w.params.followText "set-order")) } } : Shared).heap.objs.size := fun b hb => by
    obtain ⟨o, e, _⟩ := T.obj _ _ st2 b hb
    have lt := Heap.lt_size e
    refine ⟨⟨?_, (f2 b hb).2⟩, by dsimp only; rw [Heap.size_push]; exact Nat.lt_succ_of_lt lt⟩
    show upd _ _ _ b = none
    rw [upd_ne (Nat.ne_of_lt lt)]
    exact (f2 b hb).1
  have tn3 : tn 0 (s2.heap.push { cls := .type "set", dict := none, data := .set #[] 0 (.fresh 0 0 (!X.w.params.followText "set-order")) }) := T.keep _ _ _ st2 fun b _ o e => Heap.get?_push_of_some _ e
  generalize hs3 : ({ s2 with heap := s2.heap.push { cls := .type "set", dict := none, data := .set #[] 0 (.fresh 0 0 (!X.w.params.followText "set-order")) } } : Shared) = s3 at I3 f3
  have h3 : s2.heap.push { cls := .type "set", dict := none, data := .set #[] 0 (.fresh 0 0 (!X.w.params.followText "set-order")) } = s3.heap := by rw [← hs3]
  rw [h3] at tn3
  have I4 := block_start I3 ok hN f3
  have pg := hg s3 (setH X.w H2 s2.heap.objs.size (fun _ => false) 0) s3.heap.objs.size (cellsFrom (s3.heap.objs.size + 1) scope.names (cloFrom X.env.cells scope.names [])) fp
  have pe := he s3 (setH X.w H2 s2.heap.objs.size (fun _ => false) 0) s3.heap.objs.size (cellsFrom (s3.heap.objs.size + 1) scope.names (cloFrom X.env.cells scope.names [])) fp
  show codeAny _ _ (.compStart (.SetComp elt [⟨tg, iter, [], 0⟩] scope pos) 0 (.ref it) (.ref s2.heap.objs.size) (compEnvC scope (cellsFrom (s3.heap.objs.size + 1) scope.names (cloFrom X.env.cells scope.names [])) s3.heap.objs.size X.env)) (compPost (model X.prog X.w) X.A X.xe none (EP X pins σ Q) (.ref s2.heap.objs.size) s3.heap.objs.size) { s3 with heap := pushCells (s3.heap.push { cls := .type "dict", data := .dict #[] }) scope.names }
  have tn4 : tn 0 ({ s3 with heap := pushCells (s3.heap.push { cls := .type "dict", data := .dict #[] }) scope.names } : Shared).heap := T.keep _ _ _ tn3 fun b _ o e => pushCells_keeps _ _ _ _ (Heap.get?_push_of_some _ e)
  have cL : (compEnvC scope (cellsFrom (s3.heap.objs.size + 1) scope.names (cloFrom X.env.cells scope.names [])) s3.heap.objs.size X.env).locals = s3.heap.objs.size := rfl
  generalize compEnvC scope (cellsFrom (s3.heap.objs.size + 1) scope.names (cloFrom X.env.cells scope.names [])) s3.heap.objs.size X.env = ce at I4 pg pe cL ⊢
  generalize ({ s3 with heap := pushCells (s3.heap.push { cls := .type "dict", data := .dict #[] }) scope.names } : Shared) = s4 at I4 tn4 ⊢
  have loop : codeAny (model X.prog X.w) X.A (.compLoop (.SetComp elt [⟨tg, iter, [], 0⟩] scope pos) 0 (.ref it) (.ref s2.heap.objs.size) ce) (compPost (model X.prog X.w) X.A X.xe none (EP X pins σ Q) (.ref s2.heap.objs.size) s3.heap.objs.size) s4 :=
    set_turn (B := X.blk s3 (setH X.w H2 s2.heap.objs.size (fun _ => false) 0) scope ce fp) (J := J) (n := n) (f := f) (H := H2) (vs := own.map (·.2)) (τ := wipe σ (own.map (·.2))) T hc pg pe hn rfl (fun S c => ⟨fun i hi => (q' S c).1 i hi, (q' S c).2.1⟩)
      (fun {σ' H' s'} I' hn b hb => ⟨hn b hb, (I'.ok.exf b hb).1, I'.ok.exfs b hb, .inl hb, fun x c e => (I'.ok.exf b hb).2 x c e, fun p hp => absurd (show p ∈ ([] : List (Addr × Obj)) ++ [] from hp) (by simp)⟩)
      (fun S c s6 hS hc6 I6 => by
        have I7 : Inv X pins σ (setH X.w H2 s2.heap.objs.size S c) s6 := I3.call' (ch := fp) I6.os I6.base I6.hok I6.bare fun b hb => ⟨(f3 b hb).1.2.2.2.1, (f3 b hb).1.2.1, (f3 b hb).1.2.2.2.2.1, (f3 b hb).1.2.2.2.2.2⟩
        have nC : setH X.w H2 s2.heap.objs.size S c s3.heap.objs.size = none := by
          have z : setH X.w H2 s2.heap.objs.size S c ce.locals = none := I6.free
          rw [cL] at z
          exact z
        obtain ⟨m, hm, _⟩ := I6.loc
        have hm : s6.heap.Ns ce.locals m := hm
        rw [cL] at hm
        obtain ⟨g0, g1, g2, g3, g4, g5⟩ := I3.fpOk (Nat.le_refl _) nC
        exact ⟨m, hm, fun h'' sb => ⟨.ref _, _, I7.turned (t' := s6.toks) (fun b o hb e => (sb.2 b hb).trans e) g0 g1 g3 g4 g5, rfl, (q' S c).2.2 hS hc6⟩⟩)
      ⟨0, _, 0, Nat.zero_add _, Nat.le_refl _, fun k => ⟨fun z => (by cases z), fun ⟨j, hj, _⟩ => (by omega)⟩, I4, tn4, fun b hb => (f3 b hb).1.1⟩
  exact PpSet.codeAny_compStart_set loop (T.self X.A 0 _ _ _ tn4 loop)
/-- over a list, the element's number known from the item -/
theorem sg_lst {w : World} {K : PySem.W.Frag} {g : TG} {te : TE} {vs : List Nat} {σ : L2.St} {Q : VK} {H : Hp} {a : Addr} {xs : List V} (f : Nat → Int) (h : SqL K H a xs) (hn : xs.length + 1 < scanBound)
    (hs : ∀ (i : Nat) (x : V) (H' : Hp), xs[i]? = some x → Kp [] H H' → g x (wipe σ vs) H' fun σ2 H2 => wipe σ2 vs = wipe σ vs ∧ te σ2 H2 fun y H4 => y = .int (f i) ∧ H4 = H')
    (hd : ∀ D S c, H D = none → (∀ k, S k = true ↔ ∃ i, i < xs.length ∧ f i = k) → c ≤ xs.length → Q (.ref D) (setH w H D S c)) : SetG w (Itl K a) g te vs σ Q H := by
  refine ⟨xs.length, f, hn, fun D nD S c => ?_⟩
  have k : Kp [] H (setH w H D S c) := Kp.new nD
  have l := k.sql (by simp) h
  refine ⟨fun i hi => ⟨⟨xs, xs[i], l, by simp [hi]⟩, fun x H' y => ?_⟩, ⟨xs, l, Nat.le_refl _⟩, hd D S c nD⟩
  obtain ⟨e, hx⟩ := y
  subst e
  exact hs i x _ (hx xs l) k
end
end G

set_option Elab.async false
set_option linter.all false
set_option maxRecDepth 100000
set_option maxHeartbeats 4000000
/-! shared small facts: == of lists of numbers; reverse. -/
namespace G
open PySem PySem.Spec PyProof.Rows L2
section
variable {K : PySem.W.Frag}
theorem dpZ {H : Hp} : ∀ xs : List Int, DpAll K H (xs.map V.int) (xs.map PyData.int)
  | [] => .nil
  | x :: xs => .cons (.int x) (dpZ xs)
theorem layZ : ∀ xs : List Int, PyData.canLayAll0 (xs.map PyData.int) = true
  | [] => rfl
  | x :: xs => by
    show PyData.canLayAll0 (PyData.int x :: xs.map PyData.int) = true
    rw [PyData.canLayAll0, layZ xs] <;> rfl
theorem depZ : ∀ xs : List Int, PyData.depthAll (xs.map PyData.int) ≤ 1
  | [] => by simp [PyData.depthAll]
  | x :: xs => by
    have := depZ xs
    show PyData.depthAll (PyData.int x :: xs.map PyData.int) ≤ 1
    rw [PyData.depthAll]
    simp [PyData.depth]
    omega
theorem shZ (xs : List Int) : SeqAt.shaped (.list (xs.map PyData.int)) = true := by
  unfold SeqAt.shaped
  rw [PyData.canLay0, layZ, PyData.depth]
  have := depZ xs
  simp
  omega
theorem eqvZ : ∀ xs ys : List Int, PyData.eqvAll (xs.map PyData.int) (ys.map PyData.int) = decide (xs = ys)
  | [], [] => by simp [PyData.eqvAll]
  | [], y :: ys => by simp [PyData.eqvAll]
  | x :: xs, [] => by simp [PyData.eqvAll]
  | x :: xs, y :: ys => by
    show PyData.eqvAll (PyData.int x :: xs.map PyData.int) (PyData.int y :: ys.map PyData.int) = _
    rw [PyData.eqvAll, eqvZ xs ys, PyData.eqv]
    by_cases h : x = y <;> by_cases h2 : xs = ys <;> simp [h, h2]
theorem w_eqLZ {H : Hp} {Q : VK} {p q : Addr} {xs ys : List Int} (h1 : H p = some (.lst (xs.map V.int))) (h2 : H q = some (.lst (ys.map V.int))) (g : Q (.bl (decide (xs = ys))) H) : rEqA K (.ref p) (.ref q) H Q :=
  w_eqD (.lst (SqL.of h1) (dpZ xs)) (.lst (SqL.of h2) (dpZ ys)) (shZ xs) (shZ ys) (by
    rw [PyData.eqv, eqvZ]
    exact g)
theorem w_rvsZ {H : Hp} {Q : VK} {p : Addr} {xs : List V} (h : H p = some (.lst xs)) (g : ∀ H', Kp [p] H H' → H' p = some (.lst xs.reverse) → Q .non H') : rReverse (.ref p) [] H Q := ⟨p, xs, rfl, rfl, h, g _ (Kp.put (by simp)) upd_same⟩
end
end G

set_option Elab.async false
set_option linter.all false
set_option maxRecDepth 100000
set_option maxHeartbeats 4000000
/-! k04: mathematics. -/
namespace G
open PySem PySem.Spec PyProof.Rows L2 TL
/-! ### walks -/
def wkF (R : List Int) (n : Nat) : Nat → Int → List Int
  | 0, _ => []
  | k + 1, v => if v ≤ (n : Int) then v :: wkF R n k (gI R v.toNat) else []
def wbF (L : List Int) : Nat → Int → List Int
  | 0, _ => []
  | k + 1, v => if 1 ≤ v then v :: wbF L k (gI L v.toNat) else []
def walkL (n : Nat) (R : List Int) : List Int := wkF R n (n + 1) (gI R 0)
def walkB (n : Nat) (L : List Int) : List Int := wbF L (n + 1) (gI L (n + 1))
theorem wkF_len (R : List Int) (n : Nat) : ∀ k v, (wkF R n k v).length ≤ k
  | 0, _ => Nat.le_refl _
  | k + 1, v => by
    unfold wkF
    split
    · rw [List.length_cons]
      have := wkF_len R n k (gI R v.toNat)
      omega
    · simp
theorem wbF_len (L : List Int) : ∀ k v, (wbF L k v).length ≤ k
  | 0, _ => Nat.le_refl _
  | k + 1, v => by
    unfold wbF
    split
    · rw [List.length_cons]
      have := wbF_len L k (gI L v.toNat)
      omega
    · simp
theorem wbF_w {L : List Int} : ∀ k v, wbF (0 :: L.drop 1) k v = wbF L k v
  | 0, _ => rfl
  | k + 1, v => by
    unfold wbF
    split
    · rename_i h
      rw [gI_wL (by omega), wbF_w k]
    · rfl
theorem walkB_w (n : Nat) (L : List Int) : walkB n (0 :: L.drop 1) = walkB n L := by
  unfold walkB
  rw [gI_wL (by omega), wbF_w]
/-! ### sound, whole -/
def chk (R L : List Int) : Int → List Int → Bool
  | _, [] => true
  | a, x :: xs => (decide (gI R a.toNat = x) && decide (gI L x.toNat = a)) && chk R L x xs
def inN (n : Nat) (O : List Bool) : List Int := (((List.range (n + 1)).map fun (v : Nat) => v + 1).filter fun v => !gB O v).map fun (v : Nat) => (v : Int)
def sndB (n : Nat) (R L : List Int) (O : List Bool) : Bool := chk R L 0 (inN n O)
def whS (n : Nat) (R L : List Int) (O : List Bool) : Bool := (List.range (n + 1)).all fun v => !gB O v && (decide (gI R v = (v : Int) + 1) && decide (gI L (v + 1) = (v : Int)))
theorem chk_zip {R L : List Int} : ∀ (a : Int) (xs : List Int), ((List.range xs.length).map fun j => decide (gI R (gI (a :: xs) j).toNat = gI xs j) && decide (gI L (gI xs j).toNat = gI (a :: xs) j)).all id = chk R L a xs
  | a, [] => rfl
  | a, x :: xs => by
    rw [List.length_cons, List.range_succ_eq_map, List.map_cons, List.all_cons, List.map_map]
    have ih := chk_zip (R := R) (L := L) x xs
    have e : ((fun j => decide (gI R (gI (a :: x :: xs) j).toNat = gI (x :: xs) j) && decide (gI L (gI (x :: xs) j).toNat = gI (a :: x :: xs) j)) ∘ Nat.succ) = fun j => decide (gI R (gI (x :: xs) j).toNat = gI xs j) && decide (gI L (gI xs j).toNat = gI (x :: xs) j) := rfl
    rw [e, ih]
    rfl
theorem chk_L {R L L' : List Int} (h : ∀ v, 1 ≤ v → gI L v = gI L' v) : ∀ (a : Int) (xs : List Int), (∀ x ∈ xs, 1 ≤ x) → chk R L a xs = chk R L' a xs
  | a, [], _ => rfl
  | a, x :: xs, hx => by
    unfold chk
    have := hx x (List.mem_cons_self ..)
    rw [h x.toNat (by omega), chk_L h x xs fun y hy => hx y (List.mem_cons_of_mem _ hy)]
theorem inN_bd {n : Nat} {O : List Bool} {x : Int} (h : x ∈ inN n O) : 1 ≤ x ∧ x ≤ (n : Int) + 1 := by
  unfold inN at h
  obtain ⟨v, hv, rfl⟩ := List.mem_map.mp h
  obtain ⟨u, hu, rfl⟩ := List.mem_map.mp (List.mem_filter.mp hv).1
  have := List.mem_range.mp hu
  omega
theorem inN_len (n : Nat) (O : List Bool) : (inN n O).length ≤ n + 1 := by
  unfold inN
  rw [List.length_map]
  refine Nat.le_trans (List.length_filter_le _ _) ?_
  rw [List.length_map, List.length_range]
  exact Nat.le_refl _
theorem sndB_w (n : Nat) (R L : List Int) (O : List Bool) : sndB n R (0 :: L.drop 1) O = sndB n R L O := chk_L (fun v hv => gI_wL hv) 0 _ fun x hx => (inN_bd hx).1
theorem whS_w (n : Nat) (R L : List Int) (O : List Bool) : whS n R (0 :: L.drop 1) O = whS n R L O := by
  unfold whS
  congr 1
  funext v
  rw [gI_wL (by omega)]
theorem whS_eq {s : Sd} (w : Wf s) (d : Snd s) : eqS s (wholeS s.n) = whS s.n s.R s.L s.O := by
  have wW := Wf.whole w.n60
  have gf : ∀ v, v < s.n + 2 → gB (wholeS s.n).O v = false := fun v hv => gB_of (List.getElem?_replicate_of_lt hv)
  cases e : whS s.n s.R s.L s.O with
  | true =>
    unfold whS at e
    rw [List.all_eq_true] at e
    have key : ∀ v, v ≤ s.n → gB s.O v = false ∧ gI s.R v = (v : Int) + 1 ∧ gI s.L (v + 1) = (v : Int) := fun v hv => by
      have := e v (List.mem_range.mpr (by omega))
      simpa using this
    obtain ⟨t, ht⟩ := d.l0
    have e1 : s.R = (wholeS s.n).R := by
      refine List.ext_getElem? fun i => ?_
      by_cases hi : i < s.n + 1
      · rw [gI_at (l := s.R) (by rw [w.lR]; omega), gI_at (l := (wholeS s.n).R) (by rw [wW.lR]; exact hi), (key i (by omega)).2.1]
        congr 1
        show _ = gI (rgI 1 (s.n + 1)) i
        rw [gI_range hi]
        omega
      · rw [List.getElem?_eq_none (by rw [w.lR]; omega), List.getElem?_eq_none (by rw [wW.lR]; show s.n + 1 ≤ i; omega)]
    have e2 : s.L = (wholeS s.n).L := by
      refine List.ext_getElem? fun i => ?_
      by_cases hi : i < s.n + 2
      · cases i with
        | zero =>
          rw [ht]
          rfl
        | succ i =>
          rw [gI_at (l := s.L) (by rw [w.lL]; omega), gI_at (l := (wholeS s.n).L) (by rw [wW.lL]; exact hi), (key i (by omega)).2.2]
          congr 1
          show _ = gI (rgI 0 (s.n + 1)) i
          rw [gI_range (by omega)]
          omega
      · rw [List.getElem?_eq_none (by rw [w.lL]; omega), List.getElem?_eq_none (by rw [wW.lL]; show s.n + 2 ≤ i; omega)]
    have e3 : s.O = (wholeS s.n).O := by
      refine List.ext_getElem? fun i => ?_
      by_cases hi : i < s.n + 2
      · rw [gB_at (l := s.O) (by rw [w.lO]; omega), gB_at (l := (wholeS s.n).O) (by rw [wW.lO]; exact hi), gf i hi]
        congr 1
        by_cases c : i = s.n + 1
        · rw [c]
          exact d.o1
        · exact (key i (by omega)).1
      · rw [List.getElem?_eq_none (by rw [w.lO]; omega), List.getElem?_eq_none (by rw [wW.lO]; show s.n + 2 ≤ i; omega)]
    unfold eqS
    rw [decide_eq_true e1, decide_eq_true e2, decide_eq_true e3]
    rfl
  | false =>
    cases h : eqS s (wholeS s.n) with
    | false => rfl
    | true =>
      unfold eqS at h
      simp only [Bool.and_eq_true, decide_eq_true_eq] at h
      obtain ⟨h1, h2, h3⟩ := h
      have : whS s.n s.R s.L s.O = true := by
        unfold whS
        rw [List.all_eq_true]
        intro v hv
        have := List.mem_range.mp hv
        rw [h1, h2, h3, gf v (by omega)]
        have a1 : gI (wholeS s.n).R v = (v : Int) + 1 := by
          show gI (rgI 1 (s.n + 1)) v = _
          rw [gI_range (by omega)]
          omega
        have a2 : gI (wholeS s.n).L (v + 1) = (v : Int) := by
          show gI (rgI 0 (s.n + 1)) v = _
          rw [gI_range (by omega)]
          omega
        rw [a1, a2]
        simp
      rw [this] at e
      cases e
/-! ### the mirror -/
def mirS (s : Sd) : Sd := ⟨s.n, (List.range (s.n + 1)).map fun (v : Nat) => (s.n : Int) + 1 - gI s.L (s.n + 1 - v), 0 :: (List.range (s.n + 1)).map fun (v : Nat) => (s.n : Int) + 1 - gI s.R (s.n - v), (List.range (s.n + 2)).map fun (v : Nat) => gB s.O (s.n + 1 - v)⟩
def opp (n : Nat) (op : Int) : Int := if op < 0 then -((n : Int) + 1 + op) else (n : Int) + 1 - op
theorem gI_map {n v : Nat} {f : Nat → Int} (h : v < n) : gI ((List.range n).map f) v = f v := gI_of (by rw [List.getElem?_map, List.getElem?_range h] <;> rfl)
theorem gB_map {n v : Nat} {f : Nat → Bool} (h : v < n) : gB ((List.range n).map f) v = f v := gB_of (by rw [List.getElem?_map, List.getElem?_range h] <;> rfl)
theorem mir_R {s : Sd} {v : Nat} (h : v ≤ s.n) : gI (mirS s).R v = (s.n : Int) + 1 - gI s.L (s.n + 1 - v) := gI_map (by omega)
theorem mir_L {s : Sd} {v : Nat} (h0 : 1 ≤ v) (h : v ≤ s.n + 1) : gI (mirS s).L v = (s.n : Int) + 1 - gI s.R (s.n + 1 - v) := by
  obtain ⟨u, rfl⟩ : ∃ u, v = u + 1 := ⟨v - 1, by omega⟩
  show gI ((List.range (s.n + 1)).map fun (v : Nat) => (s.n : Int) + 1 - gI s.R (s.n - v)) u = _
  rw [gI_map (by omega), show s.n + 1 - (u + 1) = s.n - u by omega]
theorem mir_O {s : Sd} {v : Nat} (h : v ≤ s.n + 1) : gB (mirS s).O v = gB s.O (s.n + 1 - v) := gB_map (by omega)
theorem mir_lens (s : Sd) : (mirS s).R.length = s.n + 1 ∧ (mirS s).L.length = s.n + 2 ∧ (mirS s).O.length = s.n + 2 := by
  simp [mirS]
theorem mir_wf {s : Sd} (w : Wf s) : Wf (mirS s) := by
  obtain ⟨h1, h2, h3⟩ := mir_lens s
  refine ⟨w.n60, h1, h2, h3, fun v hv => ?_, fun v h1 h2 => ?_⟩
  · have hv : v ≤ s.n := hv
    rw [mir_R hv]
    have := w.lb (s.n + 1 - v) (by omega) (by omega)
    show _ ∧ _ ≤ (s.n : Int) + 1
    omega
  · have h2 : v ≤ s.n + 1 := h2
    rw [mir_L h1 h2]
    have := w.rb (s.n + 1 - v) (by omega)
    omega
theorem mir_snd {s : Sd} (d : Snd s) : Snd (mirS s) := by
  refine ⟨⟨_, rfl⟩, ?_, ?_⟩
  · rw [mir_O (by omega)]
    exact d.o1
  · show gB (mirS s).O (s.n + 1) = false
    rw [mir_O (by omega), Nat.sub_self]
    exact d.o0
theorem sd_ext {s t : Sd} (w : Wf s) (w' : Wf t) (d : Snd s) (d' : Snd t) (hn : s.n = t.n) (hR : ∀ v, v ≤ s.n → gI s.R v = gI t.R v) (hL : ∀ v, 1 ≤ v → v ≤ s.n + 1 → gI s.L v = gI t.L v) (hO : ∀ v, v ≤ s.n + 1 → gB s.O v = gB t.O v) : s = t := by
  have l1 := w.lR
  have l2 := w.lL
  have l3 := w.lO
  have m1 := w'.lR
  have m2 := w'.lL
  have m3 := w'.lO
  obtain ⟨x, hx⟩ := d.l0
  obtain ⟨y, hy⟩ := d'.l0
  have e1 : s.R = t.R := List.ext_getElem? fun i => by
    by_cases hi : i < s.n + 1
    · rw [gI_at (l := s.R) (by omega), gI_at (l := t.R) (by omega), hR i (by omega)]
    · rw [List.getElem?_eq_none (by omega), List.getElem?_eq_none (by omega)]
  have e2 : s.L = t.L := List.ext_getElem? fun i => by
    by_cases hi : i < s.n + 2
    · cases i with
      | zero => rw [hx, hy] <;> rfl
      | succ i => rw [gI_at (l := s.L) (by omega), gI_at (l := t.L) (by omega), hL (i + 1) (by omega) (by omega)]
    · rw [List.getElem?_eq_none (by omega), List.getElem?_eq_none (by omega)]
  have e3 : s.O = t.O := List.ext_getElem? fun i => by
    by_cases hi : i < s.n + 2
    · rw [gB_at (l := s.O) (by omega), gB_at (l := t.O) (by omega), hO i (by omega)]
    · rw [List.getElem?_eq_none (by omega), List.getElem?_eq_none (by omega)]
  obtain ⟨n, R, L, O⟩ := s
  obtain ⟨n', R', L', O'⟩ := t
  cases hn; cases e1; cases e2; cases e3
  rfl
theorem mir_mir {s : Sd} (w : Wf s) (d : Snd s) : mirS (mirS s) = s := by
  have w1 := mir_wf w
  have hn : (mirS s).n = s.n := rfl
  refine sd_ext (mir_wf w1) w (mir_snd (mir_snd d)) d rfl (fun v hv => ?_) (fun v h1 h2 => ?_) fun v hv => ?_
  · have hv : v ≤ s.n := hv
    rw [mir_R (s := mirS s) hv, hn, mir_L (by omega) (by omega), show s.n + 1 - (s.n + 1 - v) = v by omega]
    omega
  · have h2 : v ≤ s.n + 1 := h2
    rw [mir_L (s := mirS s) h1 h2, hn, mir_R (by omega), show s.n + 1 - (s.n + 1 - v) = v by omega]
    omega
  · have hv : v ≤ s.n + 1 := hv
    rw [mir_O (s := mirS s) hv, hn, mir_O (by omega), show s.n + 1 - (s.n + 1 - v) = v by omega]
theorem opp_abs {n : Nat} {op : Int} (h : IsOp n op) : (opp n op).natAbs = n + 1 - op.natAbs ∧ (opp n op < 0 ↔ op < 0) ∧ IsOp n (opp n op) ∧ opp n op = (if op > 0 then (n : Int) + 1 - (op.natAbs : Int) else -((n : Int) + 1 - (op.natAbs : Int))) := by
  obtain ⟨h1, h2⟩ := h
  unfold opp IsOp
  split <;> split <;> omega
theorem opp_ok {s : Sd} {op : Int} (h : OkOp s op) : OkOp (mirS s) (opp s.n op) := by
  obtain ⟨a1, a2, a3, _⟩ := opp_abs h.1
  refine ⟨a3, ?_⟩
  have := h.1.1
  have := h.1.2
  rw [a1, mir_O (by omega), show s.n + 1 - (s.n + 1 - op.natAbs) = op.natAbs by omega, h.2]
  by_cases c : op < 0
  · rw [decide_eq_false (by omega), decide_eq_false (by have := a2.mpr c; omega)]
  · have c2 : ¬ opp s.n op < 0 := fun z => c (a2.mp z)
    rw [decide_eq_true (by omega), decide_eq_true (by have := a3.1; omega)]
theorem step_gB {s : Sd} (w : Wf s) {op : Int} (h : IsOp s.n op) (v : Nat) : gB (stepS s op).O v = if v = op.natAbs then decide (op < 0) else gB s.O v := by
  show gB (s.O.set op.natAbs (decide (op < 0))) v = _
  have := w.lO
  have := h.2
  rw [gB_set (by omega)]
theorem step_gI {s : Sd} (w : Wf s) {op : Int} (h : IsOp s.n op) (v : Nat) : gI (stepS s op).R v = (if v = (gI s.L op.natAbs).toNat then (if op < 0 then gI s.R op.natAbs else (op.natAbs : Int)) else gI s.R v) ∧ gI (stepS s op).L v = (if v = (gI s.R op.natAbs).toNat then (if op < 0 then gI s.L op.natAbs else (op.natAbs : Int)) else gI s.L v) := by
  have h1 := h.1
  have h2 := h.2
  have rb := w.rb op.natAbs h2
  have lb := w.lb op.natAbs h1 (by omega)
  have l1 := w.lR
  have l2 := w.lL
  refine ⟨?_, ?_⟩
  · show gI (s.R.set _ _) v = _
    rw [gI_set (by omega)]
  · show gI (s.L.set _ _) v = _
    rw [gI_set (by omega)]
theorem mir_step {s : Sd} (w : Wf s) (d : Snd s) {op : Int} (h : IsOp s.n op) : mirS (stepS s op) = stepS (mirS s) (opp s.n op) := by
  obtain ⟨a1, a2, a3, _⟩ := opp_abs h
  have w1 := mir_wf w
  have h1 := h.1
  have h2 := h.2
  have wst := w.step h
  have hn : (mirS s).n = s.n := rfl
  have hn2 : (stepS s op).n = s.n := rfl
  have rb := w.rb op.natAbs h2
  have lb := w.lb op.natAbs h1 (by omega)
  have sg : ∀ (a b : Int), (if opp s.n op < 0 then a else b) = if op < 0 then a else b := fun a b => by
    by_cases c : op < 0
    · rw [if_pos c, if_pos (a2.mpr c)]
    · rw [if_neg c, if_neg fun z => c (a2.mp z)]
  have mR : gI (mirS s).R (s.n + 1 - op.natAbs) = (s.n : Int) + 1 - gI s.L op.natAbs := by
    rw [mir_R (by omega), show s.n + 1 - (s.n + 1 - op.natAbs) = op.natAbs by omega]
  have mL : gI (mirS s).L (s.n + 1 - op.natAbs) = (s.n : Int) + 1 - gI s.R op.natAbs := by
    rw [mir_L (by omega) (by omega), show s.n + 1 - (s.n + 1 - op.natAbs) = op.natAbs by omega]
  refine sd_ext (mir_wf wst) (w1.step a3) (mir_snd (stepS_snd w d h)) (stepS_snd w1 (mir_snd d) a3) rfl (fun v hv => ?_) (fun v v1 v2 => ?_) fun v hv => ?_
  · have hv : v ≤ s.n := hv
    rw [mir_R (s := stepS s op) hv, hn2, (step_gI w h _).2, (step_gI w1 a3 _).1, a1, mR, mL, sg, mir_R hv]
    by_cases c : v = ((s.n : Int) + 1 - gI s.R op.natAbs).toNat
    · rw [if_pos c, if_pos (by omega)]
      by_cases c2 : op < 0
      · rw [if_pos c2, if_pos c2]
      · rw [if_neg c2, if_neg c2]
        omega
    · rw [if_neg c, if_neg (by omega)]
  · have v2 : v ≤ s.n + 1 := v2
    rw [mir_L (s := stepS s op) v1 v2, hn2, (step_gI w h _).1, (step_gI w1 a3 _).2, a1, mR, mL, sg, mir_L v1 v2]
    by_cases c : v = ((s.n : Int) + 1 - gI s.L op.natAbs).toNat
    · rw [if_pos c, if_pos (by omega)]
      by_cases c2 : op < 0
      · rw [if_pos c2, if_pos c2]
      · rw [if_neg c2, if_neg c2]
        omega
    · rw [if_neg c, if_neg (by omega)]
  · have hv : v ≤ s.n + 1 := hv
    rw [mir_O (s := stepS s op) hv, hn2, step_gB w h, step_gB w1 a3, a1, mir_O hv]
    have e : decide (opp s.n op < 0) = decide (op < 0) := by
      by_cases c : op < 0
      · rw [decide_eq_true c, decide_eq_true (a2.mpr c)]
      · rw [decide_eq_false c, decide_eq_false fun z => c (a2.mp z)]
    by_cases c : v = s.n + 1 - op.natAbs
    · rw [if_pos c, if_pos (by omega), e]
    · rw [if_neg c, if_neg (by omega)]
end G

set_option Elab.async false
set_option linter.all false
set_option maxRecDepth 100000
set_option maxHeartbeats 4000000
/-! k04: runs, outs, promises. -/
namespace G
open PySem PySem.Spec PyProof.Rows L2 TL
theorem leg_split {s : Sd} {l : List Int} {x : Int} (h : Leg s (l ++ [x])) : Leg s l ∧ OkOp (runS s l) x := by
  refine ⟨?_, ?_⟩
  · have := h.take l.length
    rwa [List.take_left'] at this
    rfl
  · have := h l.length x (by simp)
    rwa [List.take_left'] at this
    rfl
theorem mir_run {s : Sd} (w : Wf s) (d : Snd s) : ∀ log : List Int, Leg s log → mirS (runS s log) = runS (mirS s) (log.map (opp s.n)) := by
  intro log
  induction log using snoc_ind with
  | h0 => exact fun _ => rfl
  | h1 l x ih =>
    intro h
    obtain ⟨hl, hx⟩ := leg_split h
    have e : (runS s l).n = s.n := runS_n s l
    rw [runS_snoc, mir_step (hl.wf w) (runS_snd w d hl) hx.1, e, ih hl, List.map_append]
    exact (runS_snoc _ _ _).symm
theorem mir_leg {s : Sd} (w : Wf s) (d : Snd s) {log : List Int} (h : Leg s log) : Leg (mirS s) (log.map (opp s.n)) := by
  intro i op hop
  rw [List.getElem?_map] at hop
  obtain ⟨o, ho, rfl⟩ := Option.map_eq_some_iff.mp hop
  rw [← List.map_take, ← mir_run w d _ (h.take i)]
  have := opp_ok (h i o ho)
  rwa [runS_n] at this
theorem leg_ops {s : Sd} {log : List Int} (h : Leg s log) : ∀ op ∈ log, IsOp s.n op := by
  intro op hop
  obtain ⟨i, hi, rfl⟩ := List.mem_iff_getElem.mp hop
  have := (h i _ (List.getElem?_eq_getElem hi)).1
  rwa [runS_n] at this
theorem outN_pair (n : Nat) (O : List Bool) : (outN n O).Pairwise (· < ·) := by
  unfold outN
  rw [List.pairwise_map]
  refine List.Pairwise.imp (fun {a b} (h : a < b) => by omega) (List.Pairwise.filter _ ?_)
  rw [List.pairwise_map]
  exact List.Pairwise.imp (fun {a b} (h : a < b) => by omega) List.pairwise_lt_range
theorem mem_outN4 {n v : Nat} {O : List Bool} (h1 : 1 ≤ v) (h2 : v ≤ n) : ((v : Int) ∈ outN n O) ↔ gB O v = true := by
  constructor
  · intro z
    have := (outN_bd z).2.2
    rwa [Int.toNat_natCast] at this
  · intro c
    unfold outN
    exact List.mem_map.mpr ⟨v, List.mem_filter.mpr ⟨List.mem_map.mpr ⟨v - 1, List.mem_range.mpr (by omega), by omega⟩, c⟩, rfl⟩
theorem mir_outs (s : Sd) : ((outN s.n s.O).reverse.map fun (v : Int) => (s.n : Int) + 1 - v) = outN s.n (mirS s).O := by
  have hp : ((outN s.n s.O).reverse.map fun (v : Int) => (s.n : Int) + 1 - v).Pairwise (· < ·) := by
    rw [List.pairwise_map, List.pairwise_reverse]
    exact List.Pairwise.imp (fun {a b} (h : a < b) => by omega) (outN_pair s.n s.O)
  have hb : ∀ x ∈ ((outN s.n s.O).reverse.map fun (v : Int) => (s.n : Int) + 1 - v), 1 ≤ x ∧ x ≤ (s.n : Int) := by
    intro x hx
    obtain ⟨v, hv, rfl⟩ := List.mem_map.mp hx
    have := outN_bd (List.mem_reverse.mp hv)
    omega
  have e := filter_range_eq hp hb
  rw [← e]
  unfold outN
  congr 1
  refine List.filter_congr fun v hv => ?_
  obtain ⟨u, hu, rfl⟩ := List.mem_map.mp hv
  have hu := List.mem_range.mp hu
  rw [mir_O (by omega)]
  have key : (((u + 1 : Nat) : Int) ∈ ((outN s.n s.O).reverse.map fun (v : Int) => (s.n : Int) + 1 - v)) ↔ gB s.O (s.n + 1 - (u + 1)) = true := by
    rw [List.mem_map]
    constructor
    · rintro ⟨y, hy, e⟩
      have hy := List.mem_reverse.mp hy
      have b := outN_bd hy
      rw [show s.n + 1 - (u + 1) = y.toNat by omega]
      exact b.2.2
    · intro c
      refine ⟨((s.n + 1 - (u + 1) : Nat) : Int), List.mem_reverse.mpr ((mem_outN4 (by omega) (by omega)).mpr c), by omega⟩
  cases c : gB s.O (s.n + 1 - (u + 1)) with
  | true => exact decide_eq_true (key.mpr c)
  | false =>
    refine decide_eq_false fun z => ?_
    have := key.mp z
    rw [c] at this
    cases this
section

def sp04_Links_walk (K : PySem.W.Frag) : SpG := fun vs H Q E => ∃ (p r l o : Addr) (s : Sd), vs = [.ref p] ∧ LinksAt K H p r l o s ∧ Q ((walkL s.n s.R).map V.int) H
def sp04_Links_walk_back (K : PySem.W.Frag) : SpG := fun vs H Q E => ∃ (p r l o : Addr) (s : Sd), vs = [.ref p] ∧ LinksAt K H p r l o s ∧ Q ((walkB s.n s.L).map V.int) H
def sp04_Links_is_sound (K : PySem.W.Frag) : Sp := fun vs H Q E => ∃ (p r l o : Addr) (s : Sd), vs = [.ref p] ∧ LinksAt K H p r l o s ∧ Snd s ∧ Any H (.bl (sndB s.n s.R s.L s.O)) Q
def sp04_Links_is_whole (K : PySem.W.Frag) : Sp := fun vs H Q E => ∃ (p r l o : Addr) (s : Sd), vs = [.ref p] ∧ LinksAt K H p r l o s ∧ Snd s ∧ Any H (.bl (whS s.n s.R s.L s.O)) Q
def sp04_Links___contains__ (K : PySem.W.Frag) : Sp := fun vs H Q E => ∃ (p r l o : Addr) (s : Sd) (v : Int), vs = [.ref p, .int v] ∧ LinksAt K H p r l o s ∧ Q (.bl (decide (1 ≤ v ∧ v ≤ (s.n : Int)) && !gB s.O v.toNat)) H
def sp04_mirrored (K : PySem.W.Frag) : Sp := fun vs H Q E => ∃ (p r l o : Addr) (s : Sd), vs = [.ref p] ∧ LinksAt K H p r l o s ∧ Snd s ∧ NewS K H (mirS s) Q
def sp04__check_operations (K : PySem.W.Frag) : Sp := fun vs H Q E => ∃ (n : Nat) (a : Addr) (log : List Int), vs = [.int (n : Int), .ref a] ∧ n ≤ 60 ∧ SqL K H a (log.map V.int) ∧ (∀ op ∈ log, IsOp n op) ∧ Any H .non Q
def sp04__on_node (K : PySem.W.Frag) : Sp := fun vs H Q E => ∃ (op v : Int), vs = [.int op, .int v] ∧ Q (.int (if op > 0 then v else -v)) H
def sp04_mirror (K : PySem.W.Frag) : Sp := fun vs H Q E => ∃ (n : Nat) (a : Addr) (log : List Int), vs = [.int (n : Int), .ref a] ∧ n ≤ 60 ∧ H a = some (.lst (log.map V.int)) ∧ log.length ≤ 1000 ∧ (∀ op ∈ log, IsOp n op) ∧ NewL H ((log.map (opp n)).map V.int) Q
def sp04__law_run (K : PySem.W.Frag) : Sp := fun vs H Q E => ∃ (b c w r l o : Addr) (n : Nat) (R L : List Int) (O : List Bool), vs = [.ref b, .int (n : Int), .ref w] ∧ n ≤ 60 ∧ BxI H b c ∧ w ≠ b ∧ o ≠ b ∧ H w = some (.lst [.ref r, .ref l, .ref o]) ∧ WdZ H r l o n R L O ∧
  ∀ (run : List Int) q H', Leg (wS n R L O) run → run.length ≤ 100 → H q = none → Kp [b] H H' → BxI H' b c → H' q = some (.lst (run.map V.int)) → Q (.ref q) H'
def sp04__law_walked (K : PySem.W.Frag) : Sp := fun vs H Q E => ∃ (r : Addr) (n : Nat) (R : List Int), vs = [.int (n : Int), .ref r] ∧ n ≤ 60 ∧ H r = some (.lst (R.map V.int)) ∧ R.length = n + 1 ∧ (∀ v : Nat, v ≤ n → (v : Int) < gI R v ∧ gI R v ≤ (n : Int) + 1) ∧ NewL H ((walkL n R).map V.int) Q
def sp04__law_walked_back (K : PySem.W.Frag) : Sp := fun vs H Q E => ∃ (l : Addr) (n : Nat) (L : List Int), vs = [.int (n : Int), .ref l] ∧ n ≤ 60 ∧ H l = some (.lst (L.map V.int)) ∧ L.length = n + 2 ∧ (∀ v : Nat, 1 ≤ v → v ≤ n + 1 → 0 ≤ gI L v ∧ gI L v < (v : Int)) ∧ NewL H ((walkB n L).map V.int) Q
def sp04__law_sound (K : PySem.W.Frag) : Sp := fun vs H Q E => ∃ (r l o : Addr) (n : Nat) (R L : List Int) (O : List Bool), vs = [.int (n : Int), .ref r, .ref l, .ref o] ∧ n ≤ 60 ∧ WdZ H r l o n R L O ∧ Any H (.bl (sndB n R L O)) Q
def sp04__law_whole (K : PySem.W.Frag) : Sp := fun vs H Q E => ∃ (r l o : Addr) (n : Nat) (R L : List Int) (O : List Bool), vs = [.int (n : Int), .ref r, .ref l, .ref o] ∧ n ≤ 60 ∧ WdZ H r l o n R L O ∧ Any H (.bl (whS n R L O)) Q
def sp04__law_outs_right (K : PySem.W.Frag) : Sp := fun vs H Q E => ∃ (p a b c r l o : Addr) (n : Nat) (R L : List Int) (O : List Bool), vs = [.ref p, .int (n : Int), .ref o] ∧ n ≤ 60 ∧ LinksAt K H p a b c (wS n R L O) ∧ WdZ H r l o n R L O ∧ Any H (.bl true) Q
def sp04__law_asked_right (K : PySem.W.Frag) : Sp := fun vs H Q E => ∃ (p a b c r l o : Addr) (n : Nat) (R L : List Int) (O : List Bool), vs = [.ref p, .int (n : Int), .ref r, .ref l, .ref o] ∧ n ≤ 60 ∧ LinksAt K H p a b c (wS n R L O) ∧ WdZ H r l o n R L O ∧ Any H (.bl true) Q
def sp04__law_turned (K : PySem.W.Frag) : Sp := fun vs H Q E => ∃ (w r l o : Addr) (n : Nat) (R L : List Int) (O : List Bool), vs = [.int (n : Int), .ref w] ∧ n ≤ 60 ∧ H w = some (.lst [.ref r, .ref l, .ref o]) ∧ WdZ H r l o n R L O ∧
  ∀ (R' L' : List Int) (O' : List Bool) w' r' l' o' H', H w' = none → H r' = none → H l' = none → H o' = none → Kp [] H H' → H' w' = some (.lst [.ref r', .ref l', .ref o']) → WdZ H' r' l' o' n R' L' O' → wS n R' L' O' = mirS (wS n R L O) → Q (.ref w') H'
def sp04__law_mirror_right (K : PySem.W.Frag) : Sp := fun vs H Q E => ∃ (p a b c w r l o : Addr) (n : Nat) (R L : List Int) (O : List Bool) (v : Int), vs = [.ref p, .int (n : Int), .ref w, .int v] ∧ n ≤ 60 ∧ LinksAt K H p a b c (wS n R L O) ∧ H w = some (.lst [.ref r, .ref l, .ref o]) ∧ WdZ H r l o n R L O ∧ 0 ≤ v ∧ v ≤ (n : Int) ∧ Any H (.bl true) Q
def sp04__law_opposite (K : PySem.W.Frag) : Sp := fun vs H Q E => ∃ (n : Nat) (op : Int), vs = [.int (n : Int), .int op] ∧ Q (.int (opp n op)) H
def sp04__law_run_mirrored (K : PySem.W.Frag) : Sp := fun vs H Q E => ∃ (p a b c q w r l o : Addr) (s : Sd) (run : List Int) (R L : List Int) (O : List Bool), vs = [.ref p, .int (s.n : Int), .ref q, .ref w] ∧ LinksAt K H p a b c s ∧ Snd s ∧ H q = some (.lst (run.map V.int)) ∧ Leg s run ∧ run.length ≤ 100 ∧
  H w = some (.lst [.ref r, .ref l, .ref o]) ∧ WdZ H r l o s.n R L O ∧ wS s.n R L O = runS s run ∧ Any H (.bl true) Q
end
end G

set_option Elab.async false
set_option linter.all false
set_option maxRecDepth 100000
set_option maxHeartbeats 4000000
/-! k05: the mathematics of squeezed logs. -/
namespace G
open PySem PySem.Spec PyProof.Rows L2 TL
/-! ### runs -/
def stepG (rs : List (List Int)) (x : Int) : List (List Int) :=
  match rs.getLast? with
  | none => [[x]]
  | some r => if (r.headD 0).natAbs = x.natAbs then rs.dropLast ++ [r ++ [x]] else rs ++ [[x]]
def grp (log : List Int) : List (List Int) := log.foldl stepG []
def short (r : List Int) : List Int := if r.length % 2 = 1 then r.drop (r.length - 1) else r.drop (r.length - 2)
def sqL (log : List Int) : List Int := ((grp log).map short).flatten
theorem grp_snoc (log : List Int) (x : Int) : grp (log ++ [x]) = stepG (grp log) x := by
  unfold grp
  rw [List.foldl_append]
  rfl
/-- a run: not empty, on one node -/
def Run1 (r : List Int) : Prop := r ≠ [] ∧ ∀ x ∈ r, x.natAbs = (r.headD 0).natAbs
theorem stepG_new {rs : List (List Int)} {x : Int} (h : ∀ r, rs.getLast? = some r → (r.headD 0).natAbs ≠ x.natAbs) : stepG rs x = rs ++ [[x]] := by
  unfold stepG
  cases e : rs.getLast? with
  | none =>
    have := List.getLast?_eq_none_iff.mp e
    subst this
    rfl
  | some r =>
    dsimp only
    rw [if_neg (h r e)]
theorem stepG_on {rs : List (List Int)} {r : List Int} {x : Int} (h : (r.headD 0).natAbs = x.natAbs) : stepG (rs ++ [r]) x = rs ++ [r ++ [x]] := by
  unfold stepG
  rw [List.getLast?_concat]
  dsimp only
  rw [if_pos h, List.dropLast_concat]
theorem headD_snoc {r : List Int} {x : Int} (h : r ≠ []) : (r ++ [x]).headD 0 = r.headD 0 := by
  cases r with
  | nil => exact absurd rfl h
  | cons a r => rfl
theorem grp_run (rs : List (List Int)) : ∀ (l p : List Int), p ≠ [] → (∀ x ∈ l, x.natAbs = (p.headD 0).natAbs) → l.foldl stepG (rs ++ [p]) = rs ++ [p ++ l]
  | [], p, _, _ => by rw [List.append_nil] <;> rfl
  | x :: l, p, hp, h => by
    rw [List.foldl_cons, stepG_on (h x (List.mem_cons_self ..)).symm, grp_run rs l (p ++ [x]) (by simp) (fun y hy => by
      rw [headD_snoc hp]
      exact h y (List.mem_cons_of_mem _ hy)), List.append_assoc]
    rfl
/-- runs on different nodes, one behind another -/
def Apt : List (List Int) → Prop
  | [] => True
  | [_] => True
  | r :: q :: rs => (r.headD 0).natAbs ≠ (q.headD 0).natAbs ∧ Apt (q :: rs)
theorem apt_snoc : ∀ {rs : List (List Int)} {r : List Int}, Apt (rs ++ [r]) ↔ Apt rs ∧ ∀ q, rs.getLast? = some q → (q.headD 0).natAbs ≠ (r.headD 0).natAbs
  | [], r => by simp [Apt]
  | [a], r => by simp [Apt]
  | a :: b :: rs, r => by
    have ih := apt_snoc (rs := b :: rs) (r := r)
    have e : (a :: b :: rs).getLast? = (b :: rs).getLast? := by rw [List.getLast?_cons_cons]
    rw [e]
    constructor
    · intro h
      have h : (a.headD 0).natAbs ≠ (b.headD 0).natAbs ∧ Apt ((b :: rs) ++ [r]) := h
      exact ⟨⟨h.1, (ih.mp h.2).1⟩, (ih.mp h.2).2⟩
    · rintro ⟨h1, h2⟩
      have h1 : (a.headD 0).natAbs ≠ (b.headD 0).natAbs ∧ Apt (b :: rs) := h1
      exact ⟨h1.1, ih.mpr ⟨h1.2, h2⟩⟩
theorem grp_flat : ∀ rs : List (List Int), (∀ r ∈ rs, Run1 r) → Apt rs → grp rs.flatten = rs := by
  intro rs
  induction rs using snoc_ind with
  | h0 => exact fun _ _ => rfl
  | h1 rs r ih =>
    intro h1 h2
    obtain ⟨a1, a2⟩ := apt_snoc.mp h2
    have hr := h1 r (by simp)
    have e := ih (fun q hq => h1 q (List.mem_append_left _ hq)) a1
    rw [List.flatten_append]
    unfold grp at e ⊢
    rw [List.foldl_append, e]
    cases r with
    | nil => exact absurd rfl hr.1
    | cons x l =>
      show (([x :: l] : List (List Int)).flatten).foldl stepG rs = _
      rw [List.flatten_cons, List.flatten_nil, List.append_nil, List.foldl_cons, stepG_new (x := x) a2, grp_run rs l [x] (by simp) fun y hy => hr.2 y (List.mem_cons_of_mem _ hy)]
      rfl
theorem grp_ok (log : List Int) : (∀ r ∈ grp log, Run1 r) ∧ Apt (grp log) ∧ (grp log).flatten = log := by
  induction log using snoc_ind with
  | h0 => exact ⟨fun r hr => (by cases hr), trivial, rfl⟩
  | h1 l x ih =>
    obtain ⟨i1, i2, i3⟩ := ih
    rw [grp_snoc]
    have one : Run1 [x] := ⟨by simp, fun y hy => by rw [List.mem_singleton.mp hy] <;> rfl⟩
    rcases List.eq_nil_or_concat (grp l) with e | ⟨rs, r, e⟩
    · rw [stepG_new (fun r hr => by rw [e] at hr; cases hr)]
      rw [e] at i3 ⊢
      refine ⟨fun r hr => ?_, trivial, ?_⟩
      · rw [List.mem_singleton.mp hr]
        exact one
      · rw [← i3]
        rfl
    · rw [List.concat_eq_append] at e
      rw [e] at i1 i2 i3 ⊢
      have hr := i1 r (by simp)
      by_cases c : (r.headD 0).natAbs = x.natAbs
      · rw [stepG_on c]
        refine ⟨fun q hq => ?_, ?_, ?_⟩
        · rcases List.mem_append.mp hq with h | h
          · exact i1 q (List.mem_append_left _ h)
          · rw [List.mem_singleton.mp h]
            refine ⟨by simp, fun y hy => ?_⟩
            rw [headD_snoc hr.1]
            rcases List.mem_append.mp hy with h | h
            · exact hr.2 y h
            · rw [List.mem_singleton.mp h, c]
        · refine apt_snoc.mpr ⟨(apt_snoc.mp i2).1, fun q hq => ?_⟩
          rw [headD_snoc hr.1]
          exact (apt_snoc.mp i2).2 q hq
        · rw [← i3]
          simp
      · rw [stepG_new (fun q hq => by
          rw [List.getLast?_concat] at hq
          cases hq
          exact c)]
        refine ⟨fun q hq => ?_, ?_, ?_⟩
        · rcases List.mem_append.mp hq with h | h
          · exact i1 q h
          · rw [List.mem_singleton.mp h]
            exact one
        · refine apt_snoc.mpr ⟨i2, fun q hq => ?_⟩
          rw [List.getLast?_concat] at hq
          cases hq
          exact c
        · rw [← i3]
          simp
/-! ### short runs -/
theorem short_len (r : List Int) (h : r ≠ []) : (short r).length = if r.length % 2 = 1 then 1 else 2 := by
  have := List.length_pos_iff.mpr h
  unfold short
  split
  · rw [List.length_drop]
    omega
  · rw [List.length_drop]
    omega
theorem short_short (r : List Int) (h : r ≠ []) : short (short r) = short r := by
  have e := short_len r h
  generalize short r = q at e ⊢
  unfold short
  split at e
  · rw [if_pos (by omega), e]
    rfl
  · rw [if_neg (by omega), e]
    rfl
theorem short_mem {r : List Int} {x : Int} (h : x ∈ short r) : x ∈ r := by
  unfold short at h
  split at h <;> exact List.mem_of_mem_drop h
theorem short_run {r : List Int} (h : Run1 r) : Run1 (short r) ∧ ((short r).headD 0).natAbs = (r.headD 0).natAbs := by
  have l := short_len r h.1
  have ne : short r ≠ [] := fun z => by
    rw [z] at l
    split at l <;> simp at l
  have hd : ((short r).headD 0).natAbs = (r.headD 0).natAbs := by
    cases e : short r with
    | nil => exact absurd e ne
    | cons a q => exact h.2 a (short_mem (by rw [e]; exact List.mem_cons_self ..))
  exact ⟨⟨ne, fun x hx => by rw [hd]; exact h.2 x (short_mem hx)⟩, hd⟩
theorem apt_short : ∀ {rs : List (List Int)}, (∀ r ∈ rs, Run1 r) → Apt rs → Apt (rs.map short)
  | [], _, _ => trivial
  | [_], _, _ => trivial
  | a :: b :: rs, h, ha => by
    have ha : (a.headD 0).natAbs ≠ (b.headD 0).natAbs ∧ Apt (b :: rs) := ha
    refine ⟨?_, apt_short (fun r hr => h r (List.mem_cons_of_mem _ hr)) ha.2⟩
    rw [(short_run (h a (by simp))).2, (short_run (h b (by simp))).2]
    exact ha.1
theorem sq_sq (log : List Int) : sqL (sqL log) = sqL log := by
  obtain ⟨h1, h2, _⟩ := grp_ok log
  have e : grp (sqL log) = (grp log).map short := by
    unfold sqL
    refine grp_flat _ (fun r hr => ?_) (apt_short h1 h2)
    obtain ⟨q, hq, rfl⟩ := List.mem_map.mp hr
    exact (short_run (h1 q hq)).1
  unfold sqL at e ⊢
  rw [e, List.map_map]
  congr 1
  refine List.map_congr_left fun r hr => ?_
  exact short_short r (h1 r hr).1
/-! ### what a squeezed log does -/
theorem runS_app (s : Sd) (a b : List Int) : runS s (a ++ b) = runS (runS s a) b := by
  unfold runS
  rw [List.foldl_append]
theorem leg_app {s : Sd} {a b : List Int} : Leg s (a ++ b) ↔ Leg s a ∧ Leg (runS s a) b := by
  constructor
  · intro h
    refine ⟨?_, fun i op hop => ?_⟩
    · have := h.take a.length
      rwa [List.take_left'] at this
      rfl
    · have := h (a.length + i) op (by rw [List.getElem?_append_right (by omega), show a.length + i - a.length = i by omega]; exact hop)
      rwa [List.take_append, List.take_of_length_le (by omega), show a.length + i - a.length = i by omega, runS_app] at this
  · rintro ⟨h1, h2⟩ i op hop
    by_cases c : i < a.length
    · rw [List.getElem?_append_left c] at hop
      have := h1 i op hop
      rwa [List.take_append_of_le_length (by omega)]
    · rw [List.getElem?_append_right (by omega)] at hop
      have e : (a ++ b).take i = a ++ b.take (i - a.length) := by rw [List.take_append, List.take_of_length_le (by omega)]
      rw [e, runS_app]
      exact h2 (i - a.length) op hop
theorem step_three {s : Sd} (w : Wf s) {x : Int} (h : IsOp s.n x) : stepS (stepS (stepS s x) (-x)) x = stepS s x := by
  have h2 : IsOp s.n (-x) := by
    unfold IsOp at h ⊢
    rwa [Int.natAbs_neg]
  have w1 := w.step h
  have w2 := w1.step h2
  have r1 := step_R w h
  have l1 := step_L w h
  have r2 := step_R w1 h2
  have l2 := step_L w1 h2
  rw [Int.natAbs_neg] at r2 l2
  have e1 : stepS (stepS (stepS s x) (-x)) x = ⟨s.n, (stepS (stepS s x) (-x)).R.set (gI s.L x.natAbs).toNat (if x < 0 then gI s.R x.natAbs else (x.natAbs : Int)), (stepS (stepS s x) (-x)).L.set (gI s.R x.natAbs).toNat (if x < 0 then gI s.L x.natAbs else (x.natAbs : Int)), (stepS (stepS s x) (-x)).O.set x.natAbs (decide (x < 0))⟩ := by
    show Sd.mk _ _ _ _ = _
    rw [r2, l2, r1, l1]
    rfl
  have e2 : stepS (stepS s x) (-x) = ⟨s.n, (stepS s x).R.set (gI s.L x.natAbs).toNat (if -x < 0 then gI s.R x.natAbs else (x.natAbs : Int)), (stepS s x).L.set (gI s.R x.natAbs).toNat (if -x < 0 then gI s.L x.natAbs else (x.natAbs : Int)), (stepS s x).O.set x.natAbs (decide (-x < 0))⟩ := by
    show Sd.mk _ _ _ _ = _
    rw [Int.natAbs_neg, r1, l1]
    rfl
  rw [e1, e2]
  show Sd.mk s.n (((s.R.set _ _).set _ _).set _ _) (((s.L.set _ _).set _ _).set _ _) (((s.O.set _ _).set _ _).set _ _) = Sd.mk s.n (s.R.set _ _) (s.L.set _ _) (s.O.set _ _)
  rw [List.set_set, List.set_set, List.set_set, List.set_set, List.set_set, List.set_set]
theorem leg_cons {s : Sd} {x : Int} {l : List Int} : Leg s (x :: l) ↔ OkOp s x ∧ Leg (stepS s x) l := by
  have e := leg_app (s := s) (a := [x]) (b := l)
  constructor
  · intro h
    obtain ⟨h1, h2⟩ := e.mp h
    exact ⟨h1 0 x rfl, h2⟩
  · rintro ⟨h1, h2⟩
    refine e.mpr ⟨fun i op hop => ?_, h2⟩
    cases i with
    | zero =>
      cases hop
      exact h1
    | succ i => simp at hop
theorem ok_next {s : Sd} (w : Wf s) {x y : Int} (hx : OkOp s x) (hy : OkOp (stepS s x) y) (e : y.natAbs = x.natAbs) : y = -x := by
  have := (ok_back w hx).2
  have ne : y ≠ x := fun z => this (z ▸ hy)
  omega
theorem short_leg : ∀ (k : Nat) {t : Sd} {r : List Int}, r.length ≤ k → Wf t → Run1 r → Leg t r → Leg t (short r) ∧ runS t (short r) = runS t r := by
  intro k
  induction k with
  | zero =>
    intro t r hk w hr
    have := List.length_pos_iff.mpr hr.1
    omega
  | succ k ih =>
    intro t r hk w hr hl
    match r, hr, hl, hk with
    | [x], _, hl, _ => exact ⟨hl, rfl⟩
    | [x, y], _, hl, _ =>
      have e : short [x, y] = [x, y] := by simp [short]
      rw [e]
      exact ⟨hl, rfl⟩
    | x :: y :: z :: l, hr, hl, hk =>
      obtain ⟨ox, h1⟩ := leg_cons.mp hl
      obtain ⟨oy, h2⟩ := leg_cons.mp h1
      obtain ⟨oz, h3⟩ := leg_cons.mp h2
      have hy : y.natAbs = x.natAbs := hr.2 y (by simp)
      have hz : z.natAbs = x.natAbs := hr.2 z (by simp)
      have w1 := w.step ox.1
      have ey := ok_next w ox oy hy
      have ez := ok_next w1 oy oz (by omega)
      subst ey
      have ez : z = x := by omega
      subst ez
      have e3 := step_three w ox.1
      have hl2 : Leg t (z :: l) := leg_cons.mpr ⟨ox, by rw [e3] at h3; exact h3⟩
      have hr2 : Run1 (z :: l) := ⟨by simp, fun q hq => hr.2 q (by simp at hq ⊢; rcases hq with h | h <;> simp [h])⟩
      have es : short (z :: -z :: z :: l) = short (z :: l) := by
        unfold short
        simp only [List.length_cons]
        by_cases c : (l.length + 1) % 2 = 1
        · rw [if_pos c, if_pos (by omega), show l.length + 1 + 1 + 1 - 1 = (l.length + 1 - 1) + 1 + 1 by omega]
          rfl
        · rw [if_neg c, if_neg (by omega), show l.length + 1 + 1 + 1 - 2 = (l.length + 1 - 2) + 1 + 1 by omega]
          rfl
      obtain ⟨i1, i2⟩ := ih (r := z :: l) (by simp at hk ⊢; omega) w hr2 hl2
      rw [es]
      refine ⟨i1, i2.trans ?_⟩
      show runS (stepS t z) l = runS (stepS (stepS (stepS t z) (-z)) z) l
      rw [e3]
theorem flat_short : ∀ {rs : List (List Int)} {t : Sd}, Wf t → (∀ r ∈ rs, Run1 r) → Leg t rs.flatten → Leg t (rs.map short).flatten ∧ runS t (rs.map short).flatten = runS t rs.flatten
  | [], t, _, _, h => ⟨h, rfl⟩
  | r :: rs, t, w, hr, h => by
    rw [List.flatten_cons] at h
    obtain ⟨h1, h2⟩ := leg_app.mp h
    obtain ⟨s1, s2⟩ := short_leg r.length (Nat.le_refl _) w (hr r (by simp)) h1
    obtain ⟨i1, i2⟩ := flat_short (t := runS t r) (h1.wf w) (fun q hq => hr q (List.mem_cons_of_mem _ hq)) h2
    rw [List.map_cons, List.flatten_cons, List.flatten_cons, runS_app, runS_app, s2, i2]
    refine ⟨leg_app.mpr ⟨s1, ?_⟩, rfl⟩
    rw [s2]
    exact i1
/-- squeezing keeps a log legal, and keeps where it leads -/
theorem sq_leads {s : Sd} (w : Wf s) {log : List Int} (h : Leg s log) : Leg s (sqL log) ∧ runS s (sqL log) = runS s log := by
  obtain ⟨h1, _, h3⟩ := grp_ok log
  have := flat_short w h1 (by rw [h3]; exact h)
  rw [h3] at this
  exact this
end G

set_option Elab.async false
set_option linter.all false
set_option maxRecDepth 100000
set_option maxHeartbeats 4000000
/-! k01: the mathematics of strikes. -/
namespace G
open PySem PySem.Spec PyProof.Rows L2 TL
def okB (s : Sd) (op : Int) : Bool := decide (gB s.O op.natAbs = decide (0 < op))
theorem okB_iff {s : Sd} {op : Int} (h : IsOp s.n op) : okB s op = true ↔ OkOp s op := by
  unfold okB
  rw [decide_eq_true_iff]
  exact ⟨fun z => ⟨h, z⟩, fun z => z.2⟩
/-- what is kept, what is struck -/
def strG (n : Nat) (p : List Int × List Int) (op : Int) : List Int × List Int := if okB (runS (wholeS n) p.1) op = true then (p.1 ++ [op], p.2) else (p.1, p.2 ++ [((p.1.length + p.2.length : Nat) : Int)])
def strk (n : Nat) (log : List Int) : List Int × List Int := log.foldl (strG n) ([], [])
theorem strk_snoc (n : Nat) (log : List Int) (x : Int) : strk n (log ++ [x]) = strG n (strk n log) x := by
  unfold strk
  rw [List.foldl_append]
  rfl
theorem strk_len (n : Nat) (log : List Int) : (strk n log).1.length + (strk n log).2.length = log.length := by
  induction log using snoc_ind with
  | h0 => rfl
  | h1 l x ih =>
    rw [strk_snoc]
    unfold strG
    split <;> simp <;> omega
theorem strk_lt (n : Nat) (log : List Int) : ∀ k ∈ (strk n log).2, 0 ≤ k ∧ k < (log.length : Int) := by
  induction log using snoc_ind with
  | h0 => exact fun k hk => by cases hk
  | h1 l x ih =>
    have hl := strk_len n l
    rw [strk_snoc]
    unfold strG
    split
    · intro k hk
      have := ih k hk
      rw [List.length_append, List.length_singleton]
      omega
    · intro k hk
      rw [List.length_append, List.length_singleton]
      rcases List.mem_append.mp hk with h | h
      · have := ih k h
        omega
      · have := List.mem_singleton.mp h
        omega
theorem strk_leg (n : Nat) (log : List Int) (ho : ∀ op ∈ log, IsOp n op) : Leg (wholeS n) (strk n log).1 ∧ ∀ op ∈ (strk n log).1, IsOp n op := by
  induction log using snoc_ind with
  | h0 => exact ⟨fun i op h => by simp [strk] at h, fun op h => by cases h⟩
  | h1 l x ih =>
    obtain ⟨i1, i2⟩ := ih fun op h => ho op (List.mem_append_left _ h)
    have hx := ho x (by simp)
    rw [strk_snoc]
    unfold strG
    split
    · rename_i c
      refine ⟨i1.snoc ((okB_iff (by rw [runS_n]; exact hx)).mp c), fun op h => ?_⟩
      rcases List.mem_append.mp h with h | h
      · exact i2 op h
      · rw [List.mem_singleton.mp h]
        exact hx
    · exact ⟨i1, i2⟩
theorem strk_id (n : Nat) (log : List Int) (h : Leg (wholeS n) log) : strk n log = (log, []) := by
  induction log using snoc_ind with
  | h0 => rfl
  | h1 l x ih =>
    obtain ⟨h1, h2⟩ := leg_app.mp h
    have ox := (leg_cons.mp h2).1
    rw [strk_snoc, ih h1]
    unfold strG
    rw [if_pos ((okB_iff ox.1).mpr ox)]
theorem strk_rest (n : Nat) (log : List Int) : (((List.range log.length).filter fun (k : Nat) => !decide ((k : Int) ∈ (strk n log).2)).map fun k => log.getD k 0) = (strk n log).1 := by
  induction log using snoc_ind with
  | h0 => rfl
  | h1 l x ih =>
    have hl := strk_len n l
    have lt := strk_lt n l
    rw [List.length_append, List.length_singleton, List.range_succ, List.filter_append, List.map_append, strk_snoc]
    have same : ∀ (S : List Int), (∀ k : Nat, k < l.length → ((k : Int) ∈ S ↔ (k : Int) ∈ (strk n l).2)) → (((List.range l.length).filter fun (k : Nat) => !decide ((k : Int) ∈ S)).map fun k => (l ++ [x]).getD k 0) = (strk n l).1 := fun S hS => by
      rw [← ih]
      have e : ((List.range l.length).filter fun (k : Nat) => !decide ((k : Int) ∈ S)) = (List.range l.length).filter fun (k : Nat) => !decide ((k : Int) ∈ (strk n l).2) := List.filter_congr fun k hk => by
        rw [decide_eq_decide.mpr (hS k (List.mem_range.mp hk))]
      rw [e]
      refine List.map_congr_left fun k hk => ?_
      have := List.mem_range.mp (List.mem_filter.mp hk).1
      rw [List.getD_eq_getElem?_getD, List.getD_eq_getElem?_getD, List.getElem?_append_left this]
    have last : (l ++ [x]).getD l.length 0 = x := by
      rw [List.getD_eq_getElem?_getD, List.getElem?_append_right (Nat.le_refl _), Nat.sub_self]
      rfl
    unfold strG
    split
    · rw [same _ fun k hk => Iff.rfl]
      rw [List.filter_cons_of_pos (by
        rw [decide_eq_false fun z => by have := lt _ z; omega]
        rfl)]
      show _ ++ [(l ++ [x]).getD l.length 0] = _
      rw [last]
    · rw [same _ fun k hk => ⟨fun z => by
        rcases List.mem_append.mp z with h | h
        · exact h
        · have := List.mem_singleton.mp h
          omega, fun z => List.mem_append_left _ z⟩]
      rw [List.filter_cons_of_neg (by
        rw [decide_eq_true (List.mem_append_right _ (List.mem_singleton.mpr (by rw [hl])))]
        decide)]
      exact List.append_nil _
/-! ### the best choice, node by node -/
def endG (v : Nat) (p : Int × Int) (op : Int) : Int × Int :=
  (if op = (v : Int) ∧ (if op = -(v : Int) then max p.2 (p.1 + 1) else p.2) > 0 then max p.1 ((if op = -(v : Int) then max p.2 (p.1 + 1) else p.2) + 1) else p.1, if op = -(v : Int) then max p.2 (p.1 + 1) else p.2)
theorem endG_neg {v : Nat} {a b x : Int} (h : 1 ≤ v) (e : x = -(v : Int)) : endG v (a, b) x = (a, max b (a + 1)) := by
  unfold endG
  rw [if_pos e, if_neg (fun z => by have := z.1; omega)]
theorem endG_pos {v : Nat} {a b x : Int} (h : 1 ≤ v) (e : x = (v : Int)) (hb : 0 < b) : endG v (a, b) x = (max a (b + 1), b) := by
  unfold endG
  rw [if_neg (show ¬ x = -(v : Int) by omega), if_pos ⟨e, hb⟩]
theorem endG_pos0 {v : Nat} {a b x : Int} (h : 1 ≤ v) (e : x = (v : Int)) (hb : b ≤ 0) : endG v (a, b) x = (a, b) := by
  unfold endG
  rw [if_neg (show ¬ x = -(v : Int) by omega), if_neg (fun z => Int.not_lt.mpr hb z.2)]
theorem endG_oth {v : Nat} {p : Int × Int} {x : Int} (h : x.natAbs ≠ v) : endG v p x = p := by
  unfold endG
  rw [if_neg (show ¬ x = -(v : Int) by omega), if_neg (fun z => by have := z.1; omega)]
def ends (v : Nat) (log : List Int) : Int × Int := log.foldl (endG v) (0, 0)
def cntN (v : Nat) (l : List Int) : Nat := (l.filter fun o => decide (o.natAbs = v)).length
theorem cntN_snoc (v : Nat) (l : List Int) (x : Int) : cntN v (l ++ [x]) = cntN v l + if x.natAbs = v then 1 else 0 := by
  unfold cntN
  rw [List.filter_append, List.length_append]
  by_cases c : x.natAbs = v
  · rw [if_pos c, List.filter_cons_of_pos (p := fun (o : Int) => decide (o.natAbs = v)) (decide_eq_true c)]
    rfl
  · rw [if_neg c, List.filter_cons_of_neg (p := fun (o : Int) => decide (o.natAbs = v)) (by rw [decide_eq_false c]; decide)]
    rfl
theorem ends_cnt {n v : Nat} (h1 : 1 ≤ v) (h2 : v ≤ n) (log : List Int) (hn : n ≤ 60) (ho : ∀ op ∈ log, IsOp n op) :
    (gB (runS (wholeS n) (strk n log).1).O v = true → 1 ≤ cntN v (strk n log).1 ∧ ends v log = ((cntN v (strk n log).1 : Int) - 1, (cntN v (strk n log).1 : Int))) ∧
    (gB (runS (wholeS n) (strk n log).1).O v = false → ends v log = ((cntN v (strk n log).1 : Int), max ((cntN v (strk n log).1 : Int) - 1) 0)) := by
  induction log using snoc_ind with
  | h0 =>
    have e : gB (wholeS n).O v = false := gB_of (List.getElem?_replicate_of_lt (by omega))
    refine ⟨fun z => ?_, fun _ => rfl⟩
    have z : gB (wholeS n).O v = true := z
    rw [e] at z
    cases z
  | h1 l x ih =>
    have hl : ∀ op ∈ l, IsOp n op := fun op h => ho op (List.mem_append_left _ h)
    have hx := ho x (by simp)
    obtain ⟨i1, i2⟩ := ih hl
    obtain ⟨leg, _⟩ := strk_leg n l hl
    have w := leg.wf (Wf.whole hn)
    have en : (runS (wholeS n) (strk n l).1).n = n := runS_n _ _
    have es : ends v (l ++ [x]) = endG v (ends v l) x := by
      unfold ends
      rw [List.foldl_append]
      rfl
    rw [es, strk_snoc]
    generalize ends v l = p at i1 i2 ⊢
    have hxn : IsOp (runS (wholeS n) (strk n l).1).n x := by rw [en]; exact hx
    unfold strG
    by_cases c : okB (runS (wholeS n) (strk n l).1) x = true
    · rw [if_pos c]
      have ok := (okB_iff hxn).mp c
      dsimp only
      rw [runS_snoc, cntN_snoc]
      have hb : gB (stepS (runS (wholeS n) (strk n l).1) x).O v = if v = x.natAbs then decide (x < 0) else gB (runS (wholeS n) (strk n l).1).O v := by
        show gB ((runS (wholeS n) (strk n l).1).O.set x.natAbs (decide (x < 0))) v = _
        have := w.lO
        have := hxn.2
        rw [gB_set (by omega)]
      rw [hb]
      by_cases cv : x.natAbs = v
      · rw [if_pos cv.symm, if_pos cv]
        have o2 := ok.2
        rw [cv] at o2
        by_cases neg : x < 0
        · have g0 : gB (runS (wholeS n) (strk n l).1).O v = false := by rw [o2, decide_eq_false (by omega)]
          rw [decide_eq_true neg]
          refine ⟨fun _ => ?_, fun z => (by cases z)⟩
          rw [i2 g0, endG_neg h1 (by omega)]
          refine ⟨by omega, ?_⟩
          congr 1 <;> omega
        · have g0 : gB (runS (wholeS n) (strk n l).1).O v = true := by rw [o2, decide_eq_true (by have := hx.1; omega)]
          obtain ⟨c1, c2⟩ := i1 g0
          rw [decide_eq_false neg]
          refine ⟨fun z => (by cases z), fun _ => ?_⟩
          rw [c2, endG_pos h1 (by omega) (by omega)]
          congr 1 <;> omega
      · rw [if_neg (Ne.symm cv), if_neg cv, Nat.add_zero]
        rw [endG_oth cv]
        exact ⟨i1, i2⟩
    · rw [if_neg c]
      dsimp only
      by_cases cv : x.natAbs = v
      · have nok : gB (runS (wholeS n) (strk n l).1).O v = decide (x < 0) := by
          have := mt (ok_not hxn).mpr (fun z => c ((okB_iff hxn).mpr z))
          rw [cv] at this
          exact Classical.byContradiction this
        by_cases neg : x < 0
        · rw [decide_eq_true neg] at nok
          obtain ⟨c1, c2⟩ := i1 nok
          refine ⟨fun _ => ⟨c1, ?_⟩, fun z => (by rw [nok] at z; cases z)⟩
          rw [c2, endG_neg h1 (by omega)]
          congr 1 <;> omega
        · rw [decide_eq_false neg] at nok
          refine ⟨fun z => (by rw [nok] at z; cases z), fun _ => ?_⟩
          rw [i2 nok]
          by_cases c3 : 0 < max ((cntN v (strk n l).1 : Int) - 1) 0
          · rw [endG_pos h1 (by omega) c3]
            congr 1 <;> omega
          · rw [endG_pos0 h1 (by omega) (by omega)]
      · rw [endG_oth cv]
        exact ⟨i1, i2⟩
theorem ends_max {n v : Nat} (h1 : 1 ≤ v) (h2 : v ≤ n) (log : List Int) (hn : n ≤ 60) (ho : ∀ op ∈ log, IsOp n op) : max (ends v log).1 (ends v log).2 = (cntN v (strk n log).1 : Int) := by
  obtain ⟨a, b⟩ := ends_cnt h1 h2 log hn ho
  cases e : gB (runS (wholeS n) (strk n log).1).O v with
  | true =>
    rw [(a e).2]
    dsimp only
    omega
  | false =>
    rw [b e]
    dsimp only
    omega
theorem cnt_le : ∀ (l : List Int) (j : Nat), (l.filter fun o => decide (o.natAbs ≤ j + 1)).length = (l.filter fun o => decide (o.natAbs ≤ j)).length + cntN (j + 1) l
  | [], _ => rfl
  | x :: l, j => by
    have ih := cnt_le l j
    unfold cntN at ih ⊢
    by_cases c : x.natAbs ≤ j
    · rw [List.filter_cons_of_pos (p := fun (o : Int) => decide (o.natAbs ≤ j + 1)) (decide_eq_true (by omega)), List.filter_cons_of_pos (p := fun (o : Int) => decide (o.natAbs ≤ j)) (decide_eq_true c), List.filter_cons_of_neg (p := fun (o : Int) => decide (o.natAbs = j + 1)) (by rw [decide_eq_false (by omega)]; decide), List.length_cons, List.length_cons, ih]
      omega
    · by_cases c2 : x.natAbs = j + 1
      · rw [List.filter_cons_of_pos (p := fun (o : Int) => decide (o.natAbs ≤ j + 1)) (decide_eq_true (by omega)), List.filter_cons_of_neg (p := fun (o : Int) => decide (o.natAbs ≤ j)) (by rw [decide_eq_false c]; decide), List.filter_cons_of_pos (p := fun (o : Int) => decide (o.natAbs = j + 1)) (decide_eq_true c2), List.length_cons, List.length_cons, ih]
        omega
      · rw [List.filter_cons_of_neg (p := fun (o : Int) => decide (o.natAbs ≤ j + 1)) (by rw [decide_eq_false (by omega)]; decide), List.filter_cons_of_neg (p := fun (o : Int) => decide (o.natAbs ≤ j)) (by rw [decide_eq_false c]; decide), List.filter_cons_of_neg (p := fun (o : Int) => decide (o.natAbs = j + 1)) (by rw [decide_eq_false c2]; decide), ih]
end G

set_option Elab.async false
set_option linter.all false
set_option maxRecDepth 100000
set_option maxHeartbeats 4000000
/-! k01: the mathematics of blocks. -/
namespace G
open PySem PySem.Spec PyProof.Rows L2 TL
/-- ranges, node by node, as the program makes them -/
def rngG (rs : List (Int × Int)) (v : Int) : List (Int × Int) :=
  match rs.getLast? with
  | none => [(v, v)]
  | some p => if p.2 = v - 1 then rs.dropLast ++ [(p.1, v)] else rs ++ [(v, v)]
def rngP (l : List Int) : List (Int × Int) := l.foldl rngG []
theorem rngP_snoc (l : List Int) (v : Int) : rngP (l ++ [v]) = rngG (rngP l) v := by
  unfold rngP
  rw [List.foldl_append]
  rfl
theorem rngG_on {rs : List (Int × Int)} {a b v : Int} (h : b = v - 1) : rngG (rs ++ [(a, b)]) v = rs ++ [(a, v)] := by
  unfold rngG
  rw [List.getLast?_concat]
  dsimp only
  rw [if_pos h, List.dropLast_concat]
theorem rngG_new {rs : List (Int × Int)} {v : Int} (h : ∀ p ∈ rs, p.2 ≠ v - 1) : rngG rs v = rs ++ [(v, v)] := by
  unfold rngG
  cases e : rs.getLast? with
  | none =>
    have := List.getLast?_eq_none_iff.mp e
    subst this
    rfl
  | some p =>
    dsimp only
    rw [if_neg (h p (List.mem_of_getLast? e))]
/-- ranges as the law finds them: what is found, where the open one begins (0: none is open) -/
def scG (act : Nat → Bool) (p : List (Int × Int) × Int) (v : Nat) : List (Int × Int) × Int :=
  if act v = true then (p.1, if p.2 = 0 then (v : Int) else p.2) else if 0 < p.2 then (p.1 ++ [(p.2, (v : Int) - 1)], 0) else p
def scN (act : Nat → Bool) : Nat → List (Int × Int) × Int
  | 0 => ([], 0)
  | j + 1 => scG act (scN act j) (j + 1)
def actN (act : Nat → Bool) (j : Nat) : List Int := (((List.range j).map fun v => v + 1).filter act).map fun (v : Nat) => (v : Int)
theorem actN_succ (act : Nat → Bool) (j : Nat) : actN act (j + 1) = actN act j ++ if act (j + 1) = true then [((j + 1 : Nat) : Int)] else [] := by
  unfold actN
  rw [List.range_succ, List.map_append, List.filter_append, List.map_append]
  congr 1
  show (([j + 1] : List Nat).filter act).map _ = _
  cases c : act (j + 1) with
  | true =>
    rw [List.filter_cons_of_pos c]
    rfl
  | false =>
    rw [List.filter_cons_of_neg (by rw [c]; decide)]
    rfl
def ScOk (j : Nat) (p : List (Int × Int) × Int) (l : List Int) : Prop := 0 ≤ p.2 ∧ (∀ q ∈ p.1, q.2 < (j : Int)) ∧ (p.2 = 0 → rngP l = p.1) ∧ (0 < p.2 → rngP l = p.1 ++ [(p.2, (j : Int))])
theorem scG_ok {act : Nat → Bool} {j : Nat} {p : List (Int × Int) × Int} {l : List Int} (h : ScOk j p l) : ScOk (j + 1) (scG act p (j + 1)) (l ++ if act (j + 1) = true then [((j + 1 : Nat) : Int)] else []) := by
  obtain ⟨h0, h1, h2, h3⟩ := h
  have ecast : (((j + 1 : Nat) : Int)) = (j : Int) + 1 := by omega
  unfold scG
  by_cases c : act (j + 1) = true
  · rw [if_pos c, if_pos c]
    by_cases z : p.2 = 0
    · rw [if_pos z]
      have e := h2 z
      refine ⟨by dsimp only; omega, fun q hq => by have := h1 q hq; omega, fun y => by dsimp only at y; omega, fun _ => ?_⟩
      rw [rngP_snoc, e, rngG_new (fun q hq => by have := h1 q hq; omega)]
    · rw [if_neg z]
      have e := h3 (by omega)
      refine ⟨h0, fun q hq => by have := h1 q hq; omega, fun y => absurd y z, fun _ => ?_⟩
      rw [rngP_snoc, e, rngG_on (by omega)]
  · rw [if_neg c, if_neg c, List.append_nil]
    by_cases z : 0 < p.2
    · rw [if_pos z]
      have e := h3 z
      refine ⟨Int.le_refl _, fun q hq => ?_, fun _ => ?_, fun y => absurd y (Int.lt_irrefl _)⟩
      · rcases List.mem_append.mp hq with h | h
        · have := h1 q h
          omega
        · rw [List.mem_singleton.mp h]
          dsimp only
          omega
      · rw [e, show (((j + 1 : Nat) : Int)) - 1 = (j : Int) by omega]
    · rw [if_neg z]
      exact ⟨h0, fun q hq => by have := h1 q hq; omega, h2, fun y => absurd y z⟩
theorem scN_ok (act : Nat → Bool) : ∀ j : Nat, ScOk j (scN act j) (actN act j)
  | 0 => ⟨Int.le_refl _, fun p hp => (by cases hp), fun _ => rfl, fun h => absurd h (Int.lt_irrefl _)⟩
  | j + 1 => by
    rw [actN_succ]
    exact scG_ok (scN_ok act j)
/-- the node behind the last one does not act: all ranges are closed -/
theorem scN_end {act : Nat → Bool} {n : Nat} (h : act (n + 1) = false) : (scN act (n + 1)).1 = rngP (actN act n) := by
  obtain ⟨h0, h1, h2, h3⟩ := scN_ok act n
  show (scG act (scN act n) (n + 1)).1 = _
  unfold scG
  rw [if_neg (by rw [h]; decide)]
  by_cases z : 0 < (scN act n).2
  · rw [if_pos z, h3 z, show (((n + 1 : Nat) : Int)) - 1 = (n : Int) by omega]
  · rw [if_neg z, h2 (by omega)]
end G

set_option Elab.async false
set_option linter.all false
set_option maxRecDepth 100000
set_option maxHeartbeats 4000000
/-! k01: promises, small facts. -/
namespace G
open PySem PySem.Spec PyProof.Rows L2 TL
def firstV : List Int → V
  | [] => .non
  | k :: _ => .int k
def OpsOk (size : Int) (log : List Int) : Prop := SizeOk size ∧ ∀ op ∈ log, IsOp size.toNat op
def ChkE (K : PySem.W.Frag) (size : Int) (log : List Int) (E : XK) (H : Hp) : Prop := (¬ SizeOk size → ∀ H', Kp [] H H' → Ex K "BadSize" [("size", .int size)] E H') ∧
  (SizeOk size → ∀ (i : Nat) (op : Int), log[i]? = some op → (∀ x ∈ log.take i, IsOp size.toNat x) → ¬ IsOp size.toNat op → ∀ H', Kp [] H H' → Ex K "BadOperation" [("index", .int (i : Int)), ("operation", .int op)] E H')
theorem ChkE.k0 {K : PySem.W.Frag} {size : Int} {log : List Int} {E : XK} {H H' : Hp} (h : ChkE K size log E H) (k : Kp [] H H') : ChkE K size log E H' :=
  ⟨fun z H2 k2 => h.1 z H2 (k.trans k2), fun s i op a b c H2 k2 => h.2 s i op a b c H2 (k.trans k2)⟩
def RgOk (low high size : Int) : Prop := 1 ≤ low ∧ low ≤ high ∧ high ≤ size
def Prs (H : Hp) (ts : List Addr) (ps : List (Int × Int)) : Prop := ts.length = ps.length ∧ ∀ (i : Nat) (t : Addr) (p : Int × Int), ts[i]? = some t → ps[i]? = some p → H t = some (.tup [.int p.1, .int p.2])
theorem Prs.k0 {H H' : Hp} {ts : List Addr} {ps : List (Int × Int)} (h : Prs H ts ps) (k : Kp [] H H') : Prs H' ts ps := ⟨h.1, fun i t p a b => k.at0 (h.2 i t p a b)⟩
theorem Prs.kpL {H H' : Hp} {ts : List Addr} {ps : List (Int × Int)} {t : Addr} {xs : List V} (h : Prs H ts ps) (ht : H t = some (.lst xs)) (k : Kp [t] H H') : Prs H' ts ps := ⟨h.1, fun i u p a b => by
  have e := h.2 i u p a b
  refine k.at1 (fun z => ?_) e
  rw [z, ht] at e
  cases e⟩
theorem Prs.nil (H : Hp) : Prs H [] [] := ⟨rfl, fun i t p a _ => by simp at a⟩
theorem Prs.snoc {H : Hp} {ts : List Addr} {ps : List (Int × Int)} {t : Addr} {p : Int × Int} (h : Prs H ts ps) (ht : H t = some (.tup [.int p.1, .int p.2])) : Prs H (ts ++ [t]) (ps ++ [p]) := by
  refine ⟨by rw [List.length_append, List.length_append, h.1]; rfl, fun i u q a b => ?_⟩
  rcases Nat.lt_or_ge i ts.length with c | c
  · rw [List.getElem?_append_left c] at a
    rw [List.getElem?_append_left (by rw [← h.1]; exact c)] at b
    exact h.2 i u q a b
  · rw [List.getElem?_append_right c] at a
    rw [List.getElem?_append_right (by rw [← h.1]; exact c)] at b
    have c2 : i - ts.length = 0 := by
      have := (List.getElem?_eq_some_iff.mp a).1
      simp at this
      omega
    rw [c2] at a
    rw [← h.1, c2] at b
    injection a with a
    injection b with b
    subst a b
    exact ht
/-- which nodes act -/
def actB (log : List Int) (v : Nat) : Bool := decide (∃ op ∈ log, op.natAbs = v)
def partL (low high : Int) (log : List Int) : List Int := (log.filter fun op => decide (low ≤ (op.natAbs : Int) ∧ (op.natAbs : Int) ≤ high)).map fun op => if op > 0 then (op.natAbs : Int) - low + 1 else -((op.natAbs : Int) - low + 1)
theorem partL_snoc (low high : Int) (l : List Int) (x : Int) : partL low high (l ++ [x]) = partL low high l ++ if low ≤ (x.natAbs : Int) ∧ (x.natAbs : Int) ≤ high then [if x > 0 then (x.natAbs : Int) - low + 1 else -((x.natAbs : Int) - low + 1)] else [] := by
  unfold partL
  rw [List.filter_append, List.map_append]
  congr 1
  by_cases c : low ≤ (x.natAbs : Int) ∧ (x.natAbs : Int) ≤ high
  · rw [if_pos c, List.filter_cons_of_pos (p := fun (op : Int) => decide (low ≤ (op.natAbs : Int) ∧ (op.natAbs : Int) ≤ high)) (decide_eq_true c)]
    rfl
  · rw [if_neg c, List.filter_cons_of_neg (p := fun (op : Int) => decide (low ≤ (op.natAbs : Int) ∧ (op.natAbs : Int) ≤ high)) (by rw [decide_eq_false c]; decide)]
    rfl
theorem partL_len (low high : Int) (l : List Int) : (partL low high l).length ≤ l.length := by
  unfold partL
  rw [List.length_map]
  exact List.length_filter_le ..
/-- the nodes that act, in ascending order -/
theorem act_sorted {n : Nat} {log ns : List Int} (ho : ∀ op ∈ log, IsOp n op) (hp : ns.Pairwise (· < ·)) (hm : ∀ k, k ∈ ns ↔ ∃ i, i < log.length ∧ ((log.getD i 0).natAbs : Int) = k) : ns = actN (actB log) n := by
  have mem : ∀ k : Int, k ∈ ns ↔ ∃ op ∈ log, ((op.natAbs : Nat) : Int) = k := fun k => by
    rw [hm k]
    constructor
    · rintro ⟨i, hi, e⟩
      rw [List.getD_eq_getElem?_getD, List.getElem?_eq_getElem hi] at e
      exact ⟨_, List.getElem_mem hi, e⟩
    · rintro ⟨op, hop, e⟩
      obtain ⟨i, hi, rfl⟩ := List.mem_iff_getElem.mp hop
      refine ⟨i, hi, ?_⟩
      rw [List.getD_eq_getElem?_getD, List.getElem?_eq_getElem hi]
      exact e
  have hb : ∀ x ∈ ns, 1 ≤ x ∧ x ≤ (n : Int) := fun x hx => by
    obtain ⟨op, hop, e⟩ := (mem x).mp hx
    have := ho op hop
    unfold IsOp at this
    omega
  have e := filter_range_eq hp hb
  rw [← e]
  unfold actN
  congr 1
  refine List.filter_congr fun v hv => ?_
  unfold actB
  rw [decide_eq_decide, mem]
  exact ⟨fun ⟨op, a, b⟩ => ⟨op, a, by omega⟩, fun ⟨op, a, b⟩ => ⟨op, a, by omega⟩⟩
theorem actB_end {n : Nat} {log : List Int} (ho : ∀ op ∈ log, IsOp n op) : actB log (n + 1) = false := decide_eq_false fun ⟨op, a, b⟩ => by
  have := ho op a
  unfold IsOp at this
  omega
theorem rng_len (l : List Int) : (rngP l).length ≤ l.length := by
  induction l using snoc_ind with
  | h0 => exact Nat.le_refl 0
  | h1 l x ih =>
    rw [rngP_snoc, List.length_append, List.length_singleton]
    unfold rngG
    split
    · simp
    · rename_i p hp
      split
      · rw [List.length_append, List.length_dropLast, List.length_singleton]
        omega
      · rw [List.length_append, List.length_singleton]
        omega
theorem actN_len (act : Nat → Bool) (n : Nat) : (actN act n).length ≤ n := by
  unfold actN
  rw [List.length_map]
  exact Nat.le_trans (List.length_filter_le ..) (by simp)
theorem actN_bd {act : Nat → Bool} {n : Nat} {x : Int} (h : x ∈ actN act n) : 1 ≤ x ∧ x ≤ (n : Int) := by
  unfold actN at h
  obtain ⟨v, hv, rfl⟩ := List.mem_map.mp h
  obtain ⟨u, hu, rfl⟩ := List.mem_map.mp (List.mem_filter.mp hv).1
  have := List.mem_range.mp hu
  omega
theorem rng_ok {n : Int} (l : List Int) : (∀ x ∈ l, 1 ≤ x ∧ x ≤ n) → ∀ p ∈ rngP l, RgOk p.1 p.2 n := by
  induction l using snoc_ind with
  | h0 => exact fun _ p hp => by cases hp
  | h1 l x ih =>
    intro h p hp
    have ih' := ih fun y hy => h y (List.mem_append_left _ hy)
    have hx := h x (by simp)
    rw [rngP_snoc] at hp
    unfold rngG at hp
    unfold RgOk at ih' ⊢
    split at hp
    · rw [List.mem_singleton.mp hp]
      exact ⟨hx.1, Int.le_refl _, hx.2⟩
    · rename_i q hq
      have iq := ih' q (List.mem_of_getLast? hq)
      split at hp
      · rcases List.mem_append.mp hp with z | z
        · exact ih' p (List.dropLast_subset _ z)
        · rw [List.mem_singleton.mp z]
          dsimp only
          omega
      · rcases List.mem_append.mp hp with z | z
        · exact ih' p z
        · rw [List.mem_singleton.mp z]
          exact ⟨hx.1, Int.le_refl _, hx.2⟩
theorem opp_opp {n : Nat} {op : Int} (h : IsOp n op) : opp n (opp n op) = op := by
  unfold IsOp at h
  unfold opp
  by_cases c : op < 0
  · rw [if_pos c, if_pos (by omega)]
    omega
  · rw [if_neg c, if_neg (by omega)]
    omega
theorem opp_is {n : Nat} {op : Int} (h : IsOp n op) : IsOp n (opp n op) := (opp_abs h).2.2.1
theorem opp_oppL {n : Nat} {log : List Int} (h : ∀ op ∈ log, IsOp n op) : (log.map (opp n)).map (opp n) = log := by
  rw [List.map_map]
  conv => rhs; rw [← List.map_id log]
  exact List.map_congr_left fun op hop => opp_opp (h op hop)
/-- strikes of a part -/
theorem strk_pre (n : Nat) (l m : List Int) : (strk n l).2 <+: (strk n (l ++ m)).2 := by
  induction m using snoc_ind with
  | h0 => rw [List.append_nil]; exact List.prefix_refl _
  | h1 m x ih =>
    rw [← List.append_assoc, strk_snoc]
    unfold strG
    split
    · exact ih
    · exact ih.trans (List.prefix_append _ _)
theorem strk_first {n : Nat} {log : List Int} {k : Int} {ks : List Int} (h : (strk n log).2 = k :: ks) : (strk n (log.take k.toNat)).2 = [] := by
  have p := strk_pre n (log.take k.toNat) (log.drop k.toNat)
  rw [List.take_append_drop, h] at p
  cases e : (strk n (log.take k.toNat)).2 with
  | nil => rfl
  | cons x xs =>
    rw [e, List.cons_prefix_cons] at p
    have b := strk_lt n (log.take k.toNat) x (by rw [e]; exact List.mem_cons_self)
    rw [List.length_take] at b
    omega
theorem strk_ln (n : Nat) (log : List Int) : (strk n log).1.length ≤ log.length ∧ (strk n log).2.length ≤ log.length := by
  have := strk_len n log
  omega
section
def sp01__check_operations (K : PySem.W.Frag) : Sp := fun vs H Q E => ∃ (size : Int) (a : Addr) (log : List Int), vs = [.int size, .ref a] ∧ SqL K H a (log.map V.int) ∧ (OpsOk size log → Any H .non Q) ∧ ChkE K size log E H
def sp01_strikes (K : PySem.W.Frag) : Sp := fun vs H Q E => ∃ (size : Int) (a : Addr) (log : List Int), vs = [.int size, .ref a] ∧ H a = some (.lst (log.map V.int)) ∧ log.length ≤ 1000 ∧ (OpsOk size log → NewL H ((strk size.toNat log).2.map V.int) Q) ∧ ChkE K size log E H
def sp01_first_illegal (K : PySem.W.Frag) : Sp := fun vs H Q E => ∃ (size : Int) (a : Addr) (log : List Int), vs = [.int size, .ref a] ∧ H a = some (.lst (log.map V.int)) ∧ log.length ≤ 1000 ∧ (OpsOk size log → Any H (firstV (strk size.toNat log).2) Q) ∧ ChkE K size log E H
def sp01_mirror (K : PySem.W.Frag) : Sp := fun vs H Q E => ∃ (size : Int) (a : Addr) (log : List Int), vs = [.int size, .ref a] ∧ H a = some (.lst (log.map V.int)) ∧ log.length ≤ 1000 ∧ (OpsOk size log → NewL H ((log.map (opp size.toNat)).map V.int) Q) ∧ ChkE K size log E H
def sp01_blocks (K : PySem.W.Frag) : Sp := fun vs H Q E => ∃ (size : Int) (a : Addr) (log : List Int), vs = [.int size, .ref a] ∧ H a = some (.lst (log.map V.int)) ∧ log.length ≤ 63 ∧
  (OpsOk size log → ∀ q ts H', H q = none → Kp [] H H' → H' q = some (.lst (ts.map V.ref)) → Prs H' ts (rngP (actN (actB log) size.toNat)) → Q (.ref q) H') ∧ ChkE K size log E H
def sp01_block_part (K : PySem.W.Frag) : Sp := fun vs H Q E => ∃ (size : Int) (a : Addr) (log : List Int) (low high : Int), vs = [.int size, .ref a, .int low, .int high] ∧ H a = some (.lst (log.map V.int)) ∧ log.length ≤ 1000 ∧
  (OpsOk size log → RgOk low high size → NewL H ((partL low high log).map V.int) Q) ∧ ChkE K size log E H ∧ (OpsOk size log → ¬ RgOk low high size → ∀ H', Kp [] H H' → Ex K "BadRange" [("high", .int high), ("low", .int low)] E H')
def sp01__law_rows (K : PySem.W.Frag) : Sp := fun vs H Q E => ∃ (b c : Addr) (n : Nat), vs = [.ref b, .int (n : Int)] ∧ n ≤ 60 ∧ BxI H b c ∧ ∀ (log : List Int) q H', (∀ op ∈ log, IsOp n op) → log.length ≤ 50 → H q = none → Kp [b] H H' → BxI H' b c → H' q = some (.lst (log.map V.int)) → Q (.ref q) H'
def sp01__law_bent (K : PySem.W.Frag) : Sp := fun vs H Q E => ∃ (b c a : Addr) (n : Nat) (log : List Int), vs = [.ref b, .int (n : Int), .ref a] ∧ n ≤ 60 ∧ BxI H b c ∧ a ≠ b ∧ H a = some (.lst (log.map V.int)) ∧ log.length ≤ 50 ∧
  ∀ (bent : List Int) q H', (∃ op ∈ bent, ¬ IsOp n op) → bent.length ≤ 60 → H q = none → Kp [b] H H' → BxI H' b c → H' q = some (.lst (bent.map V.int)) → Q (.ref q) H'
def sp01__law_struck (K : PySem.W.Frag) : Sp := fun vs H Q E => ∃ (n : Nat) (a : Addr) (log : List Int), vs = [.int (n : Int), .ref a] ∧ n ≤ 60 ∧ H a = some (.lst (log.map V.int)) ∧ log.length ≤ 63 ∧ (∀ op ∈ log, IsOp n op) ∧ NewL H ((strk n log).2.map V.int) Q
def sp01__law_most_kept (K : PySem.W.Frag) : Sp := fun vs H Q E => ∃ (n : Nat) (a : Addr) (log : List Int), vs = [.int (n : Int), .ref a] ∧ n ≤ 60 ∧ H a = some (.lst (log.map V.int)) ∧ log.length ≤ 63 ∧ (∀ op ∈ log, IsOp n op) ∧ Any H (.int ((strk n log).1.length : Nat)) Q
def sp01__law_strikes_right (K : PySem.W.Frag) : Sp := fun vs H Q E => ∃ (n : Nat) (a : Addr) (log : List Int), vs = [.int (n : Int), .ref a] ∧ n ≤ 60 ∧ H a = some (.lst (log.map V.int)) ∧ log.length ≤ 63 ∧ (∀ op ∈ log, IsOp n op) ∧ Any H (.bl true) Q
def sp01__law_mirror_right (K : PySem.W.Frag) : Sp := fun vs H Q E => ∃ (n : Nat) (a : Addr) (log : List Int), vs = [.int (n : Int), .ref a] ∧ n ≤ 60 ∧ H a = some (.lst (log.map V.int)) ∧ log.length ≤ 63 ∧ (∀ op ∈ log, IsOp n op) ∧ Any H (.bl true) Q
def sp01__law_ranges (K : PySem.W.Frag) : Sp := fun vs H Q E => ∃ (n : Nat) (a : Addr) (log : List Int), vs = [.int (n : Int), .ref a] ∧ n ≤ 60 ∧ H a = some (.lst (log.map V.int)) ∧ log.length ≤ 63 ∧ (∀ op ∈ log, IsOp n op) ∧
  ∀ q ts H', H q = none → Kp [] H H' → H' q = some (.lst (ts.map V.ref)) → Prs H' ts (rngP (actN (actB log) n)) → Q (.ref q) H'
def sp01__law_part_right (K : PySem.W.Frag) : Sp := fun vs H Q E => ∃ (n : Nat) (a : Addr) (log : List Int) (low high : Int), vs = [.int (n : Int), .ref a, .int low, .int high] ∧ n ≤ 60 ∧ H a = some (.lst (log.map V.int)) ∧ log.length ≤ 63 ∧ (∀ op ∈ log, IsOp n op) ∧ RgOk low high n ∧ Any H (.bl true) Q
def sp01__law_blocks_right (K : PySem.W.Frag) : Sp := fun vs H Q E => ∃ (n : Nat) (a : Addr) (log : List Int), vs = [.int (n : Int), .ref a] ∧ n ≤ 60 ∧ H a = some (.lst (log.map V.int)) ∧ log.length ≤ 63 ∧ (∀ op ∈ log, IsOp n op) ∧ Any H (.bl true) Q
def sp01__law_range_right (K : PySem.W.Frag) : Sp := fun vs H Q E => ∃ (n : Nat) (a : Addr) (log : List Int) (low high : Int), vs = [.int (n : Int), .ref a, .int low, .int high] ∧ n ≤ 60 ∧ H a = some (.lst (log.map V.int)) ∧ log.length ≤ 63 ∧ (∀ op ∈ log, IsOp n op) ∧ Any H (.bl true) Q
def sp01__law_asked (K : PySem.W.Frag) : Sp := fun vs H Q E => ∃ (way : Nat) (size : Int) (a : Addr) (log : List Int) (low high : Int), vs = [.int (way : Int), .int size, .ref a, .int low, .int high] ∧ H a = some (.lst (log.map V.int)) ∧ log.length ≤ 63 ∧ ¬ OpsOk size log ∧ ChkE K size log E H
def sp01__law_operation_refused (K : PySem.W.Frag) : Sp := fun vs H Q E => ∃ (way n : Nat) (a : Addr) (log : List Int) (low high : Int), vs = [.int (way : Int), .int (n : Int), .ref a, .int low, .int high] ∧ n ≤ 60 ∧ H a = some (.lst (log.map V.int)) ∧ log.length ≤ 63 ∧ (∃ op ∈ log, ¬ IsOp n op) ∧ Any H (.bl true) Q
def sp01__law_size_refused (K : PySem.W.Frag) : Sp := fun vs H Q E => ∃ (way : Nat) (far : Int) (a : Addr) (log : List Int) (low high : Int), vs = [.int (way : Int), .int far, .ref a, .int low, .int high] ∧ ¬ SizeOk far ∧ H a = some (.lst (log.map V.int)) ∧ log.length ≤ 63 ∧ Any H (.bl true) Q
end
end G

set_option Elab.async false
set_option linter.all false
set_option maxRecDepth 100000
set_option maxHeartbeats 4000000

namespace G
open PySem PySem.Spec PyProof.Rows L2
def top (i : Nat) : Stmt := PySem.Challenge.pw_latelink_k01_rows_of_operations.main.body.getD i (.Pass ⟨0, 0, 0, 0⟩)
abbrev s__law_draw : Stmt := top 34
abbrev s__law_bent : Stmt := top 40
abbrev s__law_is : Stmt := top 35
abbrev s__law_integers : Stmt := top 36
abbrev s_check_operation : Stmt := top 16
abbrev s_check_size : Stmt := top 15
abbrev s__check_operations : Stmt := top 30
abbrev s__on_node : Stmt := top 31
abbrev s_block_part : Stmt := top 29
abbrev s__law_part_right : Stmt := top 47
abbrev s__law_ranges : Stmt := top 46
abbrev s_blocks : Stmt := top 28
abbrev s__law_blocks_right : Stmt := top 48
abbrev s__law_box : Stmt := top 33
abbrev s__law_far_size : Stmt := top 38
abbrev s__law_turned : Stmt := top 44
abbrev s_mirror : Stmt := top 27
abbrev s__law_mirror_right : Stmt := top 45
abbrev s_Links___init__ : Stmt := inClass (top 14) 1
abbrev s_Links_is_legal : Stmt := inClass (top 14) 11
abbrev s_Links_check : Stmt := inClass (top 14) 12
abbrev s_Links_apply_at : Stmt := inClass (top 14) 14
abbrev s_Links_apply : Stmt := inClass (top 14) 13
abbrev s_strikes : Stmt := top 26
abbrev s_first_illegal : Stmt := top 25
abbrev s__law_asked : Stmt := top 50
abbrev s__law_operation_refused : Stmt := top 51
abbrev s__law_range_right : Stmt := top 49
abbrev s__law_rows : Stmt := top 39
abbrev s__law_size : Stmt := top 37
abbrev s__law_size_refused : Stmt := top 52
abbrev s__law_most_kept : Stmt := top 42
abbrev s__law_struck : Stmt := top 41
abbrev s__law_strikes_right : Stmt := top 43
abbrev s_law : Stmt := top 53
abbrev s_BadRange___init__ : Stmt := inClass (top 10) 0
abbrev s_BadSize___init__ : Stmt := inClass (top 7) 0
abbrev s_LogError___init__ : Stmt := inClass (top 3) 0
theorem sc__law_draw : FnScope ["box", "many", "cell", "digit", "mixed"] ["box", "many"] (defScope s__law_draw) := ⟨rfl, rfl, rfl, by decide +kernel, rfl, by decide +kernel, by decide +kernel⟩
theorem sc__law_bent : FnScope ["box", "size", "log", "bent", "turn", "wrong", "kind"] ["box", "size", "log"] (defScope s__law_bent) := ⟨rfl, rfl, rfl, by decide +kernel, rfl, by decide +kernel, by decide +kernel⟩
theorem sc__law_is : FnScope ["told", "due"] ["told", "due"] (defScope s__law_is) := ⟨rfl, rfl, rfl, by decide +kernel, rfl, by decide +kernel, by decide +kernel⟩
theorem sc__law_integers : FnScope ["told", "due", "k"] ["told", "due"] (defScope s__law_integers) := ⟨rfl, rfl, rfl, by decide +kernel, rfl, by decide +kernel, by decide +kernel⟩
theorem sc_check_operation : FnScope ["size", "operation", "index"] ["size", "operation", "index"] (defScope s_check_operation) := ⟨rfl, rfl, rfl, by decide +kernel, rfl, by decide +kernel, by decide +kernel⟩
theorem sc_check_size : FnScope ["size"] ["size"] (defScope s_check_size) := ⟨rfl, rfl, rfl, by decide +kernel, rfl, by decide +kernel, by decide +kernel⟩
theorem sc__check_operations : FnScope ["size", "log", "index", "operation"] ["size", "log"] (defScope s__check_operations) := ⟨rfl, rfl, rfl, by decide +kernel, rfl, by decide +kernel, by decide +kernel⟩
theorem sc__on_node : FnScope ["operation", "node"] ["operation", "node"] (defScope s__on_node) := ⟨rfl, rfl, rfl, by decide +kernel, rfl, by decide +kernel, by decide +kernel⟩
theorem sc_block_part : FnScope ["size", "log", "low", "high", "operation"] ["size", "log", "low", "high"] (defScope s_block_part) := ⟨rfl, rfl, rfl, by decide +kernel, rfl, by decide +kernel, by decide +kernel⟩
theorem sc__law_part_right : FnScope ["size", "log", "low", "high", "due", "operation", "given", "told"] ["size", "log", "low", "high"] (defScope s__law_part_right) := ⟨rfl, rfl, rfl, by decide +kernel, rfl, by decide +kernel, by decide +kernel⟩
theorem sc__law_ranges : FnScope ["size", "log", "acting", "operation", "found", "low", "node"] ["size", "log"] (defScope s__law_ranges) := ⟨rfl, rfl, rfl, by decide +kernel, rfl, by decide +kernel, by decide +kernel⟩
theorem sc_blocks : FnScope ["size", "log", "ranges", "node", "operation"] ["size", "log"] (defScope s_blocks) := ⟨rfl, rfl, rfl, by decide +kernel, rfl, by decide +kernel, by decide +kernel⟩
theorem sc__law_blocks_right : FnScope ["size", "log", "due", "given", "told", "k", "pair"] ["size", "log"] (defScope s__law_blocks_right) := ⟨rfl, rfl, rfl, by decide +kernel, rfl, by decide +kernel, by decide +kernel⟩
theorem sc__law_box : FnScope ["script"] ["script"] (defScope s__law_box) := ⟨rfl, rfl, rfl, by decide +kernel, rfl, by decide +kernel, by decide +kernel⟩
theorem sc__law_far_size : FnScope ["box"] ["box"] (defScope s__law_far_size) := ⟨rfl, rfl, rfl, by decide +kernel, rfl, by decide +kernel, by decide +kernel⟩
theorem sc__law_turned : FnScope ["size", "operation"] ["size", "operation"] (defScope s__law_turned) := ⟨rfl, rfl, rfl, by decide +kernel, rfl, by decide +kernel, by decide +kernel⟩
theorem sc_mirror : FnScope ["size", "log", "operation"] ["size", "log"] (defScope s_mirror) := ⟨rfl, rfl, rfl, by decide +kernel, rfl, by decide +kernel, by decide +kernel⟩
theorem sc__law_mirror_right : FnScope ["size", "log", "due", "given", "told", "operation"] ["size", "log"] (defScope s__law_mirror_right) := ⟨rfl, rfl, rfl, by decide +kernel, rfl, by decide +kernel, by decide +kernel⟩
theorem sc_Links___init__ : FnScope ["self", "size"] ["self", "size"] (defScope s_Links___init__) := ⟨rfl, rfl, rfl, by decide +kernel, rfl, by decide +kernel, by decide +kernel⟩
theorem sc_Links_is_legal : FnScope ["self", "operation"] ["self", "operation"] (defScope s_Links_is_legal) := ⟨rfl, rfl, rfl, by decide +kernel, rfl, by decide +kernel, by decide +kernel⟩
theorem sc_Links_check : FnScope ["self", "operation", "index"] ["self", "operation", "index"] (defScope s_Links_check) := ⟨rfl, rfl, rfl, by decide +kernel, rfl, by decide +kernel, by decide +kernel⟩
theorem sc_Links_apply_at : FnScope ["self", "operation", "index", "node", "low", "high", "is_unlink"] ["self", "operation", "index"] (defScope s_Links_apply_at) := ⟨rfl, rfl, rfl, by decide +kernel, rfl, by decide +kernel, by decide +kernel⟩
theorem sc_Links_apply : FnScope ["self", "operation"] ["self", "operation"] (defScope s_Links_apply) := ⟨rfl, rfl, rfl, by decide +kernel, rfl, by decide +kernel, by decide +kernel⟩
theorem sc_strikes : FnScope ["size", "log", "links", "struck", "index", "operation"] ["size", "log"] (defScope s_strikes) := ⟨rfl, rfl, rfl, by decide +kernel, rfl, by decide +kernel, by decide +kernel⟩
theorem sc_first_illegal : FnScope ["size", "log", "struck"] ["size", "log"] (defScope s_first_illegal) := ⟨rfl, rfl, rfl, by decide +kernel, rfl, by decide +kernel, by decide +kernel⟩
theorem sc__law_asked : FnScope ["way", "size", "log", "low", "high"] ["way", "size", "log", "low", "high"] (defScope s__law_asked) := ⟨rfl, rfl, rfl, by decide +kernel, rfl, by decide +kernel, by decide +kernel⟩
theorem sc__law_operation_refused : FnScope ["way", "size", "log", "low", "high", "due", "given", "raised"] ["way", "size", "log", "low", "high"] (defScope s__law_operation_refused) := ⟨rfl, rfl, rfl, by decide +kernel, rfl, by decide +kernel, by decide +kernel⟩
theorem sc__law_range_right : FnScope ["size", "log", "low", "high", "given", "raised"] ["size", "log", "low", "high"] (defScope s__law_range_right) := ⟨rfl, rfl, rfl, by decide +kernel, rfl, by decide +kernel, by decide +kernel⟩
theorem sc__law_rows : FnScope ["box", "size", "log", "count", "near", "k", "node"] ["box", "size"] (defScope s__law_rows) := ⟨rfl, rfl, rfl, by decide +kernel, rfl, by decide +kernel, by decide +kernel⟩
theorem sc__law_size : FnScope ["box", "kind"] ["box"] (defScope s__law_size) := ⟨rfl, rfl, rfl, by decide +kernel, rfl, by decide +kernel, by decide +kernel⟩
theorem sc__law_size_refused : FnScope ["way", "size", "log", "low", "high", "given", "raised"] ["way", "size", "log", "low", "high"] (defScope s__law_size_refused) := ⟨rfl, rfl, rfl, by decide +kernel, rfl, by decide +kernel, by decide +kernel⟩
theorem sc__law_most_kept : FnScope ["size", "log", "most", "node", "ends_in", "ends_out", "operation"] ["size", "log"] (defScope s__law_most_kept) := ⟨rfl, rfl, rfl, by decide +kernel, rfl, by decide +kernel, by decide +kernel⟩
theorem sc__law_struck : FnScope ["size", "log", "outs", "struck", "k", "node"] ["size", "log"] (defScope s__law_struck) := ⟨rfl, rfl, rfl, by decide +kernel, rfl, by decide +kernel, by decide +kernel⟩
theorem sc__law_strikes_right : FnScope ["size", "log", "due", "given", "told", "rest", "first", "k"] ["size", "log"] (defScope s__law_strikes_right) := ⟨rfl, rfl, rfl, by decide +kernel, rfl, by decide +kernel, by decide +kernel⟩
theorem sc_law : FnScope ["script", "box", "size", "log", "low", "high", "bent", "far", "way"] ["script"] (defScope s_law) := ⟨rfl, rfl, rfl, by decide +kernel, rfl, by decide +kernel, by decide +kernel⟩
theorem sc_BadRange___init__ : FnScope ["self", "low", "high"] ["self", "low", "high"] (defScope s_BadRange___init__) := ⟨rfl, rfl, rfl, by decide +kernel, rfl, by decide +kernel, by decide +kernel⟩
theorem sc_BadSize___init__ : FnScope ["self", "size"] ["self", "size"] (defScope s_BadSize___init__) := ⟨rfl, rfl, rfl, by decide +kernel, rfl, by decide +kernel, by decide +kernel⟩
theorem sc_LogError___init__ : FnScope ["self", "operation", "index"] ["self", "operation", "index"] (defScope s_LogError___init__) := ⟨rfl, rfl, rfl, by decide +kernel, rfl, by decide +kernel, by decide +kernel⟩
def d__law_draw : He5.DefA := ⟨fun K => He.fAd K ("_law_draw", none), "_law_draw", "_law_draw", defArgs s__law_draw, defBody s__law_draw, defScope s__law_draw, [], []⟩
def d__law_bent : He5.DefA := ⟨fun K => He.fAd K ("_law_bent", none), "_law_bent", "_law_bent", defArgs s__law_bent, defBody s__law_bent, defScope s__law_bent, [], []⟩
def d__law_is : He5.DefA := ⟨fun K => He.fAd K ("_law_is", none), "_law_is", "_law_is", defArgs s__law_is, defBody s__law_is, defScope s__law_is, [], []⟩
def d__law_integers : He5.DefA := ⟨fun K => He.fAd K ("_law_integers", none), "_law_integers", "_law_integers", defArgs s__law_integers, defBody s__law_integers, defScope s__law_integers, [], []⟩
def d_check_operation : He5.DefA := ⟨fun K => He.fAd K ("check_operation", none), "check_operation", "check_operation", defArgs s_check_operation, defBody s_check_operation, defScope s_check_operation, [], []⟩
def d_check_size : He5.DefA := ⟨fun K => He.fAd K ("check_size", none), "check_size", "check_size", defArgs s_check_size, defBody s_check_size, defScope s_check_size, [], []⟩
def d__check_operations : He5.DefA := ⟨fun K => He.fAd K ("_check_operations", none), "_check_operations", "_check_operations", defArgs s__check_operations, defBody s__check_operations, defScope s__check_operations, [], []⟩
def d__on_node : He5.DefA := ⟨fun K => He.fAd K ("_on_node", none), "_on_node", "_on_node", defArgs s__on_node, defBody s__on_node, defScope s__on_node, [], []⟩
def d_block_part : He5.DefA := ⟨fun K => He.fAd K ("block_part", none), "block_part", "block_part", defArgs s_block_part, defBody s_block_part, defScope s_block_part, [], []⟩
def d__law_part_right : He5.DefA := ⟨fun K => He.fAd K ("_law_part_right", none), "_law_part_right", "_law_part_right", defArgs s__law_part_right, defBody s__law_part_right, defScope s__law_part_right, [], []⟩
def d__law_ranges : He5.DefA := ⟨fun K => He.fAd K ("_law_ranges", none), "_law_ranges", "_law_ranges", defArgs s__law_ranges, defBody s__law_ranges, defScope s__law_ranges, [], []⟩
def d_blocks : He5.DefA := ⟨fun K => He.fAd K ("blocks", none), "blocks", "blocks", defArgs s_blocks, defBody s_blocks, defScope s_blocks, [], []⟩
def d__law_blocks_right : He5.DefA := ⟨fun K => He.fAd K ("_law_blocks_right", none), "_law_blocks_right", "_law_blocks_right", defArgs s__law_blocks_right, defBody s__law_blocks_right, defScope s__law_blocks_right, [], []⟩
def d__law_box : He5.DefA := ⟨fun K => He.fAd K ("_law_box", none), "_law_box", "_law_box", defArgs s__law_box, defBody s__law_box, defScope s__law_box, [], []⟩
def d__law_far_size : He5.DefA := ⟨fun K => He.fAd K ("_law_far_size", none), "_law_far_size", "_law_far_size", defArgs s__law_far_size, defBody s__law_far_size, defScope s__law_far_size, [], []⟩
def d__law_turned : He5.DefA := ⟨fun K => He.fAd K ("_law_turned", none), "_law_turned", "_law_turned", defArgs s__law_turned, defBody s__law_turned, defScope s__law_turned, [], []⟩
def d_mirror : He5.DefA := ⟨fun K => He.fAd K ("mirror", none), "mirror", "mirror", defArgs s_mirror, defBody s_mirror, defScope s_mirror, [], []⟩
def d__law_mirror_right : He5.DefA := ⟨fun K => He.fAd K ("_law_mirror_right", none), "_law_mirror_right", "_law_mirror_right", defArgs s__law_mirror_right, defBody s__law_mirror_right, defScope s__law_mirror_right, [], []⟩
def d_Links___init__ : He5.DefA := ⟨fun K => He.fAd K ("Links", some "__init__"), "__init__", "Links.__init__", defArgs s_Links___init__, defBody s_Links___init__, defScope s_Links___init__, [], []⟩
def d_Links_is_legal : He5.DefA := ⟨fun K => He.fAd K ("Links", some "is_legal"), "is_legal", "Links.is_legal", defArgs s_Links_is_legal, defBody s_Links_is_legal, defScope s_Links_is_legal, [], []⟩
def d_Links_check : He5.DefA := ⟨fun K => He.fAd K ("Links", some "check"), "check", "Links.check", defArgs s_Links_check, defBody s_Links_check, defScope s_Links_check, [], []⟩
def d_Links_apply_at : He5.DefA := ⟨fun K => He.fAd K ("Links", some "apply_at"), "apply_at", "Links.apply_at", defArgs s_Links_apply_at, defBody s_Links_apply_at, defScope s_Links_apply_at, [], []⟩
def d_Links_apply : He5.DefA := ⟨fun K => He.fAd K ("Links", some "apply"), "apply", "Links.apply", defArgs s_Links_apply, defBody s_Links_apply, defScope s_Links_apply, [], []⟩
def d_strikes : He5.DefA := ⟨fun K => He.fAd K ("strikes", none), "strikes", "strikes", defArgs s_strikes, defBody s_strikes, defScope s_strikes, [], []⟩
def d_first_illegal : He5.DefA := ⟨fun K => He.fAd K ("first_illegal", none), "first_illegal", "first_illegal", defArgs s_first_illegal, defBody s_first_illegal, defScope s_first_illegal, [], []⟩
def d__law_asked : He5.DefA := ⟨fun K => He.fAd K ("_law_asked", none), "_law_asked", "_law_asked", defArgs s__law_asked, defBody s__law_asked, defScope s__law_asked, [], []⟩
def d__law_operation_refused : He5.DefA := ⟨fun K => He.fAd K ("_law_operation_refused", none), "_law_operation_refused", "_law_operation_refused", defArgs s__law_operation_refused, defBody s__law_operation_refused, defScope s__law_operation_refused, [], []⟩
def d__law_range_right : He5.DefA := ⟨fun K => He.fAd K ("_law_range_right", none), "_law_range_right", "_law_range_right", defArgs s__law_range_right, defBody s__law_range_right, defScope s__law_range_right, [], []⟩
def d__law_rows : He5.DefA := ⟨fun K => He.fAd K ("_law_rows", none), "_law_rows", "_law_rows", defArgs s__law_rows, defBody s__law_rows, defScope s__law_rows, [], []⟩
def d__law_size : He5.DefA := ⟨fun K => He.fAd K ("_law_size", none), "_law_size", "_law_size", defArgs s__law_size, defBody s__law_size, defScope s__law_size, [], []⟩
def d__law_size_refused : He5.DefA := ⟨fun K => He.fAd K ("_law_size_refused", none), "_law_size_refused", "_law_size_refused", defArgs s__law_size_refused, defBody s__law_size_refused, defScope s__law_size_refused, [], []⟩
def d__law_most_kept : He5.DefA := ⟨fun K => He.fAd K ("_law_most_kept", none), "_law_most_kept", "_law_most_kept", defArgs s__law_most_kept, defBody s__law_most_kept, defScope s__law_most_kept, [], []⟩
def d__law_struck : He5.DefA := ⟨fun K => He.fAd K ("_law_struck", none), "_law_struck", "_law_struck", defArgs s__law_struck, defBody s__law_struck, defScope s__law_struck, [], []⟩
def d__law_strikes_right : He5.DefA := ⟨fun K => He.fAd K ("_law_strikes_right", none), "_law_strikes_right", "_law_strikes_right", defArgs s__law_strikes_right, defBody s__law_strikes_right, defScope s__law_strikes_right, [], []⟩
def d_law : He5.DefA := ⟨fun K => He.fAd K ("law", none), "law", "law", defArgs s_law, defBody s_law, defScope s_law, [], []⟩
def d_BadRange___init__ : He5.DefA := ⟨fun K => He.fAd K ("BadRange", some "__init__"), "__init__", "BadRange.__init__", defArgs s_BadRange___init__, defBody s_BadRange___init__, defScope s_BadRange___init__, [], []⟩
def d_BadSize___init__ : He5.DefA := ⟨fun K => He.fAd K ("BadSize", some "__init__"), "__init__", "BadSize.__init__", defArgs s_BadSize___init__, defBody s_BadSize___init__, defScope s_BadSize___init__, [], []⟩
def d_LogError___init__ : He5.DefA := ⟨fun K => He.fAd K ("LogError", some "__init__"), "__init__", "LogError.__init__", defArgs s_LogError___init__, defBody s_LogError___init__, defScope s_LogError___init__, [], []⟩
def fnL : List He5.DefA := [d__law_draw, d__law_bent, d__law_is, d__law_integers, d_check_operation, d_check_size, d__check_operations, d__on_node, d_block_part, d__law_part_right, d__law_ranges, d_blocks, d__law_blocks_right, d__law_box, d__law_far_size, d__law_turned, d_mirror, d__law_mirror_right, d_Links___init__, d_Links_is_legal, d_Links_check, d_Links_apply_at, d_Links_apply, d_strikes, d_first_illegal, d__law_asked, d__law_operation_refused, d__law_range_right, d__law_rows, d__law_size, d__law_size_refused, d__law_most_kept, d__law_struck, d__law_strikes_right, d_law, d_BadRange___init__, d_BadSize___init__, d_LogError___init__]
def chkL : List Chk := [fa_ (.glo "LinkError"),
  fa_ (.glo "LogError"),
  fa_ (.glo "BadOperation"),
  fa_ (.glo "Illegal"),
  fa_ (.glo "Refused"),
  fa_ (.glo "BadSize"),
  fa_ (.glo "BadNode"),
  fa_ (.glo "BadDump"),
  fa_ (.glo "BadRange"),
  fa_ (.glo "Links"),
  fa_ (.glo "_law_draw"),
  fa_ (.glo "_law_bent"),
  fa_ (.glo "_law_is"),
  fa_ (.glo "_law_integers"),
  fa_ (.glo "check_operation"),
  fa_ (.glo "check_size"),
  fa_ (.glo "_check_operations"),
  fa_ (.glo "_on_node"),
  fa_ (.glo "block_part"),
  fa_ (.glo "_law_part_right"),
  fa_ (.glo "_law_ranges"),
  fa_ (.glo "blocks"),
  fa_ (.glo "_law_blocks_right"),
  fa_ (.glo "_law_box"),
  fa_ (.glo "_law_far_size"),
  fa_ (.glo "_law_turned"),
  fa_ (.glo "mirror"),
  fa_ (.glo "_law_mirror_right"),
  fa_ (.glo "strikes"),
  fa_ (.glo "first_illegal"),
  fa_ (.glo "_law_asked"),
  fa_ (.glo "_law_operation_refused"),
  fa_ (.glo "_law_range_right"),
  fa_ (.glo "_law_rows"),
  fa_ (.glo "_law_size"),
  fa_ (.glo "_law_size_refused"),
  fa_ (.glo "_law_most_kept"),
  fa_ (.glo "_law_struck"),
  fa_ (.glo "_law_strikes_right"),
  fa_ (.glo "law"),
  fa_ (.free "ValueError"),
  fa_ (.free "abs"),
  fa_ (.free "bool"),
  fa_ (.free "enumerate"),
  fa_ (.free "int"),
  fa_ (.free "isinstance"),
  fa_ (.free "len"),
  fa_ (.free "list"),
  fa_ (.free "max"),
  fa_ (.free "range"),
  fa_ (.free "sorted"),
  fa_ (.free "str"),
  fa_ (.free "tuple"),
  fa_ (.str "DIGITS" "0123456789"),
  fa_ (.int "MOST_DIGITS" 9),
  ccB "Links" "MOST" 60,
  fa_ (.cls "Links"),
  tyB "Links",
  fa_ (.noat "Links" "_lefts"),
  fa_ (.noat "Links" "_out"),
  fa_ (.noat "Links" "_rights"),
  fa_ (.noat "Links" "size"),
  fa_ (.mkr "Links"),
  fa_ (.meth "Links" "is_legal"),
  fa_ (.meth "Links" "check"),
  fa_ (.meth "Links" "apply_at"),
  fa_ (.meth "Links" "apply"),
  askB "BadDump",
  askB "BadNode",
  askB "BadOperation",
  askB "BadRange",
  askB "BadSize",
  askB "Illegal",
  askB "LinkError",
  askB "LogError",
  askB "Refused",
  excB "BadOperation" ["operation", "index"],
  iniB "BadOperation",
  (fun K => decide (He.ma K (He.ga K "BadOperation") "__init__" = He.ma K (He.ga K "LogError") "__init__")),
  kitB2 "BadOperation" "BadDump" false,
  kitB2 "BadOperation" "BadNode" false,
  kitB2 "BadOperation" "BadOperation" true,
  exmB "BadOperation" "BadOperation" true,
  kitB2 "BadOperation" "BadRange" false,
  exmB "BadOperation" "BadRange" false,
  kitB2 "BadOperation" "BadSize" false,
  exmB "BadOperation" "BadSize" false,
  kitB2 "BadOperation" "Illegal" false,
  kitB2 "BadOperation" "LinkError" true,
  kitB2 "BadOperation" "LogError" true,
  kitB2 "BadOperation" "Refused" false,
  kitT2 "BadOperation" "ValueError" true,
  excB "BadRange" ["low", "high"],
  iniB "BadRange",
  kitB2 "BadRange" "BadDump" false,
  kitB2 "BadRange" "BadNode" false,
  kitB2 "BadRange" "BadOperation" false,
  exmB "BadRange" "BadOperation" false,
  kitB2 "BadRange" "BadRange" true,
  exmB "BadRange" "BadRange" true,
  kitB2 "BadRange" "BadSize" false,
  exmB "BadRange" "BadSize" false,
  kitB2 "BadRange" "Illegal" false,
  kitB2 "BadRange" "LinkError" true,
  kitB2 "BadRange" "LogError" false,
  kitB2 "BadRange" "Refused" false,
  kitT2 "BadRange" "ValueError" true,
  excB "BadSize" ["size"],
  iniB "BadSize",
  kitB2 "BadSize" "BadDump" false,
  kitB2 "BadSize" "BadNode" false,
  kitB2 "BadSize" "BadOperation" false,
  exmB "BadSize" "BadOperation" false,
  kitB2 "BadSize" "BadRange" false,
  exmB "BadSize" "BadRange" false,
  kitB2 "BadSize" "BadSize" true,
  exmB "BadSize" "BadSize" true,
  kitB2 "BadSize" "Illegal" false,
  kitB2 "BadSize" "LinkError" true,
  kitB2 "BadSize" "LogError" false,
  kitB2 "BadSize" "Refused" false,
  kitT2 "BadSize" "ValueError" true,
  excB "Illegal" ["operation", "index"],
  iniB "Illegal",
  (fun K => decide (He.ma K (He.ga K "Illegal") "__init__" = He.ma K (He.ga K "LogError") "__init__")),
  kitB2 "Illegal" "BadDump" false,
  kitB2 "Illegal" "BadNode" false,
  kitB2 "Illegal" "BadOperation" false,
  exmB "Illegal" "BadOperation" false,
  kitB2 "Illegal" "BadRange" false,
  exmB "Illegal" "BadRange" false,
  kitB2 "Illegal" "BadSize" false,
  exmB "Illegal" "BadSize" false,
  kitB2 "Illegal" "Illegal" true,
  kitB2 "Illegal" "LinkError" true,
  kitB2 "Illegal" "LogError" true,
  kitB2 "Illegal" "Refused" false,
  kitT2 "Illegal" "ValueError" true]
abbrev R : PySem.W.OpenRow := PySem.W.OpenLaw.row PySem.Challenge.rw_latelink_k01_rows_of_operations
abbrev hk : PySem.W.Hook := hookY 6 chkL fnL
def ob (s : PySem.W.SharedT) : He.AlD := obsYG 6 chkL fnL (HandSHeadRun.getT s)
theorem ob_eq (s : PySem.W.SharedT) : ob s = hk.obs s.abs := obsYG_eq (HandSHeadRun.getT_eq s)
def loose0 : List Str := ["_wall", "__name__", "LinkError", "LogError", "BadOperation", "Illegal", "Refused", "BadSize", "BadNode", "BadDump", "BadRange", "DIGITS", "MOST_DIGITS", "Links", "check_size", "check_operation", "is_positive", "dump_of", "_joined", "_read_numbers"]
def loose1 : List Str := ["_read_rights", "_read_lefts", "_read_outs", "first_illegal", "strikes", "mirror", "blocks", "block_part", "_check_operations", "_on_node", "_law_box", "_law_draw", "_law_is", "_law_integers", "_law_size", "_law_far_size", "_law_rows", "_law_bent", "_law_struck", "_law_most_kept"]
def loose2 : List Str := ["_law_strikes_right", "_law_turned", "_law_mirror_right", "_law_ranges", "_law_part_right", "_law_blocks_right", "_law_range_right", "_law_asked", "_law_operation_refused", "_law_size_refused"]
def loose : List Str := loose0 ++ loose1 ++ loose2
set_option maxHeartbeats 0 in
theorem run (w : World) : HandSHeadRun.RunEq R (PySem.W.view R.prog [53]) hk ob 8000 loose w := by
  intro os
  kernel_rfl
/-- what the top has written -/
structure Txt (K : PySem.W.Frag) (mg : Str → Option Value) : Prop where
  g_LinkError : mg "LinkError" = some (.ref (He.ga K "LinkError"))
  g_LogError : mg "LogError" = some (.ref (He.ga K "LogError"))
  g_BadOperation : mg "BadOperation" = some (.ref (He.ga K "BadOperation"))
  g_Illegal : mg "Illegal" = some (.ref (He.ga K "Illegal"))
  g_Refused : mg "Refused" = some (.ref (He.ga K "Refused"))
  g_BadSize : mg "BadSize" = some (.ref (He.ga K "BadSize"))
  g_BadNode : mg "BadNode" = some (.ref (He.ga K "BadNode"))
  g_BadDump : mg "BadDump" = some (.ref (He.ga K "BadDump"))
  g_BadRange : mg "BadRange" = some (.ref (He.ga K "BadRange"))
  g_Links : mg "Links" = some (.ref (He.ga K "Links"))
  gf__law_draw : mg "_law_draw" = some (.ref (He.ga K "_law_draw"))
  gf__law_bent : mg "_law_bent" = some (.ref (He.ga K "_law_bent"))
  gf__law_is : mg "_law_is" = some (.ref (He.ga K "_law_is"))
  gf__law_integers : mg "_law_integers" = some (.ref (He.ga K "_law_integers"))
  gf_check_operation : mg "check_operation" = some (.ref (He.ga K "check_operation"))
  gf_check_size : mg "check_size" = some (.ref (He.ga K "check_size"))
  gf__check_operations : mg "_check_operations" = some (.ref (He.ga K "_check_operations"))
  gf__on_node : mg "_on_node" = some (.ref (He.ga K "_on_node"))
  gf_block_part : mg "block_part" = some (.ref (He.ga K "block_part"))
  gf__law_part_right : mg "_law_part_right" = some (.ref (He.ga K "_law_part_right"))
  gf__law_ranges : mg "_law_ranges" = some (.ref (He.ga K "_law_ranges"))
  gf_blocks : mg "blocks" = some (.ref (He.ga K "blocks"))
  gf__law_blocks_right : mg "_law_blocks_right" = some (.ref (He.ga K "_law_blocks_right"))
  gf__law_box : mg "_law_box" = some (.ref (He.ga K "_law_box"))
  gf__law_far_size : mg "_law_far_size" = some (.ref (He.ga K "_law_far_size"))
  gf__law_turned : mg "_law_turned" = some (.ref (He.ga K "_law_turned"))
  gf_mirror : mg "mirror" = some (.ref (He.ga K "mirror"))
  gf__law_mirror_right : mg "_law_mirror_right" = some (.ref (He.ga K "_law_mirror_right"))
  gf_strikes : mg "strikes" = some (.ref (He.ga K "strikes"))
  gf_first_illegal : mg "first_illegal" = some (.ref (He.ga K "first_illegal"))
  gf__law_asked : mg "_law_asked" = some (.ref (He.ga K "_law_asked"))
  gf__law_operation_refused : mg "_law_operation_refused" = some (.ref (He.ga K "_law_operation_refused"))
  gf__law_range_right : mg "_law_range_right" = some (.ref (He.ga K "_law_range_right"))
  gf__law_rows : mg "_law_rows" = some (.ref (He.ga K "_law_rows"))
  gf__law_size : mg "_law_size" = some (.ref (He.ga K "_law_size"))
  gf__law_size_refused : mg "_law_size_refused" = some (.ref (He.ga K "_law_size_refused"))
  gf__law_most_kept : mg "_law_most_kept" = some (.ref (He.ga K "_law_most_kept"))
  gf__law_struck : mg "_law_struck" = some (.ref (He.ga K "_law_struck"))
  gf__law_strikes_right : mg "_law_strikes_right" = some (.ref (He.ga K "_law_strikes_right"))
  gf_law : mg "law" = some (.ref (He.ga K "law"))
  b_ValueError : mg "ValueError" = none
  b_abs : mg "abs" = none
  b_bool : mg "bool" = none
  b_enumerate : mg "enumerate" = none
  b_int : mg "int" = none
  b_isinstance : mg "isinstance" = none
  b_len : mg "len" = none
  b_list : mg "list" = none
  b_max : mg "max" = none
  b_range : mg "range" = none
  b_sorted : mg "sorted" = none
  b_str : mg "str" = none
  b_tuple : mg "tuple" = none
  k_DIGITS : ∃ t, mg "DIGITS" = some (.str "0123456789" t)
  k_MOST_DIGITS : ∃ t, mg "MOST_DIGITS" = some (.int 9 t)
  cc_Links_MOST : ∃ mc u, ClX.CRead K (He.ga K "Links") mc ∧ ClX.CVal K (He.ga K "Links") mc "MOST" (.int 60) u
  cl_Links : Cls K (He.ga K "Links")
  ty_Links : PySem.W.findIn K (.ref (He.ga K "Links")) "__class__" = some (some (.builtin "object.__class__")) ∧ PySem.W.mroIn K (He.ga K "Links") (.type "object") = some true
  na_Links__lefts : NoAttr K (He.ga K "Links") "_lefts"
  na_Links__out : NoAttr K (He.ga K "Links") "_out"
  na_Links__rights : NoAttr K (He.ga K "Links") "_rights"
  na_Links_size : NoAttr K (He.ga K "Links") "size"
  mk_Links : Mk K (He.ga K "Links") (He.ma K (He.ga K "Links") "__init__")
  me_Links_is_legal : Meth K (He.ga K "Links") "is_legal" (He.ma K (He.ga K "Links") "is_legal")
  me_Links_check : Meth K (He.ga K "Links") "check" (He.ma K (He.ga K "Links") "check")
  me_Links_apply_at : Meth K (He.ga K "Links") "apply_at" (He.ma K (He.ga K "Links") "apply_at")
  me_Links_apply : Meth K (He.ga K "Links") "apply" (He.ma K (He.ga K "Links") "apply")
  ex_BadDump : ExK K (He.ga K "BadDump")
  ex_BadNode : ExK K (He.ga K "BadNode")
  ex_BadOperation : ExK K (He.ga K "BadOperation")
  ex_BadRange : ExK K (He.ga K "BadRange")
  ex_BadSize : ExK K (He.ga K "BadSize")
  ex_Illegal : ExK K (He.ga K "Illegal")
  ex_LinkError : ExK K (He.ga K "LinkError")
  ex_LogError : ExK K (He.ga K "LogError")
  ex_Refused : ExK K (He.ga K "Refused")
  oe_BadOperation : OexC K (He.ga K "BadOperation") ∧ ∀ f ∈ (["operation", "index"] : List Str), PySem.W.findIn K (.ref (He.ga K "BadOperation")) f = some none
  in_BadOperation : PySem.W.findIn K (.ref (He.ga K "BadOperation")) "__init__" = some (some (.ref (He.ma K (He.ga K "BadOperation") "__init__"))) ∧ PySem.W.typeIn K (.ref (He.ma K (He.ga K "BadOperation") "__init__")) = some (.type "function")
  sm_BadOperation : He.ma K (He.ga K "BadOperation") "__init__" = He.ma K (He.ga K "LogError") "__init__"
  kit_BadOperation_BadDump : PySem.W.kitOne K (.ref (He.ga K "BadOperation")) (.ref (He.ga K "BadDump")) = some false
  kit_BadOperation_BadNode : PySem.W.kitOne K (.ref (He.ga K "BadOperation")) (.ref (He.ga K "BadNode")) = some false
  kit_BadOperation_BadOperation : PySem.W.kitOne K (.ref (He.ga K "BadOperation")) (.ref (He.ga K "BadOperation")) = some true
  exm_BadOperation_BadOperation : PySem.W.exmOne K (.ref (He.ga K "BadOperation")) (.ref (He.ga K "BadOperation")) = some true
  kit_BadOperation_BadRange : PySem.W.kitOne K (.ref (He.ga K "BadOperation")) (.ref (He.ga K "BadRange")) = some false
  exm_BadOperation_BadRange : PySem.W.exmOne K (.ref (He.ga K "BadOperation")) (.ref (He.ga K "BadRange")) = some false
  kit_BadOperation_BadSize : PySem.W.kitOne K (.ref (He.ga K "BadOperation")) (.ref (He.ga K "BadSize")) = some false
  exm_BadOperation_BadSize : PySem.W.exmOne K (.ref (He.ga K "BadOperation")) (.ref (He.ga K "BadSize")) = some false
  kit_BadOperation_Illegal : PySem.W.kitOne K (.ref (He.ga K "BadOperation")) (.ref (He.ga K "Illegal")) = some false
  kit_BadOperation_LinkError : PySem.W.kitOne K (.ref (He.ga K "BadOperation")) (.ref (He.ga K "LinkError")) = some true
  kit_BadOperation_LogError : PySem.W.kitOne K (.ref (He.ga K "BadOperation")) (.ref (He.ga K "LogError")) = some true
  kit_BadOperation_Refused : PySem.W.kitOne K (.ref (He.ga K "BadOperation")) (.ref (He.ga K "Refused")) = some false
  kit_BadOperation_ValueError : PySem.W.kitOne K (.ref (He.ga K "BadOperation")) (.type "ValueError") = some true
  oe_BadRange : OexC K (He.ga K "BadRange") ∧ ∀ f ∈ (["low", "high"] : List Str), PySem.W.findIn K (.ref (He.ga K "BadRange")) f = some none
  in_BadRange : PySem.W.findIn K (.ref (He.ga K "BadRange")) "__init__" = some (some (.ref (He.ma K (He.ga K "BadRange") "__init__"))) ∧ PySem.W.typeIn K (.ref (He.ma K (He.ga K "BadRange") "__init__")) = some (.type "function")
  kit_BadRange_BadDump : PySem.W.kitOne K (.ref (He.ga K "BadRange")) (.ref (He.ga K "BadDump")) = some false
  kit_BadRange_BadNode : PySem.W.kitOne K (.ref (He.ga K "BadRange")) (.ref (He.ga K "BadNode")) = some false
  kit_BadRange_BadOperation : PySem.W.kitOne K (.ref (He.ga K "BadRange")) (.ref (He.ga K "BadOperation")) = some false
  exm_BadRange_BadOperation : PySem.W.exmOne K (.ref (He.ga K "BadRange")) (.ref (He.ga K "BadOperation")) = some false
  kit_BadRange_BadRange : PySem.W.kitOne K (.ref (He.ga K "BadRange")) (.ref (He.ga K "BadRange")) = some true
  exm_BadRange_BadRange : PySem.W.exmOne K (.ref (He.ga K "BadRange")) (.ref (He.ga K "BadRange")) = some true
  kit_BadRange_BadSize : PySem.W.kitOne K (.ref (He.ga K "BadRange")) (.ref (He.ga K "BadSize")) = some false
  exm_BadRange_BadSize : PySem.W.exmOne K (.ref (He.ga K "BadRange")) (.ref (He.ga K "BadSize")) = some false
  kit_BadRange_Illegal : PySem.W.kitOne K (.ref (He.ga K "BadRange")) (.ref (He.ga K "Illegal")) = some false
  kit_BadRange_LinkError : PySem.W.kitOne K (.ref (He.ga K "BadRange")) (.ref (He.ga K "LinkError")) = some true
  kit_BadRange_LogError : PySem.W.kitOne K (.ref (He.ga K "BadRange")) (.ref (He.ga K "LogError")) = some false
  kit_BadRange_Refused : PySem.W.kitOne K (.ref (He.ga K "BadRange")) (.ref (He.ga K "Refused")) = some false
  kit_BadRange_ValueError : PySem.W.kitOne K (.ref (He.ga K "BadRange")) (.type "ValueError") = some true
  oe_BadSize : OexC K (He.ga K "BadSize") ∧ ∀ f ∈ (["size"] : List Str), PySem.W.findIn K (.ref (He.ga K "BadSize")) f = some none
  in_BadSize : PySem.W.findIn K (.ref (He.ga K "BadSize")) "__init__" = some (some (.ref (He.ma K (He.ga K "BadSize") "__init__"))) ∧ PySem.W.typeIn K (.ref (He.ma K (He.ga K "BadSize") "__init__")) = some (.type "function")
  kit_BadSize_BadDump : PySem.W.kitOne K (.ref (He.ga K "BadSize")) (.ref (He.ga K "BadDump")) = some false
  kit_BadSize_BadNode : PySem.W.kitOne K (.ref (He.ga K "BadSize")) (.ref (He.ga K "BadNode")) = some false
  kit_BadSize_BadOperation : PySem.W.kitOne K (.ref (He.ga K "BadSize")) (.ref (He.ga K "BadOperation")) = some false
  exm_BadSize_BadOperation : PySem.W.exmOne K (.ref (He.ga K "BadSize")) (.ref (He.ga K "BadOperation")) = some false
  kit_BadSize_BadRange : PySem.W.kitOne K (.ref (He.ga K "BadSize")) (.ref (He.ga K "BadRange")) = some false
  exm_BadSize_BadRange : PySem.W.exmOne K (.ref (He.ga K "BadSize")) (.ref (He.ga K "BadRange")) = some false
  kit_BadSize_BadSize : PySem.W.kitOne K (.ref (He.ga K "BadSize")) (.ref (He.ga K "BadSize")) = some true
  exm_BadSize_BadSize : PySem.W.exmOne K (.ref (He.ga K "BadSize")) (.ref (He.ga K "BadSize")) = some true
  kit_BadSize_Illegal : PySem.W.kitOne K (.ref (He.ga K "BadSize")) (.ref (He.ga K "Illegal")) = some false
  kit_BadSize_LinkError : PySem.W.kitOne K (.ref (He.ga K "BadSize")) (.ref (He.ga K "LinkError")) = some true
  kit_BadSize_LogError : PySem.W.kitOne K (.ref (He.ga K "BadSize")) (.ref (He.ga K "LogError")) = some false
  kit_BadSize_Refused : PySem.W.kitOne K (.ref (He.ga K "BadSize")) (.ref (He.ga K "Refused")) = some false
  kit_BadSize_ValueError : PySem.W.kitOne K (.ref (He.ga K "BadSize")) (.type "ValueError") = some true
  oe_Illegal : OexC K (He.ga K "Illegal") ∧ ∀ f ∈ (["operation", "index"] : List Str), PySem.W.findIn K (.ref (He.ga K "Illegal")) f = some none
  in_Illegal : PySem.W.findIn K (.ref (He.ga K "Illegal")) "__init__" = some (some (.ref (He.ma K (He.ga K "Illegal") "__init__"))) ∧ PySem.W.typeIn K (.ref (He.ma K (He.ga K "Illegal") "__init__")) = some (.type "function")
  sm_Illegal : He.ma K (He.ga K "Illegal") "__init__" = He.ma K (He.ga K "LogError") "__init__"
  kit_Illegal_BadDump : PySem.W.kitOne K (.ref (He.ga K "Illegal")) (.ref (He.ga K "BadDump")) = some false
  kit_Illegal_BadNode : PySem.W.kitOne K (.ref (He.ga K "Illegal")) (.ref (He.ga K "BadNode")) = some false
  kit_Illegal_BadOperation : PySem.W.kitOne K (.ref (He.ga K "Illegal")) (.ref (He.ga K "BadOperation")) = some false
  exm_Illegal_BadOperation : PySem.W.exmOne K (.ref (He.ga K "Illegal")) (.ref (He.ga K "BadOperation")) = some false
  kit_Illegal_BadRange : PySem.W.kitOne K (.ref (He.ga K "Illegal")) (.ref (He.ga K "BadRange")) = some false
  exm_Illegal_BadRange : PySem.W.exmOne K (.ref (He.ga K "Illegal")) (.ref (He.ga K "BadRange")) = some false
  kit_Illegal_BadSize : PySem.W.kitOne K (.ref (He.ga K "Illegal")) (.ref (He.ga K "BadSize")) = some false
  exm_Illegal_BadSize : PySem.W.exmOne K (.ref (He.ga K "Illegal")) (.ref (He.ga K "BadSize")) = some false
  kit_Illegal_Illegal : PySem.W.kitOne K (.ref (He.ga K "Illegal")) (.ref (He.ga K "Illegal")) = some true
  kit_Illegal_LinkError : PySem.W.kitOne K (.ref (He.ga K "Illegal")) (.ref (He.ga K "LinkError")) = some true
  kit_Illegal_LogError : PySem.W.kitOne K (.ref (He.ga K "Illegal")) (.ref (He.ga K "LogError")) = some true
  kit_Illegal_Refused : PySem.W.kitOne K (.ref (He.ga K "Illegal")) (.ref (He.ga K "Refused")) = some false
  kit_Illegal_ValueError : PySem.W.kitOne K (.ref (He.ga K "Illegal")) (.type "ValueError") = some true
theorem txt_of {K : PySem.W.Frag} {h : Heap} {mg : Str → Option Value} (X : K.In h) (G : h.Ns mainGlobals mg) (c : SaysY chkL fnL K) : Txt K mg where
  g_LinkError := He.glo_ok X G (c.fact 0 (f := fa_ (.glo "LinkError")) rfl)
  g_LogError := He.glo_ok X G (c.fact 1 (f := fa_ (.glo "LogError")) rfl)
  g_BadOperation := He.glo_ok X G (c.fact 2 (f := fa_ (.glo "BadOperation")) rfl)
  g_Illegal := He.glo_ok X G (c.fact 3 (f := fa_ (.glo "Illegal")) rfl)
  g_Refused := He.glo_ok X G (c.fact 4 (f := fa_ (.glo "Refused")) rfl)
  g_BadSize := He.glo_ok X G (c.fact 5 (f := fa_ (.glo "BadSize")) rfl)
  g_BadNode := He.glo_ok X G (c.fact 6 (f := fa_ (.glo "BadNode")) rfl)
  g_BadDump := He.glo_ok X G (c.fact 7 (f := fa_ (.glo "BadDump")) rfl)
  g_BadRange := He.glo_ok X G (c.fact 8 (f := fa_ (.glo "BadRange")) rfl)
  g_Links := He.glo_ok X G (c.fact 9 (f := fa_ (.glo "Links")) rfl)
  gf__law_draw := He.glo_ok X G (c.fact 10 (f := fa_ (.glo "_law_draw")) rfl)
  gf__law_bent := He.glo_ok X G (c.fact 11 (f := fa_ (.glo "_law_bent")) rfl)
  gf__law_is := He.glo_ok X G (c.fact 12 (f := fa_ (.glo "_law_is")) rfl)
  gf__law_integers := He.glo_ok X G (c.fact 13 (f := fa_ (.glo "_law_integers")) rfl)
  gf_check_operation := He.glo_ok X G (c.fact 14 (f := fa_ (.glo "check_operation")) rfl)
  gf_check_size := He.glo_ok X G (c.fact 15 (f := fa_ (.glo "check_size")) rfl)
  gf__check_operations := He.glo_ok X G (c.fact 16 (f := fa_ (.glo "_check_operations")) rfl)
  gf__on_node := He.glo_ok X G (c.fact 17 (f := fa_ (.glo "_on_node")) rfl)
  gf_block_part := He.glo_ok X G (c.fact 18 (f := fa_ (.glo "block_part")) rfl)
  gf__law_part_right := He.glo_ok X G (c.fact 19 (f := fa_ (.glo "_law_part_right")) rfl)
  gf__law_ranges := He.glo_ok X G (c.fact 20 (f := fa_ (.glo "_law_ranges")) rfl)
  gf_blocks := He.glo_ok X G (c.fact 21 (f := fa_ (.glo "blocks")) rfl)
  gf__law_blocks_right := He.glo_ok X G (c.fact 22 (f := fa_ (.glo "_law_blocks_right")) rfl)
  gf__law_box := He.glo_ok X G (c.fact 23 (f := fa_ (.glo "_law_box")) rfl)
  gf__law_far_size := He.glo_ok X G (c.fact 24 (f := fa_ (.glo "_law_far_size")) rfl)
  gf__law_turned := He.glo_ok X G (c.fact 25 (f := fa_ (.glo "_law_turned")) rfl)
  gf_mirror := He.glo_ok X G (c.fact 26 (f := fa_ (.glo "mirror")) rfl)
  gf__law_mirror_right := He.glo_ok X G (c.fact 27 (f := fa_ (.glo "_law_mirror_right")) rfl)
  gf_strikes := He.glo_ok X G (c.fact 28 (f := fa_ (.glo "strikes")) rfl)
  gf_first_illegal := He.glo_ok X G (c.fact 29 (f := fa_ (.glo "first_illegal")) rfl)
  gf__law_asked := He.glo_ok X G (c.fact 30 (f := fa_ (.glo "_law_asked")) rfl)
  gf__law_operation_refused := He.glo_ok X G (c.fact 31 (f := fa_ (.glo "_law_operation_refused")) rfl)
  gf__law_range_right := He.glo_ok X G (c.fact 32 (f := fa_ (.glo "_law_range_right")) rfl)
  gf__law_rows := He.glo_ok X G (c.fact 33 (f := fa_ (.glo "_law_rows")) rfl)
  gf__law_size := He.glo_ok X G (c.fact 34 (f := fa_ (.glo "_law_size")) rfl)
  gf__law_size_refused := He.glo_ok X G (c.fact 35 (f := fa_ (.glo "_law_size_refused")) rfl)
  gf__law_most_kept := He.glo_ok X G (c.fact 36 (f := fa_ (.glo "_law_most_kept")) rfl)
  gf__law_struck := He.glo_ok X G (c.fact 37 (f := fa_ (.glo "_law_struck")) rfl)
  gf__law_strikes_right := He.glo_ok X G (c.fact 38 (f := fa_ (.glo "_law_strikes_right")) rfl)
  gf_law := He.glo_ok X G (c.fact 39 (f := fa_ (.glo "law")) rfl)
  b_ValueError := He.free_ok X G (c.fact 40 (f := fa_ (.free "ValueError")) rfl)
  b_abs := He.free_ok X G (c.fact 41 (f := fa_ (.free "abs")) rfl)
  b_bool := He.free_ok X G (c.fact 42 (f := fa_ (.free "bool")) rfl)
  b_enumerate := He.free_ok X G (c.fact 43 (f := fa_ (.free "enumerate")) rfl)
  b_int := He.free_ok X G (c.fact 44 (f := fa_ (.free "int")) rfl)
  b_isinstance := He.free_ok X G (c.fact 45 (f := fa_ (.free "isinstance")) rfl)
  b_len := He.free_ok X G (c.fact 46 (f := fa_ (.free "len")) rfl)
  b_list := He.free_ok X G (c.fact 47 (f := fa_ (.free "list")) rfl)
  b_max := He.free_ok X G (c.fact 48 (f := fa_ (.free "max")) rfl)
  b_range := He.free_ok X G (c.fact 49 (f := fa_ (.free "range")) rfl)
  b_sorted := He.free_ok X G (c.fact 50 (f := fa_ (.free "sorted")) rfl)
  b_str := He.free_ok X G (c.fact 51 (f := fa_ (.free "str")) rfl)
  b_tuple := He.free_ok X G (c.fact 52 (f := fa_ (.free "tuple")) rfl)
  k_DIGITS := He.str_ok X G (c.fact 53 (f := fa_ (.str "DIGITS" "0123456789")) rfl)
  k_MOST_DIGITS := He.int_ok X G (c.fact 54 (f := fa_ (.int "MOST_DIGITS" 9)) rfl)
  cc_Links_MOST := ccB_ok (c.fact 55 (f := ccB "Links" "MOST" 60) rfl)
  cl_Links := He.cls_ok (c.fact 56 (f := fa_ (.cls "Links")) rfl)
  ty_Links := tyB_ok (c.fact 57 (f := tyB "Links") rfl)
  na_Links__lefts := He.noat_ok (c.fact 58 (f := fa_ (.noat "Links" "_lefts")) rfl)
  na_Links__out := He.noat_ok (c.fact 59 (f := fa_ (.noat "Links" "_out")) rfl)
  na_Links__rights := He.noat_ok (c.fact 60 (f := fa_ (.noat "Links" "_rights")) rfl)
  na_Links_size := He.noat_ok (c.fact 61 (f := fa_ (.noat "Links" "size")) rfl)
  mk_Links := He.mkr_ok (c.fact 62 (f := fa_ (.mkr "Links")) rfl)
  me_Links_is_legal := He.meth_ok (c.fact 63 (f := fa_ (.meth "Links" "is_legal")) rfl)
  me_Links_check := He.meth_ok (c.fact 64 (f := fa_ (.meth "Links" "check")) rfl)
  me_Links_apply_at := He.meth_ok (c.fact 65 (f := fa_ (.meth "Links" "apply_at")) rfl)
  me_Links_apply := He.meth_ok (c.fact 66 (f := fa_ (.meth "Links" "apply")) rfl)
  ex_BadDump := askB_ok (c.fact 67 (f := askB "BadDump") rfl)
  ex_BadNode := askB_ok (c.fact 68 (f := askB "BadNode") rfl)
  ex_BadOperation := askB_ok (c.fact 69 (f := askB "BadOperation") rfl)
  ex_BadRange := askB_ok (c.fact 70 (f := askB "BadRange") rfl)
  ex_BadSize := askB_ok (c.fact 71 (f := askB "BadSize") rfl)
  ex_Illegal := askB_ok (c.fact 72 (f := askB "Illegal") rfl)
  ex_LinkError := askB_ok (c.fact 73 (f := askB "LinkError") rfl)
  ex_LogError := askB_ok (c.fact 74 (f := askB "LogError") rfl)
  ex_Refused := askB_ok (c.fact 75 (f := askB "Refused") rfl)
  oe_BadOperation := excB_ok (c.fact 76 (f := excB "BadOperation" ["operation", "index"]) rfl)
  in_BadOperation := iniB_ok (c.fact 77 (f := iniB "BadOperation") rfl)
  sm_BadOperation := of_decide_eq_true (c.fact 78 (f := (fun K => decide (He.ma K (He.ga K "BadOperation") "__init__" = He.ma K (He.ga K "LogError") "__init__"))) rfl)
  kit_BadOperation_BadDump := of_decide_eq_true (c.fact 79 (f := kitB2 "BadOperation" "BadDump" false) rfl)
  kit_BadOperation_BadNode := of_decide_eq_true (c.fact 80 (f := kitB2 "BadOperation" "BadNode" false) rfl)
  kit_BadOperation_BadOperation := of_decide_eq_true (c.fact 81 (f := kitB2 "BadOperation" "BadOperation" true) rfl)
  exm_BadOperation_BadOperation := of_decide_eq_true (c.fact 82 (f := exmB "BadOperation" "BadOperation" true) rfl)
  kit_BadOperation_BadRange := of_decide_eq_true (c.fact 83 (f := kitB2 "BadOperation" "BadRange" false) rfl)
  exm_BadOperation_BadRange := of_decide_eq_true (c.fact 84 (f := exmB "BadOperation" "BadRange" false) rfl)
  kit_BadOperation_BadSize := of_decide_eq_true (c.fact 85 (f := kitB2 "BadOperation" "BadSize" false) rfl)
  exm_BadOperation_BadSize := of_decide_eq_true (c.fact 86 (f := exmB "BadOperation" "BadSize" false) rfl)
  kit_BadOperation_Illegal := of_decide_eq_true (c.fact 87 (f := kitB2 "BadOperation" "Illegal" false) rfl)
  kit_BadOperation_LinkError := of_decide_eq_true (c.fact 88 (f := kitB2 "BadOperation" "LinkError" true) rfl)
  kit_BadOperation_LogError := of_decide_eq_true (c.fact 89 (f := kitB2 "BadOperation" "LogError" true) rfl)
  kit_BadOperation_Refused := of_decide_eq_true (c.fact 90 (f := kitB2 "BadOperation" "Refused" false) rfl)
  kit_BadOperation_ValueError := of_decide_eq_true (c.fact 91 (f := kitT2 "BadOperation" "ValueError" true) rfl)
  oe_BadRange := excB_ok (c.fact 92 (f := excB "BadRange" ["low", "high"]) rfl)
  in_BadRange := iniB_ok (c.fact 93 (f := iniB "BadRange") rfl)
  kit_BadRange_BadDump := of_decide_eq_true (c.fact 94 (f := kitB2 "BadRange" "BadDump" false) rfl)
  kit_BadRange_BadNode := of_decide_eq_true (c.fact 95 (f := kitB2 "BadRange" "BadNode" false) rfl)
  kit_BadRange_BadOperation := of_decide_eq_true (c.fact 96 (f := kitB2 "BadRange" "BadOperation" false) rfl)
  exm_BadRange_BadOperation := of_decide_eq_true (c.fact 97 (f := exmB "BadRange" "BadOperation" false) rfl)
  kit_BadRange_BadRange := of_decide_eq_true (c.fact 98 (f := kitB2 "BadRange" "BadRange" true) rfl)
  exm_BadRange_BadRange := of_decide_eq_true (c.fact 99 (f := exmB "BadRange" "BadRange" true) rfl)
  kit_BadRange_BadSize := of_decide_eq_true (c.fact 100 (f := kitB2 "BadRange" "BadSize" false) rfl)
  exm_BadRange_BadSize := of_decide_eq_true (c.fact 101 (f := exmB "BadRange" "BadSize" false) rfl)
  kit_BadRange_Illegal := of_decide_eq_true (c.fact 102 (f := kitB2 "BadRange" "Illegal" false) rfl)
  kit_BadRange_LinkError := of_decide_eq_true (c.fact 103 (f := kitB2 "BadRange" "LinkError" true) rfl)
  kit_BadRange_LogError := of_decide_eq_true (c.fact 104 (f := kitB2 "BadRange" "LogError" false) rfl)
  kit_BadRange_Refused := of_decide_eq_true (c.fact 105 (f := kitB2 "BadRange" "Refused" false) rfl)
  kit_BadRange_ValueError := of_decide_eq_true (c.fact 106 (f := kitT2 "BadRange" "ValueError" true) rfl)
  oe_BadSize := excB_ok (c.fact 107 (f := excB "BadSize" ["size"]) rfl)
  in_BadSize := iniB_ok (c.fact 108 (f := iniB "BadSize") rfl)
  kit_BadSize_BadDump := of_decide_eq_true (c.fact 109 (f := kitB2 "BadSize" "BadDump" false) rfl)
  kit_BadSize_BadNode := of_decide_eq_true (c.fact 110 (f := kitB2 "BadSize" "BadNode" false) rfl)
  kit_BadSize_BadOperation := of_decide_eq_true (c.fact 111 (f := kitB2 "BadSize" "BadOperation" false) rfl)
  exm_BadSize_BadOperation := of_decide_eq_true (c.fact 112 (f := exmB "BadSize" "BadOperation" false) rfl)
  kit_BadSize_BadRange := of_decide_eq_true (c.fact 113 (f := kitB2 "BadSize" "BadRange" false) rfl)
  exm_BadSize_BadRange := of_decide_eq_true (c.fact 114 (f := exmB "BadSize" "BadRange" false) rfl)
  kit_BadSize_BadSize := of_decide_eq_true (c.fact 115 (f := kitB2 "BadSize" "BadSize" true) rfl)
  exm_BadSize_BadSize := of_decide_eq_true (c.fact 116 (f := exmB "BadSize" "BadSize" true) rfl)
  kit_BadSize_Illegal := of_decide_eq_true (c.fact 117 (f := kitB2 "BadSize" "Illegal" false) rfl)
  kit_BadSize_LinkError := of_decide_eq_true (c.fact 118 (f := kitB2 "BadSize" "LinkError" true) rfl)
  kit_BadSize_LogError := of_decide_eq_true (c.fact 119 (f := kitB2 "BadSize" "LogError" false) rfl)
  kit_BadSize_Refused := of_decide_eq_true (c.fact 120 (f := kitB2 "BadSize" "Refused" false) rfl)
  kit_BadSize_ValueError := of_decide_eq_true (c.fact 121 (f := kitT2 "BadSize" "ValueError" true) rfl)
  oe_Illegal := excB_ok (c.fact 122 (f := excB "Illegal" ["operation", "index"]) rfl)
  in_Illegal := iniB_ok (c.fact 123 (f := iniB "Illegal") rfl)
  sm_Illegal := of_decide_eq_true (c.fact 124 (f := (fun K => decide (He.ma K (He.ga K "Illegal") "__init__" = He.ma K (He.ga K "LogError") "__init__"))) rfl)
  kit_Illegal_BadDump := of_decide_eq_true (c.fact 125 (f := kitB2 "Illegal" "BadDump" false) rfl)
  kit_Illegal_BadNode := of_decide_eq_true (c.fact 126 (f := kitB2 "Illegal" "BadNode" false) rfl)
  kit_Illegal_BadOperation := of_decide_eq_true (c.fact 127 (f := kitB2 "Illegal" "BadOperation" false) rfl)
  exm_Illegal_BadOperation := of_decide_eq_true (c.fact 128 (f := exmB "Illegal" "BadOperation" false) rfl)
  kit_Illegal_BadRange := of_decide_eq_true (c.fact 129 (f := kitB2 "Illegal" "BadRange" false) rfl)
  exm_Illegal_BadRange := of_decide_eq_true (c.fact 130 (f := exmB "Illegal" "BadRange" false) rfl)
  kit_Illegal_BadSize := of_decide_eq_true (c.fact 131 (f := kitB2 "Illegal" "BadSize" false) rfl)
  exm_Illegal_BadSize := of_decide_eq_true (c.fact 132 (f := exmB "Illegal" "BadSize" false) rfl)
  kit_Illegal_Illegal := of_decide_eq_true (c.fact 133 (f := kitB2 "Illegal" "Illegal" true) rfl)
  kit_Illegal_LinkError := of_decide_eq_true (c.fact 134 (f := kitB2 "Illegal" "LinkError" true) rfl)
  kit_Illegal_LogError := of_decide_eq_true (c.fact 135 (f := kitB2 "Illegal" "LogError" true) rfl)
  kit_Illegal_Refused := of_decide_eq_true (c.fact 136 (f := kitB2 "Illegal" "Refused" false) rfl)
  kit_Illegal_ValueError := of_decide_eq_true (c.fact 137 (f := kitT2 "Illegal" "ValueError" true) rfl)
end G


set_option Elab.async false
set_option linter.all false
set_option maxRecDepth 100000
set_option maxHeartbeats 4000000

namespace G
open PySem PySem.Spec PyProof.Rows L2
def t__law_draw (K : PySem.W.Frag) (E : XK) : TS :=
  tSeq (tIfS (tAnd (tTest (tOp (rEqA K) (tOp (rIx K) (tVar 0) (tC (.int 2))) (tC (.int 0)))) (tTest (tOp rLtA (tOp (rIx K) (tVar 0) (tC (.int 1))) (tCB (rLenA K) (tCons (tOp (rIx K) (tVar 0) (tC (.int 0))) (tNil)))))) (tSeq (tAsg (tOp (rIx K) (tOp (rIx K) (tVar 0) (tC (.int 0))) (tOp (rIx K) (tVar 0) (tC (.int 1)))) (gName 2)) (tSeq (tAsg (tOp rAddA (tOp (rIx K) (tVar 0) (tC (.int 1))) (tC (.int 1))) (gSub (tVar 0) (tC (.int 1)) rSetL)) (tIfS (tTest (tOp rGeA (tVar 2) (tOp rPowA (tC (.int 10)) (tC (.int 18))))) (tAsg (tVar 2) (gSub (tVar 0) (tC (.int 2)) rSetL)) (tAsg (tOp rModA (tCB rIntA (tCons (tOp rAddA (tOp rAddA (tOp rMulA (tOp (rIx K) (tVar 0) (tC (.int 3))) (tC (.int 48271))) (tOp rMulA (tVar 2) (tC (.int 69621)))) (tC (.int 11))) (tNil))) (tC (.int 2147483647))) (gSub (tVar 0) (tC (.int 3)) rSetL))))) (tNext)) (tSeq (tIfS (tTest (tOp rGtA (tOp (rIx K) (tVar 0) (tC (.int 2))) (tC (.int 0)))) (tSeq (tAsg (tOp rModA (tCB rIntA (tCons (tOp (rIx K) (tVar 0) (tC (.int 2))) (tNil))) (tVar 1)) (gName 3)) (tSeq (tAsg (tOp rDivA (tOp (rIx K) (tVar 0) (tC (.int 2))) (tVar 1)) (gSub (tVar 0) (tC (.int 2)) rSetL)) (tRet (tVar 3)))) (tNext)) (tSeq (tAsg (tOp rAddA (tOp (rIx K) (tVar 0) (tC (.int 4))) (tC (.int 1))) (gSub (tVar 0) (tC (.int 4)) rSetL)) (tSeq (tAsg (tOp rModA (tCB rIntA (tCons (tOp rAddA (tOp rMulA (tOp (rIx K) (tVar 0) (tC (.int 3))) (tC (.int 742938285))) (tOp rMulA (tOp (rIx K) (tVar 0) (tC (.int 4))) (tC (.int 1299709)))) (tNil))) (tC (.int 2147483647))) (gSub (tVar 0) (tC (.int 3)) rSetL)) (tSeq (tAsg (tOp rModA (tCB rIntA (tCons (tOp rAddA (tOp rAddA (tOp rMulA (tOp rDivA (tOp (rIx K) (tVar 0) (tC (.int 3))) (tC (.int 13))) (tC (.int 69621))) (tOp (rIx K) (tVar 0) (tC (.int 3)))) (tOp (rIx K) (tVar 0) (tC (.int 4)))) (tNil))) (tC (.int 2147483629))) (gName 4)) (tRet (tOp rModA (tCB rIntA (tCons (tOp rDivA (tVar 4) (tC (.int 7))) (tNil))) (tVar 1)))))))
def t__law_bent (K : PySem.W.Frag) (E : XK) : TS :=
  tSeq (tAsg (tCB (rListA K) (tCons (tVar 2) (tNil))) (gName 3)) (tSeq (tFor (iRng1 (tCons (tOp rAddA (tC (.int 1)) (tCl (sp00__law_draw K) (fun _ => E) (tCons (tVar 0) (tCons (tC (.int 2)) (tNil))))) (tNil))) (gName 4) (tSeq (tAsg (tC (.int 0)) (gName 5)) (tSeq (tAsg (tCl (sp00__law_draw K) (fun _ => E) (tCons (tVar 0) (tCons (tC (.int 5)) (tNil)))) (gName 6)) (tSeq (tIfS (tOr (tTest (tOp (rEqA K) (tVar 6) (tC (.int 1)))) (tTest (tOp (rEqA K) (tVar 6) (tC (.int 2))))) (tAsg (tOp rAddA (tVar 1) (tC (.int 1))) (gName 5)) (tNext)) (tSeq (tIfS (tTest (tOp rGtA (tVar 6) (tC (.int 2)))) (tAsg (tOp rAddA (tOp rAddA (tVar 1) (tC (.int 2))) (tCl (sp00__law_draw K) (fun _ => E) (tCons (tVar 0) (tCons (tOp rPowA (tC (.int 10)) (tC (.int 6))) (tNil))))) (gName 5)) (tNext)) (tSeq (tIfS (tOr (tTest (tOp (rEqA K) (tVar 6) (tC (.int 2)))) (tTest (tOp (rEqA K) (tVar 6) (tC (.int 4))))) (tAsg (tUn rNegA (tVar 5)) (gName 5)) (tNext)) (tDrop (tBM K "list" rInsert (tVar 3) (tCons (tCl (sp00__law_draw K) (fun _ => E) (tCons (tVar 0) (tCons (tOp rAddA (tCB (rLenA K) (tCons (tVar 3) (tNil))) (tC (.int 1))) (tNil)))) (tCons (tVar 5) (tNil))))))))))) (tRet (tVar 3)))
def t__law_is (K : PySem.W.Frag) (E : XK) : TS :=
  tRet (tAndV (tCB (rIsi K) (tCons (tVar 0) (tCons (tC (.ty "int")) (tNil)))) (tAndV (tNotV (tCB (rIsi K) (tCons (tVar 0) (tCons (tC (.ty "bool")) (tNil))))) (tOp (rEqA K) (tVar 0) (tVar 1))))
def t__law_integers (K : PySem.W.Frag) (E : XK) : TS :=
  tSeq (tIfS (tOr (tNot (tB (tCB (rIsi K) (tCons (tVar 0) (tCons (tC (.ty "list")) (tNil)))))) (tTest (tOp (rNeA K) (tCB (rLenA K) (tCons (tVar 0) (tNil))) (tCB (rLenA K) (tCons (tVar 1) (tNil)))))) (tRet (tC (.bl false))) (tNext)) (tSeq (tFor (iRng1 (tCons (tCB (rLenA K) (tCons (tVar 1) (tNil))) (tNil))) (gName 2) (tIfS (tNot (tB (tCl (sp00__law_is K) (fun _ => E) (tCons (tOp (rIx K) (tVar 0) (tVar 2)) (tCons (tOp (rIx K) (tVar 1) (tVar 2)) (tNil)))))) (tRet (tC (.bl false))) (tNext))) (tRet (tC (.bl true))))
def t_check_operation (K : PySem.W.Frag) (E : XK) : TS :=
  tIfS (tNot (tTest (tChain rLeA rLeA (tC (.int 1)) (tCB rAbsA (tCons (tVar 1) (tNil))) (tVar 0)))) (tRz (He.ga K "BadOperation") ["operation", "index"] (fun cls d _ H => E cls d H) (tCons (tVar 1) (tCons (tVar 2) (tNil)))) (tNext)
def t_check_size (K : PySem.W.Frag) (E : XK) : TS :=
  tIfS (tNot (tTest (tChain rLeA rLeA (tC (.int 0)) (tVar 0) (tC (.int 60))))) (tRz (He.ga K "BadSize") ["size"] (fun cls d _ H => E cls d H) (tCons (tVar 0) (tNil))) (tNext)
def t__check_operations (K : PySem.W.Frag) (E : XK) : TS :=
  tSeq (tDrop (tCl (sp_check_size K) (fun _ => E) (tCons (tVar 0) (tNil)))) (tFor (iEnum K (tCons (tVar 1) (tNil))) (gTup K 2 (gCons (gName 2) (gCons (gName 3) (gNil)))) (tDrop (tCl (sp_check_operation K) (fun _ => E) (tCons (tVar 0) (tCons (tVar 3) (tCons (tVar 2) (tNil)))))))
def t__on_node (K : PySem.W.Frag) (E : XK) : TS :=
  tRet (tIf (tTest (tOp rGtA (tVar 0) (tC (.int 0)))) (tVar 1) (tUn rNegA (tVar 1)))
def t_block_part (K : PySem.W.Frag) (E : XK) : TS :=
  tSeq (tDrop (tCl (sp01__check_operations K) (fun _ => E) (tCons (tVar 0) (tCons (tVar 1) (tNil))))) (tSeq (tIfS (tNot (tTest (tChain3 rLeA rLeA rLeA (tC (.int 1)) (tVar 2) (tVar 3) (tVar 0)))) (tRz (He.ga K "BadRange") ["low", "high"] (fun cls d _ H => E cls d H) (tCons (tVar 2) (tCons (tVar 3) (tNil)))) (tNext)) (tRet (tLc (iList K (tVar 1)) (gName 4) (tTest (tChain rLeA rLeA (tVar 2) (tCB rAbsA (tCons (tVar 4) (tNil))) (tVar 3))) (tCl (sp04__on_node K) (fun _ => E0) (tCons (tVar 4) (tCons (tOp rAddA (tOp rSubA (tCB rAbsA (tCons (tVar 4) (tNil))) (tVar 2)) (tC (.int 1))) (tNil)))) [4])))
def t__law_part_right (K : PySem.W.Frag) (E : XK) : TS :=
  tSeq (tAsg (tLst (tNil)) (gName 4)) (tSeq (tFor (iList K (tVar 1)) (gName 5) (tSeq (tIfS (tAnd (tTest (tChain rLeA rLeA (tVar 2) (tCB rAbsA (tCons (tVar 5) (tNil))) (tVar 3))) (tTest (tOp rLtA (tVar 5) (tC (.int 0))))) (tDrop (tBM K "list" rAppend (tVar 4) (tCons (tOp rSubA (tOp rAddA (tVar 5) (tVar 2)) (tC (.int 1))) (tNil)))) (tNext)) (tIfS (tTest (tChain rLeA rLeA (tVar 2) (tVar 5) (tVar 3))) (tDrop (tBM K "list" rAppend (tVar 4) (tCons (tOp rAddA (tOp rSubA (tVar 5) (tVar 2)) (tC (.int 1))) (tNil)))) (tNext)))) (tSeq (tAsg (tCB (rListA K) (tCons (tVar 1) (tNil))) (gName 6)) (tSeq (tAsg (tCl (sp01_block_part K) (fun _ => E) (tCons (tVar 0) (tCons (tVar 6) (tCons (tVar 2) (tCons (tVar 3) (tNil)))))) (gName 7)) (tSeq (tIfS (tNot (tB (tCl (sp00__law_integers K) (fun _ => E) (tCons (tVar 7) (tCons (tVar 4) (tNil)))))) (tRet (tC (.bl false))) (tNext)) (tSeq (tDrop (tBM K "list" rAppend (tVar 7) (tCons (tC (.int 0)) (tNil)))) (tRet (tCl (sp00__law_integers K) (fun _ => E) (tCons (tVar 6) (tCons (tVar 1) (tNil))))))))))
def t__law_ranges (K : PySem.W.Frag) (E : XK) : TS :=
  tSeq (tAsg (tLc (iRng1 (tCons (tOp rAddA (tVar 0) (tC (.int 2))) (tNil))) (gName 6) (tYes) (tC (.bl false)) [6]) (gName 2)) (tSeq (tFor (iList K (tVar 1)) (gName 3) (tAsg (tC (.bl true)) (gSub (tVar 2) (tCB rAbsA (tCons (tVar 3) (tNil))) rSetL))) (tSeq (tAsg (tLst (tNil)) (gName 4)) (tSeq (tAsg (tC (.int 0)) (gName 5)) (tSeq (tFor (iRng2 (tCons (tC (.int 1)) (tCons (tOp rAddA (tVar 0) (tC (.int 2))) (tNil)))) (gName 6) (tSeq (tIfS (tAnd (tB (tOp (rIx K) (tVar 2) (tVar 6))) (tTest (tOp (rEqA K) (tVar 5) (tC (.int 0))))) (tAsg (tVar 6) (gName 5)) (tNext)) (tIfS (tAnd (tNot (tB (tOp (rIx K) (tVar 2) (tVar 6)))) (tTest (tOp rGtA (tVar 5) (tC (.int 0))))) (tSeq (tDrop (tBM K "list" rAppend (tVar 4) (tCons (tTup (tCons (tVar 5) (tCons (tOp rSubA (tVar 6) (tC (.int 1))) (tNil)))) (tNil)))) (tAsg (tC (.int 0)) (gName 5))) (tNext)))) (tRet (tVar 4))))))
def t_blocks (K : PySem.W.Frag) (w : World) (E : XK) : TS :=
  tSeq (tDrop (tCl (sp01__check_operations K) (fun _ => E) (tCons (tVar 0) (tCons (tVar 1) (tNil))))) (tSeq (tAsg (tLst (tNil)) (gName 2)) (tSeq (tFor (iList K (tCB (rSortedSet w) (tCons (tSetI w (iList K (tVar 1)) (gName 4) (tCB rAbsA (tCons (tVar 4) (tNil))) [4]) (tNil)))) (gName 3) (tIfS (tAnd (tTr K (tVar 2)) (tTest (tOp (rEqA K) (tOp (rIx K) (tOp (rIx K) (tVar 2) (tUn rNegA (tC (.int 1)))) (tC (.int 1))) (tOp rSubA (tVar 3) (tC (.int 1)))))) (tAsg (tTup (tCons (tOp (rIx K) (tOp (rIx K) (tVar 2) (tUn rNegA (tC (.int 1)))) (tC (.int 0))) (tCons (tVar 3) (tNil)))) (gSub (tVar 2) (tUn rNegA (tC (.int 1))) rSetL)) (tDrop (tBM K "list" rAppend (tVar 2) (tCons (tTup (tCons (tVar 3) (tCons (tVar 3) (tNil)))) (tNil)))))) (tRet (tVar 2))))
def t__law_blocks_right (K : PySem.W.Frag) (E : XK) : TS :=
  tSeq (tAsg (tCl (sp01__law_ranges K) (fun _ => E) (tCons (tVar 0) (tCons (tVar 1) (tNil)))) (gName 2)) (tSeq (tAsg (tCB (rListA K) (tCons (tVar 1) (tNil))) (gName 3)) (tSeq (tAsg (tCl (sp01_blocks K) (fun _ => E) (tCons (tVar 0) (tCons (tVar 3) (tNil)))) (gName 4)) (tSeq (tIfS (tOr (tNot (tB (tCB (rIsi K) (tCons (tVar 4) (tCons (tC (.ty "list")) (tNil)))))) (tOr (tTest (tOp (rNeA K) (tCB (rLenA K) (tCons (tVar 4) (tNil))) (tCB (rLenA K) (tCons (tVar 2) (tNil))))) (tNot (tB (tCl (sp00__law_integers K) (fun _ => E) (tCons (tVar 3) (tCons (tVar 1) (tNil)))))))) (tRet (tC (.bl false))) (tNext)) (tSeq (tFor (iRng1 (tCons (tCB (rLenA K) (tCons (tVar 2) (tNil))) (tNil))) (gName 5) (tSeq (tAsg (tOp (rIx K) (tVar 4) (tVar 5)) (gName 6)) (tSeq (tIfS (tOr (tNot (tB (tCB (rIsi K) (tCons (tVar 6) (tCons (tC (.ty "tuple")) (tNil)))))) (tTest (tOp (rNeA K) (tCB (rLenA K) (tCons (tVar 6) (tNil))) (tC (.int 2))))) (tRet (tC (.bl false))) (tNext)) (tSeq (tIfS (tOr (tNot (tB (tCl (sp00__law_is K) (fun _ => E) (tCons (tOp (rIx K) (tVar 6) (tC (.int 0))) (tCons (tOp (rIx K) (tOp (rIx K) (tVar 2) (tVar 5)) (tC (.int 0))) (tNil)))))) (tNot (tB (tCl (sp00__law_is K) (fun _ => E) (tCons (tOp (rIx K) (tVar 6) (tC (.int 1))) (tCons (tOp (rIx K) (tOp (rIx K) (tVar 2) (tVar 5)) (tC (.int 1))) (tNil))))))) (tRet (tC (.bl false))) (tNext)) (tIfS (tNot (tB (tCl (sp01__law_part_right K) (fun _ => E) (tCons (tVar 0) (tCons (tVar 1) (tCons (tOp (rIx K) (tOp (rIx K) (tVar 2) (tVar 5)) (tC (.int 0))) (tCons (tOp (rIx K) (tOp (rIx K) (tVar 2) (tVar 5)) (tC (.int 1))) (tNil)))))))) (tRet (tC (.bl false))) (tNext)))))) (tRet (tC (.bl true)))))))
def t__law_box (K : PySem.W.Frag) (E : XK) : TS :=
  tRet (tLst (tCons (tCB (rListA K) (tCons (tSl (rSlL K) (tVar 0) (tNoPart) (tPart (tC (.int 63)))) (tNil))) (tCons (tC (.int 0)) (tCons (tC (.int 0)) (tCons (tC (.int 59)) (tCons (tC (.int 0)) (tNil)))))))
def t__law_far_size (K : PySem.W.Frag) (E : XK) : TS :=
  tSeq (tIfS (tTest (tOp (rEqA K) (tCl (sp00__law_draw K) (fun _ => E) (tCons (tVar 0) (tCons (tC (.int 2)) (tNil)))) (tC (.int 0)))) (tRet (tOp rAddA (tC (.int 61)) (tOp rMulA (tCl (sp00__law_draw K) (fun _ => E) (tCons (tVar 0) (tCons (tC (.int 4)) (tNil)))) (tOp rAddA (tC (.int 1)) (tCl (sp00__law_draw K) (fun _ => E) (tCons (tVar 0) (tCons (tOp rPowA (tC (.int 10)) (tC (.int 9))) (tNil)))))))) (tNext)) (tRet (tOp rSubA (tUn rNegA (tC (.int 1))) (tOp rMulA (tCl (sp00__law_draw K) (fun _ => E) (tCons (tVar 0) (tCons (tC (.int 4)) (tNil)))) (tOp rAddA (tC (.int 1)) (tCl (sp00__law_draw K) (fun _ => E) (tCons (tVar 0) (tCons (tOp rPowA (tC (.int 10)) (tC (.int 9))) (tNil))))))))
def t__law_turned (K : PySem.W.Frag) (E : XK) : TS :=
  tSeq (tIfS (tTest (tOp rLtA (tVar 1) (tC (.int 0)))) (tRet (tUn rNegA (tOp rAddA (tOp rAddA (tVar 0) (tC (.int 1))) (tVar 1)))) (tNext)) (tRet (tOp rSubA (tOp rAddA (tVar 0) (tC (.int 1))) (tVar 1)))
def t_mirror (K : PySem.W.Frag) (E : XK) : TS :=
  tSeq (tDrop (tCl (sp01__check_operations K) (fun _ => E) (tCons (tVar 0) (tCons (tVar 1) (tNil))))) (tRet (tLc (iList K (tVar 1)) (gName 2) (tYes) (tCl (sp04__on_node K) (fun _ => E0) (tCons (tVar 2) (tCons (tOp rSubA (tOp rAddA (tVar 0) (tC (.int 1))) (tCB rAbsA (tCons (tVar 2) (tNil)))) (tNil)))) [2]))
def t__law_mirror_right (K : PySem.W.Frag) (E : XK) : TS :=
  tSeq (tAsg (tLc (iList K (tVar 1)) (gName 5) (tYes) (tCl (sp04__law_opposite K) (fun _ => E0) (tCons (tVar 0) (tCons (tVar 5) (tNil)))) [5]) (gName 2)) (tSeq (tAsg (tCB (rListA K) (tCons (tVar 1) (tNil))) (gName 3)) (tSeq (tAsg (tCl (sp01_mirror K) (fun _ => E) (tCons (tVar 0) (tCons (tVar 3) (tNil)))) (gName 4)) (tSeq (tIfS (tNot (tB (tCl (sp00__law_integers K) (fun _ => E) (tCons (tVar 4) (tCons (tVar 2) (tNil)))))) (tRet (tC (.bl false))) (tNext)) (tSeq (tDrop (tBM K "list" rAppend (tVar 4) (tCons (tC (.int 0)) (tNil)))) (tRet (tAndV (tCl (sp00__law_integers K) (fun _ => E) (tCons (tVar 3) (tCons (tVar 1) (tNil)))) (tCl (sp00__law_integers K) (fun _ => E) (tCons (tCl (sp01_mirror K) (fun _ => E) (tCons (tVar 0) (tCons (tCB (rListA K) (tCons (tVar 2) (tNil))) (tNil)))) (tCons (tVar 1) (tNil))))))))))
def t_Links___init__ (K : PySem.W.Frag) (E : XK) : TS :=
  tSeq (tDrop (tCl (sp_check_size K) (fun _ => E) (tCons (tVar 1) (tNil)))) (tSeq (sFld K (tVar 0) (tVar 1) "size") (tSeq (sFld K (tVar 0) (tLstRg (tRg2 (tC (.int 1)) (tOp rAddA (tVar 1) (tC (.int 2))))) "_rights") (tSeq (sFld K (tVar 0) (tOp rAddA (tLst (tCons (tC (.int 0)) (tNil))) (tLstRg (tRg1 (tOp rAddA (tVar 1) (tC (.int 1)))))) "_lefts") (sFld K (tVar 0) (tOp rMulA (tLst (tCons (tC (.bl false)) (tNil))) (tOp rAddA (tVar 1) (tC (.int 2)))) "_out"))))
def t_Links_is_legal (K : PySem.W.Frag) (E : XK) : TS :=
  tRet (tOp (rEqA K) (tOp (rIx K) (tFld K (tVar 0) "_out") (tCB rAbsA (tCons (tVar 1) (tNil)))) (tOp rGtA (tVar 1) (tC (.int 0))))
def t_Links_check (K : PySem.W.Frag) (E : XK) : TS :=
  tSeq (tDrop (tCl (sp_check_operation K) (fun _ => E) (tCons (tFld K (tVar 0) "size") (tCons (tVar 1) (tCons (tVar 2) (tNil)))))) (tIfS (tNot (tB (tMt (He.ga K "Links") "is_legal" (sp_Links_is_legal K) (fun _ => E) (tVar 0) (tCons (tVar 1) (tNil))))) (tRz (He.ga K "Illegal") ["operation", "index"] (fun cls d _ H => E cls d H) (tCons (tVar 1) (tCons (tVar 2) (tNil)))) (tNext))
def t_Links_apply_at (K : PySem.W.Frag) (E : XK) : TS :=
  tSeq (tDrop (tMt (He.ga K "Links") "check" (sp_Links_check K) (fun _ => E) (tVar 0) (tCons (tVar 1) (tCons (tVar 2) (tNil))))) (tSeq (tAsg (tCB rAbsA (tCons (tVar 1) (tNil))) (gName 3)) (tSeq (tAsg (tOp (rIx K) (tFld K (tVar 0) "_lefts") (tVar 3)) (gName 4)) (tSeq (tAsg (tOp (rIx K) (tFld K (tVar 0) "_rights") (tVar 3)) (gName 5)) (tSeq (tAsg (tOp rLtA (tVar 1) (tC (.int 0))) (gName 6)) (tSeq (tAsg (tIf (tB (tVar 6)) (tVar 5) (tVar 3)) (gSub (tFld K (tVar 0) "_rights") (tVar 4) rSetL)) (tSeq (tAsg (tIf (tB (tVar 6)) (tVar 4) (tVar 3)) (gSub (tFld K (tVar 0) "_lefts") (tVar 5) rSetL)) (tAsg (tVar 6) (gSub (tFld K (tVar 0) "_out") (tVar 3) rSetL))))))))
def t_Links_apply (K : PySem.W.Frag) (E : XK) : TS :=
  tDrop (tMt (He.ga K "Links") "apply_at" (sp_Links_apply_at K) (fun _ => E) (tVar 0) (tCons (tVar 1) (tCons (tC (.int 0)) (tNil))))
def t_strikes (K : PySem.W.Frag) (E : XK) : TS :=
  tSeq (tAsg (tMk (He.ga K "Links") (sp_Links___init__ K) (fun _ => E) (tCons (tVar 0) (tNil))) (gName 2)) (tSeq (tDrop (tCl (sp01__check_operations K) (fun _ => E) (tCons (tVar 0) (tCons (tVar 1) (tNil))))) (tSeq (tAsg (tLst (tNil)) (gName 3)) (tSeq (tFor (iEnum K (tCons (tVar 1) (tNil))) (gTup K 2 (gCons (gName 4) (gCons (gName 5) (gNil)))) (tIfS (tB (tMt (He.ga K "Links") "is_legal" (sp_Links_is_legal K) (fun _ => E) (tVar 2) (tCons (tVar 5) (tNil)))) (tDrop (tMt (He.ga K "Links") "apply" (sp_Links_apply K) (fun _ => E) (tVar 2) (tCons (tVar 5) (tNil)))) (tDrop (tBM K "list" rAppend (tVar 3) (tCons (tVar 4) (tNil)))))) (tRet (tVar 3)))))
def t_first_illegal (K : PySem.W.Frag) (E : XK) : TS :=
  tSeq (tAsg (tCl (sp01_strikes K) (fun _ => E) (tCons (tVar 0) (tCons (tVar 1) (tNil)))) (gName 2)) (tRet (tIf (tTr K (tVar 2)) (tOp (rIx K) (tVar 2) (tC (.int 0))) (tC .non)))
def t__law_asked (K : PySem.W.Frag) (E : XK) : TS :=
  tSeq (tIfS (tTest (tOp (rEqA K) (tVar 0) (tC (.int 0)))) (tRet (tCl (sp01_first_illegal K) (fun _ => E) (tCons (tVar 1) (tCons (tVar 2) (tNil))))) (tNext)) (tSeq (tIfS (tTest (tOp (rEqA K) (tVar 0) (tC (.int 1)))) (tRet (tCl (sp01_strikes K) (fun _ => E) (tCons (tVar 1) (tCons (tVar 2) (tNil))))) (tNext)) (tSeq (tIfS (tTest (tOp (rEqA K) (tVar 0) (tC (.int 2)))) (tRet (tCl (sp01_mirror K) (fun _ => E) (tCons (tVar 1) (tCons (tVar 2) (tNil))))) (tNext)) (tSeq (tIfS (tTest (tOp (rEqA K) (tVar 0) (tC (.int 3)))) (tRet (tCl (sp01_blocks K) (fun _ => E) (tCons (tVar 1) (tCons (tVar 2) (tNil))))) (tNext)) (tRet (tCl (sp01_block_part K) (fun _ => E) (tCons (tVar 1) (tCons (tVar 2) (tCons (tVar 3) (tCons (tVar 4) (tNil))))))))))
def t__law_operation_refused (K : PySem.W.Frag) (E : XK) : TS :=
  tSeq (tAsg (tC (.int 0)) (gName 5)) (tSeq (tWhile (tAnd (tTest (tOp rLtA (tVar 5) (tCB (rLenA K) (tCons (tVar 2) (tNil))))) (tTest (tChain rLeA rLeA (tC (.int 1)) (tCB rAbsA (tCons (tOp (rIx K) (tVar 2) (tVar 5)) (tNil))) (tVar 1)))) (tAsg (tOp rAddA (tVar 5) (tC (.int 1))) (gName 5))) (tSeq (tAsg (tCB (rListA K) (tCons (tVar 2) (tNil))) (gName 6)) (tSeq ((fun D σ H => (fun (W : WX) => tDrop (tCl (sp01__law_asked K) (WE W) (tCons (tVar 0) (tCons (tVar 1) (tCons (tVar 6) (tCons (tVar 3) (tCons (tVar 4) (tNil)))))))) (wAs K (.ref (He.ga K "BadOperation")) 7 (fun a cls d => tSeq (tIfS (tOr (tNot (tB (tCB (rIsX K cls d a) (tCons (tVar 7) (tCons (tC (.ref (He.ga K "LogError"))) (tNil)))))) (tOr (tB (tCB (rIsX K cls d a) (tCons (tVar 7) (tCons (tC (.ref (He.ga K "Illegal"))) (tNil))))) (tB (tCB (rIsX K cls d a) (tCons (tVar 7) (tCons (tC (.ref (He.ga K "Refused"))) (tNil))))))) (tRet (tC (.bl false))) (tNext)) (tSeq (tIfS (tOr (tNot (tB (tCB (rIsX K cls d a) (tCons (tVar 7) (tCons (tC (.ref (He.ga K "LinkError"))) (tNil)))))) (tNot (tB (tCB (rIsX K cls d a) (tCons (tVar 7) (tCons (tC (.ty "ValueError")) (tNil))))))) (tRet (tC (.bl false))) (tNext)) (tSeq (tIfS (tOr (tNot (tB (tCl (sp00__law_is K) (fun _ => E0) (tCons (tXat K a cls d "operation" (tVar 7)) (tCons (tOp (rIx K) (tVar 2) (tVar 5)) (tNil)))))) (tNot (tB (tCl (sp00__law_is K) (fun _ => E0) (tCons (tXat K a cls d "index" (tVar 7)) (tCons (tVar 5) (tNil))))))) (tRet (tC (.bl false))) (tNext)) (tRet (tCl (sp00__law_integers K) (fun _ => E0) (tCons (tVar 6) (tCons (tVar 2) (tNil)))))))) (fun cls d _ H => E cls d H) D) D σ H)) (tRet (tC (.bl false))))))
def t__law_range_right (K : PySem.W.Frag) (E : XK) : TS :=
  tSeq (tIfS (tTest (tChain3 rLeA rLeA rLeA (tC (.int 1)) (tVar 2) (tVar 3) (tVar 0))) (tRet (tCl (sp01__law_part_right K) (fun _ => E) (tCons (tVar 0) (tCons (tVar 1) (tCons (tVar 2) (tCons (tVar 3) (tNil))))))) (tNext)) (tSeq (tAsg (tCB (rListA K) (tCons (tVar 1) (tNil))) (gName 4)) (tSeq ((fun D σ H => (fun (W : WX) => tDrop (tCl (sp01_block_part K) (WE W) (tCons (tVar 0) (tCons (tVar 4) (tCons (tVar 2) (tCons (tVar 3) (tNil))))))) (wAs K (.ref (He.ga K "BadRange")) 5 (fun a cls d => tSeq (tIfS (tOr (tB (tCB (rIsX K cls d a) (tCons (tVar 5) (tCons (tC (.ref (He.ga K "LogError"))) (tNil))))) (tOr (tB (tCB (rIsX K cls d a) (tCons (tVar 5) (tCons (tC (.ref (He.ga K "BadSize"))) (tNil))))) (tNot (tB (tCB (rIsX K cls d a) (tCons (tVar 5) (tCons (tC (.ref (He.ga K "LinkError"))) (tNil)))))))) (tRet (tC (.bl false))) (tNext)) (tSeq (tIfS (tNot (tB (tCB (rIsX K cls d a) (tCons (tVar 5) (tCons (tC (.ty "ValueError")) (tNil)))))) (tRet (tC (.bl false))) (tNext)) (tRet (tAndV (tCl (sp00__law_is K) (fun _ => E0) (tCons (tXat K a cls d "low" (tVar 5)) (tCons (tVar 2) (tNil)))) (tAndV (tCl (sp00__law_is K) (fun _ => E0) (tCons (tXat K a cls d "high" (tVar 5)) (tCons (tVar 3) (tNil)))) (tCl (sp00__law_integers K) (fun _ => E0) (tCons (tVar 4) (tCons (tVar 1) (tNil))))))))) (fun cls d _ H => E cls d H) D) D σ H)) (tRet (tC (.bl false)))))
def t__law_rows (K : PySem.W.Frag) (E : XK) : TS :=
  tSeq (tAsg (tLst (tNil)) (gName 2)) (tSeq (tIfS (tTest (tOp (rEqA K) (tVar 1) (tC (.int 0)))) (tRet (tVar 2)) (tNext)) (tSeq (tAsg (tCl (sp00__law_draw K) (fun _ => E) (tCons (tVar 0) (tCons (tC (.int 10)) (tNil)))) (gName 3)) (tSeq (tIfS (tTest (tOp (rEqA K) (tVar 3) (tC (.int 9)))) (tAsg (tOp rAddA (tC (.int 9)) (tCl (sp00__law_draw K) (fun _ => E) (tCons (tVar 0) (tCons (tC (.int 40)) (tNil))))) (gName 3)) (tNext)) (tSeq (tAsg (tCl (sp00__law_draw K) (fun _ => E) (tCons (tVar 0) (tCons (tVar 1) (tNil)))) (gName 4)) (tSeq (tFor (iRng1 (tCons (tVar 3) (tNil))) (gName 5) (tSeq (tAsg (tOp rAddA (tC (.int 1)) (tCl (sp00__law_draw K) (fun _ => E) (tCons (tVar 0) (tCons (tVar 1) (tNil))))) (gName 6)) (tSeq (tIfS (tTest (tOp (rEqA K) (tCl (sp00__law_draw K) (fun _ => E) (tCons (tVar 0) (tCons (tC (.int 2)) (tNil)))) (tC (.int 0)))) (tAsg (tOp rAddA (tC (.int 1)) (tOp rModA (tCB rIntA (tCons (tOp rAddA (tVar 4) (tOp rModA (tCB rIntA (tCons (tVar 6) (tNil))) (tC (.int 3)))) (tNil))) (tVar 1))) (gName 6)) (tNext)) (tIfS (tTest (tOp (rEqA K) (tCl (sp00__law_draw K) (fun _ => E) (tCons (tVar 0) (tCons (tC (.int 2)) (tNil)))) (tC (.int 0)))) (tDrop (tBM K "list" rAppend (tVar 2) (tCons (tUn rNegA (tVar 6)) (tNil)))) (tDrop (tBM K "list" rAppend (tVar 2) (tCons (tVar 6) (tNil)))))))) (tRet (tVar 2)))))))
def t__law_size (K : PySem.W.Frag) (E : XK) : TS :=
  tSeq (tAsg (tCl (sp00__law_draw K) (fun _ => E) (tCons (tVar 0) (tCons (tC (.int 8)) (tNil)))) (gName 1)) (tSeq (tIfS (tTest (tOp (rEqA K) (tVar 1) (tC (.int 7)))) (tRet (tCl (sp00__law_draw K) (fun _ => E) (tCons (tVar 0) (tCons (tC (.int 61)) (tNil))))) (tNext)) (tSeq (tIfS (tTest (tOp (rEqA K) (tVar 1) (tC (.int 6)))) (tRet (tCl (sp00__law_draw K) (fun _ => E) (tCons (tVar 0) (tCons (tC (.int 3)) (tNil))))) (tNext)) (tRet (tOp rAddA (tC (.int 1)) (tVar 1)))))
def t__law_size_refused (K : PySem.W.Frag) (E : XK) : TS :=
  tSeq (tAsg (tCB (rListA K) (tCons (tVar 2) (tNil))) (gName 5)) (tSeq ((fun D σ H => (fun (W : WX) => tDrop (tCl (sp01__law_asked K) (WE W) (tCons (tVar 0) (tCons (tVar 1) (tCons (tVar 5) (tCons (tVar 3) (tCons (tVar 4) (tNil)))))))) (wAs K (.ref (He.ga K "BadSize")) 6 (fun a cls d => tSeq (tIfS (tOr (tB (tCB (rIsX K cls d a) (tCons (tVar 6) (tCons (tC (.ref (He.ga K "LogError"))) (tNil))))) (tNot (tB (tCB (rIsX K cls d a) (tCons (tVar 6) (tCons (tC (.ref (He.ga K "LinkError"))) (tNil))))))) (tRet (tC (.bl false))) (tNext)) (tRet (tAndV (tCB (rIsX K cls d a) (tCons (tVar 6) (tCons (tC (.ty "ValueError")) (tNil)))) (tAndV (tCl (sp00__law_is K) (fun _ => E0) (tCons (tXat K a cls d "size" (tVar 6)) (tCons (tVar 1) (tNil)))) (tCl (sp00__law_integers K) (fun _ => E0) (tCons (tVar 5) (tCons (tVar 2) (tNil)))))))) (fun cls d _ H => E cls d H) D) D σ H)) (tRet (tC (.bl false))))
def t__law_most_kept (K : PySem.W.Frag) (E : XK) : TS :=
  tSeq (tAsg (tC (.int 0)) (gName 2)) (tSeq (tFor (iRng2 (tCons (tC (.int 1)) (tCons (tOp rAddA (tVar 0) (tC (.int 1))) (tNil)))) (gName 3) (tSeq (tAsg (tC (.int 0)) (gName 4)) (tSeq (tAsg (tC (.int 0)) (gName 5)) (tSeq (tFor (iList K (tVar 1)) (gName 6) (tSeq (tIfS (tTest (tOp (rEqA K) (tVar 6) (tUn rNegA (tVar 3)))) (tAsg (tCB rMax2A (tCons (tVar 5) (tCons (tOp rAddA (tVar 4) (tC (.int 1))) (tNil)))) (gName 5)) (tNext)) (tIfS (tAnd (tTest (tOp (rEqA K) (tVar 6) (tVar 3))) (tTest (tOp rGtA (tVar 5) (tC (.int 0))))) (tAsg (tCB rMax2A (tCons (tVar 4) (tCons (tOp rAddA (tVar 5) (tC (.int 1))) (tNil)))) (gName 4)) (tNext)))) (tAsg (tOp rAddA (tVar 2) (tCB rMax2A (tCons (tVar 4) (tCons (tVar 5) (tNil))))) (gName 2)))))) (tRet (tVar 2)))
def t__law_struck (K : PySem.W.Frag) (E : XK) : TS :=
  tSeq (tAsg (tLc (iRng1 (tCons (tOp rAddA (tVar 0) (tC (.int 1))) (tNil))) (gName 5) (tYes) (tC (.bl false)) [5]) (gName 2)) (tSeq (tAsg (tLst (tNil)) (gName 3)) (tSeq (tFor (iRng1 (tCons (tCB (rLenA K) (tCons (tVar 1) (tNil))) (tNil))) (gName 4) (tSeq (tAsg (tCB rAbsA (tCons (tOp (rIx K) (tVar 1) (tVar 4)) (tNil))) (gName 5)) (tIfS (tTest (tOp (rEqA K) (tOp (rIx K) (tVar 2) (tVar 5)) (tOp rLtA (tOp (rIx K) (tVar 1) (tVar 4)) (tC (.int 0))))) (tDrop (tBM K "list" rAppend (tVar 3) (tCons (tVar 4) (tNil)))) (tAsg (tOp rLtA (tOp (rIx K) (tVar 1) (tVar 4)) (tC (.int 0))) (gSub (tVar 2) (tVar 5) rSetL))))) (tRet (tVar 3))))
def t__law_strikes_right (K : PySem.W.Frag) (E : XK) : TS :=
  tSeq (tAsg (tCl (sp01__law_struck K) (fun _ => E) (tCons (tVar 0) (tCons (tVar 1) (tNil)))) (gName 2)) (tSeq (tAsg (tCB (rListA K) (tCons (tVar 1) (tNil))) (gName 3)) (tSeq (tAsg (tCl (sp01_strikes K) (fun _ => E) (tCons (tVar 0) (tCons (tVar 3) (tNil)))) (gName 4)) (tSeq (tIfS (tOr (tNot (tB (tCl (sp00__law_integers K) (fun _ => E) (tCons (tVar 4) (tCons (tVar 2) (tNil)))))) (tNot (tB (tCl (sp00__law_integers K) (fun _ => E) (tCons (tVar 3) (tCons (tVar 1) (tNil))))))) (tRet (tC (.bl false))) (tNext)) (tSeq (tIfS (tTest (tOp (rNeA K) (tOp rSubA (tCB (rLenA K) (tCons (tVar 1) (tNil))) (tCB (rLenA K) (tCons (tVar 4) (tNil)))) (tCl (sp01__law_most_kept K) (fun _ => E) (tCons (tVar 0) (tCons (tVar 1) (tNil)))))) (tRet (tC (.bl false))) (tNext)) (tSeq (tDrop (tBM K "list" rAppend (tVar 4) (tCons (tC (.int 0)) (tNil)))) (tSeq (tDrop (tBM0 K "list" rReverse (tVar 4))) (tSeq (tAsg (tLc (iRng1 (tCons (tCB (rLenA K) (tCons (tVar 1) (tNil))) (tNil))) (gName 7) (tTest (tOp (rIn K true) (tVar 7) (tVar 2))) (tOp (rIx K) (tVar 1) (tVar 7)) [7]) (gName 5)) (tSeq (tIfS (tOr (tTest (tOp rNotNA (tCl (sp01_first_illegal K) (fun _ => E) (tCons (tVar 0) (tCons (tCB (rListA K) (tCons (tVar 5) (tNil))) (tNil)))) (tC .non))) (tNot (tB (tCl (sp00__law_integers K) (fun _ => E) (tCons (tCl (sp01_strikes K) (fun _ => E) (tCons (tVar 0) (tCons (tCB (rListA K) (tCons (tVar 5) (tNil))) (tNil)))) (tCons (tLst (tNil)) (tNil))))))) (tRet (tC (.bl false))) (tNext)) (tSeq (tAsg (tCl (sp01_first_illegal K) (fun _ => E) (tCons (tVar 0) (tCons (tVar 3) (tNil)))) (gName 6)) (tSeq (tIfS (tNot (tB (tCl (sp00__law_integers K) (fun _ => E) (tCons (tVar 3) (tCons (tVar 1) (tNil)))))) (tRet (tC (.bl false))) (tNext)) (tSeq (tIfS (tTest (tOp (rEqA K) (tVar 2) (tLst (tNil)))) (tRet (tOp rIsNA (tVar 6) (tC .non))) (tNext)) (tRet (tAndV (tCl (sp00__law_is K) (fun _ => E) (tCons (tVar 6) (tCons (tOp (rIx K) (tVar 2) (tC (.int 0))) (tNil)))) (tOp rIsNA (tCl (sp01_first_illegal K) (fun _ => E) (tCons (tVar 0) (tCons (tSl (rSlL K) (tVar 1) (tNoPart) (tPart (tOp (rIx K) (tVar 2) (tC (.int 0))))) (tNil)))) (tC .non)))))))))))))))
def t_law (K : PySem.W.Frag) (E : XK) : TS :=
  tSeq (tAsg (tCl (sp00__law_box K) (fun _ => E) (tCons (tVar 0) (tNil))) (gName 1)) (tSeq (tAsg (tCl (sp02__law_size K) (fun _ => E) (tCons (tVar 1) (tNil))) (gName 2)) (tSeq (tAsg (tCl (sp01__law_rows K) (fun _ => E) (tCons (tVar 1) (tCons (tVar 2) (tNil)))) (gName 3)) (tSeq (tAsg (tOp rSubA (tCl (sp00__law_draw K) (fun _ => E) (tCons (tVar 1) (tCons (tOp rAddA (tVar 2) (tC (.int 3))) (tNil)))) (tC (.int 1))) (gName 4)) (tSeq (tAsg (tOp rSubA (tCl (sp00__law_draw K) (fun _ => E) (tCons (tVar 1) (tCons (tOp rAddA (tVar 2) (tC (.int 4))) (tNil)))) (tC (.int 1))) (gName 5)) (tSeq (tAsg (tCl (sp01__law_bent K) (fun _ => E) (tCons (tVar 1) (tCons (tVar 2) (tCons (tVar 3) (tNil))))) (gName 6)) (tSeq (tAsg (tCl (sp02__law_far_size K) (fun _ => E) (tCons (tVar 1) (tNil))) (gName 7)) (tSeq (tIfS (tOr (tNot (tB (tCl (sp01__law_strikes_right K) (fun _ => E) (tCons (tVar 2) (tCons (tVar 3) (tNil)))))) (tNot (tB (tCl (sp01__law_mirror_right K) (fun _ => E) (tCons (tVar 2) (tCons (tVar 3) (tNil))))))) (tRet (tC (.bl false))) (tNext)) (tSeq (tIfS (tOr (tNot (tB (tCl (sp01__law_blocks_right K) (fun _ => E) (tCons (tVar 2) (tCons (tVar 3) (tNil)))))) (tNot (tB (tCl (sp01__law_range_right K) (fun _ => E) (tCons (tVar 2) (tCons (tVar 3) (tCons (tVar 4) (tCons (tVar 5) (tNil))))))))) (tRet (tC (.bl false))) (tNext)) (tSeq (tFor (iRng1 (tCons (tC (.int 5)) (tNil))) (gName 8) (tSeq (tIfS (tNot (tB (tCl (sp01__law_operation_refused K) (fun _ => E) (tCons (tVar 8) (tCons (tVar 2) (tCons (tVar 6) (tCons (tVar 4) (tCons (tVar 5) (tNil))))))))) (tRet (tC (.bl false))) (tNext)) (tIfS (tNot (tB (tCl (sp01__law_size_refused K) (fun _ => E) (tCons (tVar 8) (tCons (tVar 7) (tCons (tVar 6) (tCons (tVar 4) (tCons (tVar 5) (tNil))))))))) (tRet (tC (.bl false))) (tNext)))) (tRet (tC (.bl true))))))))))))
end G

set_option Elab.async false
set_option linter.all false
set_option maxRecDepth 100000
set_option maxHeartbeats 1000000
namespace G
--#FAM KM
open PySem PySem.Spec PyProof.Rows L2
local macro_rules
  | `(tactic| walk_at "1") => `(tactic| first
    | with_reducible refine w_seq ?_
    | with_reducible refine w_asg ?_
    | with_reducible refine w_asgS ?_
    | with_reducible refine w_asf ?_
    | with_reducible refine w_drop ?_
    | with_reducible refine w_ret ?_
    | with_reducible refine w_if ?_
    | with_reducible refine w_not ?_
    | with_reducible refine w_and ?_
    | with_reducible refine w_or ?_
    | with_reducible refine w_test ?_
    | with_reducible refine w_tb ?_
    | with_reducible refine w_chain ?_
    | with_reducible refine w_op ?_
    | with_reducible refine w_un ?_
    | with_reducible refine w_andV ?_
    | with_reducible refine w_orV ?_
    | with_reducible refine w_notV ?_
    | with_reducible refine w_ifE ?_
    | with_reducible refine w_cons ?_
    | with_reducible refine w_nil ?_
    | with_reducible refine w_cb ?_
    | with_reducible refine w_cl ?_
    | with_reducible refine w_mt ?_
    | with_reducible refine w_fld ?_
    | with_reducible refine w_tupN ?_
    | with_reducible refine w_lstN ?_
    | with_reducible refine w_bm ?_
    | with_reducible refine w_bm0 ?_
    | with_reducible refine w_for ?_
    | with_reducible refine w_lc ?_
    | with_reducible refine w_iR1 ?_
    | with_reducible refine w_iR2 ?_
    | with_reducible refine w_iL ?_
    | with_reducible refine w_iT ?_
    | with_reducible refine w_iE ?_
    | with_reducible refine w_iZ ?_
    | with_reducible refine w_var (by with_unfolding_all rfl) ?_
    | with_reducible refine w_c ?_
    | with_reducible refine w_next ?_
    | with_reducible refine w_i0 ?_
    | with_reducible refine w_u1 ?_
    | with_reducible refine w_addI ?_
    | with_reducible refine w_eqI ?_
    | with_reducible refine w_eqS ?_
    | with_reducible refine w_eqB ?_
    | with_reducible refine w_neI ?_
    | with_reducible refine w_neS ?_
    | with_reducible refine w_neB ?_
    | with_reducible refine w_abs ?_
    | with_reducible refine w_intI ?_
    | with_reducible refine w_min2 ?_
    | with_reducible refine w_max2 ?_
    | with_reducible refine w_isN0 ?_
    | with_reducible refine w_isN1 ref_ne ?_
    | with_reducible refine w_isN1 int_ne ?_
    | with_reducible refine w_notN0 ?_
    | with_reducible refine w_notN1 ref_ne ?_
    | with_reducible refine w_notN1 int_ne ?_
    | with_reducible refine w_ex1 ?_
    | with_reducible refine w_n1 ?_
    | with_reducible refine w_n2 ?_
    | with_reducible refine w_tT ?_
    | with_reducible refine w_tF ?_
    | with_reducible refine w_nT ?_
    | with_reducible refine w_nF ?_
    | with_reducible refine w_rz ?_
    | with_reducible refine w_mkN ?_
    | with_reducible refine w_lrgN ?_
    | with_reducible refine w_rg1 ?_
    | with_reducible refine w_rg2 ?_
    | with_reducible refine w_sl ?_
    | with_reducible refine w_np ?_
    | with_reducible refine w_pt ?_
    | with_reducible refine w_tr ?_
    | with_reducible refine w_gn ?_
    | with_reducible refine w_yes ?_
    | with_reducible refine w_m1 ?_
    | with_reducible refine w_asu ?_
    | with_reducible refine w_exS ?_
    | with_reducible refine w_iS ?_
    | with_reducible refine w_g1 ?_
    | with_reducible refine w_gc ?_
    | with_reducible refine w_gt (SqT.of upd_same) rfl ?_)
local macro_rules
  | `(tactic| walk_at "g") => `(tactic| repeat walk_at "1")
local macro_rules
  | `(tactic| walk_at "j1") => `(tactic| first
    | with_reducible refine w_seqI ?_
    | walk_at "1")
local macro_rules
  | `(tactic| walk_at "j") => `(tactic| repeat walk_at "j1")
section
variable {K : PySem.W.Frag} {mg : Str → Option Value}
theorem Kp.cut {S S' : List Addr} {H H' : Hp} (k : Kp S H H') (h : ∀ b ∈ S, b ∈ S' ∨ H b = none) : Kp S' H H' := fun b o n e => k b o (fun z => by
  rcases h b z with q | q
  · exact n q
  · rw [q] at e
    cases e) e
theorem Kp.cut1 {H H' : Hp} {p : Addr} (k : Kp [p] H H') (h : H p = none) : Kp [] H H' := k.cut (by simp [h])
theorem cmulR {i j : Int} (h1 : -(2 ^ 64) < j) (h2 : j < 2 ^ 64) : CMul i j := .inr ⟨h1, h2⟩
theorem cmulL {i j : Int} (h1 : -(2 ^ 64) < i) (h2 : i < 2 ^ 64) : CMul i j := .inl ⟨h1, h2⟩
theorem at_map {α : Type} {f : α → V} {l : List α} {i : Nat} {x : V} (h : (l.map f)[i]? = some x) : ∃ y, l[i]? = some y ∧ f y = x := by
  rw [List.getElem?_map] at h
  cases e : l[i]? with
  | none => rw [e] at h; cases h
  | some y => rw [e] at h; exact ⟨y, rfl, by injection h⟩
theorem len__law_box (K : PySem.W.Frag) : ∀ vs H Q E, sp00__law_box K vs H Q E → vs.length = (["script"] : List Str).length := by
  rintro vs H Q E ⟨_, _, rfl, _⟩
  rfl
theorem rd__law_box (T : Txt K mg) (vs : List V) (H : Hp) (Q : VK) (E : XK) (h : sp00__law_box K vs H Q E) : t__law_box K E { nx := fun _ H' => Q .non H', rt := Q } (start ["script"] vs) H := by
  obtain ⟨a, ns, rfl, hs, hl, g⟩ := h
  unfold t__law_box
  have e63 : cutV (ns.map V.int) none (some 63) = ns.map V.int := by
    unfold cutV
    have : HT.sIx (ns.map V.int).length (ns.map V.int).length (some 63) = (ns.map V.int).length := by
      rw [show (63 : Int) = ((63 : Nat) : Int) from rfl, HT.sIx_nat]
      rw [List.length_map]
      omega
    rw [this, HT.sIx_none, List.drop_zero, Nat.sub_zero, List.take_length]
  walk_at "g"
  refine w_slL hs fun q H1 nq k1 hq => ?_
  rw [e63] at hq
  walk_at "g"
  refine w_listLN (SqL.of hq) fun q2 H2 nq2 k2 hq2 => ?_
  walk_at "g"
  refine ⟨sz_ok (by show 5 ≤ 1000000; omega), nw fun b H3 nb k3 hb => ?_⟩
  exact g b q2 H3 ((k1.trans k2).free0 nb) (k1.free0 nq2) ((k1.trans k2).trans k3) ⟨⟨_, _, _, _, hb, by omega⟩, ns, k3.at0 hq2, hl⟩
theorem len__law_draw (K : PySem.W.Frag) : ∀ vs H Q E, sp00__law_draw K vs H Q E → vs.length = (["box", "many"] : List Str).length := by
  rintro vs H Q E ⟨_, _, _, rfl, _⟩
  rfl
theorem rd__law_draw (T : Txt K mg) (vs : List V) (H : Hp) (Q : VK) (E : XK) (h : sp00__law_draw K vs H Q E) : t__law_draw K E { nx := fun _ H' => Q .non H', rt := Q } (start ["box", "many", "cell", "digit", "mixed"] vs) H := by
  obtain ⟨b, c, many, rfl, hm, hm2, bx, g⟩ := h
  unfold t__law_draw
  have bc := bx.ne
  obtain ⟨p, q, m, t, hb, p0⟩ := bx.ob
  obtain ⟨ns, hc, lns⟩ := bx.hc
  walk_at "j"
  refine w_ifJ (fun σ' H' => ∃ (p q m : Int) (x2 : Option V), σ' = [some (.ref b), some (.int many), x2, none, none] ∧ Kp [b] H H' ∧ H' b = some (.lst [.ref c, .int p, .int q, .int m, .int t]) ∧ 0 ≤ p) (fun N hN => ?_) (fun σ' H2 ⟨p, q, m, x2, es, k2, h2, p0⟩ => ?_)
  · walk_at "g"
    refine w_ixL (SqL.of hb) (i := 2) (v := .int q) rfl ?_
    walk_at "g"
    refine w_iteD (fun c1 => ?_) (fun c1 => ?_)
    · walk_at "g"
      refine w_ixL (SqL.of hb) (i := 1) (v := .int p) rfl ?_
      walk_at "g"
      refine w_ixL (SqL.of hb) at_0 ?_
      walk_at "g"
      refine w_lenL (SqL.of hc) ?_
      walk_at "g"
      rw [List.length_map]
      refine w_iteD (fun c2 => ?_) (fun c2 => ?_)
      · walk_at "g"
        refine w_ixL (SqL.of hb) at_0 ?_
        walk_at "g"
        refine w_ixL (SqL.of hb) (i := 1) (v := .int p) rfl ?_
        refine w_ixL (SqL.of hc) (at_I p0 c2) ?_
        walk_at "g"
        refine w_ixL (SqL.of hb) (i := 1) (v := .int p) rfl ?_
        walk_at "g"
        refine w_seT hb (n := 1) rfl fun H2 k2 h2 => ?_
        have h2 : H2 b = some (.lst [.ref c, .int (p + 1), .int q, .int m, .int t]) := h2
        walk_at "g"
        refine w_ic ⟨by omega, by omega, by decide⟩ ?_
        walk_at "g"
        refine w_iteD (fun c3 => ?_) (fun c3 => ?_)
        · walk_at "g"
          refine w_seT h2 (n := 2) rfl fun H3 k3 h3 => ?_
          exact hN _ _ ⟨p + 1, _, m, _, rfl, k2.trans k3, h3, by omega⟩
        · walk_at "g"
          refine w_ixL (SqL.of h2) (i := 3) (v := .int m) rfl ?_
          walk_at "g"
          refine w_mulI (cmulR (by omega) (by omega)) ?_
          walk_at "g"
          refine w_mulI (cmulR (by omega) (by omega)) ?_
          walk_at "g"
          refine w_ic (by omega) ?_
          walk_at "g"
          refine w_seT h2 (n := 3) rfl fun H3 k3 h3 => ?_
          exact hN _ _ ⟨p + 1, q, _, _, rfl, k2.trans k3, h3, by omega⟩
      · walk_at "g"
        exact hN _ _ ⟨p, q, m, _, rfl, Kp.refl _ _, hb, p0⟩
    · walk_at "g"
      exact hN _ _ ⟨p, q, m, _, rfl, Kp.refl _ _, hb, p0⟩
  subst es
  have hc2 := k2.at1 (Ne.symm bc) hc
  walk_at "j"
  refine w_ifK (fun H' => H' = H2) (fun N hN => ?_) (fun H' eH => ?_)
  · walk_at "g"
    refine w_ixL (SqL.of h2) (i := 2) (v := .int q) rfl ?_
    walk_at "g"
    refine w_iteD (fun c1 => ?_) (fun c1 => ?_)
    · walk_at "g"
      refine w_ixL (SqL.of h2) (i := 2) (v := .int q) rfl ?_
      walk_at "g"
      refine w_ic hm ?_
      walk_at "g"
      refine w_ixL (SqL.of h2) (i := 2) (v := .int q) rfl ?_
      walk_at "g"
      refine w_ic ⟨hm, by omega⟩ ?_
      walk_at "g"
      refine w_seT h2 (n := 2) rfl fun H3 k3 h3 => ?_
      walk_at "g"
      exact g _ H3 (Int.emod_nonneg _ (by omega)) (Int.emod_lt_of_pos _ hm) (k2.trans k3) ⟨⟨_, _, _, _, h3, p0⟩, ns, k3.at1 (Ne.symm bc) hc2, lns⟩
    · exact hN _ rfl
  subst H'
  walk_at "g"
  refine w_ixL (SqL.of h2) (i := 4) (v := .int t) rfl ?_
  walk_at "g"
  refine w_seT h2 (n := 4) rfl fun H3 k3 h3 => ?_
  have h3 : H3 b = some (.lst [.ref c, .int p, .int q, .int m, .int (t + 1)]) := h3
  walk_at "g"
  refine w_ixL (SqL.of h3) (i := 3) (v := .int m) rfl ?_
  walk_at "g"
  refine w_mulI (cmulR (by omega) (by omega)) ?_
  walk_at "g"
  refine w_ixL (SqL.of h3) (i := 4) (v := .int (t + 1)) rfl ?_
  walk_at "g"
  refine w_mulI (cmulR (by omega) (by omega)) ?_
  walk_at "g"
  refine w_ic (by omega) ?_
  walk_at "g"
  refine w_seT h3 (n := 3) rfl fun H4 k4 h4 => ?_
  have h4 : H4 b = some (.lst [.ref c, .int p, .int q, .int ((m * 742938285 + (t + 1) * 1299709) % 2147483647), .int (t + 1)]) := h4
  walk_at "g"
  refine w_ixL (SqL.of h4) (i := 3) (v := .int _) rfl ?_
  walk_at "g"
  refine w_ic ⟨by omega, by omega⟩ ?_
  walk_at "g"
  refine w_mulI (cmulR (by omega) (by omega)) ?_
  walk_at "g"
  refine w_ixL (SqL.of h4) (i := 3) (v := .int _) rfl ?_
  walk_at "g"
  refine w_ixL (SqL.of h4) (i := 4) (v := .int (t + 1)) rfl ?_
  walk_at "g"
  refine w_ic (by omega) ?_
  walk_at "g"
  refine w_ic ⟨by omega, by omega⟩ ?_
  walk_at "g"
  refine w_ic hm ?_
  exact g _ H4 (Int.emod_nonneg _ (by omega)) (Int.emod_lt_of_pos _ hm) ((k2.trans k3).trans k4) ⟨⟨_, _, _, _, h4, p0⟩, ns, k4.at1 (Ne.symm bc) (k3.at1 (Ne.symm bc) hc2), lns⟩
theorem w_isiI {H : Hp} {Q : VK} {i : Int} {t : String} {r : Bool} (h : kitB "int" t = some r) (g : Q (.bl r) H) : rIsi K [.int i, .ty t] H Q := ⟨_, _, _, _, r, rfl, .ty t, .base (.int i), kit_ty h, g⟩
theorem w_isiL {H : Hp} {Q : VK} {a : Addr} {xs : List V} {t : String} {r : Bool} (e : H a = some (.lst xs)) (h : kitB "list" t = some r) (g : Q (.bl r) H) : rIsi K [.ref a, .ty t] H Q := ⟨_, _, _, _, r, rfl, .ty t, .base (.lst e), kit_ty h, g⟩
theorem num_ok9 {i : Int} (h : i.natAbs < 1000000000) : i.natAbs.log2 < 1920 := by
  by_cases c : i.natAbs = 0
  · rw [c]
    decide
  · exact Nat.lt_of_lt_of_le ((Nat.log2_lt c (k := 30)).mpr (by omega)) (by decide)
theorem len__law_is (K : PySem.W.Frag) : ∀ vs H Q E, sp00__law_is K vs H Q E → vs.length = (["told", "due"] : List Str).length := by
  rintro vs H Q E ⟨_, rfl, _⟩
  rfl
theorem rd__law_is (T : Txt K mg) (vs : List V) (H : Hp) (Q : VK) (E : XK) (h : sp00__law_is K vs H Q E) : t__law_is K E { nx := fun _ H' => Q .non H', rt := Q } (start ["told", "due"] vs) H := by
  obtain ⟨i, rfl, g⟩ := h
  unfold t__law_is
  walk_at "g"
  refine w_isiI (r := true) (by decide +kernel) ?_
  walk_at "g"
  refine w_isiI (r := false) (by decide +kernel) ?_
  walk_at "g"
  rw [decide_eq_true rfl]
  exact g
theorem rg_nat (n : Nat) : rgV 0 (n : Int) = (rgI 0 n).map V.int := by
  unfold rgV rgI
  rw [show ((n : Int) - 0).toNat = n by omega, List.map_map] <;> rfl
theorem rg_one (n : Nat) : rgV 1 ((n : Int) + 1) = (rgI 1 n).map V.int := by
  unfold rgV rgI
  rw [show ((n : Int) + 1 - 1).toNat = n by omega, List.map_map] <;> rfl
theorem rg_one' (n : Nat) : rgV 1 ((n : Int) + 2) = (rgI 1 (n + 1)).map V.int := by
  rw [← rg_one (n + 1)]
  congr 1
theorem rg_nat' (n : Nat) : rgV 0 ((n : Int) + 1) = (rgI 0 (n + 1)).map V.int := by
  rw [← rg_nat (n + 1)] <;> rfl
theorem rep_flat {α : Type} (n : Nat) (x : α) : (List.replicate n [x]).flatten = List.replicate n x := by
  induction n with
  | zero => rfl
  | succ n ih => rw [List.replicate_succ, List.flatten_cons, ih, List.replicate_succ] <;> rfl
theorem rep_mapB (n : Nat) (x : Bool) : (List.replicate n x).map V.bl = List.replicate n (V.bl x) := by rw [List.map_replicate]
theorem putF_len (f : Str) (v : V) : ∀ fs : List (Str × V), (putF f v fs).length ≤ fs.length + 1
  | [] => Nat.le_refl _
  | (g, w) :: fs => by
    have ih := putF_len f v fs
    unfold putF
    split
    · exact Nat.le_succ _
    · exact Nat.succ_le_succ ih
theorem pl1 (a : Str) (x : V) : (putF a x []).length < 1000 := Nat.lt_of_le_of_lt (putF_len _ _ _) (Nat.le_of_ble_eq_true rfl)
theorem pl2 (a b : Str) (x y : V) : (putF b y (putF a x [])).length < 1000 := Nat.lt_of_le_of_lt (putF_len _ _ _) (by
  have := putF_len a x []
  show (putF a x []).length + 1 < 1000
  have e : ([] : List (Str × V)).length = 0 := rfl
  omega)
theorem pl3 (a b c : Str) (x y z : V) : (putF c z (putF b y (putF a x []))).length < 1000 := Nat.lt_of_le_of_lt (putF_len _ _ _) (by
  have h1 := putF_len b y (putF a x [])
  have h2 := putF_len a x []
  have e : ([] : List (Str × V)).length = 0 := rfl
  omega)
theorem len_Links___init__ (K : PySem.W.Frag) : ∀ vs H Q E, sp_Links___init__ K vs H Q E → vs.length = (["self", "size"] : List Str).length := by
  rintro vs H Q E ⟨_, _, _, rfl, _⟩
  rfl
theorem rd_Links___init__ (T : Txt K mg) (vs : List V) (H : Hp) (Q : VK) (E : XK) (h : sp_Links___init__ K vs H Q E) : t_Links___init__ K E { nx := fun _ H' => Q .non H', rt := Q } (start ["self", "size"] vs) H := by
  obtain ⟨p, dx, size, rfl, hp, h1, h2⟩ := h
  unfold t_Links___init__
  walk_at "g"
  refine ⟨size, rfl, fun ok => ?_, h2⟩
  have h1 := h1 ok
  obtain ⟨ok1, ok2⟩ := ok
  obtain ⟨n, rfl⟩ : ∃ n : Nat, size = (n : Int) := ⟨size.toNat, by omega⟩
  rw [Int.toNat_natCast] at h1
  walk_at "g"
  refine w_sT T.cl_Links T.na_Links_size hp (by decide) fun H1 k1 p1 => ?_
  walk_at "g"
  refine ⟨.of_le (by omega) (by omega) (by omega) (by omega), nw fun r H2 nr k2 hr => ?_⟩
  walk_at "g"
  have pr : p ≠ r := ne_of_none p1 nr
  refine w_sT T.cl_Links T.na_Links__rights (k2.at0 p1) (pl1 _ _) fun H3 k3 p3 => ?_
  have hr3 := k3.at1 (Ne.symm pr) hr
  walk_at "g"
  refine ⟨sz_ok (by show 1 ≤ 1000000; omega), nw fun z H4 nz k4 hz => ?_⟩
  walk_at "g"
  refine ⟨.of_le (by omega) (by omega) (by omega) (by omega), nw fun l0 H5 nl0 k5 hl0 => ?_⟩
  walk_at "g"
  refine w_addLN (k5.at0 hz) hl0 (by rw [rgV_length]; exact sz_ok (by show 1 + _ ≤ _; omega)) fun l H6 nl k6 hl => ?_
  have k46 := (k4.trans k5).trans k6
  walk_at "g"
  have pl : p ≠ l := ne_of_none (k5.at0 (k4.at0 p3)) nl
  have rl : r ≠ l := ne_of_none (k5.at0 (k4.at0 hr3)) nl
  refine w_sT T.cl_Links T.na_Links__lefts (k46.at0 p3) (pl2 _ _ _ _) fun H7 k7 p7 => ?_
  have hr7 := k7.at1 (Ne.symm pr) (k46.at0 hr3)
  have hl7 := k7.at1 (Ne.symm pl) hl
  walk_at "g"
  refine ⟨sz_ok (by show 1 ≤ 1000000; omega), nw fun z2 H8 nz2 k8 hz2 => ?_⟩
  walk_at "g"
  refine w_mulLN hz2 (by omega) (by omega) (sz_ok (by show 1 * _ ≤ _; omega)) fun o H9 no k9 ho => ?_
  walk_at "g"
  have po : p ≠ o := ne_of_none (k8.at0 p7) no
  have ro : r ≠ o := ne_of_none (k8.at0 hr7) no
  have lo : l ≠ o := ne_of_none (k8.at0 hl7) no
  have k89 := k8.trans k9
  refine w_sT T.cl_Links T.na_Links__out (k89.at0 p7) (pl3 _ _ _ _ _ _) fun Hx kx px => ?_
  have k03 : Kp [p] H H3 := k1.trans (k2.all.trans k3)
  have k07 : Kp [p] H H7 := k03.trans (k46.all.trans k7)
  have k0x : Kp [p] H Hx := k07.trans (k89.all.trans kx)
  have mp : ∀ b, H b = none → H3 b = none → True := fun _ _ _ => trivial
  refine h1 r l o Hx (k1.free (by simpa using Ne.symm pr) nr) ?_ ?_ k0x ⟨⟨dx, px⟩, ?_, ?_, ?_, rl, ro, lo, .whole (by omega)⟩
  · exact (k03.trans (k4.trans k5).all).free (by simpa using Ne.symm pl) nl
  · exact (k07.trans k8.all).free (by simpa using Ne.symm po) no
  · rw [kx.at1 (Ne.symm pr) (k89.at0 hr7), rg_one'] <;> rfl
  · rw [kx.at1 (Ne.symm pl) (k89.at0 hl7), rg_nat'] <;> rfl
  · rw [kx.at1 (Ne.symm po) ho, show ((n : Int) + 2).toNat = n + 2 by omega, rep_flat, ← rep_mapB] <;> rfl
theorem w_isN {x : V} {H : Hp} {Q : VK} (g : Q (.bl (decide (x = .non))) H) : rIsNA x .non H Q := ⟨rfl, g⟩
theorem len_check_size (K : PySem.W.Frag) : ∀ vs H Q E, sp_check_size K vs H Q E → vs.length = (["size"] : List Str).length := by
  rintro vs H Q E ⟨_, rfl, _⟩
  rfl
theorem rd_check_size (T : Txt K mg) (vs : List V) (H : Hp) (Q : VK) (E : XK) (h : sp_check_size K vs H Q E) : t_check_size K E { nx := fun _ H' => Q .non H', rt := Q } (start ["size"] vs) H := by
  obtain ⟨size, rfl, h1, h2⟩ := h
  unfold t_check_size
  walk_at "g"
  refine w_iteD (fun c1 => ?_) (fun c1 => ?_)
  · walk_at "g"
    refine w_iteN (fun c2 => ?_) (fun c2 => ?_)
    · walk_at "g"
      exact ⟨rfl, Nat.le_of_ble_eq_true rfl, h2 fun z => c2 z.2⟩
    · walk_at "g"
      exact h1 ⟨c1, c2⟩
  · walk_at "g"
    exact ⟨rfl, Nat.le_of_ble_eq_true rfl, h2 fun z => c1 z.1⟩
theorem len_check_operation (K : PySem.W.Frag) : ∀ vs H Q E, sp_check_operation K vs H Q E → vs.length = (["size", "operation", "index"] : List Str).length := by
  rintro vs H Q E ⟨_, _, _, rfl, _⟩
  rfl
theorem rd_check_operation (T : Txt K mg) (vs : List V) (H : Hp) (Q : VK) (E : XK) (h : sp_check_operation K vs H Q E) : t_check_operation K E { nx := fun _ H' => Q .non H', rt := Q } (start ["size", "operation", "index"] vs) H := by
  obtain ⟨n, op, i, rfl, h1, h2⟩ := h
  unfold t_check_operation
  walk_at "g"
  rw [natAbs_if]
  refine w_iteD (fun c1 => ?_) (fun c1 => ?_)
  · walk_at "g"
    refine w_iteN (fun c2 => ?_) (fun c2 => ?_)
    · walk_at "g"
      exact ⟨rfl, Nat.le_of_ble_eq_true rfl, h2 fun z => c2 (by have := z.2; omega)⟩
    · walk_at "g"
      exact h1 ⟨by omega, by omega⟩
  · walk_at "g"
    exact ⟨rfl, Nat.le_of_ble_eq_true rfl, h2 fun z => c1 (by have := z.1; omega)⟩
theorem len_Links_apply_at (K : PySem.W.Frag) : ∀ vs H Q E, sp_Links_apply_at K vs H Q E → vs.length = (["self", "operation", "index"] : List Str).length := by
  rintro vs H Q E ⟨_, _, _, _, _, _, _, rfl, _⟩
  rfl
theorem rd_Links_apply_at (T : Txt K mg) (vs : List V) (H : Hp) (Q : VK) (E : XK) (h : sp_Links_apply_at K vs H Q E) : t_Links_apply_at K E { nx := fun _ H' => Q .non H', rt := Q } (start ["self", "operation", "index", "node", "low", "high", "is_unlink"] vs) H := by
  obtain ⟨p, r, l, o, s, op, i, rfl, a, h1, h2⟩ := h
  unfold t_Links_apply_at
  walk_at "g"
  refine w_me a no_m ?_
  walk_at "g"
  refine ⟨p, r, l, o, s, op, i, rfl, a, fun ok => ?_, h2⟩
  have hi := ok.1
  obtain ⟨i1, i2⟩ := hi
  have w := a.wf
  obtain ⟨r1, r2⟩ := w.rb op.natAbs (by omega)
  obtain ⟨l1, l2⟩ := w.lb op.natAbs i1 (by omega)
  obtain ⟨pr, pl, po⟩ := a.pr
  walk_at "g"
  rw [natAbs_if]
  refine w_fL T.cl_Links T.na_Links__lefts a ?_
  walk_at "g"
  refine w_ixL (SqL.of a.hl) (at_I (by omega) (by rw [w.lL]; omega)) ?_
  walk_at "g"
  refine w_fR T.cl_Links T.na_Links__rights a ?_
  walk_at "g"
  refine w_ixL (SqL.of a.hr) (at_I (by omega) (by rw [w.lR]; omega)) ?_
  walk_at "g"
  have fin : ∀ x y : Int, x = (if op < 0 then gI s.R op.natAbs else (op.natAbs : Int)) → y = (if op < 0 then gI s.L op.natAbs else (op.natAbs : Int)) →
      Q .non (upd (upd (upd H r (.lst ((s.R.map V.int).set (gI s.L op.natAbs).toNat (.int x)))) l (.lst ((s.L.map V.int).set (gI s.R op.natAbs).toNat (.int y)))) o (.lst ((s.O.map V.bl).set op.natAbs (.bl (decide (op < 0)))))) := by
    intro x y ex ey
    refine h1 ok _ ((((Kp.refl _ H).trans (Kp.put (by simp))).trans (Kp.put (by simp))).trans (Kp.put (by simp))) ?_
    obtain ⟨dx, ob⟩ := a.ob
    rw [set_I, set_I, set_B]
    refine ⟨⟨dx, ?_⟩, ?_, ?_, ?_, a.rl, a.ro, a.lo, w.step ok.1⟩
    · rw [upd_ne po, upd_ne pl, upd_ne pr]
      exact ob
    · rw [upd_ne a.ro, upd_ne a.rl, upd_same, ex] <;> rfl
    · rw [upd_ne a.lo, upd_same, ey] <;> rfl
    · rw [upd_same] <;> rfl
  obtain ⟨dx, ob⟩ := a.ob
  have e1 : (op.natAbs : Int).toNat = op.natAbs := Int.toNat_natCast _
  have il : ixN (List.map V.int s.R).length (gI s.L op.natAbs) = some (gI s.L op.natAbs).toNat := ixN_pos (by omega) (by rw [List.length_map, w.lR]; omega)
  have ir : ixN (List.map V.int s.L).length (gI s.R op.natAbs) = some (gI s.R op.natAbs).toNat := ixN_pos (by omega) (by rw [List.length_map, w.lL]; omega)
  have io : ixN (List.map V.bl s.O).length (op.natAbs : Int) = some op.natAbs := by
    rw [ixN_pos (by omega) (by rw [List.length_map, w.lO]; omega), e1]
  rw [e1]
  refine w_iteD (fun c => ?_) (fun c => ?_)
  all_goals
    walk_at "g"
    refine w_oR T.cl_Links T.na_Links__rights ob ?_
    walk_at "g"
    refine w_setL a.hr il ?_
    walk_at "g"
    first
      | refine w_iteD (fun _ => ?_) (fun z => absurd c z)
      | refine w_iteD (fun z => absurd z c) (fun _ => ?_)
    walk_at "g"
    refine w_oL T.cl_Links T.na_Links__lefts (H := upd H r _) (by rw [upd_ne pr]; exact ob) ?_
    walk_at "g"
    refine w_setL (H := upd H r _) (by rw [upd_ne (Ne.symm a.rl)]; exact a.hl) ir ?_
    walk_at "g"
    refine w_oO T.cl_Links T.na_Links__out (H := upd (upd H r _) l _) (by rw [upd_ne pl, upd_ne pr]; exact ob) ?_
    walk_at "g"
    refine w_setL (H := upd (upd H r _) l _) (by rw [upd_ne (Ne.symm a.lo), upd_ne (Ne.symm a.ro)]; exact a.ho) io ?_
    walk_at "g"
  · exact fin _ _ (if_pos c).symm (if_pos c).symm
  · exact fin _ _ (if_neg c).symm (if_neg c).symm
theorem len_Links_apply (K : PySem.W.Frag) : ∀ vs H Q E, sp_Links_apply K vs H Q E → vs.length = (["self", "operation"] : List Str).length := by
  rintro vs H Q E ⟨_, _, _, _, _, _, rfl, _⟩
  rfl
theorem rd_Links_apply (T : Txt K mg) (vs : List V) (H : Hp) (Q : VK) (E : XK) (h : sp_Links_apply K vs H Q E) : t_Links_apply K E { nx := fun _ H' => Q .non H', rt := Q } (start ["self", "operation"] vs) H := by
  obtain ⟨p, r, l, o, s, op, rfl, a, h1, h2⟩ := h
  unfold t_Links_apply
  walk_at "g"
  refine w_me a no_m ?_
  walk_at "g"
  exact ⟨p, r, l, o, s, op, 0, rfl, a, h1, h2⟩
theorem take_snoc {α : Type} {l : List α} {i : Nat} {x : α} (h : l[i]? = some x) : l.take (i + 1) = l.take i ++ [x] := by
  rw [List.take_succ, h] <;> rfl
theorem len_Links_is_legal (K : PySem.W.Frag) : ∀ vs H Q E, sp_Links_is_legal K vs H Q E → vs.length = (["self", "operation"] : List Str).length := by
  rintro vs H Q E ⟨_, _, _, _, _, _, rfl, _⟩
  rfl
theorem rd_Links_is_legal (T : Txt K mg) (vs : List V) (H : Hp) (Q : VK) (E : XK) (h : sp_Links_is_legal K vs H Q E) : t_Links_is_legal K E { nx := fun _ H' => Q .non H', rt := Q } (start ["self", "operation"] vs) H := by
  obtain ⟨p, r, l, o, s, op, rfl, a, hi, k⟩ := h
  unfold t_Links_is_legal
  walk_at "g"
  refine w_fO T.cl_Links T.na_Links__out a ?_
  walk_at "g"
  rw [natAbs_if]
  have hlt : (op.natAbs : Int) < (s.O.length : Int) := by
    rw [a.wf.lO]
    have := hi.2
    omega
  refine w_ixL (SqL.of a.ho) (at_B (by omega) hlt) ?_
  walk_at "g"
  exact k
theorem len_Links_check (K : PySem.W.Frag) : ∀ vs H Q E, sp_Links_check K vs H Q E → vs.length = (["self", "operation", "index"] : List Str).length := by
  rintro vs H Q E ⟨_, _, _, _, _, _, _, rfl, _⟩
  rfl
theorem rd_Links_check (T : Txt K mg) (vs : List V) (H : Hp) (Q : VK) (E : XK) (h : sp_Links_check K vs H Q E) : t_Links_check K E { nx := fun _ H' => Q .non H', rt := Q } (start ["self", "operation", "index"] vs) H := by
  obtain ⟨p, r, l, o, s, op, i, rfl, a, h1, h2⟩ := h
  unfold t_Links_check
  walk_at "g"
  refine w_fS T.cl_Links T.na_Links_size a ?_
  walk_at "g"
  refine ⟨s.n, op, i, rfl, fun hi => ?_, fun hi => ?_⟩
  · walk_at "g"
    refine w_me a no_m ?_
    walk_at "g"
    refine ⟨p, r, l, o, s, op, rfl, a, hi, ?_⟩
    walk_at "g"
    refine w_iteN (fun c => ?_) (fun c => ?_)
    · walk_at "g"
      refine ⟨rfl, Nat.le_of_ble_eq_true rfl, ?_⟩
      have e := h2 fun z => c z.2
      unfold OpE at e
      rw [if_pos hi] at e
      exact e
    · walk_at "g"
      exact h1 ⟨hi, c⟩
  · have e := h2 fun z => hi z.1
    unfold OpE at e
    rw [if_neg hi] at e
    exact e
theorem len__law_integers (K : PySem.W.Frag) : ∀ vs H Q E, sp00__law_integers K vs H Q E → vs.length = (["told", "due"] : List Str).length := by
  rintro vs H Q E ⟨_, _, _, rfl, _⟩
  rfl
theorem rd__law_integers (T : Txt K mg) (vs : List V) (H : Hp) (Q : VK) (E : XK) (h : sp00__law_integers K vs H Q E) : t__law_integers K E { nx := fun _ H' => Q .non H', rt := Q } (start ["told", "due", "k"] vs) H := by
  obtain ⟨a, b, xs, rfl, hl, ha, hb, g⟩ := h
  unfold t__law_integers
  walk_at "g"
  refine w_isiL (r := true) ha (by decide +kernel) ?_
  walk_at "g"
  refine w_lenL (SqL.of ha) ?_
  walk_at "g"
  refine w_lenL (SqL.of hb) ?_
  walk_at "g"
  rw [decide_eq_true rfl]
  walk_at "g"
  refine w_lenL (SqL.of hb) ?_
  walk_at "g"
  refine w_r1 (by rw [List.length_map]; omega) ?_
  refine lp_rng0 (fun i σ H' => H' = H ∧ ∃ v, σ = [some (.ref a), some (.ref b), v]) ⟨rfl, _, rfl⟩ ?_ ?_
  · rintro i σ' H' hi ⟨rfl, v, rfl⟩
    rw [List.length_map] at hi
    have li : i < xs.length := by omega
    have e1 := at_I (l := xs) (i := (i : Int)) (by omega) (by omega)
    walk_at "g"
    refine w_ixL (SqL.of ha) e1 ?_
    walk_at "g"
    refine w_ixL (SqL.of hb) e1 ?_
    walk_at "g"
    refine ⟨_, rfl, ?_⟩
    walk_at "g"
    exact ⟨rfl, _, rfl⟩
  · rintro σ' H' ⟨rfl, v, rfl⟩
    walk_at "g"
    exact g
theorem len__law_size (K : PySem.W.Frag) : ∀ vs H Q E, sp02__law_size K vs H Q E → vs.length = (["box"] : List Str).length := by
  rintro vs H Q E ⟨_, _, rfl, _⟩
  rfl
theorem rd__law_size (T : Txt K mg) (vs : List V) (H : Hp) (Q : VK) (E : XK) (h : sp02__law_size K vs H Q E) : t__law_size K E { nx := fun _ H' => Q .non H', rt := Q } (start ["box", "kind"] vs) H := by
  obtain ⟨b, c, rfl, bx, g⟩ := h
  unfold t__law_size
  walk_at "g"
  refine ⟨b, c, 8, rfl, by omega, by omega, bx, fun d H1 d0 d1 k1 b1 => ?_⟩
  have fin : ∀ (x : Int) H', 0 ≤ x → x ≤ 60 → Kp [b] H H' → BxI H' b c → Q (.int x) H' := fun x H' x0 x1 k bb => by
    obtain ⟨n, rfl⟩ : ∃ n : Nat, x = (n : Int) := ⟨x.toNat, by omega⟩
    exact g n H' (by omega) k bb
  walk_at "g"
  refine w_iteD (fun c1 => ?_) (fun c1 => ?_)
  · walk_at "g"
    refine ⟨b, c, 61, rfl, by omega, by omega, b1, fun e H2 e0 e1 k2 b2 => ?_⟩
    exact fin _ H2 (by omega) (by omega) (k1.trans k2) b2
  walk_at "g"
  refine w_iteD (fun c1 => ?_) (fun c1 => ?_)
  · walk_at "g"
    refine ⟨b, c, 3, rfl, by omega, by omega, b1, fun e H2 e0 e1 k2 b2 => ?_⟩
    exact fin _ H2 (by omega) (by omega) (k1.trans k2) b2
  · walk_at "g"
    exact fin _ H1 (by omega) (by omega) k1 b1
theorem len__law_far_size (K : PySem.W.Frag) : ∀ vs H Q E, sp02__law_far_size K vs H Q E → vs.length = (["box"] : List Str).length := by
  rintro vs H Q E ⟨_, _, rfl, _⟩
  rfl
theorem rd__law_far_size (T : Txt K mg) (vs : List V) (H : Hp) (Q : VK) (E : XK) (h : sp02__law_far_size K vs H Q E) : t__law_far_size K E { nx := fun _ H' => Q .non H', rt := Q } (start ["box"] vs) H := by
  obtain ⟨b, c, rfl, bx, g⟩ := h
  unfold t__law_far_size
  walk_at "g"
  refine ⟨b, c, 2, rfl, by omega, by omega, bx, fun d H1 d0 d1 k1 b1 => ?_⟩
  walk_at "g"
  refine w_iteD (fun c1 => ?_) (fun c1 => ?_)
  · walk_at "g"
    refine ⟨b, c, 4, rfl, by omega, by omega, b1, fun x H2 x0 x1 k2 b2 => ?_⟩
    walk_at "g"
    refine ⟨10, 9, rfl, rfl, ⟨by omega, by omega, by decide⟩, ?_⟩
    refine ⟨b, c, (10 : Int) ^ (9 : Int).toNat, rfl, by decide, by decide, b2, fun y H3 y0 y1 k3 b3 => ?_⟩
    walk_at "g"
    refine .inl ⟨x, 1 + y, rfl, rfl, .inl ⟨by omega, by omega⟩, ?_⟩
    walk_at "g"
    have m : 0 ≤ x * (1 + y) := Int.mul_nonneg x0 (by omega)
    exact g (61 + x * (1 + y)) H3 (fun z => by have := z.2; omega) ((k1.trans k2).trans k3) b3
  · walk_at "g"
    refine ⟨b, c, 4, rfl, by omega, by omega, b1, fun x H2 x0 x1 k2 b2 => ?_⟩
    walk_at "g"
    refine ⟨10, 9, rfl, rfl, ⟨by omega, by omega, by decide⟩, ?_⟩
    refine ⟨b, c, (10 : Int) ^ (9 : Int).toNat, rfl, by decide, by decide, b2, fun y H3 y0 y1 k3 b3 => ?_⟩
    walk_at "g"
    refine .inl ⟨x, 1 + y, rfl, rfl, .inl ⟨by omega, by omega⟩, ?_⟩
    walk_at "g"
    have m : 0 ≤ x * (1 + y) := Int.mul_nonneg x0 (by omega)
    exact g (-1 - x * (1 + y)) H3 (fun z => by have := z.1; omega) ((k1.trans k2).trans k3) b3
theorem len__on_node (K : PySem.W.Frag) : ∀ vs H Q E, sp04__on_node K vs H Q E → vs.length = (["operation", "node"] : List Str).length := by
  rintro vs H Q E ⟨_, _, rfl, _⟩
  rfl
theorem rd__on_node (T : Txt K mg) (vs : List V) (H : Hp) (Q : VK) (E : XK) (h : sp04__on_node K vs H Q E) : t__on_node K E { nx := fun _ H' => Q .non H', rt := Q } (start ["operation", "node"] vs) H := by
  obtain ⟨op, v, rfl, g⟩ := h
  unfold t__on_node
  walk_at "g"
  refine w_iteD (fun c => ?_) (fun c => ?_)
  · rw [if_pos (show op > 0 from c)] at g
    walk_at "g"
    exact g
  · rw [if_neg (show ¬ op > 0 from c)] at g
    walk_at "g"
    exact g
end
end G

set_option Elab.async false
set_option linter.all false
set_option maxRecDepth 100000
set_option maxHeartbeats 1000000
namespace G
--#FAM KM
open PySem PySem.Spec PyProof.Rows L2
local macro_rules
  | `(tactic| walk_at "1") => `(tactic| first
    | with_reducible refine w_seq ?_
    | with_reducible refine w_asg ?_
    | with_reducible refine w_asgS ?_
    | with_reducible refine w_asf ?_
    | with_reducible refine w_drop ?_
    | with_reducible refine w_ret ?_
    | with_reducible refine w_if ?_
    | with_reducible refine w_not ?_
    | with_reducible refine w_and ?_
    | with_reducible refine w_or ?_
    | with_reducible refine w_test ?_
    | with_reducible refine w_tb ?_
    | with_reducible refine w_chain ?_
    | with_reducible refine w_op ?_
    | with_reducible refine w_un ?_
    | with_reducible refine w_andV ?_
    | with_reducible refine w_orV ?_
    | with_reducible refine w_notV ?_
    | with_reducible refine w_ifE ?_
    | with_reducible refine w_cons ?_
    | with_reducible refine w_nil ?_
    | with_reducible refine w_cb ?_
    | with_reducible refine w_cl ?_
    | with_reducible refine w_mt ?_
    | with_reducible refine w_fld ?_
    | with_reducible refine w_tupN ?_
    | with_reducible refine w_lstN ?_
    | with_reducible refine w_bm ?_
    | with_reducible refine w_bm0 ?_
    | with_reducible refine w_for ?_
    | with_reducible refine w_lc ?_
    | with_reducible refine w_iR1 ?_
    | with_reducible refine w_iR2 ?_
    | with_reducible refine w_iL ?_
    | with_reducible refine w_iT ?_
    | with_reducible refine w_iE ?_
    | with_reducible refine w_iZ ?_
    | with_reducible refine w_var (by with_unfolding_all rfl) ?_
    | with_reducible refine w_c ?_
    | with_reducible refine w_next ?_
    | with_reducible refine w_i0 ?_
    | with_reducible refine w_u1 ?_
    | with_reducible refine w_addI ?_
    | with_reducible refine w_eqI ?_
    | with_reducible refine w_eqS ?_
    | with_reducible refine w_eqB ?_
    | with_reducible refine w_neI ?_
    | with_reducible refine w_neS ?_
    | with_reducible refine w_neB ?_
    | with_reducible refine w_abs ?_
    | with_reducible refine w_intI ?_
    | with_reducible refine w_min2 ?_
    | with_reducible refine w_max2 ?_
    | with_reducible refine w_isN0 ?_
    | with_reducible refine w_isN1 ref_ne ?_
    | with_reducible refine w_isN1 int_ne ?_
    | with_reducible refine w_notN0 ?_
    | with_reducible refine w_notN1 ref_ne ?_
    | with_reducible refine w_notN1 int_ne ?_
    | with_reducible refine w_ex1 ?_
    | with_reducible refine w_n1 ?_
    | with_reducible refine w_n2 ?_
    | with_reducible refine w_tT ?_
    | with_reducible refine w_tF ?_
    | with_reducible refine w_nT ?_
    | with_reducible refine w_nF ?_
    | with_reducible refine w_rz ?_
    | with_reducible refine w_mkN ?_
    | with_reducible refine w_lrgN ?_
    | with_reducible refine w_rg1 ?_
    | with_reducible refine w_rg2 ?_
    | with_reducible refine w_sl ?_
    | with_reducible refine w_np ?_
    | with_reducible refine w_pt ?_
    | with_reducible refine w_tr ?_
    | with_reducible refine w_gn ?_
    | with_reducible refine w_yes ?_
    | with_reducible refine w_m1 ?_
    | with_reducible refine w_asu ?_
    | with_reducible refine w_exS ?_
    | with_reducible refine w_iS ?_
    | with_reducible refine w_g1 ?_
    | with_reducible refine w_gc ?_
    | with_reducible refine w_gt (SqT.of upd_same) rfl ?_)
local macro_rules
  | `(tactic| walk_at "g") => `(tactic| repeat walk_at "1")
local macro_rules
  | `(tactic| walk_at "j1") => `(tactic| first
    | with_reducible refine w_seqI ?_
    | walk_at "1")
local macro_rules
  | `(tactic| walk_at "j") => `(tactic| repeat walk_at "j1")
section
variable {K : PySem.W.Frag} {mg : Str → Option Value}
section
variable {σ : L2.St} {H : Hp} {Q : VK} {ta tb tc td te : TE} {r1 r2 r3 : R2}
theorem w_chain3 (h : ta σ H fun x H1 => tb σ H1 fun y H2 => r1 x y H2 fun z H3 => ∃ k, z = .bl k ∧ (if k = true then tc σ H3 fun v H4 => r2 y v H4 fun z' H5 => ∃ k', z' = .bl k' ∧ (if k' = true then td σ H5 fun w H6 => r3 v w H6 Q else Q (.bl false) H5) else Q (.bl false) H3)) : tChain3 r1 r2 r3 ta tb tc td σ H Q := h
theorem w_setI {w : World} {wi : TI} {g : TG} {vs : List Nat} (h : wi σ H fun J H1 => SetG w J g te vs σ Q H1) : tSetI w wi g te vs σ H Q := h
end
theorem Prs.init {H : Hp} {ts : List Addr} {ps : List (Int × Int)} {t : Addr} {p : Int × Int} (h : Prs H (ts ++ [t]) (ps ++ [p])) : Prs H ts ps ∧ H t = some (.tup [.int p.1, .int p.2]) := by
  obtain ⟨h1, h2⟩ := h
  have hl : ts.length = ps.length := by simpa using h1
  refine ⟨⟨hl, fun i u q a b => h2 i u q ?_ ?_⟩, h2 ts.length t p ?_ ?_⟩
  · rw [List.getElem?_append_left (List.getElem?_eq_some_iff.mp a).1]
    exact a
  · rw [List.getElem?_append_left (List.getElem?_eq_some_iff.mp b).1]
    exact b
  · simp
  · rw [hl]
    simp
theorem len__check_operations (K : PySem.W.Frag) : ∀ vs H Q E, sp01__check_operations K vs H Q E → vs.length = (["size", "log"] : List Str).length := by
  rintro vs H Q E ⟨_, _, _, rfl, _⟩
  rfl
theorem rd__check_operations (T : Txt K mg) (vs : List V) (H : Hp) (Q : VK) (E : XK) (h : sp01__check_operations K vs H Q E) : t__check_operations K E { nx := fun _ H' => Q .non H', rt := Q } (start ["size", "log", "index", "operation"] vs) H := by
  obtain ⟨size, a, log, rfl, hs, g, ge⟩ := h
  unfold t__check_operations
  walk_at "g"
  refine ⟨size, rfl, fun sok => ?_, fun z => ge.1 z H (Kp.refl _ _)⟩
  obtain ⟨n, rfl⟩ : ∃ n : Nat, size = (n : Int) := ⟨size.toNat, by have := sok.1; omega⟩
  walk_at "g"
  refine ⟨a, _, rfl, hs, lp_enum (xs := log.map V.int) (fun i σ H' => (∃ u v, σ = [some (.int (n : Int)), some (.ref a), u, v]) ∧ (∀ x ∈ log.take i, IsOp n x) ∧ Kp [] H H') ⟨⟨_, _, rfl⟩, fun x hx => (by simp at hx), Kp.refl _ _⟩ ?_ ?_ ?_⟩
  · rintro i σ' H' hi ⟨_, _, k⟩
    exact k.sql (by simp) hs
  · rintro i x T1 σ' H' hx ⟨⟨u, v, rfl⟩, ok, k⟩ nT
    obtain ⟨op, hop, rfl⟩ := at_map hx
    have kT : Kp [] H' (upd H' T1 (.tup [.int (i : Int), .int op])) := Kp.new nT
    walk_at "g"
    refine ⟨n, op, i, rfl, fun io => ?_, fun z => ge.2 sok i op hop ok z _ (k.trans kT)⟩
    walk_at "g"
    refine ⟨⟨_, _, rfl⟩, fun y hy => ?_, k.trans kT⟩
    rw [take_snoc hop] at hy
    rcases List.mem_append.mp hy with z | z
    · exact ok y z
    · rw [List.mem_singleton.mp z]
      exact io
  · rintro σ' H' ⟨⟨u, v, rfl⟩, ok, k⟩
    rw [List.length_map, List.take_length] at ok
    walk_at "g"
    exact g ⟨sok, ok⟩ H' k
theorem len_mirror (K : PySem.W.Frag) : ∀ vs H Q E, sp01_mirror K vs H Q E → vs.length = (["size", "log"] : List Str).length := by
  rintro vs H Q E ⟨_, _, _, rfl, _⟩
  rfl
theorem rd_mirror (T : Txt K mg) (vs : List V) (H : Hp) (Q : VK) (E : XK) (h : sp01_mirror K vs H Q E) : t_mirror K E { nx := fun _ H' => Q .non H', rt := Q } (start ["size", "log", "operation"] vs) H := by
  obtain ⟨size, a, log, rfl, ha, hl, g, ge⟩ := h
  unfold t_mirror
  walk_at "g"
  refine ⟨size, a, log, rfl, SqL.of ha, fun ok H1 k1 => ?_, ge⟩
  obtain ⟨n, rfl⟩ : ∃ n : Nat, size = (n : Int) := ⟨size.toNat, by have := ok.1.1; omega⟩
  have ho : ∀ op ∈ log, IsOp n op := ok.2
  walk_at "g"
  refine w_l1 (SqL.of (k1.at0 ha)) ?_
  refine cp_lst (SqL.of (k1.at0 ha)) (fun i => ((log.take i).map (opp n)).map V.int) (fun i hi => sz_lt (by rw [List.length_map, List.length_map, List.length_take]; rw [List.length_map] at hi; omega)) rfl (fun i x H' S N hx k y _ => ?_) (fun D H2 nD k2 hD => ?_)
  · obtain ⟨op, hop, rfl⟩ := at_map hx
    have io := ho op (List.mem_of_getElem? hop)
    obtain ⟨a1, a2, a3, a4⟩ := opp_abs io
    walk_at "g"
    refine ⟨rfl, ?_⟩
    walk_at "g"
    rw [natAbs_if]
    walk_at "g"
    refine ⟨op, _, rfl, ?_⟩
    rw [← a4]
    refine y _ _ (Kp.refl _ _) ?_
    rw [take_snoc hop, List.map_append, List.map_append] <;> rfl
  · rw [List.length_map, List.take_length] at hD
    exact g ok D H2 (k1.free0 nD) (k1.trans k2) hD
theorem len_strikes (K : PySem.W.Frag) : ∀ vs H Q E, sp01_strikes K vs H Q E → vs.length = (["size", "log"] : List Str).length := by
  rintro vs H Q E ⟨_, _, _, rfl, _⟩
  rfl
theorem rd_strikes (T : Txt K mg) (vs : List V) (H : Hp) (Q : VK) (E : XK) (h : sp01_strikes K vs H Q E) : t_strikes K E { nx := fun _ H' => Q .non H', rt := Q } (start ["size", "log", "links", "struck", "index", "operation"] vs) H := by
  obtain ⟨size, a, log, rfl, ha, hl, g, ge⟩ := h
  unfold t_strikes
  walk_at "g"
  refine mk fun q dx H1 nq hq k1 => ?_
  refine ⟨q, dx, size, rfl, hq, fun sok r l o H2 nr nl no k2 la => ⟨rfl, ?_⟩, fun z => ge.1 z H1 k1⟩
  have k02 : Kp [] H H2 := (k1.all.trans k2).cut1 nq
  walk_at "g"
  refine ⟨size, a, log, rfl, SqL.of (k02.at0 ha), fun ok H3 k3 => ?_, ge.k0 k02⟩
  obtain ⟨n, rfl⟩ : ∃ n : Nat, size = (n : Int) := ⟨size.toNat, by have := sok.1; omega⟩
  have ho : ∀ op ∈ log, IsOp n op := ok.2
  have la3 : LinksAt K H3 q r l o (wholeS n) := la.k0 k3
  walk_at "g"
  refine ⟨sz_ok (by show 0 ≤ 1000000; omega), nw fun t H4 nt k4 ht => ?_⟩
  have k04 := (k02.trans k3).trans k4
  have la4 := la3.k0 k4
  have tq : q ≠ t := ne_of_none (la3.ob.choose_spec) nt
  have tr : r ≠ t := ne_of_none la3.hr nt
  have tl : l ≠ t := ne_of_none la3.hl nt
  have to : o ≠ t := ne_of_none la3.ho nt
  have ar : a ≠ r := ne_of_none (k1.at0 ha) nr
  have al : a ≠ l := ne_of_none (k1.at0 ha) nl
  have ao : a ≠ o := ne_of_none (k1.at0 ha) no
  have at' : a ≠ t := ne_of_none ((k02.trans k3).at0 ha) nt
  walk_at "g"
  refine ⟨a, _, rfl, SqL.of (k04.at0 ha), lp_enum (xs := log.map V.int) (fun i σ H' => (∃ u v, σ = [some (.int (n : Int)), some (.ref a), some (.ref q), some (.ref t), u, v]) ∧ Kp [r, l, o, t] H4 H' ∧ LinksAt K H' q r l o (runS (wholeS n) (strk n (log.take i)).1) ∧ H' t = some (.lst ((strk n (log.take i)).2.map V.int))) ⟨⟨_, _, rfl⟩, Kp.refl _ _, la4, ht⟩ ?_ ?_ ?_⟩
  · rintro i σ' H' hi ⟨_, k, _⟩
    exact SqL.of (k _ _ (by simp [ar, al, ao, at']) (k04.at0 ha))
  · rintro i x T1 σ' H' hx ⟨⟨u, v, rfl⟩, k, lk, hk⟩ nT
    obtain ⟨op, hop, rfl⟩ := at_map hx
    have kT : Kp [] H' (upd H' T1 (.tup [.int (i : Int), .int op])) := Kp.new nT
    have isop := ho op (List.mem_of_getElem? hop)
    have lk1 := lk.k0 kT
    have sl := strk_len n (log.take i)
    rw [List.length_take] at sl
    have il : i < log.length := (List.getElem?_eq_some_iff.mp hop).1
    walk_at "g"
    refine w_me lk1 no_m ?_
    walk_at "g"
    refine ⟨q, r, l, o, _, op, rfl, lk1, by rw [runS_n]; exact isop, ?_⟩
    walk_at "g"
    refine w_iteD (fun c => ?_) (fun c => ?_)
    · have e : strk n (log.take (i + 1)) = ((strk n (log.take i)).1 ++ [op], (strk n (log.take i)).2) := by
        rw [take_snoc hop, strk_snoc]
        unfold strG
        rw [if_pos (show okB _ op = true from decide_eq_true c)]
      walk_at "g"
      refine w_me lk1 no_m ?_
      walk_at "g"
      refine ⟨q, r, l, o, _, op, rfl, lk1, fun _ H5 k5 lk5 => ?_, fun z => absurd ⟨by rw [runS_n]; exact isop, c⟩ z⟩
      walk_at "g"
      refine ⟨⟨_, _, rfl⟩, (k.trans kT.all).trans (k5.mono (by simp)), ?_, ?_⟩
      · rw [e, runS_snoc]
        exact lk5
      · rw [e]
        exact k5 t _ (by simp [tr.symm, tl.symm, to.symm]) (kT.at0 hk)
    · have e : strk n (log.take (i + 1)) = ((strk n (log.take i)).1, (strk n (log.take i)).2 ++ [(i : Int)]) := by
        rw [take_snoc hop, strk_snoc]
        unfold strG
        rw [if_neg (show ¬ okB _ op = true from fun z => c (of_decide_eq_true z)), sl, Nat.min_eq_left (by omega)]
      have hk1 := kT.at0 hk
      walk_at "g"
      refine ⟨w_ty (SqL.of hk1), ?_⟩
      walk_at "g"
      refine w_apT hk1 (sz_lt (by rw [List.length_map]; omega)) fun H5 k5 hk5 => ?_
      walk_at "g"
      refine ⟨⟨_, _, rfl⟩, (k.trans kT.all).trans (k5.mono (by simp)), ?_, ?_⟩
      · rw [e]
        exact lk1.kp k5 (by simpa using tq) (by simpa using tr) (by simpa using tl) (by simpa using to)
      · rw [e, hk5, List.map_append] <;> rfl
  · rintro σ' H' ⟨⟨u, v, rfl⟩, k, lk, hk⟩
    rw [List.length_map, List.take_length] at hk
    walk_at "g"
    have k0 : Kp [] H H' := Kp.cut (k04.all.trans k) (by simp [k1.free0 nr, k1.free0 nl, k1.free0 no, (k02.trans k3).free0 nt])
    exact g ok t H' ((k02.trans k3).free0 nt) k0 hk
theorem len_first_illegal (K : PySem.W.Frag) : ∀ vs H Q E, sp01_first_illegal K vs H Q E → vs.length = (["size", "log"] : List Str).length := by
  rintro vs H Q E ⟨_, _, _, rfl, _⟩
  rfl
theorem rd_first_illegal (T : Txt K mg) (vs : List V) (H : Hp) (Q : VK) (E : XK) (h : sp01_first_illegal K vs H Q E) : t_first_illegal K E { nx := fun _ H' => Q .non H', rt := Q } (start ["size", "log", "struck"] vs) H := by
  obtain ⟨size, a, log, rfl, ha, hl, g, ge⟩ := h
  unfold t_first_illegal
  walk_at "g"
  refine ⟨size, a, log, rfl, ha, hl, fun ok q H1 nq k1 hq => ?_, ge⟩
  have g := g ok H1 k1
  walk_at "g"
  refine w_truL (SqL.of hq) ?_
  cases e : (strk size.toNat log).2 with
  | nil =>
    rw [e] at g hq
    walk_at "g"
    exact g
  | cons k ks =>
    rw [e] at g hq
    show if true = true then _ else _
    walk_at "g"
    refine w_ixL (SqL.of hq) at_0 ?_
    walk_at "g"
    exact g
theorem len_block_part (K : PySem.W.Frag) : ∀ vs H Q E, sp01_block_part K vs H Q E → vs.length = (["size", "log", "low", "high"] : List Str).length := by
  rintro vs H Q E ⟨_, _, _, _, _, rfl, _⟩
  rfl
theorem rd_block_part (T : Txt K mg) (vs : List V) (H : Hp) (Q : VK) (E : XK) (h : sp01_block_part K vs H Q E) : t_block_part K E { nx := fun _ H' => Q .non H', rt := Q } (start ["size", "log", "low", "high", "operation"] vs) H := by
  obtain ⟨size, a, log, low, high, rfl, ha, hl, g, ge, gr⟩ := h
  unfold t_block_part
  walk_at "g"
  refine ⟨size, a, log, rfl, SqL.of ha, fun ok H1 k1 => ?_, ge⟩
  have g := g ok
  have gr := gr ok
  obtain ⟨n, rfl⟩ : ∃ n : Nat, size = (n : Int) := ⟨size.toNat, by have := ok.1.1; omega⟩
  have ho : ∀ op ∈ log, IsOp n op := ok.2
  walk_at "g"
  refine w_chain3 ?_
  have bad : ∀ (W : XK), (W = fun cls d H => E cls d H) → ¬ RgOk low high n → True := fun _ _ _ => trivial
  walk_at "g"
  refine w_iteD (fun c1 => ?_) (fun c1 => ?_)
  · walk_at "g"
    refine w_iteD (fun c2 => ?_) (fun c2 => ?_)
    · walk_at "g"
      refine w_iteN (fun c3 => ?_) (fun c3 => ?_)
      · walk_at "g"
        refine ⟨rfl, Nat.le_of_ble_eq_true rfl, ?_⟩
        exact gr (fun z => c3 z.2.2) H1 k1
      · walk_at "g"
        have g := g ⟨c1, c2, c3⟩
        refine w_l1 (SqL.of (k1.at0 ha)) ?_
        refine cp_lst (SqL.of (k1.at0 ha)) (fun i => (partL low high (log.take i)).map V.int) (fun i hi => sz_lt (by
          have := partL_len low high (log.take i)
          rw [List.length_take] at this
          rw [List.length_map]
          omega)) rfl (fun i x H' S N hx k y no => ?_) (fun D H2 nD k2 hD => ?_)
        · obtain ⟨op, hop, rfl⟩ := at_map hx
          walk_at "g"
          refine ⟨rfl, ?_⟩
          walk_at "g"
          rw [natAbs_if]
          have on : (if op > 0 then (op.natAbs : Int) - low + 1 else -((op.natAbs : Int) - low + 1)) = (if op > 0 then (op.natAbs : Int) - low + 1 else -((op.natAbs : Int) - low + 1)) := rfl
          have nope : ¬ (low ≤ (op.natAbs : Int) ∧ (op.natAbs : Int) ≤ high) → N H' := fun z => no H' (Kp.refl _ _) (by rw [take_snoc hop, partL_snoc, if_neg z, List.append_nil])
          refine w_iteD (fun c4 => ?_) (fun c4 => ?_)
          · walk_at "g"
            refine w_iteD (fun c5 => ?_) (fun c5 => ?_)
            · walk_at "g"
              rw [natAbs_if]
              walk_at "g"
              refine ⟨op, _, rfl, ?_⟩
              refine y _ _ (Kp.refl _ _) ?_
              rw [take_snoc hop, partL_snoc, if_pos ⟨c4, c5⟩, List.map_append] <;> rfl
            · exact nope fun z => c5 z.2
          · walk_at "g"
            exact nope fun z => c4 z.1
        · rw [List.length_map, List.take_length] at hD
          exact g D H2 (k1.free0 nD) (k1.trans k2) hD
    · walk_at "g"
      refine ⟨rfl, Nat.le_of_ble_eq_true rfl, ?_⟩
      exact gr (fun z => c2 z.2.1) H1 k1
  · walk_at "g"
    refine ⟨rfl, Nat.le_of_ble_eq_true rfl, ?_⟩
    exact gr (fun z => c1 z.1) H1 k1
theorem len_blocks (K : PySem.W.Frag) : ∀ vs H Q E, sp01_blocks K vs H Q E → vs.length = (["size", "log"] : List Str).length := by
  rintro vs H Q E ⟨_, _, _, rfl, _⟩
  rfl
theorem rd_blocks (w : World) (T : Txt K mg) (vs : List V) (H : Hp) (Q : VK) (E : XK) (h : sp01_blocks K vs H Q E) : t_blocks K w E { nx := fun _ H' => Q .non H', rt := Q } (start ["size", "log", "ranges", "node", "operation"] vs) H := by
  obtain ⟨size, a, log, rfl, ha, hl, g, ge⟩ := h
  unfold t_blocks
  walk_at "g"
  refine ⟨size, a, log, rfl, SqL.of ha, fun ok H1 k1 => ?_, ge⟩
  obtain ⟨n, rfl⟩ : ∃ n : Nat, size = (n : Int) := ⟨size.toNat, by have := ok.1.1; omega⟩
  have ho : ∀ op ∈ log, IsOp n op := ok.2
  walk_at "g"
  refine ⟨sz_ok (by show 0 ≤ 1000000; omega), nw fun t H2 nt k2 ht => ?_⟩
  have ha2 := (k1.trans k2).at0 ha
  walk_at "g"
  refine w_setI ?_
  walk_at "g"
  refine w_l1 (SqL.of ha2) ?_
  refine sg_lst (fun i => ((log.getD i 0).natAbs : Int)) (SqL.of ha2) (by rw [List.length_map]; unfold scanBound; omega) (fun i x H' hx k => ?_) (fun D S c nD hS hc => ?_)
  · obtain ⟨op, hop, rfl⟩ := at_map hx
    walk_at "g"
    refine ⟨rfl, ?_⟩
    walk_at "g"
    rw [natAbs_if]
    exact ⟨by rw [List.getD_eq_getElem?_getD, hop] <;> rfl, rfl⟩
  walk_at "g"
  rw [List.length_map] at hc
  refine ⟨D, S, c, rfl, upd_same, by omega, fun ns p hp hm hlen np => ?_⟩
  have k3 : Kp [] H2 (setH w H2 D S c) := Kp.new nD
  have k4 : Kp [] (setH w H2 D S c) (upd (setH w H2 D S c) p (.lst (ns.map V.int))) := Kp.new np
  have hp4 : upd (setH w H2 D S c) p (.lst (ns.map V.int)) p = some (.lst (ns.map V.int)) := upd_same
  have k24 := k3.trans k4
  generalize upd (setH w H2 D S c) p (.lst (ns.map V.int)) = H4 at k4 hp4 k24 ⊢
  have e : ns = actN (actB log) n := act_sorted ho hp fun k => (hm k).trans ((hS k).trans (by rw [List.length_map]))
  have pt : p ≠ t := fun z => by
    have := k3.at0 ht
    rw [z, this] at np
    cases np
  have k04 := (k1.trans k2).trans k24
  walk_at "g"
  refine w_l1 (SqL.of hp4) ?_
  refine lp_lst (xs := ns.map V.int) (fun i σ H' => (∃ u v, σ = [some (.int (n : Int)), some (.ref a), some (.ref t), u, v]) ∧ Kp [t] H4 H' ∧ ∃ ts, H' t = some (.lst (ts.map V.ref)) ∧ Prs H' ts (rngP (ns.take i)) ∧ ts.length ≤ i) ⟨⟨_, _, rfl⟩, Kp.refl _ _, [], k24.at0 ht, Prs.nil _, Nat.le_refl _⟩ ?_ ?_ ?_
  · rintro i σ' H' hi ⟨_, k, _⟩
    exact SqL.of (k.at1 pt hp4)
  · rintro i x σ' H' hx ⟨⟨u, v, rfl⟩, k, ts, hts, ps, tl⟩
    obtain ⟨m, hm', rfl⟩ := at_map hx
    have il : i < ns.length := (List.getElem?_eq_some_iff.mp hm').1
    have en : rngP (ns.take (i + 1)) = rngG (rngP (ns.take i)) m := by rw [take_snoc hm', rngP_snoc]
    have add : ∀ (ts : List Addr) (H1 : Hp), Kp [t] H4 H1 → H1 t = some (.lst (ts.map V.ref)) → Prs H1 ts (rngP (ns.take i)) → ts.length ≤ i → rngP (ns.take (i + 1)) = rngP (ns.take i) ++ [(m, m)] →
        ∀ (F : Hp → Prop), (∀ H5 ts, Kp [t] H4 H5 → H5 t = some (.lst (ts.map V.ref)) → Prs H5 ts (rngP (ns.take (i + 1))) → ts.length ≤ i + 1 → F H5) →
        (tyV K "list" (.ref t) H1 ∧ tCons (tTup (tCons (tVar 3) (tCons (tVar 3) tNil))) tNil [some (.int (n : Int)), some (.ref a), some (.ref t), some (.int m), v] H1 fun xs H2 => rAppend (.ref t) xs H2 fun _ H3 => F H3) := by
      intro ts H1 k1 hts ps tl er R hR
      refine ⟨w_ty (SqL.of hts), ?_⟩
      walk_at "g"
      refine ⟨sz_ok (by show 2 ≤ 1000000; omega), nw fun t2 H5 nt2 k5 ht2 => ?_⟩
      walk_at "g"
      refine w_apT (k5.at0 hts) (sz_lt (by rw [List.length_map]; omega)) fun H6 k6 hk6 => ?_
      walk_at "g"
      have t2t : t2 ≠ t := (ne_of_none hts nt2).symm
      refine hR H6 (ts ++ [t2]) ((k1.trans k5.all).trans k6) (by rw [hk6, List.map_append] <;> rfl) ?_ (by rw [List.length_append, List.length_singleton]; omega)
      rw [er]
      exact Prs.snoc ((ps.k0 k5).kpL (k5.at0 hts) k6) (k6.at1 t2t ht2)
    walk_at "g"
    rcases List.eq_nil_or_concat ts with rfl | ⟨ts', t1, rfl⟩
    · have e0 : rngP (ns.take i) = [] := List.eq_nil_of_length_eq_zero ps.1.symm
      refine w_truL (SqL.of hts) ?_
      show if false = true then _ else _
      walk_at "g"
      refine add [] H' k hts ps tl (by rw [en, e0]; rfl) _ fun H5 ts k5 h5 p5 l5 => ?_
      exact ⟨⟨_, _, rfl⟩, k5, ts, h5, p5, l5⟩
    · rcases List.eq_nil_or_concat (rngP (ns.take i)) with e0 | ⟨ps', ⟨x, y⟩, e0⟩
      · have := ps.1
        rw [e0] at this
        simp at this
      rw [List.concat_eq_append] at e0
      rw [List.concat_eq_append] at hts ps tl
      have ps0 := ps
      rw [e0] at ps0
      obtain ⟨pi, ht1⟩ := ps0.init
      have hl1 : ((ts' ++ [t1]).map V.ref).getLast? = some (.ref t1) := by rw [List.map_append, List.map_singleton, List.getLast?_concat]
      have t1t : t1 ≠ t := fun z => by rw [z, hts] at ht1; cases ht1
      refine w_truL (SqL.of hts) ?_
      rw [show (!((ts' ++ [t1]).map V.ref).isEmpty) = true by rw [List.map_append]; cases (ts'.map V.ref) <;> rfl]
      walk_at "g"
      refine w_ixL (SqL.of hts) (at_last hl1) ?_
      walk_at "g"
      refine w_ixT (SqT.of ht1) (i := 1) (v := .int y) rfl ?_
      walk_at "g"
      refine w_iteD (fun c => ?_) (fun c => ?_)
      · walk_at "g"
        refine w_ixL (SqL.of hts) (at_last hl1) ?_
        walk_at "g"
        refine w_ixT (SqT.of ht1) (i := 0) (v := .int x) rfl ?_
        walk_at "g"
        refine ⟨sz_ok (by show 2 ≤ 1000000; omega), nw fun t2 H5 nt2 k5 ht2 => ?_⟩
        walk_at "g"
        have t2t : t2 ≠ t := (ne_of_none hts nt2).symm
        refine w_setL (n := ts'.length) (k5.at0 hts) (by rw [List.length_map, List.length_append, List.length_singleton]; unfold ixN; rw [if_neg (by omega), if_pos (by omega)]; congr 1; omega) ?_
        have k6 : Kp [t] H5 (upd H5 t (.lst (((ts' ++ [t1]).map V.ref).set ts'.length (.ref t2)))) := Kp.put (by simp)
        have h6 : upd H5 t (.lst (((ts' ++ [t1]).map V.ref).set ts'.length (.ref t2))) t = some (.lst ((ts' ++ [t2]).map V.ref)) := by
          rw [upd_same, List.map_append, List.map_append, List.set_append_right _ _ (by rw [List.length_map]; omega), List.length_map, Nat.sub_self]
          rfl
        generalize upd H5 t (.lst (((ts' ++ [t1]).map V.ref).set ts'.length (.ref t2))) = H6 at k6 h6 ⊢
        walk_at "g"
        refine ⟨⟨_, _, rfl⟩, (k.trans k5.all).trans k6, ts' ++ [t2], h6, ?_, by rw [List.length_append, List.length_singleton] at tl ⊢; omega⟩
        rw [en, e0, rngG_on c]
        exact Prs.snoc ((pi.k0 k5).kpL (k5.at0 hts) k6) (k6.at1 t2t ht2)
      · walk_at "g"
        have er : rngP (ns.take (i + 1)) = rngP (ns.take i) ++ [(m, m)] := by
          rw [en, e0]
          unfold rngG
          rw [List.getLast?_concat]
          dsimp only
          rw [if_neg c]
        refine add _ H' k hts ps tl er _ fun H5 ts k5 h5 p5 l5 => ?_
        exact ⟨⟨_, _, rfl⟩, k5, ts, h5, p5, l5⟩
  · rintro σ' H' ⟨⟨u, v, rfl⟩, k, ts, hts, ps, tl⟩
    rw [List.length_map, List.take_length, e] at ps
    walk_at "g"
    have k0 : Kp [] H H' := Kp.cut (k04.all.trans k) (by simp [k1.free0 nt])
    exact g ok t ts H' (k1.free0 nt) k0 hts ps
end
end G

set_option Elab.async false
set_option linter.all false
set_option maxRecDepth 100000
set_option maxHeartbeats 1000000
namespace G
--#FAM KM
open PySem PySem.Spec PyProof.Rows L2
local macro_rules
  | `(tactic| walk_at "1") => `(tactic| first
    | with_reducible refine w_seq ?_
    | with_reducible refine w_asg ?_
    | with_reducible refine w_asgS ?_
    | with_reducible refine w_asf ?_
    | with_reducible refine w_drop ?_
    | with_reducible refine w_ret ?_
    | with_reducible refine w_if ?_
    | with_reducible refine w_not ?_
    | with_reducible refine w_and ?_
    | with_reducible refine w_or ?_
    | with_reducible refine w_test ?_
    | with_reducible refine w_tb ?_
    | with_reducible refine w_chain ?_
    | with_reducible refine w_op ?_
    | with_reducible refine w_un ?_
    | with_reducible refine w_andV ?_
    | with_reducible refine w_orV ?_
    | with_reducible refine w_notV ?_
    | with_reducible refine w_ifE ?_
    | with_reducible refine w_cons ?_
    | with_reducible refine w_nil ?_
    | with_reducible refine w_cb ?_
    | with_reducible refine w_cl ?_
    | with_reducible refine w_mt ?_
    | with_reducible refine w_fld ?_
    | with_reducible refine w_tupN ?_
    | with_reducible refine w_lstN ?_
    | with_reducible refine w_bm ?_
    | with_reducible refine w_bm0 ?_
    | with_reducible refine w_for ?_
    | with_reducible refine w_lc ?_
    | with_reducible refine w_iR1 ?_
    | with_reducible refine w_iR2 ?_
    | with_reducible refine w_iL ?_
    | with_reducible refine w_iT ?_
    | with_reducible refine w_iE ?_
    | with_reducible refine w_iZ ?_
    | with_reducible refine w_var (by with_unfolding_all rfl) ?_
    | with_reducible refine w_c ?_
    | with_reducible refine w_next ?_
    | with_reducible refine w_i0 ?_
    | with_reducible refine w_u1 ?_
    | with_reducible refine w_addI ?_
    | with_reducible refine w_eqI ?_
    | with_reducible refine w_eqS ?_
    | with_reducible refine w_eqB ?_
    | with_reducible refine w_neI ?_
    | with_reducible refine w_neS ?_
    | with_reducible refine w_neB ?_
    | with_reducible refine w_abs ?_
    | with_reducible refine w_intI ?_
    | with_reducible refine w_min2 ?_
    | with_reducible refine w_max2 ?_
    | with_reducible refine w_isN0 ?_
    | with_reducible refine w_isN1 ref_ne ?_
    | with_reducible refine w_isN1 int_ne ?_
    | with_reducible refine w_notN0 ?_
    | with_reducible refine w_notN1 ref_ne ?_
    | with_reducible refine w_notN1 int_ne ?_
    | with_reducible refine w_ex1 ?_
    | with_reducible refine w_n1 ?_
    | with_reducible refine w_n2 ?_
    | with_reducible refine w_tT ?_
    | with_reducible refine w_tF ?_
    | with_reducible refine w_nT ?_
    | with_reducible refine w_nF ?_
    | with_reducible refine w_rz ?_
    | with_reducible refine w_mkN ?_
    | with_reducible refine w_lrgN ?_
    | with_reducible refine w_rg1 ?_
    | with_reducible refine w_rg2 ?_
    | with_reducible refine w_sl ?_
    | with_reducible refine w_np ?_
    | with_reducible refine w_pt ?_
    | with_reducible refine w_tr ?_
    | with_reducible refine w_gn ?_
    | with_reducible refine w_yes ?_
    | with_reducible refine w_m1 ?_
    | with_reducible refine w_asu ?_
    | with_reducible refine w_exS ?_
    | with_reducible refine w_iS ?_
    | with_reducible refine w_g1 ?_
    | with_reducible refine w_gc ?_
    | with_reducible refine w_gt (SqT.of upd_same) rfl ?_)
local macro_rules
  | `(tactic| walk_at "g") => `(tactic| repeat walk_at "1")
local macro_rules
  | `(tactic| walk_at "j1") => `(tactic| first
    | with_reducible refine w_seqI ?_
    | walk_at "1")
local macro_rules
  | `(tactic| walk_at "j") => `(tactic| repeat walk_at "j1")
section
variable {K : PySem.W.Frag} {mg : Str → Option Value}
theorem mx {a b : Int} : (if a > b then a else b) = max b a := by
  split <;> omega
theorem actB_snoc (l : List Int) (x : Int) (v : Nat) : actB (l ++ [x]) v = if v = x.natAbs then true else actB l v := by
  unfold actB
  by_cases c : v = x.natAbs
  · rw [if_pos c, decide_eq_true_iff]
    exact ⟨x, by simp, c.symm⟩
  · rw [if_neg c, decide_eq_decide]
    constructor
    · rintro ⟨op, h, e⟩
      rcases List.mem_append.mp h with h | h
      · exact ⟨op, h, e⟩
      · rw [List.mem_singleton.mp h] at e
        exact absurd e.symm c
    · rintro ⟨op, h, e⟩
      exact ⟨op, List.mem_append_left _ h, e⟩
theorem len__law_turned (K : PySem.W.Frag) : ∀ vs H Q E, sp04__law_opposite K vs H Q E → vs.length = (["size", "operation"] : List Str).length := by
  rintro vs H Q E ⟨_, _, rfl, _⟩
  rfl
theorem rd__law_turned (T : Txt K mg) (vs : List V) (H : Hp) (Q : VK) (E : XK) (h : sp04__law_opposite K vs H Q E) : t__law_turned K E { nx := fun _ H' => Q .non H', rt := Q } (start ["size", "operation"] vs) H := by
  obtain ⟨n, op, rfl, g⟩ := h
  unfold t__law_turned
  unfold opp at g
  walk_at "g"
  refine w_iteD (fun c => ?_) (fun c => ?_)
  · rw [if_pos c] at g
    walk_at "g"
    exact g
  · rw [if_neg c] at g
    walk_at "g"
    exact g
theorem len__law_struck (K : PySem.W.Frag) : ∀ vs H Q E, sp01__law_struck K vs H Q E → vs.length = (["size", "log"] : List Str).length := by
  rintro vs H Q E ⟨_, _, _, rfl, _⟩
  rfl
theorem rd__law_struck (T : Txt K mg) (vs : List V) (H : Hp) (Q : VK) (E : XK) (h : sp01__law_struck K vs H Q E) : t__law_struck K E { nx := fun _ H' => Q .non H', rt := Q } (start ["size", "log", "outs", "struck", "k", "node"] vs) H := by
  obtain ⟨n, a, log, rfl, hn, ha, hl, ho, g⟩ := h
  unfold t__law_struck
  walk_at "g"
  refine w_r1 (by omega) ?_
  refine cp_rng (fun i => (List.replicate i false).map V.bl) (fun i hi => sz_lt (by rw [List.length_map, List.length_replicate]; omega)) rfl (fun i H' S N hi k y _ => ?_) (fun o H1 no k1 hO => ?_)
  · walk_at "g"
    refine ⟨rfl, ?_⟩
    walk_at "g"
    refine y _ _ (Kp.refl _ _) ?_
    rw [List.replicate_succ', List.map_append] <;> rfl
  rw [show ((n : Int) + 1).toNat = n + 1 by omega] at hO
  walk_at "g"
  refine ⟨sz_ok (by show 0 ≤ 1000000; omega), nw fun t H2 nt k2 ht => ?_⟩
  have ot : o ≠ t := ne_of_none hO nt
  have k02 := k1.trans k2
  have ha2 := k02.at0 ha
  have ao : a ≠ o := ne_of_none ha no
  have at' : a ≠ t := ne_of_none (k1.at0 ha) nt
  walk_at "g"
  refine w_lenL (SqL.of ha2) ?_
  walk_at "g"
  refine w_r1 (by rw [List.length_map]; omega) ?_
  rw [show (((log.map V.int).length : Nat) : Int).toNat = log.length by rw [List.length_map]; omega]
  refine lp_rng0 (fun i σ H' => (∃ u v, σ = [some (.int (n : Int)), some (.ref a), some (.ref o), some (.ref t), u, v]) ∧ Kp [o, t] H2 H' ∧ (∃ O : List Bool, H' o = some (.lst (O.map V.bl)) ∧ O.length = n + 1 ∧ ∀ v, v ≤ n → gB O v = gB (runS (wholeS n) (strk n (log.take i)).1).O v) ∧ H' t = some (.lst ((strk n (log.take i)).2.map V.int))) ⟨⟨_, _, rfl⟩, Kp.refl _ _, ⟨_, k2.at0 hO, List.length_replicate, fun v hv => ?_⟩, ht⟩ ?_ ?_
  · rw [gB_of (List.getElem?_replicate_of_lt (by omega))]
    exact (gB_of (List.getElem?_replicate_of_lt (by show v < n + 2; omega))).symm
  · rintro i σ' H' hi ⟨⟨u, v, rfl⟩, k, ⟨O, hO', lO, gO⟩, hk⟩
    have ha' : H' a = some (.lst (log.map V.int)) := k _ _ (by simp [ao, at']) ha2
    have hop : log[i]? = some (gI log i) := by
      unfold gI
      rw [List.getD_eq_getElem?_getD, List.getElem?_eq_getElem hi] <;> rfl
    have isop := ho _ (List.mem_of_getElem? hop)
    have isop' := isop
    unfold IsOp at isop'
    have eI : gI log ((i : Int)).toNat = gI log i := by rw [Int.toNat_natCast]
    have sl := strk_len n (log.take i)
    rw [List.length_take, Nat.min_eq_left (by omega)] at sl
    have leg := (strk_leg n (log.take i) fun op h => ho op (List.mem_of_mem_take h)).1
    have wf := leg.wf (Wf.whole hn)
    have en : (runS (wholeS n) (strk n (log.take i)).1).n = n := runS_n _ _
    walk_at "g"
    refine w_ixL (SqL.of ha') (at_I (by omega) (by omega)) ?_
    rw [eI]
    walk_at "g"
    rw [natAbs_if]
    walk_at "g"
    refine w_ixL (SqL.of hO') (at_B (by omega) (by omega)) ?_
    rw [Int.toNat_natCast, gO _ (by omega)]
    walk_at "g"
    refine w_ixL (SqL.of ha') (at_I (by omega) (by omega)) ?_
    rw [eI]
    walk_at "g"
    have hx : IsOp (runS (wholeS n) (strk n (log.take i)).1).n (gI log i) := by rw [en]; exact isop
    refine w_iteD (fun c => ?_) (fun c => ?_)
    · have nok : ¬ okB (runS (wholeS n) (strk n (log.take i)).1) (gI log i) = true := fun z => by
        have := ((okB_iff hx).mp z).2
        rw [this] at c
        have : (0 < gI log i) ↔ (gI log i < 0) := decide_eq_decide.mp c
        omega
      have e : strk n (log.take (i + 1)) = ((strk n (log.take i)).1, (strk n (log.take i)).2 ++ [(i : Int)]) := by
        rw [take_snoc hop, strk_snoc]
        unfold strG
        rw [if_neg nok, sl]
      walk_at "g"
      refine ⟨w_ty (SqL.of hk), ?_⟩
      walk_at "g"
      refine w_apT hk (sz_lt (by rw [List.length_map]; omega)) fun H5 k5 hk5 => ?_
      walk_at "g"
      refine ⟨⟨_, _, rfl⟩, k.trans (k5.mono (by simp)), ⟨O, k5.at1 ot hO', lO, fun v hv => ?_⟩, ?_⟩
      · rw [e]
        exact gO v hv
      · rw [e, hk5, List.map_append] <;> rfl
    · have okk : okB (runS (wholeS n) (strk n (log.take i)).1) (gI log i) = true := (okB_iff hx).mpr ⟨hx, by
        cases z : gB (runS (wholeS n) (strk n (log.take i)).1).O (gI log i).natAbs with
        | true =>
          rw [z] at c
          exact (decide_eq_true (show 0 < gI log i by
            have : ¬ gI log i < 0 := fun y => c (decide_eq_true y).symm
            omega)).symm
        | false =>
          rw [z] at c
          exact (decide_eq_false (show ¬ 0 < gI log i by
            intro y
            exact c (decide_eq_false (show ¬ gI log i < 0 by omega)).symm)).symm⟩
      have e : strk n (log.take (i + 1)) = ((strk n (log.take i)).1 ++ [gI log i], (strk n (log.take i)).2) := by
        rw [take_snoc hop, strk_snoc]
        unfold strG
        rw [if_pos okk]
      walk_at "g"
      refine w_ixL (SqL.of ha') (at_I (by omega) (by omega)) ?_
      rw [eI]
      walk_at "g"
      refine w_setL (n := (gI log i).natAbs) hO' (by rw [List.length_map, lO]; unfold ixN; rw [if_pos (by omega), if_pos (by omega), Int.toNat_natCast]) ?_
      have k6 : Kp [o] H' (upd H' o (.lst ((O.map V.bl).set (gI log i).natAbs (.bl (decide (gI log i < 0)))))) := Kp.put (by simp)
      have h6 : upd H' o (.lst ((O.map V.bl).set (gI log i).natAbs (.bl (decide (gI log i < 0))))) o = some (.lst ((O.set (gI log i).natAbs (decide (gI log i < 0))).map V.bl)) := by
        rw [upd_same, List.map_set]
      generalize upd H' o (.lst ((O.map V.bl).set (gI log i).natAbs (.bl (decide (gI log i < 0))))) = H6 at k6 h6 ⊢
      walk_at "g"
      refine ⟨⟨_, _, rfl⟩, k.trans (k6.mono (by simp)), ⟨_, h6, by rw [List.length_set]; exact lO, fun v hv => ?_⟩, ?_⟩
      · rw [e, runS_snoc, step_gB wf hx, gB_set (by omega), gO v hv]
      · rw [e]
        exact k6.at1 ot.symm hk
  · rintro σ' H' ⟨⟨u, v, rfl⟩, k, _, hk⟩
    rw [List.take_length] at hk
    walk_at "g"
    exact g t H' (k1.free0 nt) (Kp.cut (k02.all.trans k) (by simp [no, k1.free0 nt])) hk
theorem len__law_most_kept (K : PySem.W.Frag) : ∀ vs H Q E, sp01__law_most_kept K vs H Q E → vs.length = (["size", "log"] : List Str).length := by
  rintro vs H Q E ⟨_, _, _, rfl, _⟩
  rfl
theorem rd__law_most_kept (T : Txt K mg) (vs : List V) (H : Hp) (Q : VK) (E : XK) (h : sp01__law_most_kept K vs H Q E) : t__law_most_kept K E { nx := fun _ H' => Q .non H', rt := Q } (start ["size", "log", "most", "node", "ends_in", "ends_out", "operation"] vs) H := by
  obtain ⟨n, a, log, rfl, hn, ha, hl, ho, g⟩ := h
  unfold t__law_most_kept
  walk_at "g"
  refine w_r2 (by omega) ?_
  rw [show ((n : Int) + 1 - 1).toNat = n by omega]
  have kis := (strk_leg n log ho).2
  have f0 : ((strk n log).1.filter fun o => decide (o.natAbs ≤ 0)).length = 0 := by
    rw [List.length_eq_zero_iff, List.filter_eq_nil_iff]
    intro x hx
    have := kis x hx
    unfold IsOp at this
    rw [decide_eq_true_iff]
    omega
  have fn : ((strk n log).1.filter fun o => decide (o.natAbs ≤ n)).length = (strk n log).1.length := by
    rw [List.filter_eq_self.mpr]
    intro x hx
    have := kis x hx
    unfold IsOp at this
    rw [decide_eq_true_iff]
    omega
  refine lp_rng (fun i σ H' => (∃ u v w x, σ = [some (.int (n : Int)), some (.ref a), some (.int ((((strk n log).1.filter fun o => decide (o.natAbs ≤ i)).length : Nat) : Int)), u, v, w, x]) ∧ H' = H) ⟨⟨none, none, none, none, by rw [f0]; rfl⟩, rfl⟩ ?_ ?_
  · rintro i σ' H' hi ⟨⟨u, v, w, x, rfl⟩, rfl⟩
    rw [show (1 : Int) + (i : Int) = ((i + 1 : Nat) : Int) by omega]
    walk_at "g"
    refine w_l1 (SqL.of ha) ?_
    refine lp_lst (xs := log.map V.int) (fun j σ H'' => (∃ x, σ = [some (.int (n : Int)), some (.ref a), some (.int ((((strk n log).1.filter fun o => decide (o.natAbs ≤ i)).length : Nat) : Int)), some (.int ((i + 1 : Nat) : Int)), some (.int (ends (i + 1) (log.take j)).1), some (.int (ends (i + 1) (log.take j)).2), x]) ∧ H'' = H') ⟨⟨x, rfl⟩, rfl⟩ ?_ ?_ ?_
    · rintro j σ H'' hj ⟨_, rfl⟩
      exact SqL.of ha
    · rintro j x σ H'' hx ⟨⟨y, rfl⟩, rfl⟩
      obtain ⟨op, hop, rfl⟩ := at_map hx
      have es : ends (i + 1) (log.take (j + 1)) = endG (i + 1) (ends (i + 1) (log.take j)) op := by
        rw [take_snoc hop]
        unfold ends
        rw [List.foldl_append]
        rfl
      rw [es]
      generalize ends (i + 1) (log.take j) = p
      obtain ⟨pa, pb⟩ := p
      dsimp only
      walk_at "j"
      refine w_ifJ (fun σ' H' => σ' = [some (.int (n : Int)), some (.ref a), some (.int ((((strk n log).1.filter fun o => decide (o.natAbs ≤ i)).length : Nat) : Int)), some (.int ((i + 1 : Nat) : Int)), some (.int pa), some (.int (if op = -((i + 1 : Nat) : Int) then max pb (pa + 1) else pb)), some (.int op)] ∧ H' = H'') (fun N hN => ?_) ?_
      · walk_at "g"
        refine w_iteD (fun c => ?_) (fun c => ?_)
        · walk_at "g"
          refine hN _ _ ⟨?_, rfl⟩
          rw [if_pos c, mx]
          rfl
        · walk_at "g"
          refine hN _ _ ⟨?_, rfl⟩
          rw [if_neg c]
          rfl
      · rintro σ' H1 ⟨rfl, rfl⟩
        unfold endG
        dsimp only
        generalize (if op = -((i + 1 : Nat) : Int) then max pb (pa + 1) else pb) = qb
        walk_at "g"
        refine w_iteD (fun c => ?_) (fun c => ?_)
        · walk_at "g"
          refine w_iteD (fun c2 => ?_) (fun c2 => ?_)
          · walk_at "g"
            rw [if_pos ⟨c, c2⟩, mx]
            exact ⟨⟨_, rfl⟩, rfl⟩
          · walk_at "g"
            rw [if_neg (fun z => c2 z.2)]
            exact ⟨⟨_, rfl⟩, rfl⟩
        · walk_at "g"
          rw [if_neg (fun z => c z.1)]
          exact ⟨⟨_, rfl⟩, rfl⟩
    · rintro σ H'' ⟨⟨y, rfl⟩, rfl⟩
      walk_at "g"
      rw [List.length_map, List.take_length]
      have em := ends_max (v := i + 1) (by omega) (by omega) log hn ho
      have cl := cnt_le (strk n log).1 i
      rw [mx, em, ← Int.natCast_add, ← cl]
      exact ⟨⟨_, _, _, _, rfl⟩, rfl⟩
  · rintro σ' H' ⟨⟨u, v, w, x, rfl⟩, rfl⟩
    rw [fn]
    walk_at "g"
    exact g _ (Kp.refl _ _)
theorem len__law_ranges (K : PySem.W.Frag) : ∀ vs H Q E, sp01__law_ranges K vs H Q E → vs.length = (["size", "log"] : List Str).length := by
  rintro vs H Q E ⟨_, _, _, rfl, _⟩
  rfl
theorem rd__law_ranges (T : Txt K mg) (vs : List V) (H : Hp) (Q : VK) (E : XK) (h : sp01__law_ranges K vs H Q E) : t__law_ranges K E { nx := fun _ H' => Q .non H', rt := Q } (start ["size", "log", "acting", "operation", "found", "low", "node"] vs) H := by
  obtain ⟨n, a, log, rfl, hn, ha, hl, ho, g⟩ := h
  unfold t__law_ranges
  walk_at "g"
  refine w_r1 (by omega) ?_
  refine cp_rng (fun i => (List.replicate i false).map V.bl) (fun i hi => sz_lt (by rw [List.length_map, List.length_replicate]; omega)) rfl (fun i H' S N hi k y _ => ?_) (fun o H1 no k1 hO => ?_)
  · walk_at "g"
    refine ⟨rfl, ?_⟩
    walk_at "g"
    refine y _ _ (Kp.refl _ _) ?_
    rw [List.replicate_succ', List.map_append] <;> rfl
  rw [show ((n : Int) + 2).toNat = n + 2 by omega] at hO
  have ao : a ≠ o := ne_of_none ha no
  walk_at "g"
  refine w_l1 (SqL.of (k1.at0 ha)) ?_
  refine lp_lst (xs := log.map V.int) (fun i σ H' => (∃ u v w x, σ = [some (.int (n : Int)), some (.ref a), some (.ref o), u, v, w, x]) ∧ Kp [o] H1 H' ∧ ∃ O : List Bool, H' o = some (.lst (O.map V.bl)) ∧ O.length = n + 2 ∧ ∀ v, v ≤ n + 1 → gB O v = actB (log.take i) v) ⟨⟨_, _, _, _, rfl⟩, Kp.refl _ _, _, hO, List.length_replicate, fun v hv => ?_⟩ ?_ ?_ ?_
  · rw [gB_of (List.getElem?_replicate_of_lt (by omega))]
    exact (decide_eq_false (by simp)).symm
  · rintro i σ' H' hi ⟨_, k, _⟩
    exact SqL.of (k.at1 ao (k1.at0 ha))
  · rintro i x σ' H' hx ⟨⟨u, v, w, x, rfl⟩, k, O, hO', lO, gO⟩
    obtain ⟨op, hop, rfl⟩ := at_map hx
    have isop := ho _ (List.mem_of_getElem? hop)
    unfold IsOp at isop
    walk_at "g"
    rw [natAbs_if]
    refine w_setL (n := op.natAbs) hO' (by rw [List.length_map, lO]; unfold ixN; rw [if_pos (by omega), if_pos (by omega), Int.toNat_natCast]) ?_
    have k6 : Kp [o] H' (upd H' o (.lst ((O.map V.bl).set op.natAbs (.bl true)))) := Kp.put (by simp)
    have h6 : upd H' o (.lst ((O.map V.bl).set op.natAbs (.bl true))) o = some (.lst ((O.set op.natAbs true).map V.bl)) := by
      rw [upd_same, List.map_set]
    generalize upd H' o (.lst ((O.map V.bl).set op.natAbs (.bl true))) = H6 at k6 h6 ⊢
    walk_at "g"
    refine ⟨⟨_, _, _, _, rfl⟩, k.trans k6, _, h6, by rw [List.length_set]; exact lO, fun v hv => ?_⟩
    rw [gB_set (by omega), gO v hv, take_snoc hop, actB_snoc]
  · rintro σ' H2 ⟨⟨u, v, w, x, rfl⟩, k2, O, hO', lO, gO⟩
    rw [List.length_map, List.take_length] at gO
    walk_at "g"
    refine ⟨sz_ok (by show 0 ≤ 1000000; omega), nw fun t H3 nt k3 ht => ?_⟩
    have ot : o ≠ t := ne_of_none hO' nt
    have at' : a ≠ t := ne_of_none (k2.at1 ao (k1.at0 ha)) nt
    have hO3 := k3.at0 hO'
    walk_at "g"
    refine w_r2 (by omega) ?_
    rw [show ((n : Int) + 2 - 1).toNat = n + 1 by omega]
    refine lp_rng (fun i σ H' => (∃ v w, σ = [some (.int (n : Int)), some (.ref a), some (.ref o), v, some (.ref t), some (.int (scN (actB log) i).2), w]) ∧ Kp [t] H3 H' ∧ ∃ ts, H' t = some (.lst (ts.map V.ref)) ∧ Prs H' ts (scN (actB log) i).1 ∧ ts.length ≤ i) ⟨⟨_, _, rfl⟩, Kp.refl _ _, [], ht, Prs.nil _, Nat.le_refl _⟩ ?_ ?_
    · rintro i σ' H' hi ⟨⟨v, w, rfl⟩, k, ts, hts, ps, tl⟩
      rw [show (1 : Int) + (i : Int) = ((i + 1 : Nat) : Int) by omega]
      have es : scN (actB log) (i + 1) = scG (actB log) (scN (actB log) i) (i + 1) := rfl
      rw [es]
      generalize scN (actB log) i = p at ps
      obtain ⟨p1, p2⟩ := p
      have hO4 := k.at1 ot hO3
      have g1 := gO (i + 1) (by omega)
      unfold scG
      dsimp only at ps ⊢
      walk_at "j"
      refine w_ifJ (fun σ' H1 => σ' = [some (.int (n : Int)), some (.ref a), some (.ref o), v, some (.ref t), some (.int (if actB log (i + 1) = true ∧ p2 = 0 then ((i + 1 : Nat) : Int) else p2)), some (.int ((i + 1 : Nat) : Int))] ∧ H1 = H') (fun N hN => ?_) ?_
      · walk_at "g"
        refine w_ixL (SqL.of hO4) (at_B (by omega) (by omega)) ?_
        rw [Int.toNat_natCast, g1]
        walk_at "g"
        refine w_iteB (fun c1 => ?_) (fun c1 => ?_)
        · walk_at "g"
          refine w_iteD (fun c2 => ?_) (fun c2 => ?_)
          · walk_at "g"
            refine hN _ _ ⟨?_, rfl⟩
            rw [if_pos ⟨c1, c2⟩]
            rfl
          · walk_at "g"
            refine hN _ _ ⟨?_, rfl⟩
            rw [if_neg (fun z => c2 z.2)]
            rfl
        · walk_at "g"
          refine hN _ _ ⟨?_, rfl⟩
          rw [if_neg (fun z => by rw [c1] at z; cases z.1)]
          rfl
      · rintro σ' H1 ⟨rfl, rfl⟩
        walk_at "g"
        refine w_ixL (SqL.of hO4) (at_B (by omega) (by omega)) ?_
        rw [Int.toNat_natCast, g1]
        walk_at "g"
        refine w_iteBN (fun c1 => ?_) (fun c1 => ?_)
        · rw [c1, if_neg (show ¬ (false = true ∧ p2 = 0) from fun z => by cases z.1), if_neg Bool.false_ne_true]
          walk_at "g"
          refine w_iteD (fun c2 => ?_) (fun c2 => ?_)
          · rw [if_pos (show 0 < p2 from c2)]
            walk_at "g"
            refine ⟨w_ty (SqL.of hts), ?_⟩
            walk_at "g"
            refine ⟨sz_ok (by show 2 ≤ 1000000; omega), nw fun t2 H5 nt2 k5 ht2 => ?_⟩
            walk_at "g"
            refine w_apT (k5.at0 hts) (sz_lt (by rw [List.length_map]; omega)) fun H6 k6 hk6 => ?_
            have t2t : t2 ≠ t := (ne_of_none hts nt2).symm
            walk_at "g"
            exact ⟨⟨_, _, rfl⟩, (k.trans k5.all).trans k6, ts ++ [t2], by rw [hk6, List.map_append] <;> rfl, Prs.snoc ((ps.k0 k5).kpL (k5.at0 hts) k6) (k6.at1 t2t ht2), by rw [List.length_append, List.length_singleton]; omega⟩
          · rw [if_neg (show ¬ 0 < p2 from c2)]
            walk_at "g"
            exact ⟨⟨_, _, rfl⟩, k, ts, hts, ps, by omega⟩
        · rw [c1, if_pos rfl]
          walk_at "g"
          refine ⟨⟨v, some (.int ((i + 1 : Nat) : Int)), ?_⟩, k, ts, hts, ps, by omega⟩
          dsimp only
          by_cases c2 : p2 = 0
          · rw [if_pos ⟨rfl, c2⟩, if_pos c2]
          · rw [if_neg (fun z => c2 z.2), if_neg c2]
    · rintro σ' H' ⟨⟨v, w, rfl⟩, k, ts, hts, ps, tl⟩
      walk_at "g"
      rw [scN_end (actB_end ho)] at ps
      have k12 : Kp [o] H1 H3 := k2.trans k3.all
      exact g t ts H' (k1.free0 (k2.free (by simpa using ot.symm) nt)) (Kp.cut ((k1.all.trans (k12.mono (S' := [o, t]) (by simp))).trans (k.mono (S' := [o, t]) (by simp))) (by simp [no, k1.free0 (k2.free (by simpa using ot.symm) nt)])) hts ps
end
end G

set_option Elab.async false
set_option linter.all false
set_option maxRecDepth 100000
set_option maxHeartbeats 1000000
namespace G
--#FAM KM
open PySem PySem.Spec PyProof.Rows L2
local macro_rules
  | `(tactic| walk_at "1") => `(tactic| first
    | with_reducible refine w_seq ?_
    | with_reducible refine w_asg ?_
    | with_reducible refine w_asgS ?_
    | with_reducible refine w_asf ?_
    | with_reducible refine w_drop ?_
    | with_reducible refine w_ret ?_
    | with_reducible refine w_if ?_
    | with_reducible refine w_not ?_
    | with_reducible refine w_and ?_
    | with_reducible refine w_or ?_
    | with_reducible refine w_test ?_
    | with_reducible refine w_tb ?_
    | with_reducible refine w_chain ?_
    | with_reducible refine w_op ?_
    | with_reducible refine w_un ?_
    | with_reducible refine w_andV ?_
    | with_reducible refine w_orV ?_
    | with_reducible refine w_notV ?_
    | with_reducible refine w_ifE ?_
    | with_reducible refine w_cons ?_
    | with_reducible refine w_nil ?_
    | with_reducible refine w_cb ?_
    | with_reducible refine w_cl ?_
    | with_reducible refine w_mt ?_
    | with_reducible refine w_fld ?_
    | with_reducible refine w_tupN ?_
    | with_reducible refine w_lstN ?_
    | with_reducible refine w_bm ?_
    | with_reducible refine w_bm0 ?_
    | with_reducible refine w_for ?_
    | with_reducible refine w_lc ?_
    | with_reducible refine w_iR1 ?_
    | with_reducible refine w_iR2 ?_
    | with_reducible refine w_iL ?_
    | with_reducible refine w_iT ?_
    | with_reducible refine w_iE ?_
    | with_reducible refine w_iZ ?_
    | with_reducible refine w_var (by with_unfolding_all rfl) ?_
    | with_reducible refine w_c ?_
    | with_reducible refine w_next ?_
    | with_reducible refine w_i0 ?_
    | with_reducible refine w_u1 ?_
    | with_reducible refine w_addI ?_
    | with_reducible refine w_eqI ?_
    | with_reducible refine w_eqS ?_
    | with_reducible refine w_eqB ?_
    | with_reducible refine w_neI ?_
    | with_reducible refine w_neS ?_
    | with_reducible refine w_neB ?_
    | with_reducible refine w_abs ?_
    | with_reducible refine w_intI ?_
    | with_reducible refine w_min2 ?_
    | with_reducible refine w_max2 ?_
    | with_reducible refine w_isN0 ?_
    | with_reducible refine w_isN1 ref_ne ?_
    | with_reducible refine w_isN1 int_ne ?_
    | with_reducible refine w_notN0 ?_
    | with_reducible refine w_notN1 ref_ne ?_
    | with_reducible refine w_notN1 int_ne ?_
    | with_reducible refine w_ex1 ?_
    | with_reducible refine w_n1 ?_
    | with_reducible refine w_n2 ?_
    | with_reducible refine w_tT ?_
    | with_reducible refine w_tF ?_
    | with_reducible refine w_nT ?_
    | with_reducible refine w_nF ?_
    | with_reducible refine w_rz ?_
    | with_reducible refine w_mkN ?_
    | with_reducible refine w_lrgN ?_
    | with_reducible refine w_rg1 ?_
    | with_reducible refine w_rg2 ?_
    | with_reducible refine w_sl ?_
    | with_reducible refine w_np ?_
    | with_reducible refine w_pt ?_
    | with_reducible refine w_tr ?_
    | with_reducible refine w_gn ?_
    | with_reducible refine w_yes ?_
    | with_reducible refine w_m1 ?_
    | with_reducible refine w_asu ?_
    | with_reducible refine w_exS ?_
    | with_reducible refine w_iS ?_
    | with_reducible refine w_g1 ?_
    | with_reducible refine w_gc ?_
    | with_reducible refine w_gt (SqT.of upd_same) rfl ?_)
local macro_rules
  | `(tactic| walk_at "g") => `(tactic| repeat walk_at "1")
local macro_rules
  | `(tactic| walk_at "j1") => `(tactic| first
    | with_reducible refine w_seqI ?_
    | walk_at "1")
local macro_rules
  | `(tactic| walk_at "j") => `(tactic| repeat walk_at "j1")
section
variable {K : PySem.W.Frag} {mg : Str → Option Value}
theorem w_isiT {H : Hp} {Q : VK} {a : Addr} {xs : List V} {t : String} {r : Bool} (e : H a = some (.tup xs)) (h : kitB "tuple" t = some r) (g : Q (.bl r) H) : rIsi K [.ref a, .ty t] H Q := ⟨_, _, _, _, r, rfl, .ty t, .base (.tup e), kit_ty h, g⟩
theorem len__law_mirror_right (K : PySem.W.Frag) : ∀ vs H Q E, sp01__law_mirror_right K vs H Q E → vs.length = (["size", "log"] : List Str).length := by
  rintro vs H Q E ⟨_, _, _, rfl, _⟩
  rfl
theorem rd__law_mirror_right (T : Txt K mg) (vs : List V) (H : Hp) (Q : VK) (E : XK) (h : sp01__law_mirror_right K vs H Q E) : t__law_mirror_right K E { nx := fun _ H' => Q .non H', rt := Q } (start ["size", "log", "due", "given", "told", "operation"] vs) H := by
  obtain ⟨n, a, log, rfl, hn, ha, hl, ho, g⟩ := h
  unfold t__law_mirror_right
  have sok : SizeOk (n : Int) := ⟨by omega, by omega⟩
  walk_at "g"
  refine w_l1 (SqL.of ha) ?_
  refine cp_lst (SqL.of ha) (fun i => ((log.take i).map (opp n)).map V.int) (fun i hi => sz_lt (by rw [List.length_map, List.length_map, List.length_take]; rw [List.length_map] at hi; omega)) rfl (fun i x H' S N hx k y _ => ?_) (fun d H1 nd k1 hd => ?_)
  · obtain ⟨op, hop, rfl⟩ := at_map hx
    walk_at "g"
    refine ⟨rfl, ?_⟩
    walk_at "g"
    refine ⟨n, op, rfl, ?_⟩
    refine y _ _ (Kp.refl _ _) ?_
    rw [take_snoc hop, List.map_append, List.map_append] <;> rfl
  rw [List.length_map, List.take_length] at hd
  walk_at "g"
  refine w_listLN (SqL.of (k1.at0 ha)) fun q H2 nq k2 hq => ?_
  walk_at "g"
  refine ⟨(n : Int), q, log, rfl, hq, by omega, fun _ t H3 nt k3 ht => ?_, ⟨fun z => absurd sok z, fun _ i op h1 h2 h3 => absurd (ho op (List.mem_of_getElem? h1)) h3⟩⟩
  have ht : H3 t = some (.lst ((log.map (opp n)).map V.int)) := ht
  have k23 := k2.trans k3
  have hd3 := k23.at0 hd
  have td : t ≠ d := (ne_of_none (k2.at0 hd) nt).symm
  walk_at "g"
  refine ⟨t, d, log.map (opp n), rfl, by rw [List.length_map]; omega, ht, hd3, ?_⟩
  walk_at "g"
  refine ⟨w_ty (SqL.of ht), ?_⟩
  walk_at "g"
  refine w_apT ht (sz_lt (by rw [List.length_map, List.length_map]; omega)) fun H4 k4 _ => ?_
  have kq4 : Kp [] H2 H4 := (k3.all.trans k4).cut1 nt
  have k04 : Kp [] H H4 := (k1.trans k2).trans kq4
  have hd4 := kq4.at0 (k2.at0 hd)
  walk_at "g"
  refine ⟨q, a, log, rfl, by omega, kq4.at0 hq, k04.at0 ha, ?_⟩
  walk_at "g"
  refine w_listLN (SqL.of hd4) fun q2 H5 nq2 k5 hq2 => ?_
  have ho2 : ∀ op ∈ log.map (opp n), IsOp n op := fun op h => by
    obtain ⟨x, hx, rfl⟩ := List.mem_map.mp h
    exact opp_is (ho x hx)
  walk_at "g"
  refine ⟨(n : Int), q2, log.map (opp n), rfl, hq2, by rw [List.length_map]; omega, fun _ t2 H6 nt2 k6 ht2 => ?_, ⟨fun z => absurd sok z, fun _ i op h1 h2 h3 => absurd (ho2 op (List.mem_of_getElem? h1)) h3⟩⟩
  have ht2 : H6 t2 = some (.lst (((log.map (opp n)).map (opp n)).map V.int)) := ht2
  rw [opp_oppL ho] at ht2
  have k46 := k5.trans k6
  walk_at "g"
  refine ⟨t2, a, log, rfl, by omega, ht2, (k04.trans k46).at0 ha, ?_⟩
  exact g H6 (k04.trans k46)
theorem len__law_strikes_right (K : PySem.W.Frag) : ∀ vs H Q E, sp01__law_strikes_right K vs H Q E → vs.length = (["size", "log"] : List Str).length := by
  rintro vs H Q E ⟨_, _, _, rfl, _⟩
  rfl
theorem rd__law_strikes_right (T : Txt K mg) (vs : List V) (H : Hp) (Q : VK) (E : XK) (h : sp01__law_strikes_right K vs H Q E) : t__law_strikes_right K E { nx := fun _ H' => Q .non H', rt := Q } (start ["size", "log", "due", "given", "told", "rest", "first", "k"] vs) H := by
  obtain ⟨n, a, log, rfl, hn, ha, hl, ho, g⟩ := h
  unfold t__law_strikes_right
  have sok : SizeOk (n : Int) := ⟨by omega, by omega⟩
  have chk : ∀ (l : List Int), (∀ op ∈ l, IsOp n op) → ∀ (E : XK) (H : Hp), ChkE K (n : Int) l E H := fun l h E H => ⟨fun z => absurd sok z, fun _ i op h1 h2 h3 => absurd (h op (List.mem_of_getElem? h1)) h3⟩
  have ln := strk_ln n log
  walk_at "g"
  refine ⟨n, a, log, rfl, hn, ha, hl, ho, fun d H1 nd k1 hd => ?_⟩
  walk_at "g"
  refine w_listLN (SqL.of (k1.at0 ha)) fun q H2 nq k2 hq => ?_
  walk_at "g"
  refine ⟨(n : Int), q, log, rfl, hq, by omega, fun _ t H3 nt k3 ht => ?_, chk log ho _ _⟩
  have ht : H3 t = some (.lst ((strk n log).2.map V.int)) := ht
  have k23 := k2.trans k3
  have hd3 := k23.at0 hd
  have ha3 := (k1.trans k23).at0 ha
  walk_at "g"
  refine ⟨t, d, _, rfl, by omega, ht, hd3, ?_⟩
  walk_at "g"
  refine ⟨q, a, log, rfl, by omega, k3.at0 hq, ha3, ?_⟩
  walk_at "g"
  refine w_lenL (SqL.of ha3) ?_
  walk_at "g"
  refine w_lenL (SqL.of ht) ?_
  walk_at "g"
  refine ⟨n, a, log, rfl, hn, ha3, hl, ho, fun H4 k4 => ?_⟩
  walk_at "g"
  have sl := strk_len n log
  rw [List.length_map, List.length_map, show ((log.length : Nat) : Int) - (((strk n log).2.length : Nat) : Int) = (((strk n log).1.length : Nat) : Int) by omega]
  rw [decide_eq_true rfl]
  have k04 := (k1.trans k23).trans k4
  have ht4 := k4.at0 ht
  have hd4 := k4.at0 hd3
  have ha4 := k04.at0 ha
  walk_at "g"
  refine ⟨w_ty (SqL.of ht4), ?_⟩
  walk_at "g"
  refine w_apT ht4 (sz_lt (by rw [List.length_map]; omega)) fun H5 k5 ht5 => ?_
  walk_at "g"
  refine ⟨w_ty (SqL.of ht5), ?_⟩
  refine w_rvsZ ht5 fun H6 k6 _ => ?_
  have kq6 : Kp [] H2 H6 := ((k3.all.trans k4.all).trans (k5.trans k6)).cut1 nt
  have k06 : Kp [] H H6 := (k1.trans k2).trans kq6
  have hd6 := kq6.at0 (k2.at0 hd)
  have hq6 := kq6.at0 hq
  have ha6 := k06.at0 ha
  walk_at "g"
  refine w_lenL (SqL.of ha6) ?_
  walk_at "g"
  refine w_r1 (by rw [List.length_map]; omega) ?_
  rw [show (((log.map V.int).length : Nat) : Int).toNat = log.length by rw [List.length_map]; omega]
  refine cp_rng (fun i => (((List.range i).filter fun (k : Nat) => !decide ((k : Int) ∈ (strk n log).2)).map fun k => log.getD k 0).map V.int) (fun i hi => sz_lt (by
    rw [List.length_map, List.length_map]
    have := List.length_filter_le (fun (k : Nat) => !decide ((k : Int) ∈ (strk n log).2)) (List.range i)
    rw [List.length_range] at this
    omega)) rfl (fun i H' S N hi k y no => ?_) (fun r H7 nr k7 hr => ?_)
  · walk_at "g"
    refine ⟨rfl, ?_⟩
    walk_at "g"
    refine w_inL (SqL.of (k.at0 hd6)) rfl (flatI _) ?_
    rw [if_pos rfl, inI]
    walk_at "g"
    refine w_iteBN (fun c => ?_) (fun c => ?_)
    · walk_at "g"
      refine w_ixL (SqL.of (k.at0 ha6)) (at_I (by omega) (by omega)) ?_
      walk_at "g"
      refine y _ _ (Kp.refl _ _) ?_
      rw [List.range_succ, List.filter_append, List.map_append, List.map_append]
      congr 1
      rw [List.filter_cons_of_pos (by rw [show (0 : Int) + (i : Int) = (i : Int) by omega] at c; rw [c]; rfl)]
      show [V.int (log.getD i 0)] = [V.int (gI log ((0 : Int) + (i : Int)).toNat)]
      rw [show ((0 : Int) + (i : Int)).toNat = i by omega]
      rfl
    · refine no _ (Kp.refl _ _) ?_
      rw [List.range_succ, List.filter_append, List.map_append, List.map_append]
      rw [List.filter_cons_of_neg (by rw [show (0 : Int) + (i : Int) = (i : Int) by omega] at c; rw [c]; decide)]
      exact List.append_nil _
  rw [strk_rest] at hr
  obtain ⟨legk, hok⟩ := strk_leg n log ho
  have sid := strk_id n _ legk
  walk_at "g"
  refine w_listLN (SqL.of hr) fun q2 H8 nq2 k8 hq2 => ?_
  walk_at "g"
  refine ⟨(n : Int), q2, (strk n log).1, rfl, hq2, by omega, fun _ H9 k9 => ?_, chk _ hok _ _⟩
  rw [show (strk ((n : Int)).toNat (strk n log).1).2 = [] by rw [Int.toNat_natCast, sid]]
  unfold firstV
  walk_at "g"
  have hr9 := k9.at0 (k8.at0 hr)
  refine w_listLN (SqL.of hr9) fun q3 H10 nq3 k10 hq3 => ?_
  walk_at "g"
  refine ⟨(n : Int), q3, (strk n log).1, rfl, hq3, by omega, fun _ t2 H11 nt2 k11 ht2 => ?_, chk _ hok _ _⟩
  rw [show (strk ((n : Int)).toNat (strk n log).1).2 = [] by rw [Int.toNat_natCast, sid]] at ht2
  walk_at "g"
  refine ⟨sz_ok (by show 0 ≤ 1000000; omega), nw fun z H12 nz k12 hz => ?_⟩
  walk_at "g"
  refine ⟨t2, z, [], rfl, by show 0 ≤ 100000; omega, k12.at0 ht2, hz, ?_⟩
  have k612 : Kp [] H6 H12 := ((k7.trans k8).trans (k9.trans k10)).trans (k11.trans k12)
  have k012 := k06.trans k612
  have hq12 := k612.at0 hq6
  have hd12 := k612.at0 hd6
  have ha12 := k612.at0 ha6
  walk_at "g"
  refine ⟨(n : Int), q, log, rfl, hq12, by omega, fun _ H13 k13 => ?_, chk _ ho _ _⟩
  rw [show (strk ((n : Int)).toNat log) = strk n log from rfl]
  have k013 := k012.trans k13
  have hd13 := k13.at0 hd12
  have ha13 := k13.at0 ha12
  walk_at "g"
  refine ⟨q, a, log, rfl, by omega, k13.at0 hq12, ha13, ?_⟩
  walk_at "g"
  refine ⟨sz_ok (by show 0 ≤ 1000000; omega), nw fun e H14 ne k14 he => ?_⟩
  have he : H14 e = some (.lst (([] : List Int).map V.int)) := he
  have hd14 := k14.at0 hd13
  walk_at "g"
  refine w_eqLZ hd14 he ?_
  walk_at "g"
  refine w_iteD (fun c => ?_) (fun c => ?_)
  · rw [c]
    unfold firstV
    walk_at "g"
    exact g _ (k013.trans k14)
  · cases es : (strk n log).2 with
    | nil => exact absurd es c
    | cons x xs =>
      have lt := strk_lt n log x (by rw [es]; exact List.mem_cons_self)
      rw [es] at hd14
      obtain ⟨m, rfl⟩ : ∃ m : Nat, x = (m : Int) := ⟨x.toNat, by omega⟩
      unfold firstV
      walk_at "g"
      refine w_ixL (SqL.of hd14) at_0 ?_
      walk_at "g"
      refine ⟨(m : Int), rfl, ?_⟩
      walk_at "g"
      refine w_ixL (SqL.of hd14) at_0 ?_
      walk_at "g"
      refine w_slL (SqL.of (k14.at0 ha13)) fun q4 H15 nq4 k15 hq4 => ?_
      rw [cut_take _ _ (by rw [List.length_map]; omega), ← List.map_take] at hq4
      walk_at "g"
      refine ⟨(n : Int), q4, log.take m, rfl, hq4, by rw [List.length_take]; omega, fun _ H16 k16 => ?_, chk _ (fun op h => ho op (List.mem_of_mem_take h)) _ _⟩
      have sf := strk_first es
      rw [Int.toNat_natCast] at sf
      rw [show (strk ((n : Int)).toNat (log.take m)) = strk n (log.take m) from rfl, sf]
      unfold firstV
      walk_at "g"
      exact g _ ((k013.trans k14).trans (k15.trans k16))
theorem len__law_part_right (K : PySem.W.Frag) : ∀ vs H Q E, sp01__law_part_right K vs H Q E → vs.length = (["size", "log", "low", "high"] : List Str).length := by
  rintro vs H Q E ⟨_, _, _, _, _, rfl, _⟩
  rfl
theorem rd__law_part_right (T : Txt K mg) (vs : List V) (H : Hp) (Q : VK) (E : XK) (h : sp01__law_part_right K vs H Q E) : t__law_part_right K E { nx := fun _ H' => Q .non H', rt := Q } (start ["size", "log", "low", "high", "due", "operation", "given", "told"] vs) H := by
  obtain ⟨n, a, log, low, high, rfl, hn, ha, hl, ho, rg, g⟩ := h
  unfold t__law_part_right
  have sok : SizeOk (n : Int) := ⟨by omega, by omega⟩
  have rg' := rg
  unfold RgOk at rg'
  walk_at "g"
  refine ⟨sz_ok (by show 0 ≤ 1000000; omega), nw fun d H1 nd k1 hd => ?_⟩
  walk_at "g"
  refine w_l1 (SqL.of (k1.at0 ha)) ?_
  have ad : a ≠ d := ne_of_none ha nd
  refine lp_lst (xs := log.map V.int) (fun i σ H' => (∃ u, σ = [some (.int (n : Int)), some (.ref a), some (.int low), some (.int high), some (.ref d), u, none, none]) ∧ Kp [d] H1 H' ∧ H' d = some (.lst ((partL low high (log.take i)).map V.int))) ⟨⟨_, rfl⟩, Kp.refl _ _, hd⟩ ?_ ?_ ?_
  · rintro i σ' H' hi ⟨_, k, _⟩
    exact SqL.of (k.at1 ad (k1.at0 ha))
  · rintro i x σ' H' hx ⟨⟨u, rfl⟩, k, hk⟩
    obtain ⟨op, hop, rfl⟩ := at_map hx
    have isop := ho _ (List.mem_of_getElem? hop)
    unfold IsOp at isop
    have il : i < log.length := (List.getElem?_eq_some_iff.mp hop).1
    have pl := partL_len low high (log.take i)
    rw [List.length_take] at pl
    rw [take_snoc hop, partL_snoc]
    walk_at "j"
    refine w_ifJ (fun σ' H2 => σ' = [some (.int (n : Int)), some (.ref a), some (.int low), some (.int high), some (.ref d), some (.int op), none, none] ∧ Kp [d] H1 H2 ∧ H2 d = some (.lst ((partL low high (log.take i) ++ if low ≤ (op.natAbs : Int) ∧ (op.natAbs : Int) ≤ high ∧ op < 0 then [op + low - 1] else []).map V.int))) (fun N hN => ?_) ?_
    · have nope : ¬ (low ≤ (op.natAbs : Int) ∧ (op.natAbs : Int) ≤ high ∧ op < 0) → N [some (.int (n : Int)), some (.ref a), some (.int low), some (.int high), some (.ref d), some (.int op), none, none] H' := fun z => hN _ _ ⟨rfl, k, by rw [if_neg z, List.append_nil]; exact hk⟩
      walk_at "g"
      rw [natAbs_if]
      refine w_iteD (fun c1 => ?_) (fun c1 => ?_)
      · walk_at "g"
        refine w_iteD (fun c2 => ?_) (fun c2 => ?_)
        · walk_at "g"
          refine w_iteD (fun c3 => ?_) (fun c3 => ?_)
          · walk_at "g"
            refine ⟨w_ty (SqL.of hk), ?_⟩
            walk_at "g"
            refine w_apT hk (sz_lt (by rw [List.length_map]; omega)) fun H5 k5 hk5 => ?_
            walk_at "g"
            refine hN _ _ ⟨rfl, k.trans k5, ?_⟩
            rw [hk5, if_pos ⟨c1, c2, c3⟩, List.map_append] <;> rfl
          · walk_at "g"
            exact nope fun z => c3 z.2.2
        · walk_at "g"
          exact nope fun z => c2 z.2.1
      · walk_at "g"
        exact nope fun z => c1 z.1
    · rintro σ' H2 ⟨rfl, k2, hk2⟩
      have fin : ¬ (low ≤ op ∧ op ≤ high) → (if low ≤ (op.natAbs : Int) ∧ (op.natAbs : Int) ≤ high ∧ op < 0 then [op + low - 1] else []) = (if low ≤ (op.natAbs : Int) ∧ (op.natAbs : Int) ≤ high then [if op > 0 then (op.natAbs : Int) - low + 1 else -((op.natAbs : Int) - low + 1)] else []) := fun z => by
        by_cases c : op < 0
        · by_cases c2 : low ≤ (op.natAbs : Int) ∧ (op.natAbs : Int) ≤ high
          · rw [if_pos ⟨c2.1, c2.2, c⟩, if_pos c2, if_neg (by omega)]
            congr 1
            omega
          · rw [if_neg (fun y => c2 ⟨y.1, y.2.1⟩), if_neg c2]
        · rw [if_neg (fun y => c y.2.2), if_neg (by omega)]
      walk_at "g"
      refine w_iteD (fun c1 => ?_) (fun c1 => ?_)
      · walk_at "g"
        refine w_iteD (fun c2 => ?_) (fun c2 => ?_)
        · rw [if_neg (by omega), List.append_nil] at hk2
          walk_at "g"
          refine ⟨w_ty (SqL.of hk2), ?_⟩
          walk_at "g"
          refine w_apT hk2 (sz_lt (by rw [List.length_map]; omega)) fun H5 k5 hk5 => ?_
          walk_at "g"
          refine ⟨⟨_, rfl⟩, k2.trans k5, ?_⟩
          rw [hk5, if_pos (by omega), if_pos (by omega), List.map_append, show (op.natAbs : Int) = op by omega] <;> rfl
        · walk_at "g"
          rw [fin (fun z => c2 z.2)] at hk2
          exact ⟨⟨_, rfl⟩, k2, hk2⟩
      · walk_at "g"
        rw [fin (fun z => c1 z.1)] at hk2
        exact ⟨⟨_, rfl⟩, k2, hk2⟩
  · rintro σ' H2 ⟨⟨u, rfl⟩, k2, hk⟩
    rw [List.length_map, List.take_length] at hk
    have k02 : Kp [] H H2 := (k1.all.trans k2).cut1 nd
    have pl := partL_len low high log
    walk_at "g"
    refine w_listLN (SqL.of (k02.at0 ha)) fun q H3 nq k3 hq => ?_
    walk_at "g"
    refine ⟨(n : Int), q, log, low, high, rfl, hq, by omega, fun _ _ t H4 nt k4 ht => ?_, ⟨fun z => absurd sok z, fun _ i op h1 h2 h3 => absurd (ho op (List.mem_of_getElem? h1)) h3⟩, fun _ z => absurd rg z⟩
    have k24 := k3.trans k4
    walk_at "g"
    refine ⟨t, d, partL low high log, rfl, by omega, ht, k24.at0 hk, ?_⟩
    walk_at "g"
    refine ⟨w_ty (SqL.of ht), ?_⟩
    walk_at "g"
    refine w_apT ht (sz_lt (by rw [List.length_map]; omega)) fun H5 k5 _ => ?_
    have k35 : Kp [] H3 H5 := (k4.all.trans k5).cut1 nt
    have k05 : Kp [] H H5 := (k02.trans k3).trans k35
    walk_at "g"
    refine ⟨q, a, log, rfl, by omega, k35.at0 hq, k05.at0 ha, ?_⟩
    exact g H5 k05
theorem len__law_blocks_right (K : PySem.W.Frag) : ∀ vs H Q E, sp01__law_blocks_right K vs H Q E → vs.length = (["size", "log"] : List Str).length := by
  rintro vs H Q E ⟨_, _, _, rfl, _⟩
  rfl
theorem rd__law_blocks_right (T : Txt K mg) (vs : List V) (H : Hp) (Q : VK) (E : XK) (h : sp01__law_blocks_right K vs H Q E) : t__law_blocks_right K E { nx := fun _ H' => Q .non H', rt := Q } (start ["size", "log", "due", "given", "told", "k", "pair"] vs) H := by
  obtain ⟨n, a, log, rfl, hn, ha, hl, ho, g⟩ := h
  unfold t__law_blocks_right
  have sok : SizeOk (n : Int) := ⟨by omega, by omega⟩
  walk_at "g"
  refine ⟨n, a, log, rfl, hn, ha, hl, ho, fun d ts H1 nd k1 hd ps => ?_⟩
  walk_at "g"
  refine w_listLN (SqL.of (k1.at0 ha)) fun q H2 nq k2 hq => ?_
  walk_at "g"
  refine ⟨(n : Int), q, log, rfl, hq, by omega, fun _ t us H3 nt k3 ht qs => ?_, ⟨fun z => absurd sok z, fun _ i op h1 h2 h3 => absurd (ho op (List.mem_of_getElem? h1)) h3⟩⟩
  have qs : Prs H3 us (rngP (actN (actB log) n)) := qs
  have k23 := k2.trans k3
  have k03 := k1.trans k23
  have hd3 := k23.at0 hd
  have ps3 := ps.k0 k23
  have lt : us.length = ts.length := by rw [qs.1, ps3.1]
  walk_at "g"
  refine w_isiL (r := true) ht (by decide +kernel) ?_
  walk_at "g"
  refine w_lenL (SqL.of ht) ?_
  walk_at "g"
  refine w_lenL (SqL.of hd3) ?_
  walk_at "g"
  rw [List.length_map, List.length_map, lt, decide_eq_true rfl]
  walk_at "g"
  refine ⟨q, a, log, rfl, by omega, k3.at0 hq, k03.at0 ha, ?_⟩
  walk_at "g"
  have rl := rng_len (actN (actB log) n)
  have al := actN_len (actB log) n
  have tl : ts.length ≤ n := by rw [ps3.1]; omega
  refine w_lenL (SqL.of hd3) ?_
  walk_at "g"
  refine w_r1 (by rw [List.length_map]; omega) ?_
  rw [show (((ts.map V.ref).length : Nat) : Int).toNat = ts.length by rw [List.length_map]; omega]
  have ha3 := k03.at0 ha
  refine lp_rng0 (fun i σ H' => (∃ u v, σ = [some (.int (n : Int)), some (.ref a), some (.ref d), some (.ref q), some (.ref t), u, v]) ∧ Kp [] H3 H') ⟨⟨_, _, rfl⟩, Kp.refl _ _⟩ ?_ ?_
  · rintro i σ' H' hi ⟨⟨u, v, rfl⟩, k⟩
    have iu : i < us.length := by omega
    have ip : i < (rngP (actN (actB log) n)).length := by rw [← ps3.1]; exact hi
    have eu : us[i]? = some us[i] := List.getElem?_eq_getElem iu
    have et : ts[i]? = some ts[i] := List.getElem?_eq_getElem hi
    have ep : (rngP (actN (actB log) n))[i]? = some (rngP (actN (actB log) n))[i] := List.getElem?_eq_getElem ip
    have rg := rng_ok (actN (actB log) n) (fun x hx => actN_bd hx) _ (List.getElem_mem ip)
    generalize (rngP (actN (actB log) n))[i] = p at ep rg
    have hu := k.at0 (qs.2 i _ p eu ep)
    have ht' := k.at0 (ps3.2 i _ p et ep)
    generalize us[i] = ui at eu hu
    generalize ts[i] = ti at et ht'
    obtain ⟨x, y⟩ := p
    dsimp only at hu ht' rg
    have iuA : atI (us.map V.ref) (i : Int) = some (.ref ui) := by
      rw [atI_pos (by omega) (by rw [List.length_map]; omega), Int.toNat_natCast, List.getElem?_map, eu] <;> rfl
    have itA : atI (ts.map V.ref) (i : Int) = some (.ref ti) := by
      rw [atI_pos (by omega) (by rw [List.length_map]; omega), Int.toNat_natCast, List.getElem?_map, et] <;> rfl
    have htk := k.at0 ht
    have hdk := k.at0 hd3
    walk_at "g"
    refine w_ixL (SqL.of htk) iuA ?_
    walk_at "g"
    refine w_isiT (r := true) hu (by decide +kernel) ?_
    walk_at "g"
    refine w_lenT (SqT.of hu) ?_
    walk_at "g"
    rw [decide_eq_true (show ((([V.int x, V.int y].length : Nat) : Int)) = 2 from rfl)]
    walk_at "g"
    refine w_ixT (SqT.of hu) (i := 0) (v := .int x) rfl ?_
    walk_at "g"
    refine w_ixL (SqL.of hdk) itA ?_
    walk_at "g"
    refine w_ixT (SqT.of ht') (i := 0) (v := .int x) rfl ?_
    walk_at "g"
    refine ⟨x, rfl, ?_⟩
    walk_at "g"
    refine w_ixT (SqT.of hu) (i := 1) (v := .int y) rfl ?_
    walk_at "g"
    refine w_ixL (SqL.of hdk) itA ?_
    walk_at "g"
    refine w_ixT (SqT.of ht') (i := 1) (v := .int y) rfl ?_
    walk_at "g"
    refine ⟨y, rfl, ?_⟩
    walk_at "g"
    refine w_ixL (SqL.of hdk) itA ?_
    walk_at "g"
    refine w_ixT (SqT.of ht') (i := 0) (v := .int x) rfl ?_
    walk_at "g"
    refine w_ixL (SqL.of hdk) itA ?_
    walk_at "g"
    refine w_ixT (SqT.of ht') (i := 1) (v := .int y) rfl ?_
    walk_at "g"
    refine ⟨n, a, log, x, y, rfl, hn, k.at0 ha3, hl, ho, rg, fun H4 k4 => ?_⟩
    walk_at "g"
    exact ⟨⟨_, _, rfl⟩, k.trans k4⟩
  · rintro σ' H' ⟨⟨u, v, rfl⟩, k⟩
    walk_at "g"
    exact g H' (k03.trans k)
end
end G

set_option Elab.async false
set_option linter.all false
set_option maxRecDepth 100000
set_option maxHeartbeats 1000000
namespace G
--#FAM KM
open PySem PySem.Spec PyProof.Rows L2
local macro_rules
  | `(tactic| walk_at "1") => `(tactic| first
    | with_reducible refine w_seq ?_
    | with_reducible refine w_asg ?_
    | with_reducible refine w_asgS ?_
    | with_reducible refine w_asf ?_
    | with_reducible refine w_drop ?_
    | with_reducible refine w_ret ?_
    | with_reducible refine w_if ?_
    | with_reducible refine w_not ?_
    | with_reducible refine w_and ?_
    | with_reducible refine w_or ?_
    | with_reducible refine w_test ?_
    | with_reducible refine w_tb ?_
    | with_reducible refine w_chain ?_
    | with_reducible refine w_op ?_
    | with_reducible refine w_un ?_
    | with_reducible refine w_andV ?_
    | with_reducible refine w_orV ?_
    | with_reducible refine w_notV ?_
    | with_reducible refine w_ifE ?_
    | with_reducible refine w_cons ?_
    | with_reducible refine w_nil ?_
    | with_reducible refine w_cb ?_
    | with_reducible refine w_cl ?_
    | with_reducible refine w_mt ?_
    | with_reducible refine w_fld ?_
    | with_reducible refine w_tupN ?_
    | with_reducible refine w_lstN ?_
    | with_reducible refine w_bm ?_
    | with_reducible refine w_bm0 ?_
    | with_reducible refine w_for ?_
    | with_reducible refine w_lc ?_
    | with_reducible refine w_iR1 ?_
    | with_reducible refine w_iR2 ?_
    | with_reducible refine w_iL ?_
    | with_reducible refine w_iT ?_
    | with_reducible refine w_iE ?_
    | with_reducible refine w_iZ ?_
    | with_reducible refine w_var (by with_unfolding_all rfl) ?_
    | with_reducible refine w_c ?_
    | with_reducible refine w_next ?_
    | with_reducible refine w_i0 ?_
    | with_reducible refine w_u1 ?_
    | with_reducible refine w_addI ?_
    | with_reducible refine w_eqI ?_
    | with_reducible refine w_eqS ?_
    | with_reducible refine w_eqB ?_
    | with_reducible refine w_neI ?_
    | with_reducible refine w_neS ?_
    | with_reducible refine w_neB ?_
    | with_reducible refine w_abs ?_
    | with_reducible refine w_intI ?_
    | with_reducible refine w_min2 ?_
    | with_reducible refine w_max2 ?_
    | with_reducible refine w_isN0 ?_
    | with_reducible refine w_isN1 ref_ne ?_
    | with_reducible refine w_isN1 int_ne ?_
    | with_reducible refine w_notN0 ?_
    | with_reducible refine w_notN1 ref_ne ?_
    | with_reducible refine w_notN1 int_ne ?_
    | with_reducible refine w_ex1 ?_
    | with_reducible refine w_n1 ?_
    | with_reducible refine w_n2 ?_
    | with_reducible refine w_tT ?_
    | with_reducible refine w_tF ?_
    | with_reducible refine w_nT ?_
    | with_reducible refine w_nF ?_
    | with_reducible refine w_rz ?_
    | with_reducible refine w_mkN ?_
    | with_reducible refine w_lrgN ?_
    | with_reducible refine w_rg1 ?_
    | with_reducible refine w_rg2 ?_
    | with_reducible refine w_sl ?_
    | with_reducible refine w_np ?_
    | with_reducible refine w_pt ?_
    | with_reducible refine w_tr ?_
    | with_reducible refine w_gn ?_
    | with_reducible refine w_yes ?_
    | with_reducible refine w_m1 ?_
    | with_reducible refine w_asu ?_
    | with_reducible refine w_exS ?_
    | with_reducible refine w_iS ?_
    | with_reducible refine w_g1 ?_
    | with_reducible refine w_gc ?_
    | with_reducible refine w_gt (SqT.of upd_same) rfl ?_)
local macro_rules
  | `(tactic| walk_at "g") => `(tactic| repeat walk_at "1")
local macro_rules
  | `(tactic| walk_at "j1") => `(tactic| first
    | with_reducible refine w_seqI ?_
    | walk_at "1")
local macro_rules
  | `(tactic| walk_at "j") => `(tactic| repeat walk_at "j1")
section
variable {K : PySem.W.Frag} {mg : Str → Option Value}
theorem len__law_rows (K : PySem.W.Frag) : ∀ vs H Q E, sp01__law_rows K vs H Q E → vs.length = (["box", "size"] : List Str).length := by
  rintro vs H Q E ⟨_, _, _, rfl, _⟩
  rfl
theorem rd__law_rows (T : Txt K mg) (vs : List V) (H : Hp) (Q : VK) (E : XK) (h : sp01__law_rows K vs H Q E) : t__law_rows K E { nx := fun _ H' => Q .non H', rt := Q } (start ["box", "size", "log", "count", "near", "k", "node"] vs) H := by
  obtain ⟨b, c, n, rfl, hn, bx, g⟩ := h
  unfold t__law_rows
  walk_at "g"
  refine ⟨sz_ok (by show 0 ≤ 1000000; omega), nw fun t H1 nt k1 ht => ?_⟩
  have b1 := bx.k0 k1
  obtain ⟨tb, tc⟩ := bx.fr nt
  walk_at "g"
  refine w_iteD (fun c1 => ?_) (fun c1 => ?_)
  · walk_at "g"
    exact g [] t H1 (fun op h => by cases h) (by simp) nt k1.all b1 ht
  walk_at "g"
  refine ⟨b, c, 10, rfl, by omega, by omega, b1, fun cn H2 d0 d1 k2 b2 => ?_⟩
  walk_at "j"
  refine w_ifJ (fun σ' H' => ∃ m : Nat, m ≤ 48 ∧ σ' = [some (.ref b), some (.int (n : Int)), some (.ref t), some (.int (m : Int)), none, none, none] ∧ Kp [b] H1 H' ∧ BxI H' b c) (fun N hN => ?_) ?_
  · walk_at "g"
    refine w_iteD (fun c2 => ?_) (fun c2 => ?_)
    · walk_at "g"
      refine ⟨b, c, 40, rfl, by omega, by omega, b2, fun e H3 e0 e1 k3 b3 => ?_⟩
      walk_at "g"
      obtain ⟨m, rfl⟩ : ∃ m : Nat, e = (m : Int) := ⟨e.toNat, by omega⟩
      rw [show (9 : Int) + (m : Int) = ((m + 9 : Nat) : Int) by omega]
      exact hN _ _ ⟨m + 9, by omega, rfl, k2.trans k3, b3⟩
    · walk_at "g"
      obtain ⟨m, rfl⟩ : ∃ m : Nat, cn = (m : Int) := ⟨cn.toNat, by omega⟩
      exact hN _ _ ⟨m, by omega, rfl, k2, b2⟩
  rintro σ' H3 ⟨m, m48, rfl, k3, b3⟩
  walk_at "g"
  refine ⟨b, c, (n : Int), rfl, by omega, by omega, b3, fun near H4 near0 near1 k4 b4 => ?_⟩
  have k14 : Kp [b] H1 H4 := k3.trans k4
  walk_at "g"
  refine w_r1 (by omega) ?_
  rw [Int.toNat_natCast]
  refine lp_rng0 (fun i σ H' => (∃ u v, σ = [some (.ref b), some (.int (n : Int)), some (.ref t), some (.int (m : Int)), some (.int near), u, v]) ∧ Kp [b, t] H1 H' ∧ BxI H' b c ∧ ∃ log : List Int, H' t = some (.lst (log.map V.int)) ∧ log.length = i ∧ ∀ op ∈ log, IsOp n op) ⟨⟨_, _, rfl⟩, k14.mono (by simp), b4, [], k14.at1 tb ht, rfl, fun op h => by cases h⟩ ?_ ?_
  · rintro i σ' H' hi ⟨⟨u, v, rfl⟩, k, bb, log, hlog, hlen, ok⟩
    walk_at "g"
    refine ⟨b, c, (n : Int), rfl, by omega, by omega, bb, fun d H5 d0 d1 k5 b5 => ?_⟩
    have hlog5 := k5.at1 tb hlog
    walk_at "j"
    refine w_ifJ (fun σ' H' => ∃ x : Int, 1 ≤ x ∧ x ≤ (n : Int) ∧ σ' = [some (.ref b), some (.int (n : Int)), some (.ref t), some (.int (m : Int)), some (.int near), some (.int (i : Int)), some (.int x)] ∧ Kp [b] H5 H' ∧ BxI H' b c) (fun N hN => ?_) ?_
    · walk_at "g"
      refine ⟨b, c, 2, rfl, by omega, by omega, b5, fun e H6 e0 e1 k6 b6 => ?_⟩
      walk_at "g"
      refine w_iteD (fun c2 => ?_) (fun c2 => ?_)
      · walk_at "g"
        refine w_ic (by omega) ?_
        walk_at "g"
        refine w_ic (by omega) ?_
        walk_at "g"
        have m0 := Int.emod_nonneg (near + (1 + d) % 3) (show (n : Int) ≠ 0 by omega)
        have m1 := Int.emod_lt_of_pos (near + (1 + d) % 3) (show 0 < (n : Int) by omega)
        exact hN _ _ ⟨_, by omega, by omega, rfl, k6, b6⟩
      · walk_at "g"
        exact hN _ _ ⟨1 + d, by omega, by omega, rfl, k6, b6⟩
    rintro σ' H6 ⟨x, x0, x1, rfl, k6, b6⟩
    have hlog6 := k6.at1 tb hlog5
    have k06 := k.trans ((k5.trans k6).mono (S' := [b, t]) (by simp))
    walk_at "g"
    refine ⟨b, c, 2, rfl, by omega, by omega, b6, fun e H7 e0 e1 k7 b7 => ?_⟩
    have hlog7 := k7.at1 tb hlog6
    have k07 := k06.trans (k7.mono (S' := [b, t]) (by simp))
    walk_at "g"
    refine w_iteD (fun c2 => ?_) (fun c2 => ?_)
    · walk_at "g"
      refine ⟨w_ty (SqL.of hlog7), ?_⟩
      walk_at "g"
      refine w_apT hlog7 (sz_lt (by rw [List.length_map]; omega)) fun H8 k8 h8 => ?_
      walk_at "g"
      refine ⟨⟨_, _, rfl⟩, k07.trans (k8.mono (by simp)), b7.kp k8 (by simpa using tb.symm) (by simpa using tc.symm), log ++ [-x], by rw [h8, List.map_append] <;> rfl, by rw [List.length_append, List.length_singleton, hlen], fun op h => ?_⟩
      rcases List.mem_append.mp h with h | h
      · exact ok op h
      · rw [List.mem_singleton.mp h]
        exact ⟨by omega, by omega⟩
    · walk_at "g"
      refine ⟨w_ty (SqL.of hlog7), ?_⟩
      walk_at "g"
      refine w_apT hlog7 (sz_lt (by rw [List.length_map]; omega)) fun H8 k8 h8 => ?_
      walk_at "g"
      refine ⟨⟨_, _, rfl⟩, k07.trans (k8.mono (by simp)), b7.kp k8 (by simpa using tb.symm) (by simpa using tc.symm), log ++ [x], by rw [h8, List.map_append] <;> rfl, by rw [List.length_append, List.length_singleton, hlen], fun op h => ?_⟩
      rcases List.mem_append.mp h with h | h
      · exact ok op h
      · rw [List.mem_singleton.mp h]
        exact ⟨by omega, by omega⟩
  · rintro σ' H' ⟨⟨u, v, rfl⟩, k, bb, log, hlog, hlen, ok⟩
    walk_at "g"
    exact g log t H' ok (by omega) nt (Kp.cut (k1.all.trans k) (by simp [nt])) bb hlog
theorem len__law_bent (K : PySem.W.Frag) : ∀ vs H Q E, sp01__law_bent K vs H Q E → vs.length = (["box", "size", "log"] : List Str).length := by
  rintro vs H Q E ⟨_, _, _, _, _, rfl, _⟩
  rfl
theorem rd__law_bent (T : Txt K mg) (vs : List V) (H : Hp) (Q : VK) (E : XK) (h : sp01__law_bent K vs H Q E) : t__law_bent K E { nx := fun _ H' => Q .non H', rt := Q } (start ["box", "size", "log", "bent", "turn", "wrong", "kind"] vs) H := by
  obtain ⟨b, c, a, n, log, rfl, hn, bx, ab, ha, hl, g⟩ := h
  unfold t__law_bent
  walk_at "g"
  refine w_listLN (SqL.of ha) fun t H1 nt k1 ht => ?_
  have b1 := bx.k0 k1
  obtain ⟨tb, tc⟩ := bx.fr nt
  walk_at "g"
  refine ⟨b, c, 2, rfl, by omega, by omega, b1, fun d H2 d0 d1 k2 b2 => ?_⟩
  walk_at "g"
  refine w_r1 (by omega) ?_
  refine lp_rng0 (fun i σ H' => (∃ u v w, σ = [some (.ref b), some (.int (n : Int)), some (.ref a), some (.ref t), u, v, w]) ∧ Kp [b, t] H1 H' ∧ BxI H' b c ∧ ∃ bent : List Int, H' t = some (.lst (bent.map V.int)) ∧ bent.length = log.length + i ∧ (1 ≤ i → ∃ op ∈ bent, ¬ IsOp n op)) ⟨⟨_, _, _, rfl⟩, k2.mono (by simp), b2, log, k2.at1 tb ht, rfl, fun z => by omega⟩ ?_ ?_
  · rintro i σ' H' hi ⟨⟨u, v, w, rfl⟩, k, bb, bent, hbent, hlen, bad⟩
    walk_at "g"
    refine ⟨b, c, 5, rfl, by omega, by omega, bb, fun e H5 e0 e1 k5 b5 => ?_⟩
    have hb5 := k5.at1 tb hbent
    walk_at "j"
    refine w_ifJ (fun σ' H' => ∃ x : Int, (x = 0 ∨ x = (n : Int) + 1) ∧ σ' = [some (.ref b), some (.int (n : Int)), some (.ref a), some (.ref t), some (.int (i : Int)), some (.int x), some (.int e)] ∧ H' = H5) (fun N hN => ?_) ?_
    · walk_at "g"
      refine w_iteD (fun c2 => ?_) (fun c2 => ?_)
      · walk_at "g"
        exact hN _ _ ⟨_, .inr rfl, rfl, rfl⟩
      · walk_at "g"
        refine w_iteD (fun c3 => ?_) (fun c3 => ?_)
        · walk_at "g"
          exact hN _ _ ⟨_, .inr rfl, rfl, rfl⟩
        · walk_at "g"
          exact hN _ _ ⟨0, .inl rfl, rfl, rfl⟩
    rintro σ' H6 ⟨x, hx, rfl, eH⟩
    subst eH
    walk_at "j"
    refine w_ifJ (fun σ' H' => ∃ x : Int, (x = 0 ∨ (n : Int) + 1 ≤ x) ∧ σ' = [some (.ref b), some (.int (n : Int)), some (.ref a), some (.ref t), some (.int (i : Int)), some (.int x), some (.int e)] ∧ Kp [b] H6 H' ∧ BxI H' b c) (fun N hN => ?_) ?_
    · walk_at "g"
      refine w_iteD (fun c2 => ?_) (fun c2 => ?_)
      · walk_at "g"
        refine ⟨10, 6, rfl, rfl, ⟨by omega, by omega, by decide⟩, ?_⟩
        walk_at "g"
        refine ⟨b, c, (10 : Int) ^ (6 : Int).toNat, rfl, by decide, by decide, b5, fun f H7 f0 f1 k7 b7 => ?_⟩
        walk_at "g"
        exact hN _ _ ⟨_, .inr (by omega), rfl, k7, b7⟩
      · walk_at "g"
        exact hN _ _ ⟨x, by omega, rfl, Kp.refl _ _, b5⟩
    rintro σ' H7 ⟨y, hy, rfl, k7, b7⟩
    walk_at "j"
    refine w_ifJ (fun σ' H' => ∃ x : Int, ¬ IsOp n x ∧ σ' = [some (.ref b), some (.int (n : Int)), some (.ref a), some (.ref t), some (.int (i : Int)), some (.int x), some (.int e)] ∧ H' = H7) (fun N hN => ?_) ?_
    · have n1 : ¬ IsOp n y := fun z => by
        unfold IsOp at z
        omega
      have n2 : ¬ IsOp n (-y) := fun z => by
        unfold IsOp at z
        omega
      walk_at "g"
      refine w_iteD (fun c2 => ?_) (fun c2 => ?_)
      · walk_at "g"
        exact hN _ _ ⟨_, n2, rfl, rfl⟩
      · walk_at "g"
        refine w_iteD (fun c3 => ?_) (fun c3 => ?_)
        · walk_at "g"
          exact hN _ _ ⟨_, n2, rfl, rfl⟩
        · walk_at "g"
          exact hN _ _ ⟨y, n1, rfl, rfl⟩
    rintro σ' H8 ⟨z, hz, rfl, eH⟩
    subst eH
    have hb8 := k7.at1 tb hb5
    have k08 := (k.trans (k5.mono (S' := [b, t]) (by simp))).trans (k7.mono (S' := [b, t]) (by simp))
    walk_at "g"
    refine ⟨w_ty (SqL.of hb8), ?_⟩
    walk_at "g"
    refine w_lenL (SqL.of hb8) ?_
    walk_at "g"
    refine ⟨b, c, ((bent.map V.int).length : Int) + 1, rfl, by omega, by rw [List.length_map]; omega, b7, fun f H9 f0 f1 k9 b9 => ?_⟩
    have hb9 := k9.at1 tb hb8
    obtain ⟨m, rfl⟩ : ∃ m : Nat, f = (m : Int) := ⟨f.toNat, by omega⟩
    rw [List.length_map] at f1
    walk_at "g"
    refine w_ins hb9 (sz_lt (by rw [List.length_map]; omega)) (by omega) fun H10 k10 h10 => ?_
    walk_at "g"
    refine ⟨⟨_, _, _, rfl⟩, (k08.trans (k9.mono (by simp))).trans (k10.mono (by simp)), b9.kp k10 (by simpa using tb.symm) (by simpa using tc.symm), bent.take m ++ [z] ++ bent.drop m, ?_, ?_, fun _ => ⟨z, by simp, hz⟩⟩
    · rw [h10, List.map_append, List.map_append, List.map_take, List.map_drop] <;> rfl
    · rw [List.length_append, List.length_append, List.length_take, List.length_drop, List.length_singleton]
      omega
  · rintro σ' H' ⟨⟨u, v, w, rfl⟩, k, bb, bent, hbent, hlen, bad⟩
    walk_at "g"
    exact g bent t H' (bad (by omega)) (by omega) nt (Kp.cut (k1.all.trans k) (by simp [nt])) bb hbent
end
end G

set_option Elab.async false
set_option linter.all false
set_option maxRecDepth 100000
set_option maxHeartbeats 1000000
namespace G
--#FAM KM
open PySem PySem.Spec PyProof.Rows L2
local macro_rules
  | `(tactic| walk_at "1") => `(tactic| first
    | with_reducible refine w_seq ?_
    | with_reducible refine w_asg ?_
    | with_reducible refine w_asgS ?_
    | with_reducible refine w_asf ?_
    | with_reducible refine w_drop ?_
    | with_reducible refine w_ret ?_
    | with_reducible refine w_if ?_
    | with_reducible refine w_not ?_
    | with_reducible refine w_and ?_
    | with_reducible refine w_or ?_
    | with_reducible refine w_test ?_
    | with_reducible refine w_tb ?_
    | with_reducible refine w_chain ?_
    | with_reducible refine w_op ?_
    | with_reducible refine w_un ?_
    | with_reducible refine w_andV ?_
    | with_reducible refine w_orV ?_
    | with_reducible refine w_notV ?_
    | with_reducible refine w_ifE ?_
    | with_reducible refine w_cons ?_
    | with_reducible refine w_nil ?_
    | with_reducible refine w_cb ?_
    | with_reducible refine w_cl ?_
    | with_reducible refine w_mt ?_
    | with_reducible refine w_fld ?_
    | with_reducible refine w_tupN ?_
    | with_reducible refine w_lstN ?_
    | with_reducible refine w_bm ?_
    | with_reducible refine w_bm0 ?_
    | with_reducible refine w_for ?_
    | with_reducible refine w_lc ?_
    | with_reducible refine w_iR1 ?_
    | with_reducible refine w_iR2 ?_
    | with_reducible refine w_iL ?_
    | with_reducible refine w_iT ?_
    | with_reducible refine w_iE ?_
    | with_reducible refine w_iZ ?_
    | with_reducible refine w_var (by with_unfolding_all rfl) ?_
    | with_reducible refine w_c ?_
    | with_reducible refine w_next ?_
    | with_reducible refine w_i0 ?_
    | with_reducible refine w_u1 ?_
    | with_reducible refine w_addI ?_
    | with_reducible refine w_eqI ?_
    | with_reducible refine w_eqS ?_
    | with_reducible refine w_eqB ?_
    | with_reducible refine w_neI ?_
    | with_reducible refine w_neS ?_
    | with_reducible refine w_neB ?_
    | with_reducible refine w_abs ?_
    | with_reducible refine w_intI ?_
    | with_reducible refine w_min2 ?_
    | with_reducible refine w_max2 ?_
    | with_reducible refine w_isN0 ?_
    | with_reducible refine w_isN1 ref_ne ?_
    | with_reducible refine w_isN1 int_ne ?_
    | with_reducible refine w_notN0 ?_
    | with_reducible refine w_notN1 ref_ne ?_
    | with_reducible refine w_notN1 int_ne ?_
    | with_reducible refine w_ex1 ?_
    | with_reducible refine w_n1 ?_
    | with_reducible refine w_n2 ?_
    | with_reducible refine w_tT ?_
    | with_reducible refine w_tF ?_
    | with_reducible refine w_nT ?_
    | with_reducible refine w_nF ?_
    | with_reducible refine w_rz ?_
    | with_reducible refine w_mkN ?_
    | with_reducible refine w_lrgN ?_
    | with_reducible refine w_rg1 ?_
    | with_reducible refine w_rg2 ?_
    | with_reducible refine w_sl ?_
    | with_reducible refine w_np ?_
    | with_reducible refine w_pt ?_
    | with_reducible refine w_tr ?_
    | with_reducible refine w_gn ?_
    | with_reducible refine w_yes ?_
    | with_reducible refine w_m1 ?_
    | with_reducible refine w_asu ?_
    | with_reducible refine w_exS ?_
    | with_reducible refine w_iS ?_
    | with_reducible refine w_g1 ?_
    | with_reducible refine w_gc ?_
    | with_reducible refine w_gt (SqT.of upd_same) rfl ?_)
local macro_rules
  | `(tactic| walk_at "g") => `(tactic| repeat walk_at "1")
local macro_rules
  | `(tactic| walk_at "j1") => `(tactic| first
    | with_reducible refine w_seqI ?_
    | walk_at "1")
local macro_rules
  | `(tactic| walk_at "j") => `(tactic| repeat walk_at "j1")
section
variable {K : PySem.W.Frag} {mg : Str → Option Value}
abbrev hndO (K : PySem.W.Frag) : Addr → Value → Option Addr → TS := fun a cls d => tSeq (tIfS (tOr (tNot (tB (tCB (rIsX K cls d a) (tCons (tVar 7) (tCons (tC (.ref (He.ga K "LogError"))) (tNil)))))) (tOr (tB (tCB (rIsX K cls d a) (tCons (tVar 7) (tCons (tC (.ref (He.ga K "Illegal"))) (tNil))))) (tB (tCB (rIsX K cls d a) (tCons (tVar 7) (tCons (tC (.ref (He.ga K "Refused"))) (tNil))))))) (tRet (tC (.bl false))) (tNext)) (tSeq (tIfS (tOr (tNot (tB (tCB (rIsX K cls d a) (tCons (tVar 7) (tCons (tC (.ref (He.ga K "LinkError"))) (tNil)))))) (tNot (tB (tCB (rIsX K cls d a) (tCons (tVar 7) (tCons (tC (.ty "ValueError")) (tNil))))))) (tRet (tC (.bl false))) (tNext)) (tSeq (tIfS (tOr (tNot (tB (tCl (sp00__law_is K) (fun _ => E0) (tCons (tXat K a cls d "operation" (tVar 7)) (tCons (tOp (rIx K) (tVar 2) (tVar 5)) (tNil)))))) (tNot (tB (tCl (sp00__law_is K) (fun _ => E0) (tCons (tXat K a cls d "index" (tVar 7)) (tCons (tVar 5) (tNil))))))) (tRet (tC (.bl false))) (tNext)) (tRet (tCl (sp00__law_integers K) (fun _ => E0) (tCons (tVar 6) (tCons (tVar 2) (tNil)))))))
abbrev hndS (K : PySem.W.Frag) : Addr → Value → Option Addr → TS := fun a cls d => tSeq (tIfS (tOr (tB (tCB (rIsX K cls d a) (tCons (tVar 6) (tCons (tC (.ref (He.ga K "LogError"))) (tNil))))) (tNot (tB (tCB (rIsX K cls d a) (tCons (tVar 6) (tCons (tC (.ref (He.ga K "LinkError"))) (tNil))))))) (tRet (tC (.bl false))) (tNext)) (tRet (tAndV (tCB (rIsX K cls d a) (tCons (tVar 6) (tCons (tC (.ty "ValueError")) (tNil)))) (tAndV (tCl (sp00__law_is K) (fun _ => E0) (tCons (tXat K a cls d "size" (tVar 6)) (tCons (tVar 1) (tNil)))) (tCl (sp00__law_integers K) (fun _ => E0) (tCons (tVar 5) (tCons (tVar 2) (tNil)))))))
abbrev hndR (K : PySem.W.Frag) : Addr → Value → Option Addr → TS := fun a cls d => tSeq (tIfS (tOr (tB (tCB (rIsX K cls d a) (tCons (tVar 5) (tCons (tC (.ref (He.ga K "LogError"))) (tNil))))) (tOr (tB (tCB (rIsX K cls d a) (tCons (tVar 5) (tCons (tC (.ref (He.ga K "BadSize"))) (tNil))))) (tNot (tB (tCB (rIsX K cls d a) (tCons (tVar 5) (tCons (tC (.ref (He.ga K "LinkError"))) (tNil)))))))) (tRet (tC (.bl false))) (tNext)) (tSeq (tIfS (tNot (tB (tCB (rIsX K cls d a) (tCons (tVar 5) (tCons (tC (.ty "ValueError")) (tNil)))))) (tRet (tC (.bl false))) (tNext)) (tRet (tAndV (tCl (sp00__law_is K) (fun _ => E0) (tCons (tXat K a cls d "low" (tVar 5)) (tCons (tVar 2) (tNil)))) (tAndV (tCl (sp00__law_is K) (fun _ => E0) (tCons (tXat K a cls d "high" (tVar 5)) (tCons (tVar 3) (tNil)))) (tCl (sp00__law_integers K) (fun _ => E0) (tCons (tVar 4) (tCons (tVar 1) (tNil))))))))
theorem w_isx {H : Hp} {Q : VK} {D dd a : Addr} {fs : List (Str × V)} {c : V} {u : Value} {r : Bool} (hd : H dd = some (.xd fs)) (ex : ExK K D) (k : ClsV c u) (q : PySem.W.kitOne K (.ref D) u = some r) (g : Q (.bl r) H) : rIsX K (.ref D) (some dd) a [.ref a, c] H Q := ⟨D, dd, fs, c, u, r, rfl, rfl, hd, ex, rfl, k, q, g⟩
theorem w_xat {σ : L2.St} {H : Hp} {Q : VK} {D dd a : Addr} {fs : List (Str × V)} {v : V} {f : Str} {te : TE} (hv : ∀ Q, Q (.ref a) H → te σ H Q) (hd : H dd = some (.xd fs)) (ex : ExK K D) (hf : PySem.W.findIn K (.ref D) f = some none) (hl : fs.lookup f = some v) (g : Q v H) : tXat K a (.ref D) (some dd) f te σ H Q := hv _ ⟨D, dd, fs, v, rfl, rfl, hd, ex, rfl, hf, hl, g⟩
theorem lk1 (f : Str) (v : V) (r : List (Str × V)) : ((f, v) :: r).lookup f = some v := by
  simp [List.lookup]
theorem lk_op (i o : V) : ([(("index" : Str), i), ("operation", o)] : List (Str × V)).lookup ("operation" : Str) = some o := by
  have : (("operation" : Str) == ("index" : Str)) = false := by decide +kernel
  simp [List.lookup, this]
theorem lk_lo (i o : V) : ([(("high" : Str), i), ("low", o)] : List (Str × V)).lookup ("low" : Str) = some o := by
  have : (("low" : Str) == ("high" : Str)) = false := by decide +kernel
  simp [List.lookup, this]
section
variable {W0 : WX} {D : Ends} {y0 y1 y2 y3 y4 y5 y6 y7 : Option V} {H : Hp}
theorem hnd_O (T : Txt K mg) {a q : Addr} {i : Nat} {op : Int} {log : List Int} (hl : log.length ≤ 100) (ha : H a = some (.lst (log.map V.int))) (hq : H q = some (.lst (log.map V.int))) (ho : log[i]? = some op) (g : ∀ H', Kp [] H H' → D.rt (.bl true) H') :
    Ex K "BadOperation" [("index", .int (i : Int)), ("operation", .int op)] (WE (wAs K (.ref (He.ga K "BadOperation")) 7 (hndO K) W0 D) [y0, y1, some (.ref a), y3, y4, some (.int (i : Int)), some (.ref q), y7]) H := by
  intro d nd
  refine ⟨true, T.exm_BadOperation_BadOperation, fun _ a' na => ?_, fun z => by cases z⟩
  have hd : upd H d (.xd [("index", .int (i : Int)), ("operation", .int op)]) d = some (.xd [("index", .int (i : Int)), ("operation", .int op)]) := upd_same
  have kd : Kp [] H (upd H d (.xd [("index", .int (i : Int)), ("operation", .int op)])) := Kp.new nd
  have il : i < log.length := (List.getElem?_eq_some_iff.mp ho).1
  have eo : gI log ((i : Int)).toNat = op := by
    rw [Int.toNat_natCast]
    exact gI_of ho
  unfold hndO
  generalize upd H d (.xd [("index", .int (i : Int)), ("operation", .int op)]) = H1 at hd kd na ⊢
  walk_at "g"
  refine w_isx hd T.ex_BadOperation (.own _) T.kit_BadOperation_LogError ?_
  walk_at "g"
  refine w_isx hd T.ex_BadOperation (.own _) T.kit_BadOperation_Illegal ?_
  walk_at "g"
  refine w_isx hd T.ex_BadOperation (.own _) T.kit_BadOperation_Refused ?_
  walk_at "g"
  refine w_isx hd T.ex_BadOperation (.own _) T.kit_BadOperation_LinkError ?_
  walk_at "g"
  refine w_isx hd T.ex_BadOperation (.ty _) T.kit_BadOperation_ValueError ?_
  walk_at "g"
  refine w_xat (fun Q q => w_var (by with_unfolding_all rfl) q) hd T.ex_BadOperation (T.oe_BadOperation.2 _ (by simp)) (lk_op _ _) ?_
  walk_at "g"
  refine w_ixL (SqL.of (kd.at0 ha)) (at_I (by omega) (by omega)) ?_
  rw [eo]
  walk_at "g"
  refine ⟨op, rfl, ?_⟩
  walk_at "g"
  refine w_xat (fun Q q => w_var (by with_unfolding_all rfl) q) hd T.ex_BadOperation (T.oe_BadOperation.2 _ (by simp)) (lk1 _ _ _) ?_
  walk_at "g"
  refine ⟨(i : Int), rfl, ?_⟩
  walk_at "g"
  refine ⟨q, a, log, rfl, by omega, kd.at0 hq, kd.at0 ha, ?_⟩
  exact g _ kd
theorem hnd_S (T : Txt K mg) {a q : Addr} {size : Int} {log : List Int} (hl : log.length ≤ 100) (ha : H a = some (.lst (log.map V.int))) (hq : H q = some (.lst (log.map V.int))) (g : ∀ H', Kp [] H H' → D.rt (.bl true) H') :
    Ex K "BadSize" [("size", .int size)] (WE (wAs K (.ref (He.ga K "BadSize")) 6 (hndS K) W0 D) [y0, some (.int size), some (.ref a), y3, y4, some (.ref q), y6]) H := by
  intro d nd
  refine ⟨true, T.exm_BadSize_BadSize, fun _ a' na => ?_, fun z => by cases z⟩
  have hd : upd H d (.xd [("size", .int size)]) d = some (.xd [("size", .int size)]) := upd_same
  have kd : Kp [] H (upd H d (.xd [("size", .int size)])) := Kp.new nd
  unfold hndS
  generalize upd H d (.xd [("size", .int size)]) = H1 at hd kd na ⊢
  walk_at "g"
  refine w_isx hd T.ex_BadSize (.own _) T.kit_BadSize_LogError ?_
  walk_at "g"
  refine w_isx hd T.ex_BadSize (.own _) T.kit_BadSize_LinkError ?_
  walk_at "g"
  refine w_isx hd T.ex_BadSize (.ty _) T.kit_BadSize_ValueError ?_
  walk_at "g"
  refine w_xat (fun Q q => w_var (by with_unfolding_all rfl) q) hd T.ex_BadSize (T.oe_BadSize.2 _ (by simp)) (lk1 _ _ _) ?_
  walk_at "g"
  refine ⟨size, rfl, ?_⟩
  walk_at "g"
  refine ⟨q, a, log, rfl, by omega, kd.at0 hq, kd.at0 ha, ?_⟩
  exact g _ kd
theorem hnd_R (T : Txt K mg) {a q : Addr} {low high : Int} {log : List Int} (hl : log.length ≤ 100) (ha : H a = some (.lst (log.map V.int))) (hq : H q = some (.lst (log.map V.int))) (g : ∀ H', Kp [] H H' → D.rt (.bl true) H') :
    Ex K "BadRange" [("high", .int high), ("low", .int low)] (WE (wAs K (.ref (He.ga K "BadRange")) 5 (hndR K) W0 D) [y0, some (.ref a), some (.int low), some (.int high), some (.ref q), y5]) H := by
  intro d nd
  refine ⟨true, T.exm_BadRange_BadRange, fun _ a' na => ?_, fun z => by cases z⟩
  have hd : upd H d (.xd [("high", .int high), ("low", .int low)]) d = some (.xd [("high", .int high), ("low", .int low)]) := upd_same
  have kd : Kp [] H (upd H d (.xd [("high", .int high), ("low", .int low)])) := Kp.new nd
  unfold hndR
  generalize upd H d (.xd [("high", .int high), ("low", .int low)]) = H1 at hd kd na ⊢
  walk_at "g"
  refine w_isx hd T.ex_BadRange (.own _) T.kit_BadRange_LogError ?_
  walk_at "g"
  refine w_isx hd T.ex_BadRange (.own _) T.kit_BadRange_BadSize ?_
  walk_at "g"
  refine w_isx hd T.ex_BadRange (.own _) T.kit_BadRange_LinkError ?_
  walk_at "g"
  refine w_isx hd T.ex_BadRange (.ty _) T.kit_BadRange_ValueError ?_
  walk_at "g"
  refine w_xat (fun Q q => w_var (by with_unfolding_all rfl) q) hd T.ex_BadRange (T.oe_BadRange.2 _ (by simp)) (lk_lo _ _) ?_
  walk_at "g"
  refine ⟨low, rfl, ?_⟩
  walk_at "g"
  refine w_xat (fun Q q => w_var (by with_unfolding_all rfl) q) hd T.ex_BadRange (T.oe_BadRange.2 _ (by simp)) (lk1 _ _ _) ?_
  walk_at "g"
  refine ⟨high, rfl, ?_⟩
  walk_at "g"
  refine ⟨q, a, log, rfl, by omega, kd.at0 hq, kd.at0 ha, ?_⟩
  exact g _ kd
end
theorem len__law_asked (K : PySem.W.Frag) : ∀ vs H Q E, sp01__law_asked K vs H Q E → vs.length = (["way", "size", "log", "low", "high"] : List Str).length := by
  rintro vs H Q E ⟨_, _, _, _, _, _, rfl, _⟩
  rfl
theorem rd__law_asked (T : Txt K mg) (vs : List V) (H : Hp) (Q : VK) (E : XK) (h : sp01__law_asked K vs H Q E) : t__law_asked K E { nx := fun _ H' => Q .non H', rt := Q } (start ["way", "size", "log", "low", "high"] vs) H := by
  obtain ⟨way, size, a, log, low, high, rfl, ha, hl, hno, ge⟩ := h
  unfold t__law_asked
  walk_at "g"
  refine w_iteD (fun _ => ?_) (fun _ => ?_)
  · walk_at "g"
    exact ⟨size, a, log, rfl, ha, by omega, fun z => absurd z hno, ge⟩
  walk_at "g"
  refine w_iteD (fun _ => ?_) (fun _ => ?_)
  · walk_at "g"
    exact ⟨size, a, log, rfl, ha, by omega, fun z => absurd z hno, ge⟩
  walk_at "g"
  refine w_iteD (fun _ => ?_) (fun _ => ?_)
  · walk_at "g"
    exact ⟨size, a, log, rfl, ha, by omega, fun z => absurd z hno, ge⟩
  walk_at "g"
  refine w_iteD (fun _ => ?_) (fun _ => ?_)
  · walk_at "g"
    exact ⟨size, a, log, rfl, ha, hl, fun z => absurd z hno, ge⟩
  walk_at "g"
  exact ⟨size, a, log, low, high, rfl, ha, by omega, fun z => absurd z hno, ge, fun z => absurd z hno⟩
theorem len__law_size_refused (K : PySem.W.Frag) : ∀ vs H Q E, sp01__law_size_refused K vs H Q E → vs.length = (["way", "size", "log", "low", "high"] : List Str).length := by
  rintro vs H Q E ⟨_, _, _, _, _, _, rfl, _⟩
  rfl
theorem rd__law_size_refused (T : Txt K mg) (vs : List V) (H : Hp) (Q : VK) (E : XK) (h : sp01__law_size_refused K vs H Q E) : t__law_size_refused K E { nx := fun _ H' => Q .non H', rt := Q } (start ["way", "size", "log", "low", "high", "given", "raised"] vs) H := by
  obtain ⟨way, far, a, log, low, high, rfl, hno, ha, hl, g⟩ := h
  unfold t__law_size_refused
  walk_at "g"
  refine w_listLN (SqL.of ha) fun q H1 nq k1 hq => ?_
  walk_at "g"
  refine ⟨way, far, q, log, low, high, rfl, hq, hl, fun z => hno z.1, fun _ H2 k2 => ?_, fun z => absurd z hno⟩
  exact hnd_S T (by omega) (k2.at0 (k1.at0 ha)) (k2.at0 hq) fun H3 k3 => g H3 ((k1.trans k2).trans k3)
theorem len__law_range_right (K : PySem.W.Frag) : ∀ vs H Q E, sp01__law_range_right K vs H Q E → vs.length = (["size", "log", "low", "high"] : List Str).length := by
  rintro vs H Q E ⟨_, _, _, _, _, rfl, _⟩
  rfl
theorem rd__law_range_right (T : Txt K mg) (vs : List V) (H : Hp) (Q : VK) (E : XK) (h : sp01__law_range_right K vs H Q E) : t__law_range_right K E { nx := fun _ H' => Q .non H', rt := Q } (start ["size", "log", "low", "high", "given", "raised"] vs) H := by
  obtain ⟨n, a, log, low, high, rfl, hn, ha, hl, ho, g⟩ := h
  unfold t__law_range_right
  have sok : SizeOk (n : Int) := ⟨by omega, by omega⟩
  walk_at "g"
  refine w_chain3 ?_
  walk_at "g"
  have bad : ∀ (D : Ends), ¬ RgOk low high n → (∀ H', Kp [] H H' → D.rt (.bl true) H') → True := fun _ _ _ => trivial
  refine w_iteD (fun c1 => ?_) (fun c1 => ?_)
  · walk_at "g"
    refine w_iteD (fun c2 => ?_) (fun c2 => ?_)
    · walk_at "g"
      refine w_iteD (fun c3 => ?_) (fun c3 => ?_)
      · walk_at "g"
        exact ⟨n, a, log, low, high, rfl, hn, ha, hl, ho, ⟨c1, c2, c3⟩, g⟩
      · walk_at "g"
        refine w_listLN (SqL.of ha) fun q H1 nq k1 hq => ?_
        walk_at "g"
        refine ⟨(n : Int), q, log, low, high, rfl, hq, by omega, fun _ z => absurd z.2.2 c3, ⟨fun z => absurd sok z, fun _ i op h1 h2 h3 => absurd (ho op (List.mem_of_getElem? h1)) h3⟩, fun _ _ H2 k2 => ?_⟩
        exact hnd_R T (by omega) (k2.at0 (k1.at0 ha)) (k2.at0 hq) fun H3 k3 => g H3 ((k1.trans k2).trans k3)
    · walk_at "g"
      refine w_listLN (SqL.of ha) fun q H1 nq k1 hq => ?_
      walk_at "g"
      refine ⟨(n : Int), q, log, low, high, rfl, hq, by omega, fun _ z => absurd z.2.1 c2, ⟨fun z => absurd sok z, fun _ i op h1 h2 h3 => absurd (ho op (List.mem_of_getElem? h1)) h3⟩, fun _ _ H2 k2 => ?_⟩
      exact hnd_R T (by omega) (k2.at0 (k1.at0 ha)) (k2.at0 hq) fun H3 k3 => g H3 ((k1.trans k2).trans k3)
  · walk_at "g"
    refine w_listLN (SqL.of ha) fun q H1 nq k1 hq => ?_
    walk_at "g"
    refine ⟨(n : Int), q, log, low, high, rfl, hq, by omega, fun _ z => absurd z.1 c1, ⟨fun z => absurd sok z, fun _ i op h1 h2 h3 => absurd (ho op (List.mem_of_getElem? h1)) h3⟩, fun _ _ H2 k2 => ?_⟩
    exact hnd_R T (by omega) (k2.at0 (k1.at0 ha)) (k2.at0 hq) fun H3 k3 => g H3 ((k1.trans k2).trans k3)
theorem len__law_operation_refused (K : PySem.W.Frag) : ∀ vs H Q E, sp01__law_operation_refused K vs H Q E → vs.length = (["way", "size", "log", "low", "high"] : List Str).length := by
  rintro vs H Q E ⟨_, _, _, _, _, _, rfl, _⟩
  rfl
theorem rd__law_operation_refused (T : Txt K mg) (vs : List V) (H : Hp) (Q : VK) (E : XK) (h : sp01__law_operation_refused K vs H Q E) : t__law_operation_refused K E { nx := fun _ H' => Q .non H', rt := Q } (start ["way", "size", "log", "low", "high", "due", "given", "raised"] vs) H := by
  obtain ⟨way, n, a, log, low, high, rfl, hn, ha, hl, hbad, g⟩ := h
  unfold t__law_operation_refused
  have sok : SizeOk (n : Int) := ⟨by omega, by omega⟩
  walk_at "g"
  unfold tWhile
  refine ⟨fun m σ H' => H' = H ∧ ∃ i : Nat, σ = [some (.int (way : Int)), some (.int (n : Int)), some (.ref a), some (.int low), some (.int high), some (.int (i : Int)), none, none] ∧ i + m = log.length ∧ ∀ x ∈ log.take i, IsOp n x, ⟨log.length, rfl, 0, rfl, by omega, fun x hx => by simp at hx⟩, ?_⟩
  rintro m σ' H' ⟨rfl, i, rfl, il, ok⟩
  walk_at "g"
  refine w_lenL (SqL.of ha) ?_
  have fin : ∀ (op : Int), log[i]? = some op → ¬ IsOp n op → (tSeq (tAsg (tCB (rListA K) (tCons (tVar 2) (tNil))) (gName 6)) (tSeq (fun D σ H => (fun (W : WX) => tDrop (tCl (sp01__law_asked K) (WE W) (tCons (tVar 0) (tCons (tVar 1) (tCons (tVar 6) (tCons (tVar 3) (tCons (tVar 4) (tNil)))))))) (wAs K (.ref (He.ga K "BadOperation")) 7 (hndO K) (fun cls d _ H => E cls d H) D) D σ H) (tRet (tC (.bl false))))) { nx := fun _ H' => Q .non H', rt := Q } [some (.int (way : Int)), some (.int (n : Int)), some (.ref a), some (.int low), some (.int high), some (.int (i : Int)), none, none] H' := by
    intro op hop nop
    walk_at "g"
    refine w_listLN (SqL.of ha) fun q H1 nq k1 hq => ?_
    walk_at "g"
    refine ⟨way, (n : Int), q, log, low, high, rfl, hq, hl, fun z => nop (z.2 op (List.mem_of_getElem? hop)), fun z => absurd sok z, fun _ j op' h1 h2 h3 H2 k2 => ?_⟩
    have ej : j = i := by
      rcases Nat.lt_trichotomy j i with z | z | z
      · exact absurd (ok op' (List.mem_of_getElem? (i := j) (by rw [List.getElem?_take, if_pos z]; exact h1))) h3
      · exact z
      · exact absurd (h2 op (List.mem_of_getElem? (i := i) (by rw [List.getElem?_take, if_pos z]; exact hop))) nop
    subst ej
    exact hnd_O T (by omega) (k2.at0 (k1.at0 ha)) (k2.at0 hq) h1 fun H3 k3 => g H3 ((k1.trans k2).trans k3)
  walk_at "g"
  have take1 : ∀ x, log[i]? = some x → IsOp n x → ∀ y ∈ log.take (i + 1), IsOp n y := fun x h1 h2 y hy => by
    rw [take_snoc h1] at hy
    rcases List.mem_append.mp hy with z | z
    · exact ok y z
    · rw [List.mem_singleton.mp z]
      exact h2
  refine w_iteD (fun c1 => ?_) (fun c1 => ?_)
  · rw [List.length_map] at c1
    have il' : i < log.length := by omega
    have hop : log[i]? = some (gI log i) := by
      unfold gI
      rw [List.getD_eq_getElem?_getD, List.getElem?_eq_getElem il'] <;> rfl
    walk_at "g"
    refine w_ixL (SqL.of ha) (at_I (by omega) (by omega)) ?_
    rw [Int.toNat_natCast]
    walk_at "g"
    rw [natAbs_if]
    refine w_iteD (fun c2 => ?_) (fun c2 => ?_)
    · walk_at "g"
      refine w_iteD (fun c3 => ?_) (fun c3 => ?_)
      · refine ⟨fun σ' H'' => H'' = H' ∧ σ' = [some (.int (way : Int)), some (.int (n : Int)), some (.ref a), some (.int low), some (.int high), some (.int ((i + 1 : Nat) : Int)), none, none], fun σ' H'' z => ⟨m - 1, by omega, z.1, i + 1, z.2, by omega, take1 _ hop ⟨by omega, by omega⟩⟩, ?_⟩
        walk_at "g"
        exact ⟨rfl, rfl⟩
      · exact fin _ hop fun z => by
          unfold IsOp at z
          omega
    · refine ⟨false, rfl, ?_⟩
      rw [if_neg Bool.false_ne_true]
      exact fin _ hop fun z => by
        unfold IsOp at z
        omega
  · rw [List.length_map] at c1
    obtain ⟨op, h1, h2⟩ := hbad
    rw [List.take_of_length_le (by omega)] at ok
    exact absurd (ok op h1) h2
theorem len_law (K : PySem.W.Frag) : ∀ vs H Q E, sp_law K vs H Q E → vs.length = (["script"] : List Str).length := by
  rintro vs H Q E ⟨_, _, rfl, _⟩
  rfl
theorem rd_law (T : Txt K mg) (vs : List V) (H : Hp) (Q : VK) (E : XK) (h : sp_law K vs H Q E) : t_law K E { nx := fun _ H' => Q .non H', rt := Q } (start ["script", "box", "size", "log", "low", "high", "bent", "far", "way"] vs) H := by
  obtain ⟨a, ns, rfl, hs, hl, g⟩ := h
  unfold t_law
  walk_at "g"
  refine ⟨a, ns, rfl, hs, hl, fun b c H1 nb nc k1 b1 => ?_⟩
  walk_at "g"
  refine ⟨b, c, rfl, b1, fun n H2 hn k2 b2 => ?_⟩
  walk_at "g"
  refine ⟨b, c, n, rfl, hn, b2, fun log q H3 ho hlen nq k3 b3 hq => ?_⟩
  obtain ⟨qb, qc⟩ := b2.fr nq
  walk_at "g"
  refine ⟨b, c, (n : Int) + 3, rfl, by omega, by omega, b3, fun lo H4 l0 l1 k4 b4 => ?_⟩
  have hq4 := k4.at1 qb hq
  walk_at "g"
  refine ⟨b, c, (n : Int) + 4, rfl, by omega, by omega, b4, fun hi H5 h0 h1 k5 b5 => ?_⟩
  have hq5 := k5.at1 qb hq4
  walk_at "g"
  refine ⟨b, c, q, n, log, rfl, hn, b5, qb, hq5, hlen, fun bent p H6 bad blen np k6 b6 hp => ?_⟩
  obtain ⟨pb, pc⟩ := b5.fr np
  have hq6 := k6.at1 qb hq5
  walk_at "g"
  refine ⟨b, c, rfl, b6, fun far H7 hf k7 b7 => ?_⟩
  have hq7 := k7.at1 qb hq6
  have hp7 := k7.at1 pb hp
  walk_at "g"
  refine ⟨n, q, log, rfl, hn, hq7, by omega, ho, fun H8 k8 => ?_⟩
  walk_at "g"
  refine ⟨n, q, log, rfl, hn, k8.at0 hq7, by omega, ho, fun H9 k9 => ?_⟩
  have k79 := k8.trans k9
  walk_at "g"
  refine ⟨n, q, log, rfl, hn, k79.at0 hq7, by omega, ho, fun HA kA => ?_⟩
  have k7A := k79.trans kA
  walk_at "g"
  refine ⟨n, q, log, lo - 1, hi - 1, rfl, hn, k7A.at0 hq7, by omega, ho, fun HB kB => ?_⟩
  have k7B := k7A.trans kB
  have hpB := k7B.at0 hp7
  walk_at "g"
  refine w_r1 (by omega) ?_
  refine lp_rng0 (fun i σ H' => (∃ u, σ = [some (.ref a), some (.ref b), some (.int (n : Int)), some (.ref q), some (.int (lo - 1)), some (.int (hi - 1)), some (.ref p), some (.int far), u]) ∧ Kp [] HB H') ⟨⟨_, rfl⟩, Kp.refl _ _⟩ ?_ ?_
  · rintro i σ' H' hi' ⟨⟨u, rfl⟩, k⟩
    walk_at "g"
    refine ⟨i, n, p, bent, lo - 1, hi - 1, rfl, hn, k.at0 hpB, by omega, bad, fun HC kC => ?_⟩
    have k2 := k.trans kC
    walk_at "g"
    refine ⟨i, far, p, bent, lo - 1, hi - 1, rfl, hf, k2.at0 hpB, by omega, fun HD kD => ?_⟩
    walk_at "g"
    exact ⟨⟨_, rfl⟩, k2.trans kD⟩
  · rintro σ' H' ⟨⟨u, rfl⟩, k⟩
    walk_at "g"
    exact g H'
end
end G


set_option Elab.async false
set_option linter.all false
set_option maxRecDepth 100000
set_option maxHeartbeats 4000000

namespace G
open PySem PySem.Spec PyProof.Rows L2
section
variable {P : Program} {w : World} {K : PySem.W.Frag} {mg : Str → Option Value} {base : Heap}
theorem ok__law_draw {f : Addr} {fd : FuncData} (T : Txt K mg) (F : FunD K "_law_draw" "_law_draw" (defArgs s__law_draw) (defBody s__law_draw) (defScope s__law_draw) [] [] f fd)  : FnOk P w K mg base (L2N.CX P w) 1 f fd ["box", "many"] (sp00__law_draw K) :=
  F.ok sc__law_draw (len__law_draw K) fun cdv A outer s H vs Q E hr h => ⟨t__law_draw K E, pss_cons (ps_if ((pw_and (pt_cmpR (op_eqA hr) (pe_ix ix_seq (pv 0) (pe_int) (fun _ _ => rfl)) (pe_int) (nomark _)) (pw_and1 (pt_cmpR op_lt (pe_ix ix_seq (pv 0) (pe_int) (fun _ _ => rfl)) (pe_callB call_lenA (by rfl) T.b_len (by decide +kernel) (pa_cons (pe_ix ix_seq (pv 0) (pe_int) (fun _ _ => rfl)) (pa_nil))) (nomark _)))).pt) (pss_cons (ps_set (i := 2) sc__law_draw.nd rfl (by first | exact Or.inl rfl | exact Or.inr rfl) (pe_ix ix_seq (pe_ix ix_seq (pv 0) (pe_int) (fun _ _ => rfl)) (pe_ix ix_seq (pv 0) (pe_int) (fun _ _ => rfl)) (fun _ _ => rfl))) (pss_cons (ps_asg (pe_op op_addA (pe_ix ix_seq (pv 0) (pe_int) (fun _ _ => rfl)) (pe_int)) (pg_sub (pv 0) (pe_int) set_list)) (pss_one (ps_if (pt_cmpR op_ge (pv 2) (pe_op op_pow (pe_int) (pe_int)) (nomark _)) (pss_one (ps_asg (pv 2) (pg_sub (pv 0) (pe_int) set_list))) (pss_one (ps_asg (pe_op op_mod (pe_callTy call_intA (by rfl) T.b_int (by decide +kernel) (pa_cons (pe_op op_addA (pe_op op_addA (pe_op op_mulA (pe_ix ix_seq (pv 0) (pe_int) (fun _ _ => rfl)) (pe_int)) (pe_op op_mulA (pv 2) (pe_int))) (pe_int)) (pa_nil))) (pe_int)) (pg_sub (pv 0) (pe_int) set_list))))))) (pss_nil)) (pss_cons (ps_if (pt_cmpR op_gt (pe_ix ix_seq (pv 0) (pe_int) (fun _ _ => rfl)) (pe_int) (nomark _)) (pss_cons (ps_set (i := 3) sc__law_draw.nd rfl (by first | exact Or.inl rfl | exact Or.inr rfl) (pe_op op_mod (pe_callTy call_intA (by rfl) T.b_int (by decide +kernel) (pa_cons (pe_ix ix_seq (pv 0) (pe_int) (fun _ _ => rfl)) (pa_nil))) (pv 1))) (pss_cons (ps_asg (pe_op op_fdiv (pe_ix ix_seq (pv 0) (pe_int) (fun _ _ => rfl)) (pv 1)) (pg_sub (pv 0) (pe_int) set_list)) (pss_one (ps_ret (pv 3))))) (pss_nil)) (pss_cons (ps_asg (pe_op op_addA (pe_ix ix_seq (pv 0) (pe_int) (fun _ _ => rfl)) (pe_int)) (pg_sub (pv 0) (pe_int) set_list)) (pss_cons (ps_asg (pe_op op_mod (pe_callTy call_intA (by rfl) T.b_int (by decide +kernel) (pa_cons (pe_op op_addA (pe_op op_mulA (pe_ix ix_seq (pv 0) (pe_int) (fun _ _ => rfl)) (pe_int)) (pe_op op_mulA (pe_ix ix_seq (pv 0) (pe_int) (fun _ _ => rfl)) (pe_int))) (pa_nil))) (pe_int)) (pg_sub (pv 0) (pe_int) set_list)) (pss_cons (ps_set (i := 4) sc__law_draw.nd rfl (by first | exact Or.inl rfl | exact Or.inr rfl) (pe_op op_mod (pe_callTy call_intA (by rfl) T.b_int (by decide +kernel) (pa_cons (pe_op op_addA (pe_op op_addA (pe_op op_mulA (pe_op op_fdiv (pe_ix ix_seq (pv 0) (pe_int) (fun _ _ => rfl)) (pe_int)) (pe_int)) (pe_ix ix_seq (pv 0) (pe_int) (fun _ _ => rfl))) (pe_ix ix_seq (pv 0) (pe_int) (fun _ _ => rfl))) (pa_nil))) (pe_int))) (pss_one (ps_ret (pe_op op_mod (pe_callTy call_intA (by rfl) T.b_int (by decide +kernel) (pa_cons (pe_op op_fdiv (pv 4) (pe_int)) (pa_nil))) (pv 1)))))))), rd__law_draw T vs H Q E h⟩
theorem ok__law_bent {f : Addr} {fd : FuncData} (T : Txt K mg) (F : FunD K "_law_bent" "_law_bent" (defArgs s__law_bent) (defBody s__law_bent) (defScope s__law_bent) [] [] f fd) (c__law_draw : Cal P w K mg base 1 "_law_draw" ["box", "many"] (sp00__law_draw K)) : FnOk P w K mg base (L2N.CX P w) 2 f fd ["box", "size", "log"] (sp01__law_bent K) :=
  F.ok sc__law_bent (len__law_bent K) fun cdv A outer s H vs Q E hr h => ⟨t__law_bent K E, pss_cons (ps_set (i := 3) sc__law_bent.nd rfl (by first | exact Or.inl rfl | exact Or.inr rfl) (pe_callTy call_listA (by rfl) T.b_list (by decide +kernel) (pa_cons (pv 2) (pa_nil)))) (pss_cons (ps_for (passes_of rfl) rfl (pi_range1 rfl T.b_range (pa_cons (pe_op op_addA (pe_int) (pe_cl c__law_draw hr (by decide) (pat_of (W := fun cls d _ H => E cls d H) (L2N.takes_of rfl rfl rfl rfl)) (pa_cons (pv 0) (pa_cons (pe_int) (pa_nil))))) (pa_nil))) (pg_name (i := 4) sc__law_bent.nd rfl (by first | exact Or.inl rfl | exact Or.inr rfl)) (pss_cons (ps_set (i := 5) sc__law_bent.nd rfl (by first | exact Or.inl rfl | exact Or.inr rfl) (pe_int)) (pss_cons (ps_set (i := 6) sc__law_bent.nd rfl (by first | exact Or.inl rfl | exact Or.inr rfl) (pe_cl c__law_draw hr (by decide) (pat_of (W := fun cls d _ H => E cls d H) (L2N.takes_of rfl rfl rfl rfl)) (pa_cons (pv 0) (pa_cons (pe_int) (pa_nil))))) (pss_cons (ps_if ((pw_or (pt_cmpR (op_eqA hr) (pv 6) (pe_int) (nomark _)) (pw_or1 (pt_cmpR (op_eqA hr) (pv 6) (pe_int) (nomark _)))).pt) (pss_one (ps_set (i := 5) sc__law_bent.nd rfl (by first | exact Or.inl rfl | exact Or.inr rfl) (pe_op op_addA (pv 1) (pe_int)))) (pss_nil)) (pss_cons (ps_if (pt_cmpR op_gt (pv 6) (pe_int) (nomark _)) (pss_one (ps_set (i := 5) sc__law_bent.nd rfl (by first | exact Or.inl rfl | exact Or.inr rfl) (pe_op op_addA (pe_op op_addA (pv 1) (pe_int)) (pe_cl c__law_draw hr (by decide) (pat_of (W := fun cls d _ H => E cls d H) (L2N.takes_of rfl rfl rfl rfl)) (pa_cons (pv 0) (pa_cons (pe_op op_pow (pe_int) (pe_int)) (pa_nil))))))) (pss_nil)) (pss_cons (ps_if ((pw_or (pt_cmpR (op_eqA hr) (pv 6) (pe_int) (nomark _)) (pw_or1 (pt_cmpR (op_eqA hr) (pv 6) (pe_int) (nomark _)))).pt) (pss_one (ps_set (i := 5) sc__law_bent.nd rfl (by first | exact Or.inl rfl | exact Or.inr rfl) (pe_un un_neg (pv 5)))) (pss_nil)) (pss_one (ps_expr (pe_bm PySem.F.plainAttrs_list PySem.F.slot_list_insert PySem.F.type_list_insert mt_insert (pv 3) (pa_cons (pe_cl c__law_draw hr (by decide) (pat_of (W := fun cls d _ H => E cls d H) (L2N.takes_of rfl rfl rfl rfl)) (pa_cons (pv 0) (pa_cons (pe_op op_addA (pe_callB call_lenA (by rfl) T.b_len (by decide +kernel) (pa_cons (pv 3) (pa_nil))) (pe_int)) (pa_nil)))) (pa_cons (pv 5) (pa_nil)))))))))))) (pss_one (ps_ret (pv 3)))), rd__law_bent T vs H Q E h⟩
theorem ok__law_is {f : Addr} {fd : FuncData} (T : Txt K mg) (F : FunD K "_law_is" "_law_is" (defArgs s__law_is) (defBody s__law_is) (defScope s__law_is) [] [] f fd)  : FnOk P w K mg base (L2N.CX P w) 1 f fd ["told", "due"] (sp00__law_is K) :=
  F.ok sc__law_is (len__law_is K) fun cdv A outer s H vs Q E hr h => ⟨t__law_is K E, pss_one (ps_ret (pe_and (pe_callB call_isi (by rfl) T.b_isinstance (by decide +kernel) (pa_cons (pv 0) (pa_cons (pe_ty "int" T.b_int (by decide +kernel)) (pa_nil)))) (pe_and (pe_not (pe_callB call_isi (by rfl) T.b_isinstance (by decide +kernel) (pa_cons (pv 0) (pa_cons (pe_ty "bool" T.b_bool (by decide +kernel)) (pa_nil))))) (pe_one (pe_cmpR (op_eqA hr) (pv 0) (pv 1) (nomark _)))))), rd__law_is T vs H Q E h⟩
theorem ok__law_integers {f : Addr} {fd : FuncData} (T : Txt K mg) (F : FunD K "_law_integers" "_law_integers" (defArgs s__law_integers) (defBody s__law_integers) (defScope s__law_integers) [] [] f fd) (c__law_is : Cal P w K mg base 1 "_law_is" ["told", "due"] (sp00__law_is K)) : FnOk P w K mg base (L2N.CX P w) 2 f fd ["told", "due"] (sp00__law_integers K) :=
  F.ok sc__law_integers (len__law_integers K) fun cdv A outer s H vs Q E hr h => ⟨t__law_integers K E, pss_cons (ps_if ((pw_or (pt_not (pt_val (pe_callB call_isi (by rfl) T.b_isinstance (by decide +kernel) (pa_cons (pv 0) (pa_cons (pe_ty "list" T.b_list (by decide +kernel)) (pa_nil)))))) (pw_or1 (pt_cmpR (op_neA hr) (pe_callB call_lenA (by rfl) T.b_len (by decide +kernel) (pa_cons (pv 0) (pa_nil))) (pe_callB call_lenA (by rfl) T.b_len (by decide +kernel) (pa_cons (pv 1) (pa_nil))) (nomark _)))).pt) (pss_one (ps_ret (pe_bl))) (pss_nil)) (pss_cons (ps_for (passes_of rfl) rfl (pi_range1 rfl T.b_range (pa_cons (pe_callB call_lenA (by rfl) T.b_len (by decide +kernel) (pa_cons (pv 1) (pa_nil))) (pa_nil))) (pg_name (i := 2) sc__law_integers.nd rfl (by first | exact Or.inl rfl | exact Or.inr rfl)) (pss_one (ps_if (pt_not (pt_val (pe_cl c__law_is hr (by decide) (pat_of (W := fun cls d _ H => E cls d H) (L2N.takes_of rfl rfl rfl rfl)) (pa_cons (pe_ix ix_seq (pv 0) (pv 2) (fun _ _ => rfl)) (pa_cons (pe_ix ix_seq (pv 1) (pv 2) (fun _ _ => rfl)) (pa_nil)))))) (pss_one (ps_ret (pe_bl))) (pss_nil)))) (pss_one (ps_ret (pe_bl)))), rd__law_integers T vs H Q E h⟩
theorem ok_check_operation {f : Addr} {fd : FuncData} (T : Txt K mg) (F : FunD K "check_operation" "check_operation" (defArgs s_check_operation) (defBody s_check_operation) (defScope s_check_operation) [] [] f fd) (x_BadOperation : ExM P w K mg base 1 "BadOperation" (He.ga K "BadOperation") ["operation", "index"]) : FnOk P w K mg base (L2N.CX P w) 3 f fd ["size", "operation", "index"] (sp_check_operation K) :=
  F.ok sc_check_operation (len_check_operation K) fun cdv A outer s H vs Q E hr h => ⟨t_check_operation K E, pss_one (ps_if (pt_not (pt_chain op_le op_le (pe_int) (pe_callB call_absA (by rfl) T.b_abs (by decide +kernel) (pa_cons (pv 1) (pa_nil))) (pv 0))) (pss_one (ps_rz x_BadOperation rfl (L2N.takes_of rfl rfl rfl rfl) hr (by decide) (pa_cons (pv 1) (pa_cons (pv 2) (pa_nil))))) (pss_nil)), rd_check_operation T vs H Q E h⟩
theorem ok_check_size {f : Addr} {fd : FuncData} (T : Txt K mg) (F : FunD K "check_size" "check_size" (defArgs s_check_size) (defBody s_check_size) (defScope s_check_size) [] [] f fd) (x_BadSize : ExM P w K mg base 1 "BadSize" (He.ga K "BadSize") ["size"]) : FnOk P w K mg base (L2N.CX P w) 3 f fd ["size"] (sp_check_size K) :=
  F.ok sc_check_size (len_check_size K) fun cdv A outer s H vs Q E hr h => ⟨t_check_size K E, pss_one (ps_if (pt_not (pt_chain op_le op_le (pe_int) (pv 0) (pe_cc T.cc_Links_MOST (pe_own T.g_Links)))) (pss_one (ps_rz x_BadSize rfl (L2N.takes_of rfl rfl rfl rfl) hr (by decide) (pa_cons (pv 0) (pa_nil)))) (pss_nil)), rd_check_size T vs H Q E h⟩
theorem ok__check_operations {f : Addr} {fd : FuncData} (T : Txt K mg) (F : FunD K "_check_operations" "_check_operations" (defArgs s__check_operations) (defBody s__check_operations) (defScope s__check_operations) [] [] f fd) (c_check_operation : Cal P w K mg base 3 "check_operation" ["size", "operation", "index"] (sp_check_operation K)) (c_check_size : Cal P w K mg base 3 "check_size" ["size"] (sp_check_size K)) : FnOk P w K mg base (L2N.CX P w) 4 f fd ["size", "log"] (sp01__check_operations K) :=
  F.ok sc__check_operations (len__check_operations K) fun cdv A outer s H vs Q E hr h => ⟨t__check_operations K E, pss_cons (ps_expr (pe_cl c_check_size hr (by decide) (pat_of (W := fun cls d _ H => E cls d H) (L2N.takes_of rfl rfl rfl rfl)) (pa_cons (pv 0) (pa_nil)))) (pss_one (ps_for (passes_of rfl) rfl (pi_enum (by rfl) T.b_enumerate (pa_cons (pv 1) (pa_nil))) (pg_tup (by rfl) (pgs_cons (pg_name (i := 2) sc__check_operations.nd rfl (by first | exact Or.inl rfl | exact Or.inr rfl)) (pgs_cons (pg_name (i := 3) sc__check_operations.nd rfl (by first | exact Or.inl rfl | exact Or.inr rfl)) (pgs_nil)))) (pss_one (ps_expr (pe_cl c_check_operation hr (by decide) (pat_of (W := fun cls d _ H => E cls d H) (L2N.takes_of rfl rfl rfl rfl)) (pa_cons (pv 0) (pa_cons (pv 3) (pa_cons (pv 2) (pa_nil))))))))), rd__check_operations T vs H Q E h⟩
theorem ok__on_node {f : Addr} {fd : FuncData} (T : Txt K mg) (F : FunD K "_on_node" "_on_node" (defArgs s__on_node) (defBody s__on_node) (defScope s__on_node) [] [] f fd)  : FnOk P w K mg base (L2N.CX P w) 1 f fd ["operation", "node"] (sp04__on_node K) :=
  F.ok sc__on_node (len__on_node K) fun cdv A outer s H vs Q E hr h => ⟨t__on_node K E, pss_one (ps_ret (pe_ifExp (pt_cmpR op_gt (pv 0) (pe_int) (nomark _)) (pv 1) (pe_un un_neg (pv 1)))), rd__on_node T vs H Q E h⟩
theorem ok_block_part {f : Addr} {fd : FuncData} (T : Txt K mg) (F : FunD K "block_part" "block_part" (defArgs s_block_part) (defBody s_block_part) (defScope s_block_part) [] [] f fd) (c__check_operations : Cal P w K mg base 4 "_check_operations" ["size", "log"] (sp01__check_operations K)) (c__on_node : Cal P w K mg base 1 "_on_node" ["operation", "node"] (sp04__on_node K)) (x_BadRange : ExM P w K mg base 1 "BadRange" (He.ga K "BadRange") ["low", "high"]) : FnOk P w K mg base (L2N.CX P w) 5 f fd ["size", "log", "low", "high"] (sp01_block_part K) :=
  F.ok sc_block_part (len_block_part K) fun cdv A outer s H vs Q E hr h => ⟨t_block_part K E, pss_cons (ps_expr (pe_cl c__check_operations hr (by decide) (pat_of (W := fun cls d _ H => E cls d H) (L2N.takes_of rfl rfl rfl rfl)) (pa_cons (pv 0) (pa_cons (pv 1) (pa_nil))))) (pss_cons (ps_if (pt_not (pt_chain3 op_le op_le op_le (pe_int) (pv 2) (pv 3) (pv 0))) (pss_one (ps_rz x_BadRange rfl (L2N.takes_of rfl rfl rfl rfl) hr (by decide) (pa_cons (pv 2) (pa_cons (pv 3) (pa_nil))))) (pss_nil)) (pss_one (ps_ret (pe_lc (own := [("operation", 4)]) (g := gName 4) (tt := tTest (tChain rLeA rLeA (tVar 2) (tCB rAbsA (tCons (tVar 4) (tNil))) (tVar 3))) (te := tCl (sp04__on_node K) (fun _ => E0) (tCons (tVar 4) (tCons (tOp rAddA (tOp rSubA (tCB rAbsA (tCons (tVar 4) (tNil))) (tVar 2)) (tC (.int 1))) (tNil)))) rfl sc_block_part.nd (pi_list (pv 1)) (blkOk_by (own := [("operation", 4)]) (N := ["size", "log", "low", "high", "operation"]) (sc := defScope s_block_part) (by decide +kernel)) (fun _ _ _ _ _ => pg_name (i := 4) sc_block_part.nd rfl (by first | exact Or.inl rfl | exact Or.inr rfl)) (fun _ _ _ _ _ => pts_one (pt_chain op_le op_le (pv 2) (pe_callB call_absA (by rfl) T.b_abs (by decide +kernel) (pa_cons (pv 4) (pa_nil))) (pv 3))) (fun _ _ _ _ _ => pe_cl c__on_node hr (by decide) (pat_no) (pa_cons (pv 4) (pa_cons (pe_op op_addA (pe_op op_sub (pe_callB call_absA (by rfl) T.b_abs (by decide +kernel) (pa_cons (pv 4) (pa_nil))) (pv 2)) (pe_int)) (pa_nil)))))))), rd_block_part T vs H Q E h⟩
theorem ok__law_part_right {f : Addr} {fd : FuncData} (T : Txt K mg) (F : FunD K "_law_part_right" "_law_part_right" (defArgs s__law_part_right) (defBody s__law_part_right) (defScope s__law_part_right) [] [] f fd) (c__law_integers : Cal P w K mg base 2 "_law_integers" ["told", "due"] (sp00__law_integers K)) (c_block_part : Cal P w K mg base 5 "block_part" ["size", "log", "low", "high"] (sp01_block_part K)) : FnOk P w K mg base (L2N.CX P w) 6 f fd ["size", "log", "low", "high"] (sp01__law_part_right K) :=
  F.ok sc__law_part_right (len__law_part_right K) fun cdv A outer s H vs Q E hr h => ⟨t__law_part_right K E, pss_cons (ps_set (i := 4) sc__law_part_right.nd rfl (by first | exact Or.inl rfl | exact Or.inr rfl) (pe_lst (pa_nil))) (pss_cons (ps_for (passes_of rfl) rfl (pi_list (pv 1)) (pg_name (i := 5) sc__law_part_right.nd rfl (by first | exact Or.inl rfl | exact Or.inr rfl)) (pss_cons (ps_if ((pw_and (pt_chain op_le op_le (pv 2) (pe_callB call_absA (by rfl) T.b_abs (by decide +kernel) (pa_cons (pv 5) (pa_nil))) (pv 3)) (pw_and1 (pt_cmpR op_lt (pv 5) (pe_int) (nomark _)))).pt) (pss_one (ps_expr (pe_bm PySem.F.plainAttrs_list PySem.F.slot_list_append PySem.F.type_list_append mt_append (pv 4) (pa_cons (pe_op op_sub (pe_op op_addA (pv 5) (pv 2)) (pe_int)) (pa_nil))))) (pss_nil)) (pss_one (ps_if (pt_chain op_le op_le (pv 2) (pv 5) (pv 3)) (pss_one (ps_expr (pe_bm PySem.F.plainAttrs_list PySem.F.slot_list_append PySem.F.type_list_append mt_append (pv 4) (pa_cons (pe_op op_addA (pe_op op_sub (pv 5) (pv 2)) (pe_int)) (pa_nil))))) (pss_nil))))) (pss_cons (ps_set (i := 6) sc__law_part_right.nd rfl (by first | exact Or.inl rfl | exact Or.inr rfl) (pe_callTy call_listA (by rfl) T.b_list (by decide +kernel) (pa_cons (pv 1) (pa_nil)))) (pss_cons (ps_set (i := 7) sc__law_part_right.nd rfl (by first | exact Or.inl rfl | exact Or.inr rfl) (pe_cl c_block_part hr (by decide) (pat_of (W := fun cls d _ H => E cls d H) (L2N.takes_of rfl rfl rfl rfl)) (pa_cons (pv 0) (pa_cons (pv 6) (pa_cons (pv 2) (pa_cons (pv 3) (pa_nil))))))) (pss_cons (ps_if (pt_not (pt_val (pe_cl c__law_integers hr (by decide) (pat_of (W := fun cls d _ H => E cls d H) (L2N.takes_of rfl rfl rfl rfl)) (pa_cons (pv 7) (pa_cons (pv 4) (pa_nil)))))) (pss_one (ps_ret (pe_bl))) (pss_nil)) (pss_cons (ps_expr (pe_bm PySem.F.plainAttrs_list PySem.F.slot_list_append PySem.F.type_list_append mt_append (pv 7) (pa_cons (pe_int) (pa_nil)))) (pss_one (ps_ret (pe_cl c__law_integers hr (by decide) (pat_of (W := fun cls d _ H => E cls d H) (L2N.takes_of rfl rfl rfl rfl)) (pa_cons (pv 6) (pa_cons (pv 1) (pa_nil))))))))))), rd__law_part_right T vs H Q E h⟩
theorem ok__law_ranges {f : Addr} {fd : FuncData} (T : Txt K mg) (F : FunD K "_law_ranges" "_law_ranges" (defArgs s__law_ranges) (defBody s__law_ranges) (defScope s__law_ranges) [] [] f fd)  : FnOk P w K mg base (L2N.CX P w) 1 f fd ["size", "log"] (sp01__law_ranges K) :=
  F.ok sc__law_ranges (len__law_ranges K) fun cdv A outer s H vs Q E hr h => ⟨t__law_ranges K E, pss_cons (ps_setLc (i := 2) (own := [("node", 6)]) (g := gName 6) (tt := tYes) (te := tC (.bl false)) rfl sc__law_ranges.nd rfl rfl (sw_true rfl rfl rfl (by decide +kernel)) (pi_range1 rfl T.b_range (pa_cons (pe_op op_addA (pv 0) (pe_int)) (pa_nil))) (blkOk_by (own := [("node", 6)]) (N := ["size", "log", "acting", "operation", "found", "low", "node"]) (sc := defScope s__law_ranges) (by decide +kernel)) (fun _ _ _ _ _ => pg_name (i := 6) sc__law_ranges.nd rfl (by first | exact Or.inl rfl | exact Or.inr rfl)) (fun _ _ _ _ _ => pts_nil) (fun _ _ _ _ _ => pe_bl)) (pss_cons (ps_for (passes_of rfl) rfl (pi_list (pv 1)) (pg_name (i := 3) sc__law_ranges.nd rfl (by first | exact Or.inl rfl | exact Or.inr rfl)) (pss_one (ps_asg (pe_bl) (pg_sub (pv 2) (pe_callB call_absA (by rfl) T.b_abs (by decide +kernel) (pa_cons (pv 3) (pa_nil))) set_list)))) (pss_cons (ps_set (i := 4) sc__law_ranges.nd rfl (by first | exact Or.inl rfl | exact Or.inr rfl) (pe_lst (pa_nil))) (pss_cons (ps_set (i := 5) sc__law_ranges.nd rfl (by first | exact Or.inl rfl | exact Or.inr rfl) (pe_int)) (pss_cons (ps_for (passes_of rfl) rfl (pi_range2 rfl T.b_range (pa_cons (pe_int) (pa_cons (pe_op op_addA (pv 0) (pe_int)) (pa_nil)))) (pg_name (i := 6) sc__law_ranges.nd rfl (by first | exact Or.inl rfl | exact Or.inr rfl)) (pss_cons (ps_if ((pw_and (pt_val (pe_ix ix_seq (pv 2) (pv 6) (fun _ _ => rfl))) (pw_and1 (pt_cmpR (op_eqA hr) (pv 5) (pe_int) (nomark _)))).pt) (pss_one (ps_set (i := 5) sc__law_ranges.nd rfl (by first | exact Or.inl rfl | exact Or.inr rfl) (pv 6))) (pss_nil)) (pss_one (ps_if ((pw_and (pt_not (pt_val (pe_ix ix_seq (pv 2) (pv 6) (fun _ _ => rfl)))) (pw_and1 (pt_cmpR op_gt (pv 5) (pe_int) (nomark _)))).pt) (pss_cons (ps_expr (pe_bm PySem.F.plainAttrs_list PySem.F.slot_list_append PySem.F.type_list_append mt_append (pv 4) (pa_cons (pe_tup (pa_cons (pv 5) (pa_cons (pe_op op_sub (pv 6) (pe_int)) (pa_nil)))) (pa_nil)))) (pss_one (ps_set (i := 5) sc__law_ranges.nd rfl (by first | exact Or.inl rfl | exact Or.inr rfl) (pe_int)))) (pss_nil))))) (pss_one (ps_ret (pv 4))))))), rd__law_ranges T vs H Q E h⟩
theorem ok_blocks {f : Addr} {fd : FuncData} (T : Txt K mg) (F : FunD K "blocks" "blocks" (defArgs s_blocks) (defBody s_blocks) (defScope s_blocks) [] [] f fd) (c__check_operations : Cal P w K mg base 4 "_check_operations" ["size", "log"] (sp01__check_operations K)) : FnOk P w K mg base (L2N.CX P w) 5 f fd ["size", "log"] (sp01_blocks K) :=
  F.ok sc_blocks (len_blocks K) fun cdv A outer s H vs Q E hr h => ⟨t_blocks K w E, pss_cons (ps_expr (pe_cl c__check_operations hr (by decide) (pat_of (W := fun cls d _ H => E cls d H) (L2N.takes_of rfl rfl rfl rfl)) (pa_cons (pv 0) (pa_cons (pv 1) (pa_nil))))) (pss_cons (ps_set (i := 2) sc_blocks.nd rfl (by first | exact Or.inl rfl | exact Or.inr rfl) (pe_lst (pa_nil))) (pss_cons (ps_for (passes_of rfl) rfl (pi_list (pe_callB (cr_sortedSet rfl) (by rfl) T.b_sorted (by decide +kernel) (pa_cons (pe_setI (own := [("operation", 4)]) (g := gName 4) (te := tCB rAbsA (tCons (tVar 4) (tNil))) rfl sc_blocks.nd (pi_list (pv 1)) (blkOk_by (own := [("operation", 4)]) (N := ["size", "log", "ranges", "node", "operation"]) (sc := defScope s_blocks) (by decide +kernel)) (fun _ _ _ _ _ => pg_name (i := 4) sc_blocks.nd rfl (by first | exact Or.inl rfl | exact Or.inr rfl)) (fun _ _ _ _ _ => pe_callB call_absA (by rfl) T.b_abs (by decide +kernel) (pa_cons (pv 4) (pa_nil)))) (pa_nil)))) (pg_name (i := 3) sc_blocks.nd rfl (by first | exact Or.inl rfl | exact Or.inr rfl)) (pss_one (ps_if ((pw_and (pt_tr (pv 2) (by intro _; rfl)) (pw_and1 (pt_cmpR (op_eqA hr) (pe_ix ix_seq (pe_ix ix_seq (pv 2) (pe_un un_neg (pe_int)) (fun _ _ => rfl)) (pe_int) (fun _ _ => rfl)) (pe_op op_sub (pv 3) (pe_int)) (nomark _)))).pt) (pss_one (ps_asg (pe_tup (pa_cons (pe_ix ix_seq (pe_ix ix_seq (pv 2) (pe_un un_neg (pe_int)) (fun _ _ => rfl)) (pe_int) (fun _ _ => rfl)) (pa_cons (pv 3) (pa_nil)))) (pg_sub (pv 2) (pe_un un_neg (pe_int)) set_list))) (pss_one (ps_expr (pe_bm PySem.F.plainAttrs_list PySem.F.slot_list_append PySem.F.type_list_append mt_append (pv 2) (pa_cons (pe_tup (pa_cons (pv 3) (pa_cons (pv 3) (pa_nil)))) (pa_nil)))))))) (pss_one (ps_ret (pv 2))))), rd_blocks w T vs H Q E h⟩
theorem ok__law_blocks_right {f : Addr} {fd : FuncData} (T : Txt K mg) (F : FunD K "_law_blocks_right" "_law_blocks_right" (defArgs s__law_blocks_right) (defBody s__law_blocks_right) (defScope s__law_blocks_right) [] [] f fd) (c__law_integers : Cal P w K mg base 2 "_law_integers" ["told", "due"] (sp00__law_integers K)) (c__law_is : Cal P w K mg base 1 "_law_is" ["told", "due"] (sp00__law_is K)) (c__law_part_right : Cal P w K mg base 6 "_law_part_right" ["size", "log", "low", "high"] (sp01__law_part_right K)) (c__law_ranges : Cal P w K mg base 1 "_law_ranges" ["size", "log"] (sp01__law_ranges K)) (c_blocks : Cal P w K mg base 5 "blocks" ["size", "log"] (sp01_blocks K)) : FnOk P w K mg base (L2N.CX P w) 7 f fd ["size", "log"] (sp01__law_blocks_right K) :=
  F.ok sc__law_blocks_right (len__law_blocks_right K) fun cdv A outer s H vs Q E hr h => ⟨t__law_blocks_right K E, pss_cons (ps_set (i := 2) sc__law_blocks_right.nd rfl (by first | exact Or.inl rfl | exact Or.inr rfl) (pe_cl c__law_ranges hr (by decide) (pat_of (W := fun cls d _ H => E cls d H) (L2N.takes_of rfl rfl rfl rfl)) (pa_cons (pv 0) (pa_cons (pv 1) (pa_nil))))) (pss_cons (ps_set (i := 3) sc__law_blocks_right.nd rfl (by first | exact Or.inl rfl | exact Or.inr rfl) (pe_callTy call_listA (by rfl) T.b_list (by decide +kernel) (pa_cons (pv 1) (pa_nil)))) (pss_cons (ps_set (i := 4) sc__law_blocks_right.nd rfl (by first | exact Or.inl rfl | exact Or.inr rfl) (pe_cl c_blocks hr (by decide) (pat_of (W := fun cls d _ H => E cls d H) (L2N.takes_of rfl rfl rfl rfl)) (pa_cons (pv 0) (pa_cons (pv 3) (pa_nil))))) (pss_cons (ps_if ((pw_or (pt_not (pt_val (pe_callB call_isi (by rfl) T.b_isinstance (by decide +kernel) (pa_cons (pv 4) (pa_cons (pe_ty "list" T.b_list (by decide +kernel)) (pa_nil)))))) (pw_or (pt_cmpR (op_neA hr) (pe_callB call_lenA (by rfl) T.b_len (by decide +kernel) (pa_cons (pv 4) (pa_nil))) (pe_callB call_lenA (by rfl) T.b_len (by decide +kernel) (pa_cons (pv 2) (pa_nil))) (nomark _)) (pw_or1 (pt_not (pt_val (pe_cl c__law_integers hr (by decide) (pat_of (W := fun cls d _ H => E cls d H) (L2N.takes_of rfl rfl rfl rfl)) (pa_cons (pv 3) (pa_cons (pv 1) (pa_nil))))))))).pt) (pss_one (ps_ret (pe_bl))) (pss_nil)) (pss_cons (ps_for (passes_of rfl) rfl (pi_range1 rfl T.b_range (pa_cons (pe_callB call_lenA (by rfl) T.b_len (by decide +kernel) (pa_cons (pv 2) (pa_nil))) (pa_nil))) (pg_name (i := 5) sc__law_blocks_right.nd rfl (by first | exact Or.inl rfl | exact Or.inr rfl)) (pss_cons (ps_set (i := 6) sc__law_blocks_right.nd rfl (by first | exact Or.inl rfl | exact Or.inr rfl) (pe_ix ix_seq (pv 4) (pv 5) (fun _ _ => rfl))) (pss_cons (ps_if ((pw_or (pt_not (pt_val (pe_callB call_isi (by rfl) T.b_isinstance (by decide +kernel) (pa_cons (pv 6) (pa_cons (pe_ty "tuple" T.b_tuple (by decide +kernel)) (pa_nil)))))) (pw_or1 (pt_cmpR (op_neA hr) (pe_callB call_lenA (by rfl) T.b_len (by decide +kernel) (pa_cons (pv 6) (pa_nil))) (pe_int) (nomark _)))).pt) (pss_one (ps_ret (pe_bl))) (pss_nil)) (pss_cons (ps_if ((pw_or (pt_not (pt_val (pe_cl c__law_is hr (by decide) (pat_of (W := fun cls d _ H => E cls d H) (L2N.takes_of rfl rfl rfl rfl)) (pa_cons (pe_ix ix_seq (pv 6) (pe_int) (fun _ _ => rfl)) (pa_cons (pe_ix ix_seq (pe_ix ix_seq (pv 2) (pv 5) (fun _ _ => rfl)) (pe_int) (fun _ _ => rfl)) (pa_nil)))))) (pw_or1 (pt_not (pt_val (pe_cl c__law_is hr (by decide) (pat_of (W := fun cls d _ H => E cls d H) (L2N.takes_of rfl rfl rfl rfl)) (pa_cons (pe_ix ix_seq (pv 6) (pe_int) (fun _ _ => rfl)) (pa_cons (pe_ix ix_seq (pe_ix ix_seq (pv 2) (pv 5) (fun _ _ => rfl)) (pe_int) (fun _ _ => rfl)) (pa_nil)))))))).pt) (pss_one (ps_ret (pe_bl))) (pss_nil)) (pss_one (ps_if (pt_not (pt_val (pe_cl c__law_part_right hr (by decide) (pat_of (W := fun cls d _ H => E cls d H) (L2N.takes_of rfl rfl rfl rfl)) (pa_cons (pv 0) (pa_cons (pv 1) (pa_cons (pe_ix ix_seq (pe_ix ix_seq (pv 2) (pv 5) (fun _ _ => rfl)) (pe_int) (fun _ _ => rfl)) (pa_cons (pe_ix ix_seq (pe_ix ix_seq (pv 2) (pv 5) (fun _ _ => rfl)) (pe_int) (fun _ _ => rfl)) (pa_nil)))))))) (pss_one (ps_ret (pe_bl))) (pss_nil))))))) (pss_one (ps_ret (pe_bl))))))), rd__law_blocks_right T vs H Q E h⟩
theorem ok__law_box {f : Addr} {fd : FuncData} (T : Txt K mg) (F : FunD K "_law_box" "_law_box" (defArgs s__law_box) (defBody s__law_box) (defScope s__law_box) [] [] f fd)  : FnOk P w K mg base (L2N.CX P w) 1 f fd ["script"] (sp00__law_box K) :=
  F.ok sc__law_box (len__law_box K) fun cdv A outer s H vs Q E hr h => ⟨t__law_box K E, pss_one (ps_ret (pe_lst (pa_cons (pe_callTy call_listA (by rfl) T.b_list (by decide +kernel) (pa_cons (pe_slice sl_list (pv 0) (po_none) (po_some (pe_int))) (pa_nil))) (pa_cons (pe_int) (pa_cons (pe_int) (pa_cons (pe_int) (pa_cons (pe_int) (pa_nil)))))))), rd__law_box T vs H Q E h⟩
theorem ok__law_far_size {f : Addr} {fd : FuncData} (T : Txt K mg) (F : FunD K "_law_far_size" "_law_far_size" (defArgs s__law_far_size) (defBody s__law_far_size) (defScope s__law_far_size) [] [] f fd) (c__law_draw : Cal P w K mg base 1 "_law_draw" ["box", "many"] (sp00__law_draw K)) : FnOk P w K mg base (L2N.CX P w) 2 f fd ["box"] (sp02__law_far_size K) :=
  F.ok sc__law_far_size (len__law_far_size K) fun cdv A outer s H vs Q E hr h => ⟨t__law_far_size K E, pss_cons (ps_if (pt_cmpR (op_eqA hr) (pe_cl c__law_draw hr (by decide) (pat_of (W := fun cls d _ H => E cls d H) (L2N.takes_of rfl rfl rfl rfl)) (pa_cons (pv 0) (pa_cons (pe_int) (pa_nil)))) (pe_int) (nomark _)) (pss_one (ps_ret (pe_op op_addA (pe_int) (pe_op op_mulA (pe_cl c__law_draw hr (by decide) (pat_of (W := fun cls d _ H => E cls d H) (L2N.takes_of rfl rfl rfl rfl)) (pa_cons (pv 0) (pa_cons (pe_int) (pa_nil)))) (pe_op op_addA (pe_int) (pe_cl c__law_draw hr (by decide) (pat_of (W := fun cls d _ H => E cls d H) (L2N.takes_of rfl rfl rfl rfl)) (pa_cons (pv 0) (pa_cons (pe_op op_pow (pe_int) (pe_int)) (pa_nil))))))))) (pss_nil)) (pss_one (ps_ret (pe_op op_sub (pe_un un_neg (pe_int)) (pe_op op_mulA (pe_cl c__law_draw hr (by decide) (pat_of (W := fun cls d _ H => E cls d H) (L2N.takes_of rfl rfl rfl rfl)) (pa_cons (pv 0) (pa_cons (pe_int) (pa_nil)))) (pe_op op_addA (pe_int) (pe_cl c__law_draw hr (by decide) (pat_of (W := fun cls d _ H => E cls d H) (L2N.takes_of rfl rfl rfl rfl)) (pa_cons (pv 0) (pa_cons (pe_op op_pow (pe_int) (pe_int)) (pa_nil))))))))), rd__law_far_size T vs H Q E h⟩
theorem ok__law_turned {f : Addr} {fd : FuncData} (T : Txt K mg) (F : FunD K "_law_turned" "_law_turned" (defArgs s__law_turned) (defBody s__law_turned) (defScope s__law_turned) [] [] f fd)  : FnOk P w K mg base (L2N.CX P w) 1 f fd ["size", "operation"] (sp04__law_opposite K) :=
  F.ok sc__law_turned (len__law_turned K) fun cdv A outer s H vs Q E hr h => ⟨t__law_turned K E, pss_cons (ps_if (pt_cmpR op_lt (pv 1) (pe_int) (nomark _)) (pss_one (ps_ret (pe_un un_neg (pe_op op_addA (pe_op op_addA (pv 0) (pe_int)) (pv 1))))) (pss_nil)) (pss_one (ps_ret (pe_op op_sub (pe_op op_addA (pv 0) (pe_int)) (pv 1)))), rd__law_turned T vs H Q E h⟩
theorem ok_mirror {f : Addr} {fd : FuncData} (T : Txt K mg) (F : FunD K "mirror" "mirror" (defArgs s_mirror) (defBody s_mirror) (defScope s_mirror) [] [] f fd) (c__check_operations : Cal P w K mg base 4 "_check_operations" ["size", "log"] (sp01__check_operations K)) (c__on_node : Cal P w K mg base 1 "_on_node" ["operation", "node"] (sp04__on_node K)) : FnOk P w K mg base (L2N.CX P w) 5 f fd ["size", "log"] (sp01_mirror K) :=
  F.ok sc_mirror (len_mirror K) fun cdv A outer s H vs Q E hr h => ⟨t_mirror K E, pss_cons (ps_expr (pe_cl c__check_operations hr (by decide) (pat_of (W := fun cls d _ H => E cls d H) (L2N.takes_of rfl rfl rfl rfl)) (pa_cons (pv 0) (pa_cons (pv 1) (pa_nil))))) (pss_one (ps_ret (pe_lc (own := [("operation", 2)]) (g := gName 2) (tt := tYes) (te := tCl (sp04__on_node K) (fun _ => E0) (tCons (tVar 2) (tCons (tOp rSubA (tOp rAddA (tVar 0) (tC (.int 1))) (tCB rAbsA (tCons (tVar 2) (tNil)))) (tNil)))) rfl sc_mirror.nd (pi_list (pv 1)) (blkOk_by (own := [("operation", 2)]) (N := ["size", "log", "operation"]) (sc := defScope s_mirror) (by decide +kernel)) (fun _ _ _ _ _ => pg_name (i := 2) sc_mirror.nd rfl (by first | exact Or.inl rfl | exact Or.inr rfl)) (fun _ _ _ _ _ => pts_nil) (fun _ _ _ _ _ => pe_cl c__on_node hr (by decide) (pat_no) (pa_cons (pv 2) (pa_cons (pe_op op_sub (pe_op op_addA (pv 0) (pe_int)) (pe_callB call_absA (by rfl) T.b_abs (by decide +kernel) (pa_cons (pv 2) (pa_nil)))) (pa_nil))))))), rd_mirror T vs H Q E h⟩
theorem ok__law_mirror_right {f : Addr} {fd : FuncData} (T : Txt K mg) (F : FunD K "_law_mirror_right" "_law_mirror_right" (defArgs s__law_mirror_right) (defBody s__law_mirror_right) (defScope s__law_mirror_right) [] [] f fd) (c__law_integers : Cal P w K mg base 2 "_law_integers" ["told", "due"] (sp00__law_integers K)) (c__law_turned : Cal P w K mg base 1 "_law_turned" ["size", "operation"] (sp04__law_opposite K)) (c_mirror : Cal P w K mg base 5 "mirror" ["size", "log"] (sp01_mirror K)) : FnOk P w K mg base (L2N.CX P w) 6 f fd ["size", "log"] (sp01__law_mirror_right K) :=
  F.ok sc__law_mirror_right (len__law_mirror_right K) fun cdv A outer s H vs Q E hr h => ⟨t__law_mirror_right K E, pss_cons (ps_setLc (i := 2) (own := [("operation", 5)]) (g := gName 5) (tt := tYes) (te := tCl (sp04__law_opposite K) (fun _ => E0) (tCons (tVar 0) (tCons (tVar 5) (tNil)))) rfl sc__law_mirror_right.nd rfl rfl (sw_true rfl rfl rfl (by decide +kernel)) (pi_list (pv 1)) (blkOk_by (own := [("operation", 5)]) (N := ["size", "log", "due", "given", "told", "operation"]) (sc := defScope s__law_mirror_right) (by decide +kernel)) (fun _ _ _ _ _ => pg_name (i := 5) sc__law_mirror_right.nd rfl (by first | exact Or.inl rfl | exact Or.inr rfl)) (fun _ _ _ _ _ => pts_nil) (fun _ _ _ _ _ => pe_cl c__law_turned hr (by decide) (pat_no) (pa_cons (pv 0) (pa_cons (pv 5) (pa_nil))))) (pss_cons (ps_set (i := 3) sc__law_mirror_right.nd rfl (by first | exact Or.inl rfl | exact Or.inr rfl) (pe_callTy call_listA (by rfl) T.b_list (by decide +kernel) (pa_cons (pv 1) (pa_nil)))) (pss_cons (ps_set (i := 4) sc__law_mirror_right.nd rfl (by first | exact Or.inl rfl | exact Or.inr rfl) (pe_cl c_mirror hr (by decide) (pat_of (W := fun cls d _ H => E cls d H) (L2N.takes_of rfl rfl rfl rfl)) (pa_cons (pv 0) (pa_cons (pv 3) (pa_nil))))) (pss_cons (ps_if (pt_not (pt_val (pe_cl c__law_integers hr (by decide) (pat_of (W := fun cls d _ H => E cls d H) (L2N.takes_of rfl rfl rfl rfl)) (pa_cons (pv 4) (pa_cons (pv 2) (pa_nil)))))) (pss_one (ps_ret (pe_bl))) (pss_nil)) (pss_cons (ps_expr (pe_bm PySem.F.plainAttrs_list PySem.F.slot_list_append PySem.F.type_list_append mt_append (pv 4) (pa_cons (pe_int) (pa_nil)))) (pss_one (ps_ret (pe_and (pe_cl c__law_integers hr (by decide) (pat_of (W := fun cls d _ H => E cls d H) (L2N.takes_of rfl rfl rfl rfl)) (pa_cons (pv 3) (pa_cons (pv 1) (pa_nil)))) (pe_one (pe_cl c__law_integers hr (by decide) (pat_of (W := fun cls d _ H => E cls d H) (L2N.takes_of rfl rfl rfl rfl)) (pa_cons (pe_cl c_mirror hr (by decide) (pat_of (W := fun cls d _ H => E cls d H) (L2N.takes_of rfl rfl rfl rfl)) (pa_cons (pv 0) (pa_cons (pe_callTy call_listA (by rfl) T.b_list (by decide +kernel) (pa_cons (pv 2) (pa_nil))) (pa_nil)))) (pa_cons (pv 1) (pa_nil)))))))))))), rd__law_mirror_right T vs H Q E h⟩
theorem ok_Links___init__ {f : Addr} {fd : FuncData} (T : Txt K mg) (F : FunD K "__init__" "Links.__init__" (defArgs s_Links___init__) (defBody s_Links___init__) (defScope s_Links___init__) [] [] f fd) (c_check_size : Cal P w K mg base 3 "check_size" ["size"] (sp_check_size K)) : FnOk P w K mg base (L2N.CX P w) 4 f fd ["self", "size"] (sp_Links___init__ K) :=
  F.ok sc_Links___init__ (len_Links___init__ K) fun cdv A outer s H vs Q E hr h => ⟨t_Links___init__ K E, pss_cons (ps_expr (pe_cl c_check_size hr (by decide) (pat_of (W := fun cls d _ H => E cls d H) (L2N.takes_of rfl rfl rfl rfl)) (pa_cons (pv 1) (pa_nil)))) (pss_cons (ps_fld (pv 0) (pv 1) rfl) (pss_cons (ps_fld (pv 0) (pe_listRg rfl rfl T.b_list (prg_2 rfl T.b_range (pe_int) (pe_op op_addA (pv 1) (pe_int)))) rfl) (pss_cons (ps_fld (pv 0) (pe_op op_addA (pe_lst (pa_cons (pe_int) (pa_nil))) (pe_listRg rfl rfl T.b_list (prg_1 rfl T.b_range (pe_op op_addA (pv 1) (pe_int))))) rfl) (pss_one (ps_fld (pv 0) (pe_op op_mulA (pe_lst (pa_cons (pe_bl) (pa_nil))) (pe_op op_addA (pv 1) (pe_int))) rfl))))), rd_Links___init__ T vs H Q E h⟩
theorem ok_Links_is_legal {f : Addr} {fd : FuncData} (T : Txt K mg) (F : FunD K "is_legal" "Links.is_legal" (defArgs s_Links_is_legal) (defBody s_Links_is_legal) (defScope s_Links_is_legal) [] [] f fd)  : FnOk P w K mg base (L2N.CX P w) 1 f fd ["self", "operation"] (sp_Links_is_legal K) :=
  F.ok sc_Links_is_legal (len_Links_is_legal K) fun cdv A outer s H vs Q E hr h => ⟨t_Links_is_legal K E, pss_one (ps_ret (pe_cmpR (op_eqA hr) (pe_ix ix_seq (pe_fld (pv 0) rfl) (pe_callB call_absA (by rfl) T.b_abs (by decide +kernel) (pa_cons (pv 1) (pa_nil))) (fun _ _ => rfl)) (pe_cmpR op_gt (pv 1) (pe_int) (nomark _)) (nomark _))), rd_Links_is_legal T vs H Q E h⟩
theorem ok_Links_check {f : Addr} {fd : FuncData} (T : Txt K mg) (F : FunD K "check" "Links.check" (defArgs s_Links_check) (defBody s_Links_check) (defScope s_Links_check) [] [] f fd) (c_Links_is_legal : Met P w K mg base 1 (He.ga K "Links") "is_legal" ["self", "operation"] (sp_Links_is_legal K)) (c_check_operation : Cal P w K mg base 3 "check_operation" ["size", "operation", "index"] (sp_check_operation K)) (x_Illegal : ExM P w K mg base 1 "Illegal" (He.ga K "Illegal") ["operation", "index"]) : FnOk P w K mg base (L2N.CX P w) 4 f fd ["self", "operation", "index"] (sp_Links_check K) :=
  F.ok sc_Links_check (len_Links_check K) fun cdv A outer s H vs Q E hr h => ⟨t_Links_check K E, pss_cons (ps_expr (pe_cl c_check_operation hr (by decide) (pat_of (W := fun cls d _ H => E cls d H) (L2N.takes_of rfl rfl rfl rfl)) (pa_cons (pe_fld (pv 0) rfl) (pa_cons (pv 1) (pa_cons (pv 2) (pa_nil)))))) (pss_one (ps_if (pt_not (pt_val (pe_mt c_Links_is_legal T.cl_Links hr (by decide) (pat_of (W := fun cls d _ H => E cls d H) (L2N.takes_of rfl rfl rfl rfl)) (pv 0) (pa_cons (pv 1) (pa_nil))))) (pss_one (ps_rz x_Illegal rfl (L2N.takes_of rfl rfl rfl rfl) hr (by decide) (pa_cons (pv 1) (pa_cons (pv 2) (pa_nil))))) (pss_nil))), rd_Links_check T vs H Q E h⟩
theorem ok_Links_apply_at {f : Addr} {fd : FuncData} (T : Txt K mg) (F : FunD K "apply_at" "Links.apply_at" (defArgs s_Links_apply_at) (defBody s_Links_apply_at) (defScope s_Links_apply_at) [] [] f fd) (c_Links_check : Met P w K mg base 4 (He.ga K "Links") "check" ["self", "operation", "index"] (sp_Links_check K)) : FnOk P w K mg base (L2N.CX P w) 5 f fd ["self", "operation", "index"] (sp_Links_apply_at K) :=
  F.ok sc_Links_apply_at (len_Links_apply_at K) fun cdv A outer s H vs Q E hr h => ⟨t_Links_apply_at K E, pss_cons (ps_expr (pe_mt c_Links_check T.cl_Links hr (by decide) (pat_of (W := fun cls d _ H => E cls d H) (L2N.takes_of rfl rfl rfl rfl)) (pv 0) (pa_cons (pv 1) (pa_cons (pv 2) (pa_nil))))) (pss_cons (ps_set (i := 3) sc_Links_apply_at.nd rfl (by first | exact Or.inl rfl | exact Or.inr rfl) (pe_callB call_absA (by rfl) T.b_abs (by decide +kernel) (pa_cons (pv 1) (pa_nil)))) (pss_cons (ps_set (i := 4) sc_Links_apply_at.nd rfl (by first | exact Or.inl rfl | exact Or.inr rfl) (pe_ix ix_seq (pe_fld (pv 0) rfl) (pv 3) (fun _ _ => rfl))) (pss_cons (ps_set (i := 5) sc_Links_apply_at.nd rfl (by first | exact Or.inl rfl | exact Or.inr rfl) (pe_ix ix_seq (pe_fld (pv 0) rfl) (pv 3) (fun _ _ => rfl))) (pss_cons (ps_set (i := 6) sc_Links_apply_at.nd rfl (by first | exact Or.inl rfl | exact Or.inr rfl) (pe_cmpR op_lt (pv 1) (pe_int) (nomark _))) (pss_cons (ps_asg (pe_ifExp (pt_val (pv 6)) (pv 5) (pv 3)) (pg_sub (pe_fld (pv 0) rfl) (pv 4) set_list)) (pss_cons (ps_asg (pe_ifExp (pt_val (pv 6)) (pv 4) (pv 3)) (pg_sub (pe_fld (pv 0) rfl) (pv 5) set_list)) (pss_one (ps_asg (pv 6) (pg_sub (pe_fld (pv 0) rfl) (pv 3) set_list))))))))), rd_Links_apply_at T vs H Q E h⟩
theorem ok_Links_apply {f : Addr} {fd : FuncData} (T : Txt K mg) (F : FunD K "apply" "Links.apply" (defArgs s_Links_apply) (defBody s_Links_apply) (defScope s_Links_apply) [] [] f fd) (c_Links_apply_at : Met P w K mg base 5 (He.ga K "Links") "apply_at" ["self", "operation", "index"] (sp_Links_apply_at K)) : FnOk P w K mg base (L2N.CX P w) 6 f fd ["self", "operation"] (sp_Links_apply K) :=
  F.ok sc_Links_apply (len_Links_apply K) fun cdv A outer s H vs Q E hr h => ⟨t_Links_apply K E, pss_one (ps_expr (pe_mt c_Links_apply_at T.cl_Links hr (by decide) (pat_of (W := fun cls d _ H => E cls d H) (L2N.takes_of rfl rfl rfl rfl)) (pv 0) (pa_cons (pv 1) (pa_cons (pe_int) (pa_nil))))), rd_Links_apply T vs H Q E h⟩
theorem ok_strikes {f : Addr} {fd : FuncData} (T : Txt K mg) (F : FunD K "strikes" "strikes" (defArgs s_strikes) (defBody s_strikes) (defScope s_strikes) [] [] f fd) (m_Links : Mak P w K mg base 4 "Links" (He.ga K "Links") ["self", "size"] (sp_Links___init__ K)) (c_Links_apply : Met P w K mg base 6 (He.ga K "Links") "apply" ["self", "operation"] (sp_Links_apply K)) (c_Links_is_legal : Met P w K mg base 1 (He.ga K "Links") "is_legal" ["self", "operation"] (sp_Links_is_legal K)) (c__check_operations : Cal P w K mg base 4 "_check_operations" ["size", "log"] (sp01__check_operations K)) : FnOk P w K mg base (L2N.CX P w) 7 f fd ["size", "log"] (sp01_strikes K) :=
  F.ok sc_strikes (len_strikes K) fun cdv A outer s H vs Q E hr h => ⟨t_strikes K E, pss_cons (ps_set (i := 2) sc_strikes.nd rfl (by first | exact Or.inl rfl | exact Or.inr rfl) (pe_mk m_Links hr (by decide) (pat_of (W := fun cls d _ H => E cls d H) (L2N.takes_of rfl rfl rfl rfl)) (pa_cons (pv 0) (pa_nil)))) (pss_cons (ps_expr (pe_cl c__check_operations hr (by decide) (pat_of (W := fun cls d _ H => E cls d H) (L2N.takes_of rfl rfl rfl rfl)) (pa_cons (pv 0) (pa_cons (pv 1) (pa_nil))))) (pss_cons (ps_set (i := 3) sc_strikes.nd rfl (by first | exact Or.inl rfl | exact Or.inr rfl) (pe_lst (pa_nil))) (pss_cons (ps_for (passes_of rfl) rfl (pi_enum (by rfl) T.b_enumerate (pa_cons (pv 1) (pa_nil))) (pg_tup (by rfl) (pgs_cons (pg_name (i := 4) sc_strikes.nd rfl (by first | exact Or.inl rfl | exact Or.inr rfl)) (pgs_cons (pg_name (i := 5) sc_strikes.nd rfl (by first | exact Or.inl rfl | exact Or.inr rfl)) (pgs_nil)))) (pss_one (ps_if (pt_val (pe_mt c_Links_is_legal T.cl_Links hr (by decide) (pat_of (W := fun cls d _ H => E cls d H) (L2N.takes_of rfl rfl rfl rfl)) (pv 2) (pa_cons (pv 5) (pa_nil)))) (pss_one (ps_expr (pe_mt c_Links_apply T.cl_Links hr (by decide) (pat_of (W := fun cls d _ H => E cls d H) (L2N.takes_of rfl rfl rfl rfl)) (pv 2) (pa_cons (pv 5) (pa_nil))))) (pss_one (ps_expr (pe_bm PySem.F.plainAttrs_list PySem.F.slot_list_append PySem.F.type_list_append mt_append (pv 3) (pa_cons (pv 4) (pa_nil)))))))) (pss_one (ps_ret (pv 3)))))), rd_strikes T vs H Q E h⟩
theorem ok_first_illegal {f : Addr} {fd : FuncData} (T : Txt K mg) (F : FunD K "first_illegal" "first_illegal" (defArgs s_first_illegal) (defBody s_first_illegal) (defScope s_first_illegal) [] [] f fd) (c_strikes : Cal P w K mg base 7 "strikes" ["size", "log"] (sp01_strikes K)) : FnOk P w K mg base (L2N.CX P w) 8 f fd ["size", "log"] (sp01_first_illegal K) :=
  F.ok sc_first_illegal (len_first_illegal K) fun cdv A outer s H vs Q E hr h => ⟨t_first_illegal K E, pss_cons (ps_set (i := 2) sc_first_illegal.nd rfl (by first | exact Or.inl rfl | exact Or.inr rfl) (pe_cl c_strikes hr (by decide) (pat_of (W := fun cls d _ H => E cls d H) (L2N.takes_of rfl rfl rfl rfl)) (pa_cons (pv 0) (pa_cons (pv 1) (pa_nil))))) (pss_one (ps_ret (pe_ifExp (pt_tr (pv 2) (by intro _; rfl)) (pe_ix ix_seq (pv 2) (pe_int) (fun _ _ => rfl)) (pe_non)))), rd_first_illegal T vs H Q E h⟩
theorem ok__law_asked {f : Addr} {fd : FuncData} (T : Txt K mg) (F : FunD K "_law_asked" "_law_asked" (defArgs s__law_asked) (defBody s__law_asked) (defScope s__law_asked) [] [] f fd) (c_block_part : Cal P w K mg base 5 "block_part" ["size", "log", "low", "high"] (sp01_block_part K)) (c_blocks : Cal P w K mg base 5 "blocks" ["size", "log"] (sp01_blocks K)) (c_first_illegal : Cal P w K mg base 8 "first_illegal" ["size", "log"] (sp01_first_illegal K)) (c_mirror : Cal P w K mg base 5 "mirror" ["size", "log"] (sp01_mirror K)) (c_strikes : Cal P w K mg base 7 "strikes" ["size", "log"] (sp01_strikes K)) : FnOk P w K mg base (L2N.CX P w) 9 f fd ["way", "size", "log", "low", "high"] (sp01__law_asked K) :=
  F.ok sc__law_asked (len__law_asked K) fun cdv A outer s H vs Q E hr h => ⟨t__law_asked K E, pss_cons (ps_if (pt_cmpR (op_eqA hr) (pv 0) (pe_int) (nomark _)) (pss_one (ps_ret (pe_cl c_first_illegal hr (by decide) (pat_of (W := fun cls d _ H => E cls d H) (L2N.takes_of rfl rfl rfl rfl)) (pa_cons (pv 1) (pa_cons (pv 2) (pa_nil)))))) (pss_nil)) (pss_cons (ps_if (pt_cmpR (op_eqA hr) (pv 0) (pe_int) (nomark _)) (pss_one (ps_ret (pe_cl c_strikes hr (by decide) (pat_of (W := fun cls d _ H => E cls d H) (L2N.takes_of rfl rfl rfl rfl)) (pa_cons (pv 1) (pa_cons (pv 2) (pa_nil)))))) (pss_nil)) (pss_cons (ps_if (pt_cmpR (op_eqA hr) (pv 0) (pe_int) (nomark _)) (pss_one (ps_ret (pe_cl c_mirror hr (by decide) (pat_of (W := fun cls d _ H => E cls d H) (L2N.takes_of rfl rfl rfl rfl)) (pa_cons (pv 1) (pa_cons (pv 2) (pa_nil)))))) (pss_nil)) (pss_cons (ps_if (pt_cmpR (op_eqA hr) (pv 0) (pe_int) (nomark _)) (pss_one (ps_ret (pe_cl c_blocks hr (by decide) (pat_of (W := fun cls d _ H => E cls d H) (L2N.takes_of rfl rfl rfl rfl)) (pa_cons (pv 1) (pa_cons (pv 2) (pa_nil)))))) (pss_nil)) (pss_one (ps_ret (pe_cl c_block_part hr (by decide) (pat_of (W := fun cls d _ H => E cls d H) (L2N.takes_of rfl rfl rfl rfl)) (pa_cons (pv 1) (pa_cons (pv 2) (pa_cons (pv 3) (pa_cons (pv 4) (pa_nil))))))))))), rd__law_asked T vs H Q E h⟩
theorem ok__law_operation_refused {f : Addr} {fd : FuncData} (T : Txt K mg) (F : FunD K "_law_operation_refused" "_law_operation_refused" (defArgs s__law_operation_refused) (defBody s__law_operation_refused) (defScope s__law_operation_refused) [] [] f fd) (c__law_asked : Cal P w K mg base 9 "_law_asked" ["way", "size", "log", "low", "high"] (sp01__law_asked K)) (h__law_integers : CalH P w K mg base 2 "_law_integers" ["told", "due"] (sp00__law_integers K)) (h__law_is : CalH P w K mg base 1 "_law_is" ["told", "due"] (sp00__law_is K)) : FnOk P w K mg base (L2N.CX P w) 10 f fd ["way", "size", "log", "low", "high"] (sp01__law_operation_refused K) :=
  F.ok sc__law_operation_refused (len__law_operation_refused K) fun cdv A outer s H vs Q E hr h => ⟨t__law_operation_refused K E, pss_cons (ps_set (i := 5) sc__law_operation_refused.nd rfl (by first | exact Or.inl rfl | exact Or.inr rfl) (pe_int)) (pss_cons (ps_while (passes_of rfl) ((pw_and (pt_cmpR op_lt (pv 5) (pe_callB call_lenA (by rfl) T.b_len (by decide +kernel) (pa_cons (pv 2) (pa_nil))) (nomark _)) (pw_and1 (pt_chain op_le op_le (pe_int) (pe_callB call_absA (by rfl) T.b_abs (by decide +kernel) (pa_cons (pe_ix ix_seq (pv 2) (pv 5) (fun _ _ => rfl)) (pa_nil))) (pv 1)))).pt) (pss_one (ps_set (i := 5) sc__law_operation_refused.nd rfl (by first | exact Or.inl rfl | exact Or.inr rfl) (pe_op op_addA (pv 5) (pe_int))))) (pss_cons (ps_set (i := 6) sc__law_operation_refused.nd rfl (by first | exact Or.inl rfl | exact Or.inr rfl) (pe_callTy call_listA (by rfl) T.b_list (by decide +kernel) (pa_cons (pv 2) (pa_nil)))) (pss_cons (L2N.ps_try_as (i := 7) (tb := fun (W : WX) => tDrop (tCl (sp01__law_asked K) (WE W) (tCons (tVar 0) (tCons (tVar 1) (tCons (tVar 6) (tCons (tVar 3) (tCons (tVar 4) (tNil)))))))) (ts := fun a cls d => tSeq (tIfS (tOr (tNot (tB (tCB (rIsX K cls d a) (tCons (tVar 7) (tCons (tC (.ref (He.ga K "LogError"))) (tNil)))))) (tOr (tB (tCB (rIsX K cls d a) (tCons (tVar 7) (tCons (tC (.ref (He.ga K "Illegal"))) (tNil))))) (tB (tCB (rIsX K cls d a) (tCons (tVar 7) (tCons (tC (.ref (He.ga K "Refused"))) (tNil))))))) (tRet (tC (.bl false))) (tNext)) (tSeq (tIfS (tOr (tNot (tB (tCB (rIsX K cls d a) (tCons (tVar 7) (tCons (tC (.ref (He.ga K "LinkError"))) (tNil)))))) (tNot (tB (tCB (rIsX K cls d a) (tCons (tVar 7) (tCons (tC (.ty "ValueError")) (tNil))))))) (tRet (tC (.bl false))) (tNext)) (tSeq (tIfS (tOr (tNot (tB (tCl (sp00__law_is K) (fun _ => E0) (tCons (tXat K a cls d "operation" (tVar 7)) (tCons (tOp (rIx K) (tVar 2) (tVar 5)) (tNil)))))) (tNot (tB (tCl (sp00__law_is K) (fun _ => E0) (tCons (tXat K a cls d "index" (tVar 7)) (tCons (tVar 5) (tNil))))))) (tRet (tC (.bl false))) (tNext)) (tRet (tCl (sp00__law_integers K) (fun _ => E0) (tCons (tVar 6) (tCons (tVar 2) (tNil)))))))) (Wout := fun cls d _ H => E cls d H) rfl rfl sc__law_operation_refused.nd rfl rfl ⟨rfl, by decide, .inl T.g_BadOperation⟩ (L2N.takes_of rfl rfl rfl rfl) (fun W pn xe tk2 po2 => pss_one (ps_expr (pe_cl c__law_asked hr (by decide) (pat_of tk2) (pa_cons (pv 0) (pa_cons (pv 1) (pa_cons (pv 6) (pa_cons (pv 3) (pa_cons (pv 4) (pa_nil))))))))) (fun a oe cls d pn hz hf => pss_cons (ps_if ((pw_or (pt_not (pt_val (pe_callB (call_isX hz.zc hf) (by rfl) T.b_isinstance (by decide +kernel) (pa_cons (pv 7) (pa_cons (pe_own T.g_LogError) (pa_nil)))))) (pw_or (pt_val (pe_callB (call_isX hz.zc hf) (by rfl) T.b_isinstance (by decide +kernel) (pa_cons (pv 7) (pa_cons (pe_own T.g_Illegal) (pa_nil))))) (pw_or1 (pt_val (pe_callB (call_isX hz.zc hf) (by rfl) T.b_isinstance (by decide +kernel) (pa_cons (pv 7) (pa_cons (pe_own T.g_Refused) (pa_nil)))))))).pt) (pss_one (ps_ret (pe_bl))) (pss_nil)) (pss_cons (ps_if ((pw_or (pt_not (pt_val (pe_callB (call_isX hz.zc hf) (by rfl) T.b_isinstance (by decide +kernel) (pa_cons (pv 7) (pa_cons (pe_own T.g_LinkError) (pa_nil)))))) (pw_or1 (pt_not (pt_val (pe_callB (call_isX hz.zc hf) (by rfl) T.b_isinstance (by decide +kernel) (pa_cons (pv 7) (pa_cons (pe_ty "ValueError" T.b_ValueError (by decide +kernel)) (pa_nil)))))))).pt) (pss_one (ps_ret (pe_bl))) (pss_nil)) (pss_cons (ps_if ((pw_or (pt_not (pt_val (pe_clH h__law_is (L2H.roomH_mark hr _) (by decide) (hot_suite hz hf) pat_no (pa_cons (pe_xat hz.zc hf (pv 7)) (pa_cons (pe_ix ix_seq (pv 2) (pv 5) (fun _ _ => rfl)) (pa_nil)))))) (pw_or1 (pt_not (pt_val (pe_clH h__law_is (L2H.roomH_mark hr _) (by decide) (hot_suite hz hf) pat_no (pa_cons (pe_xat hz.zc hf (pv 7)) (pa_cons (pv 5) (pa_nil)))))))).pt) (pss_one (ps_ret (pe_bl))) (pss_nil)) (pss_one (ps_ret (pe_clH h__law_integers (L2H.roomH_mark hr _) (by decide) (hot_suite hz hf) pat_no (pa_cons (pv 6) (pa_cons (pv 2) (pa_nil)))))))))) (pss_one (ps_ret (pe_bl)))))), rd__law_operation_refused T vs H Q E h⟩
theorem ok__law_range_right {f : Addr} {fd : FuncData} (T : Txt K mg) (F : FunD K "_law_range_right" "_law_range_right" (defArgs s__law_range_right) (defBody s__law_range_right) (defScope s__law_range_right) [] [] f fd) (c__law_part_right : Cal P w K mg base 6 "_law_part_right" ["size", "log", "low", "high"] (sp01__law_part_right K)) (c_block_part : Cal P w K mg base 5 "block_part" ["size", "log", "low", "high"] (sp01_block_part K)) (h__law_integers : CalH P w K mg base 2 "_law_integers" ["told", "due"] (sp00__law_integers K)) (h__law_is : CalH P w K mg base 1 "_law_is" ["told", "due"] (sp00__law_is K)) : FnOk P w K mg base (L2N.CX P w) 7 f fd ["size", "log", "low", "high"] (sp01__law_range_right K) :=
  F.ok sc__law_range_right (len__law_range_right K) fun cdv A outer s H vs Q E hr h => ⟨t__law_range_right K E, pss_cons (ps_if (pt_chain3 op_le op_le op_le (pe_int) (pv 2) (pv 3) (pv 0)) (pss_one (ps_ret (pe_cl c__law_part_right hr (by decide) (pat_of (W := fun cls d _ H => E cls d H) (L2N.takes_of rfl rfl rfl rfl)) (pa_cons (pv 0) (pa_cons (pv 1) (pa_cons (pv 2) (pa_cons (pv 3) (pa_nil)))))))) (pss_nil)) (pss_cons (ps_set (i := 4) sc__law_range_right.nd rfl (by first | exact Or.inl rfl | exact Or.inr rfl) (pe_callTy call_listA (by rfl) T.b_list (by decide +kernel) (pa_cons (pv 1) (pa_nil)))) (pss_cons (L2N.ps_try_as (i := 5) (tb := fun (W : WX) => tDrop (tCl (sp01_block_part K) (WE W) (tCons (tVar 0) (tCons (tVar 4) (tCons (tVar 2) (tCons (tVar 3) (tNil))))))) (ts := fun a cls d => tSeq (tIfS (tOr (tB (tCB (rIsX K cls d a) (tCons (tVar 5) (tCons (tC (.ref (He.ga K "LogError"))) (tNil))))) (tOr (tB (tCB (rIsX K cls d a) (tCons (tVar 5) (tCons (tC (.ref (He.ga K "BadSize"))) (tNil))))) (tNot (tB (tCB (rIsX K cls d a) (tCons (tVar 5) (tCons (tC (.ref (He.ga K "LinkError"))) (tNil)))))))) (tRet (tC (.bl false))) (tNext)) (tSeq (tIfS (tNot (tB (tCB (rIsX K cls d a) (tCons (tVar 5) (tCons (tC (.ty "ValueError")) (tNil)))))) (tRet (tC (.bl false))) (tNext)) (tRet (tAndV (tCl (sp00__law_is K) (fun _ => E0) (tCons (tXat K a cls d "low" (tVar 5)) (tCons (tVar 2) (tNil)))) (tAndV (tCl (sp00__law_is K) (fun _ => E0) (tCons (tXat K a cls d "high" (tVar 5)) (tCons (tVar 3) (tNil)))) (tCl (sp00__law_integers K) (fun _ => E0) (tCons (tVar 4) (tCons (tVar 1) (tNil))))))))) (Wout := fun cls d _ H => E cls d H) rfl rfl sc__law_range_right.nd rfl rfl ⟨rfl, by decide, .inl T.g_BadRange⟩ (L2N.takes_of rfl rfl rfl rfl) (fun W pn xe tk2 po2 => pss_one (ps_expr (pe_cl c_block_part hr (by decide) (pat_of tk2) (pa_cons (pv 0) (pa_cons (pv 4) (pa_cons (pv 2) (pa_cons (pv 3) (pa_nil)))))))) (fun a oe cls d pn hz hf => pss_cons (ps_if ((pw_or (pt_val (pe_callB (call_isX hz.zc hf) (by rfl) T.b_isinstance (by decide +kernel) (pa_cons (pv 5) (pa_cons (pe_own T.g_LogError) (pa_nil))))) (pw_or (pt_val (pe_callB (call_isX hz.zc hf) (by rfl) T.b_isinstance (by decide +kernel) (pa_cons (pv 5) (pa_cons (pe_own T.g_BadSize) (pa_nil))))) (pw_or1 (pt_not (pt_val (pe_callB (call_isX hz.zc hf) (by rfl) T.b_isinstance (by decide +kernel) (pa_cons (pv 5) (pa_cons (pe_own T.g_LinkError) (pa_nil))))))))).pt) (pss_one (ps_ret (pe_bl))) (pss_nil)) (pss_cons (ps_if (pt_not (pt_val (pe_callB (call_isX hz.zc hf) (by rfl) T.b_isinstance (by decide +kernel) (pa_cons (pv 5) (pa_cons (pe_ty "ValueError" T.b_ValueError (by decide +kernel)) (pa_nil)))))) (pss_one (ps_ret (pe_bl))) (pss_nil)) (pss_one (ps_ret (pe_and (pe_clH h__law_is (L2H.roomH_mark hr _) (by decide) (hot_suite hz hf) pat_no (pa_cons (pe_xat hz.zc hf (pv 5)) (pa_cons (pv 2) (pa_nil)))) (pe_and (pe_clH h__law_is (L2H.roomH_mark hr _) (by decide) (hot_suite hz hf) pat_no (pa_cons (pe_xat hz.zc hf (pv 5)) (pa_cons (pv 3) (pa_nil)))) (pe_one (pe_clH h__law_integers (L2H.roomH_mark hr _) (by decide) (hot_suite hz hf) pat_no (pa_cons (pv 4) (pa_cons (pv 1) (pa_nil)))))))))))) (pss_one (ps_ret (pe_bl))))), rd__law_range_right T vs H Q E h⟩
theorem ok__law_rows {f : Addr} {fd : FuncData} (T : Txt K mg) (F : FunD K "_law_rows" "_law_rows" (defArgs s__law_rows) (defBody s__law_rows) (defScope s__law_rows) [] [] f fd) (c__law_draw : Cal P w K mg base 1 "_law_draw" ["box", "many"] (sp00__law_draw K)) : FnOk P w K mg base (L2N.CX P w) 2 f fd ["box", "size"] (sp01__law_rows K) :=
  F.ok sc__law_rows (len__law_rows K) fun cdv A outer s H vs Q E hr h => ⟨t__law_rows K E, pss_cons (ps_set (i := 2) sc__law_rows.nd rfl (by first | exact Or.inl rfl | exact Or.inr rfl) (pe_lst (pa_nil))) (pss_cons (ps_if (pt_cmpR (op_eqA hr) (pv 1) (pe_int) (nomark _)) (pss_one (ps_ret (pv 2))) (pss_nil)) (pss_cons (ps_set (i := 3) sc__law_rows.nd rfl (by first | exact Or.inl rfl | exact Or.inr rfl) (pe_cl c__law_draw hr (by decide) (pat_of (W := fun cls d _ H => E cls d H) (L2N.takes_of rfl rfl rfl rfl)) (pa_cons (pv 0) (pa_cons (pe_int) (pa_nil))))) (pss_cons (ps_if (pt_cmpR (op_eqA hr) (pv 3) (pe_int) (nomark _)) (pss_one (ps_set (i := 3) sc__law_rows.nd rfl (by first | exact Or.inl rfl | exact Or.inr rfl) (pe_op op_addA (pe_int) (pe_cl c__law_draw hr (by decide) (pat_of (W := fun cls d _ H => E cls d H) (L2N.takes_of rfl rfl rfl rfl)) (pa_cons (pv 0) (pa_cons (pe_int) (pa_nil))))))) (pss_nil)) (pss_cons (ps_set (i := 4) sc__law_rows.nd rfl (by first | exact Or.inl rfl | exact Or.inr rfl) (pe_cl c__law_draw hr (by decide) (pat_of (W := fun cls d _ H => E cls d H) (L2N.takes_of rfl rfl rfl rfl)) (pa_cons (pv 0) (pa_cons (pv 1) (pa_nil))))) (pss_cons (ps_for (passes_of rfl) rfl (pi_range1 rfl T.b_range (pa_cons (pv 3) (pa_nil))) (pg_name (i := 5) sc__law_rows.nd rfl (by first | exact Or.inl rfl | exact Or.inr rfl)) (pss_cons (ps_set (i := 6) sc__law_rows.nd rfl (by first | exact Or.inl rfl | exact Or.inr rfl) (pe_op op_addA (pe_int) (pe_cl c__law_draw hr (by decide) (pat_of (W := fun cls d _ H => E cls d H) (L2N.takes_of rfl rfl rfl rfl)) (pa_cons (pv 0) (pa_cons (pv 1) (pa_nil)))))) (pss_cons (ps_if (pt_cmpR (op_eqA hr) (pe_cl c__law_draw hr (by decide) (pat_of (W := fun cls d _ H => E cls d H) (L2N.takes_of rfl rfl rfl rfl)) (pa_cons (pv 0) (pa_cons (pe_int) (pa_nil)))) (pe_int) (nomark _)) (pss_one (ps_set (i := 6) sc__law_rows.nd rfl (by first | exact Or.inl rfl | exact Or.inr rfl) (pe_op op_addA (pe_int) (pe_op op_mod (pe_callTy call_intA (by rfl) T.b_int (by decide +kernel) (pa_cons (pe_op op_addA (pv 4) (pe_op op_mod (pe_callTy call_intA (by rfl) T.b_int (by decide +kernel) (pa_cons (pv 6) (pa_nil))) (pe_int))) (pa_nil))) (pv 1))))) (pss_nil)) (pss_one (ps_if (pt_cmpR (op_eqA hr) (pe_cl c__law_draw hr (by decide) (pat_of (W := fun cls d _ H => E cls d H) (L2N.takes_of rfl rfl rfl rfl)) (pa_cons (pv 0) (pa_cons (pe_int) (pa_nil)))) (pe_int) (nomark _)) (pss_one (ps_expr (pe_bm PySem.F.plainAttrs_list PySem.F.slot_list_append PySem.F.type_list_append mt_append (pv 2) (pa_cons (pe_un un_neg (pv 6)) (pa_nil))))) (pss_one (ps_expr (pe_bm PySem.F.plainAttrs_list PySem.F.slot_list_append PySem.F.type_list_append mt_append (pv 2) (pa_cons (pv 6) (pa_nil)))))))))) (pss_one (ps_ret (pv 2)))))))), rd__law_rows T vs H Q E h⟩
theorem ok__law_size {f : Addr} {fd : FuncData} (T : Txt K mg) (F : FunD K "_law_size" "_law_size" (defArgs s__law_size) (defBody s__law_size) (defScope s__law_size) [] [] f fd) (c__law_draw : Cal P w K mg base 1 "_law_draw" ["box", "many"] (sp00__law_draw K)) : FnOk P w K mg base (L2N.CX P w) 2 f fd ["box"] (sp02__law_size K) :=
  F.ok sc__law_size (len__law_size K) fun cdv A outer s H vs Q E hr h => ⟨t__law_size K E, pss_cons (ps_set (i := 1) sc__law_size.nd rfl (by first | exact Or.inl rfl | exact Or.inr rfl) (pe_cl c__law_draw hr (by decide) (pat_of (W := fun cls d _ H => E cls d H) (L2N.takes_of rfl rfl rfl rfl)) (pa_cons (pv 0) (pa_cons (pe_int) (pa_nil))))) (pss_cons (ps_if (pt_cmpR (op_eqA hr) (pv 1) (pe_int) (nomark _)) (pss_one (ps_ret (pe_cl c__law_draw hr (by decide) (pat_of (W := fun cls d _ H => E cls d H) (L2N.takes_of rfl rfl rfl rfl)) (pa_cons (pv 0) (pa_cons (pe_int) (pa_nil)))))) (pss_nil)) (pss_cons (ps_if (pt_cmpR (op_eqA hr) (pv 1) (pe_int) (nomark _)) (pss_one (ps_ret (pe_cl c__law_draw hr (by decide) (pat_of (W := fun cls d _ H => E cls d H) (L2N.takes_of rfl rfl rfl rfl)) (pa_cons (pv 0) (pa_cons (pe_int) (pa_nil)))))) (pss_nil)) (pss_one (ps_ret (pe_op op_addA (pe_int) (pv 1)))))), rd__law_size T vs H Q E h⟩
theorem ok__law_size_refused {f : Addr} {fd : FuncData} (T : Txt K mg) (F : FunD K "_law_size_refused" "_law_size_refused" (defArgs s__law_size_refused) (defBody s__law_size_refused) (defScope s__law_size_refused) [] [] f fd) (c__law_asked : Cal P w K mg base 9 "_law_asked" ["way", "size", "log", "low", "high"] (sp01__law_asked K)) (h__law_integers : CalH P w K mg base 2 "_law_integers" ["told", "due"] (sp00__law_integers K)) (h__law_is : CalH P w K mg base 1 "_law_is" ["told", "due"] (sp00__law_is K)) : FnOk P w K mg base (L2N.CX P w) 10 f fd ["way", "size", "log", "low", "high"] (sp01__law_size_refused K) :=
  F.ok sc__law_size_refused (len__law_size_refused K) fun cdv A outer s H vs Q E hr h => ⟨t__law_size_refused K E, pss_cons (ps_set (i := 5) sc__law_size_refused.nd rfl (by first | exact Or.inl rfl | exact Or.inr rfl) (pe_callTy call_listA (by rfl) T.b_list (by decide +kernel) (pa_cons (pv 2) (pa_nil)))) (pss_cons (L2N.ps_try_as (i := 6) (tb := fun (W : WX) => tDrop (tCl (sp01__law_asked K) (WE W) (tCons (tVar 0) (tCons (tVar 1) (tCons (tVar 5) (tCons (tVar 3) (tCons (tVar 4) (tNil)))))))) (ts := fun a cls d => tSeq (tIfS (tOr (tB (tCB (rIsX K cls d a) (tCons (tVar 6) (tCons (tC (.ref (He.ga K "LogError"))) (tNil))))) (tNot (tB (tCB (rIsX K cls d a) (tCons (tVar 6) (tCons (tC (.ref (He.ga K "LinkError"))) (tNil))))))) (tRet (tC (.bl false))) (tNext)) (tRet (tAndV (tCB (rIsX K cls d a) (tCons (tVar 6) (tCons (tC (.ty "ValueError")) (tNil)))) (tAndV (tCl (sp00__law_is K) (fun _ => E0) (tCons (tXat K a cls d "size" (tVar 6)) (tCons (tVar 1) (tNil)))) (tCl (sp00__law_integers K) (fun _ => E0) (tCons (tVar 5) (tCons (tVar 2) (tNil)))))))) (Wout := fun cls d _ H => E cls d H) rfl rfl sc__law_size_refused.nd rfl rfl ⟨rfl, by decide, .inl T.g_BadSize⟩ (L2N.takes_of rfl rfl rfl rfl) (fun W pn xe tk2 po2 => pss_one (ps_expr (pe_cl c__law_asked hr (by decide) (pat_of tk2) (pa_cons (pv 0) (pa_cons (pv 1) (pa_cons (pv 5) (pa_cons (pv 3) (pa_cons (pv 4) (pa_nil))))))))) (fun a oe cls d pn hz hf => pss_cons (ps_if ((pw_or (pt_val (pe_callB (call_isX hz.zc hf) (by rfl) T.b_isinstance (by decide +kernel) (pa_cons (pv 6) (pa_cons (pe_own T.g_LogError) (pa_nil))))) (pw_or1 (pt_not (pt_val (pe_callB (call_isX hz.zc hf) (by rfl) T.b_isinstance (by decide +kernel) (pa_cons (pv 6) (pa_cons (pe_own T.g_LinkError) (pa_nil)))))))).pt) (pss_one (ps_ret (pe_bl))) (pss_nil)) (pss_one (ps_ret (pe_and (pe_callB (call_isX hz.zc hf) (by rfl) T.b_isinstance (by decide +kernel) (pa_cons (pv 6) (pa_cons (pe_ty "ValueError" T.b_ValueError (by decide +kernel)) (pa_nil)))) (pe_and (pe_clH h__law_is (L2H.roomH_mark hr _) (by decide) (hot_suite hz hf) pat_no (pa_cons (pe_xat hz.zc hf (pv 6)) (pa_cons (pv 1) (pa_nil)))) (pe_one (pe_clH h__law_integers (L2H.roomH_mark hr _) (by decide) (hot_suite hz hf) pat_no (pa_cons (pv 5) (pa_cons (pv 2) (pa_nil))))))))))) (pss_one (ps_ret (pe_bl)))), rd__law_size_refused T vs H Q E h⟩
theorem ok__law_most_kept {f : Addr} {fd : FuncData} (T : Txt K mg) (F : FunD K "_law_most_kept" "_law_most_kept" (defArgs s__law_most_kept) (defBody s__law_most_kept) (defScope s__law_most_kept) [] [] f fd)  : FnOk P w K mg base (L2N.CX P w) 1 f fd ["size", "log"] (sp01__law_most_kept K) :=
  F.ok sc__law_most_kept (len__law_most_kept K) fun cdv A outer s H vs Q E hr h => ⟨t__law_most_kept K E, pss_cons (ps_set (i := 2) sc__law_most_kept.nd rfl (by first | exact Or.inl rfl | exact Or.inr rfl) (pe_int)) (pss_cons (ps_for (passes_of rfl) rfl (pi_range2 rfl T.b_range (pa_cons (pe_int) (pa_cons (pe_op op_addA (pv 0) (pe_int)) (pa_nil)))) (pg_name (i := 3) sc__law_most_kept.nd rfl (by first | exact Or.inl rfl | exact Or.inr rfl)) (pss_cons (ps_set (i := 4) sc__law_most_kept.nd rfl (by first | exact Or.inl rfl | exact Or.inr rfl) (pe_int)) (pss_cons (ps_set (i := 5) sc__law_most_kept.nd rfl (by first | exact Or.inl rfl | exact Or.inr rfl) (pe_int)) (pss_cons (ps_for (passes_of rfl) rfl (pi_list (pv 1)) (pg_name (i := 6) sc__law_most_kept.nd rfl (by first | exact Or.inl rfl | exact Or.inr rfl)) (pss_cons (ps_if (pt_cmpR (op_eqA hr) (pv 6) (pe_un un_neg (pv 3)) (nomark _)) (pss_one (ps_set (i := 5) sc__law_most_kept.nd rfl (by first | exact Or.inl rfl | exact Or.inr rfl) (pe_callB (call_max2A rfl) (by rfl) T.b_max (by decide +kernel) (pa_cons (pv 5) (pa_cons (pe_op op_addA (pv 4) (pe_int)) (pa_nil)))))) (pss_nil)) (pss_one (ps_if ((pw_and (pt_cmpR (op_eqA hr) (pv 6) (pv 3) (nomark _)) (pw_and1 (pt_cmpR op_gt (pv 5) (pe_int) (nomark _)))).pt) (pss_one (ps_set (i := 4) sc__law_most_kept.nd rfl (by first | exact Or.inl rfl | exact Or.inr rfl) (pe_callB (call_max2A rfl) (by rfl) T.b_max (by decide +kernel) (pa_cons (pv 4) (pa_cons (pe_op op_addA (pv 5) (pe_int)) (pa_nil)))))) (pss_nil))))) (pss_one (ps_set (i := 2) sc__law_most_kept.nd rfl (by first | exact Or.inl rfl | exact Or.inr rfl) (pe_op op_addA (pv 2) (pe_callB (call_max2A rfl) (by rfl) T.b_max (by decide +kernel) (pa_cons (pv 4) (pa_cons (pv 5) (pa_nil))))))))))) (pss_one (ps_ret (pv 2)))), rd__law_most_kept T vs H Q E h⟩
theorem ok__law_struck {f : Addr} {fd : FuncData} (T : Txt K mg) (F : FunD K "_law_struck" "_law_struck" (defArgs s__law_struck) (defBody s__law_struck) (defScope s__law_struck) [] [] f fd)  : FnOk P w K mg base (L2N.CX P w) 1 f fd ["size", "log"] (sp01__law_struck K) :=
  F.ok sc__law_struck (len__law_struck K) fun cdv A outer s H vs Q E hr h => ⟨t__law_struck K E, pss_cons (ps_setLc (i := 2) (own := [("node", 5)]) (g := gName 5) (tt := tYes) (te := tC (.bl false)) rfl sc__law_struck.nd rfl rfl (sw_true rfl rfl rfl (by decide +kernel)) (pi_range1 rfl T.b_range (pa_cons (pe_op op_addA (pv 0) (pe_int)) (pa_nil))) (blkOk_by (own := [("node", 5)]) (N := ["size", "log", "outs", "struck", "k", "node"]) (sc := defScope s__law_struck) (by decide +kernel)) (fun _ _ _ _ _ => pg_name (i := 5) sc__law_struck.nd rfl (by first | exact Or.inl rfl | exact Or.inr rfl)) (fun _ _ _ _ _ => pts_nil) (fun _ _ _ _ _ => pe_bl)) (pss_cons (ps_set (i := 3) sc__law_struck.nd rfl (by first | exact Or.inl rfl | exact Or.inr rfl) (pe_lst (pa_nil))) (pss_cons (ps_for (passes_of rfl) rfl (pi_range1 rfl T.b_range (pa_cons (pe_callB call_lenA (by rfl) T.b_len (by decide +kernel) (pa_cons (pv 1) (pa_nil))) (pa_nil))) (pg_name (i := 4) sc__law_struck.nd rfl (by first | exact Or.inl rfl | exact Or.inr rfl)) (pss_cons (ps_set (i := 5) sc__law_struck.nd rfl (by first | exact Or.inl rfl | exact Or.inr rfl) (pe_callB call_absA (by rfl) T.b_abs (by decide +kernel) (pa_cons (pe_ix ix_seq (pv 1) (pv 4) (fun _ _ => rfl)) (pa_nil)))) (pss_one (ps_if (pt_cmpR (op_eqA hr) (pe_ix ix_seq (pv 2) (pv 5) (fun _ _ => rfl)) (pe_cmpR op_lt (pe_ix ix_seq (pv 1) (pv 4) (fun _ _ => rfl)) (pe_int) (nomark _)) (nomark _)) (pss_one (ps_expr (pe_bm PySem.F.plainAttrs_list PySem.F.slot_list_append PySem.F.type_list_append mt_append (pv 3) (pa_cons (pv 4) (pa_nil))))) (pss_one (ps_asg (pe_cmpR op_lt (pe_ix ix_seq (pv 1) (pv 4) (fun _ _ => rfl)) (pe_int) (nomark _)) (pg_sub (pv 2) (pv 5) set_list))))))) (pss_one (ps_ret (pv 3))))), rd__law_struck T vs H Q E h⟩
theorem ok__law_strikes_right {f : Addr} {fd : FuncData} (T : Txt K mg) (F : FunD K "_law_strikes_right" "_law_strikes_right" (defArgs s__law_strikes_right) (defBody s__law_strikes_right) (defScope s__law_strikes_right) [] [] f fd) (c__law_integers : Cal P w K mg base 2 "_law_integers" ["told", "due"] (sp00__law_integers K)) (c__law_is : Cal P w K mg base 1 "_law_is" ["told", "due"] (sp00__law_is K)) (c__law_most_kept : Cal P w K mg base 1 "_law_most_kept" ["size", "log"] (sp01__law_most_kept K)) (c__law_struck : Cal P w K mg base 1 "_law_struck" ["size", "log"] (sp01__law_struck K)) (c_first_illegal : Cal P w K mg base 8 "first_illegal" ["size", "log"] (sp01_first_illegal K)) (c_strikes : Cal P w K mg base 7 "strikes" ["size", "log"] (sp01_strikes K)) : FnOk P w K mg base (L2N.CX P w) 9 f fd ["size", "log"] (sp01__law_strikes_right K) :=
  F.ok sc__law_strikes_right (len__law_strikes_right K) fun cdv A outer s H vs Q E hr h => ⟨t__law_strikes_right K E, pss_cons (ps_set (i := 2) sc__law_strikes_right.nd rfl (by first | exact Or.inl rfl | exact Or.inr rfl) (pe_cl c__law_struck hr (by decide) (pat_of (W := fun cls d _ H => E cls d H) (L2N.takes_of rfl rfl rfl rfl)) (pa_cons (pv 0) (pa_cons (pv 1) (pa_nil))))) (pss_cons (ps_set (i := 3) sc__law_strikes_right.nd rfl (by first | exact Or.inl rfl | exact Or.inr rfl) (pe_callTy call_listA (by rfl) T.b_list (by decide +kernel) (pa_cons (pv 1) (pa_nil)))) (pss_cons (ps_set (i := 4) sc__law_strikes_right.nd rfl (by first | exact Or.inl rfl | exact Or.inr rfl) (pe_cl c_strikes hr (by decide) (pat_of (W := fun cls d _ H => E cls d H) (L2N.takes_of rfl rfl rfl rfl)) (pa_cons (pv 0) (pa_cons (pv 3) (pa_nil))))) (pss_cons (ps_if ((pw_or (pt_not (pt_val (pe_cl c__law_integers hr (by decide) (pat_of (W := fun cls d _ H => E cls d H) (L2N.takes_of rfl rfl rfl rfl)) (pa_cons (pv 4) (pa_cons (pv 2) (pa_nil)))))) (pw_or1 (pt_not (pt_val (pe_cl c__law_integers hr (by decide) (pat_of (W := fun cls d _ H => E cls d H) (L2N.takes_of rfl rfl rfl rfl)) (pa_cons (pv 3) (pa_cons (pv 1) (pa_nil)))))))).pt) (pss_one (ps_ret (pe_bl))) (pss_nil)) (pss_cons (ps_if (pt_cmpR (op_neA hr) (pe_op op_sub (pe_callB call_lenA (by rfl) T.b_len (by decide +kernel) (pa_cons (pv 1) (pa_nil))) (pe_callB call_lenA (by rfl) T.b_len (by decide +kernel) (pa_cons (pv 4) (pa_nil)))) (pe_cl c__law_most_kept hr (by decide) (pat_of (W := fun cls d _ H => E cls d H) (L2N.takes_of rfl rfl rfl rfl)) (pa_cons (pv 0) (pa_cons (pv 1) (pa_nil)))) (nomark _)) (pss_one (ps_ret (pe_bl))) (pss_nil)) (pss_cons (ps_expr (pe_bm PySem.F.plainAttrs_list PySem.F.slot_list_append PySem.F.type_list_append mt_append (pv 4) (pa_cons (pe_int) (pa_nil)))) (pss_cons (ps_expr (pe_bm0 PySem.F.plainAttrs_list PySem.F.slot_list_reverse PySem.F.type_list_reverse mt_reverse (pv 4))) (pss_cons (ps_setLc (i := 5) (own := [("k", 7)]) (g := gName 7) (tt := tTest (tOp (rIn K true) (tVar 7) (tVar 2))) (te := tOp (rIx K) (tVar 1) (tVar 7)) rfl sc__law_strikes_right.nd rfl rfl (sw_true rfl rfl rfl (by decide +kernel)) (pi_range1 rfl T.b_range (pa_cons (pe_callB call_lenA (by rfl) T.b_len (by decide +kernel) (pa_cons (pv 1) (pa_nil))) (pa_nil))) (blkOk_by (own := [("k", 7)]) (N := ["size", "log", "due", "given", "told", "rest", "first", "k"]) (sc := defScope s__law_strikes_right) (by decide +kernel)) (fun _ _ _ _ _ => pg_name (i := 7) sc__law_strikes_right.nd rfl (by first | exact Or.inl rfl | exact Or.inr rfl)) (fun _ _ _ _ _ => pts_one (pt_cmpR op_notIn_seq (pv 7) (pv 2) (rfl))) (fun _ _ _ _ _ => pe_ix ix_seq (pv 1) (pv 7) (fun _ _ => rfl))) (pss_cons (ps_if ((pw_or (pt_cmpR op_notNA (pe_cl c_first_illegal hr (by decide) (pat_of (W := fun cls d _ H => E cls d H) (L2N.takes_of rfl rfl rfl rfl)) (pa_cons (pv 0) (pa_cons (pe_callTy call_listA (by rfl) T.b_list (by decide +kernel) (pa_cons (pv 5) (pa_nil))) (pa_nil)))) (pe_non) (nomark _)) (pw_or1 (pt_not (pt_val (pe_cl c__law_integers hr (by decide) (pat_of (W := fun cls d _ H => E cls d H) (L2N.takes_of rfl rfl rfl rfl)) (pa_cons (pe_cl c_strikes hr (by decide) (pat_of (W := fun cls d _ H => E cls d H) (L2N.takes_of rfl rfl rfl rfl)) (pa_cons (pv 0) (pa_cons (pe_callTy call_listA (by rfl) T.b_list (by decide +kernel) (pa_cons (pv 5) (pa_nil))) (pa_nil)))) (pa_cons (pe_lst (pa_nil)) (pa_nil)))))))).pt) (pss_one (ps_ret (pe_bl))) (pss_nil)) (pss_cons (ps_set (i := 6) sc__law_strikes_right.nd rfl (by first | exact Or.inl rfl | exact Or.inr rfl) (pe_cl c_first_illegal hr (by decide) (pat_of (W := fun cls d _ H => E cls d H) (L2N.takes_of rfl rfl rfl rfl)) (pa_cons (pv 0) (pa_cons (pv 3) (pa_nil))))) (pss_cons (ps_if (pt_not (pt_val (pe_cl c__law_integers hr (by decide) (pat_of (W := fun cls d _ H => E cls d H) (L2N.takes_of rfl rfl rfl rfl)) (pa_cons (pv 3) (pa_cons (pv 1) (pa_nil)))))) (pss_one (ps_ret (pe_bl))) (pss_nil)) (pss_cons (ps_if (pt_cmpR (op_eqA hr) (pv 2) (pe_lst (pa_nil)) (nomark _)) (pss_one (ps_ret (pe_cmpR op_isNA (pv 6) (pe_non) (nomark _)))) (pss_nil)) (pss_one (ps_ret (pe_and (pe_cl c__law_is hr (by decide) (pat_of (W := fun cls d _ H => E cls d H) (L2N.takes_of rfl rfl rfl rfl)) (pa_cons (pv 6) (pa_cons (pe_ix ix_seq (pv 2) (pe_int) (fun _ _ => rfl)) (pa_nil)))) (pe_one (pe_cmpR op_isNA (pe_cl c_first_illegal hr (by decide) (pat_of (W := fun cls d _ H => E cls d H) (L2N.takes_of rfl rfl rfl rfl)) (pa_cons (pv 0) (pa_cons (pe_slice sl_list (pv 1) (po_none) (po_some (pe_ix ix_seq (pv 2) (pe_int) (fun _ _ => rfl)))) (pa_nil)))) (pe_non) (nomark _))))))))))))))))), rd__law_strikes_right T vs H Q E h⟩
theorem ok_law {f : Addr} {fd : FuncData} (T : Txt K mg) (F : FunD K "law" "law" (defArgs s_law) (defBody s_law) (defScope s_law) [] [] f fd) (c__law_bent : Cal P w K mg base 2 "_law_bent" ["box", "size", "log"] (sp01__law_bent K)) (c__law_blocks_right : Cal P w K mg base 7 "_law_blocks_right" ["size", "log"] (sp01__law_blocks_right K)) (c__law_box : Cal P w K mg base 1 "_law_box" ["script"] (sp00__law_box K)) (c__law_draw : Cal P w K mg base 1 "_law_draw" ["box", "many"] (sp00__law_draw K)) (c__law_far_size : Cal P w K mg base 2 "_law_far_size" ["box"] (sp02__law_far_size K)) (c__law_mirror_right : Cal P w K mg base 6 "_law_mirror_right" ["size", "log"] (sp01__law_mirror_right K)) (c__law_operation_refused : Cal P w K mg base 10 "_law_operation_refused" ["way", "size", "log", "low", "high"] (sp01__law_operation_refused K)) (c__law_range_right : Cal P w K mg base 7 "_law_range_right" ["size", "log", "low", "high"] (sp01__law_range_right K)) (c__law_rows : Cal P w K mg base 2 "_law_rows" ["box", "size"] (sp01__law_rows K)) (c__law_size : Cal P w K mg base 2 "_law_size" ["box"] (sp02__law_size K)) (c__law_size_refused : Cal P w K mg base 10 "_law_size_refused" ["way", "size", "log", "low", "high"] (sp01__law_size_refused K)) (c__law_strikes_right : Cal P w K mg base 9 "_law_strikes_right" ["size", "log"] (sp01__law_strikes_right K)) : FnOk P w K mg base (L2N.CX P w) 11 f fd ["script"] (sp_law K) :=
  F.ok sc_law (len_law K) fun cdv A outer s H vs Q E hr h => ⟨t_law K E, pss_cons (ps_set (i := 1) sc_law.nd rfl (by first | exact Or.inl rfl | exact Or.inr rfl) (pe_cl c__law_box hr (by decide) (pat_of (W := fun cls d _ H => E cls d H) (L2N.takes_of rfl rfl rfl rfl)) (pa_cons (pv 0) (pa_nil)))) (pss_cons (ps_set (i := 2) sc_law.nd rfl (by first | exact Or.inl rfl | exact Or.inr rfl) (pe_cl c__law_size hr (by decide) (pat_of (W := fun cls d _ H => E cls d H) (L2N.takes_of rfl rfl rfl rfl)) (pa_cons (pv 1) (pa_nil)))) (pss_cons (ps_set (i := 3) sc_law.nd rfl (by first | exact Or.inl rfl | exact Or.inr rfl) (pe_cl c__law_rows hr (by decide) (pat_of (W := fun cls d _ H => E cls d H) (L2N.takes_of rfl rfl rfl rfl)) (pa_cons (pv 1) (pa_cons (pv 2) (pa_nil))))) (pss_cons (ps_set (i := 4) sc_law.nd rfl (by first | exact Or.inl rfl | exact Or.inr rfl) (pe_op op_sub (pe_cl c__law_draw hr (by decide) (pat_of (W := fun cls d _ H => E cls d H) (L2N.takes_of rfl rfl rfl rfl)) (pa_cons (pv 1) (pa_cons (pe_op op_addA (pv 2) (pe_int)) (pa_nil)))) (pe_int))) (pss_cons (ps_set (i := 5) sc_law.nd rfl (by first | exact Or.inl rfl | exact Or.inr rfl) (pe_op op_sub (pe_cl c__law_draw hr (by decide) (pat_of (W := fun cls d _ H => E cls d H) (L2N.takes_of rfl rfl rfl rfl)) (pa_cons (pv 1) (pa_cons (pe_op op_addA (pv 2) (pe_int)) (pa_nil)))) (pe_int))) (pss_cons (ps_set (i := 6) sc_law.nd rfl (by first | exact Or.inl rfl | exact Or.inr rfl) (pe_cl c__law_bent hr (by decide) (pat_of (W := fun cls d _ H => E cls d H) (L2N.takes_of rfl rfl rfl rfl)) (pa_cons (pv 1) (pa_cons (pv 2) (pa_cons (pv 3) (pa_nil)))))) (pss_cons (ps_set (i := 7) sc_law.nd rfl (by first | exact Or.inl rfl | exact Or.inr rfl) (pe_cl c__law_far_size hr (by decide) (pat_of (W := fun cls d _ H => E cls d H) (L2N.takes_of rfl rfl rfl rfl)) (pa_cons (pv 1) (pa_nil)))) (pss_cons (ps_if ((pw_or (pt_not (pt_val (pe_cl c__law_strikes_right hr (by decide) (pat_of (W := fun cls d _ H => E cls d H) (L2N.takes_of rfl rfl rfl rfl)) (pa_cons (pv 2) (pa_cons (pv 3) (pa_nil)))))) (pw_or1 (pt_not (pt_val (pe_cl c__law_mirror_right hr (by decide) (pat_of (W := fun cls d _ H => E cls d H) (L2N.takes_of rfl rfl rfl rfl)) (pa_cons (pv 2) (pa_cons (pv 3) (pa_nil)))))))).pt) (pss_one (ps_ret (pe_bl))) (pss_nil)) (pss_cons (ps_if ((pw_or (pt_not (pt_val (pe_cl c__law_blocks_right hr (by decide) (pat_of (W := fun cls d _ H => E cls d H) (L2N.takes_of rfl rfl rfl rfl)) (pa_cons (pv 2) (pa_cons (pv 3) (pa_nil)))))) (pw_or1 (pt_not (pt_val (pe_cl c__law_range_right hr (by decide) (pat_of (W := fun cls d _ H => E cls d H) (L2N.takes_of rfl rfl rfl rfl)) (pa_cons (pv 2) (pa_cons (pv 3) (pa_cons (pv 4) (pa_cons (pv 5) (pa_nil)))))))))).pt) (pss_one (ps_ret (pe_bl))) (pss_nil)) (pss_cons (ps_for (passes_of rfl) rfl (pi_range1 rfl T.b_range (pa_cons (pe_int) (pa_nil))) (pg_name (i := 8) sc_law.nd rfl (by first | exact Or.inl rfl | exact Or.inr rfl)) (pss_cons (ps_if (pt_not (pt_val (pe_cl c__law_operation_refused hr (by decide) (pat_of (W := fun cls d _ H => E cls d H) (L2N.takes_of rfl rfl rfl rfl)) (pa_cons (pv 8) (pa_cons (pv 2) (pa_cons (pv 6) (pa_cons (pv 4) (pa_cons (pv 5) (pa_nil))))))))) (pss_one (ps_ret (pe_bl))) (pss_nil)) (pss_one (ps_if (pt_not (pt_val (pe_cl c__law_size_refused hr (by decide) (pat_of (W := fun cls d _ H => E cls d H) (L2N.takes_of rfl rfl rfl rfl)) (pa_cons (pv 8) (pa_cons (pv 7) (pa_cons (pv 6) (pa_cons (pv 4) (pa_cons (pv 5) (pa_nil))))))))) (pss_one (ps_ret (pe_bl))) (pss_nil))))) (pss_one (ps_ret (pe_bl)))))))))))), rd_law T vs H Q E h⟩
end
theorem okH__law_is {P : Program} {w : World} {K : PySem.W.Frag} {mg : Str → Option Value} {base : Heap} {f : Addr} {fd : FuncData} (T : Txt K mg) (F : FunD K "_law_is" "_law_is" (defArgs s__law_is) (defBody s__law_is) (defScope s__law_is) [] [] f fd)  : L2H.FnH P w K mg base (L2N.CX P w) 1 f fd ["told", "due"] (sp00__law_is K) :=
  okH F sc__law_is (len__law_is K) fun cdv A outer s H vs Q E p hot hr h => ⟨t__law_is K E, pss_one (ps_ret (pe_and (pe_callB call_isi (by rfl) T.b_isinstance (by decide +kernel) (pa_cons (pv 0) (pa_cons (pe_ty "int" T.b_int (by decide +kernel)) (pa_nil)))) (pe_and (pe_not (pe_callB call_isi (by rfl) T.b_isinstance (by decide +kernel) (pa_cons (pv 0) (pa_cons (pe_ty "bool" T.b_bool (by decide +kernel)) (pa_nil))))) (pe_one (pe_cmpR (op_eqAH (hr)) (pv 0) (pv 1) (nomark _)))))), rd__law_is T vs H Q E h⟩
theorem okH__law_integers {P : Program} {w : World} {K : PySem.W.Frag} {mg : Str → Option Value} {base : Heap} {f : Addr} {fd : FuncData} (T : Txt K mg) (F : FunD K "_law_integers" "_law_integers" (defArgs s__law_integers) (defBody s__law_integers) (defScope s__law_integers) [] [] f fd) (h__law_is : CalH P w K mg base 1 "_law_is" ["told", "due"] (sp00__law_is K)) : L2H.FnH P w K mg base (L2N.CX P w) 2 f fd ["told", "due"] (sp00__law_integers K) :=
  okH F sc__law_integers (len__law_integers K) fun cdv A outer s H vs Q E p hot hr h => ⟨t__law_integers K E0, pss_cons (ps_if ((pw_or (pt_not (pt_val (pe_callB call_isi (by rfl) T.b_isinstance (by decide +kernel) (pa_cons (pv 0) (pa_cons (pe_ty "list" T.b_list (by decide +kernel)) (pa_nil)))))) (pw_or1 (pt_cmpR (op_neAH (hr)) (pe_callB call_lenA (by rfl) T.b_len (by decide +kernel) (pa_cons (pv 0) (pa_nil))) (pe_callB call_lenA (by rfl) T.b_len (by decide +kernel) (pa_cons (pv 1) (pa_nil))) (nomark _)))).pt) (pss_one (ps_ret (pe_bl))) (pss_nil)) (pss_cons (L2H.ps_forH (passes_of rfl) (hotC hot) (L2H.pi_range1H rfl T.b_range (pa_cons (pe_callB call_lenA (by rfl) T.b_len (by decide +kernel) (pa_cons (pv 1) (pa_nil))) (pa_nil))) (pg_name (i := 2) sc__law_integers.nd rfl (by first | exact Or.inl rfl | exact Or.inr rfl)) (pss_one (ps_if (pt_not (pt_val (pe_clH h__law_is (hr) (by decide) (hotC hot) pat_no (pa_cons (pe_ix ix_seq (pv 0) (pv 2) (fun _ _ => rfl)) (pa_cons (pe_ix ix_seq (pv 1) (pv 2) (fun _ _ => rfl)) (pa_nil)))))) (pss_one (ps_ret (pe_bl))) (pss_nil)))) (pss_one (ps_ret (pe_bl)))), rd__law_integers T vs H Q E0 h⟩
end G

set_option Elab.async false
set_option linter.all false
set_option maxRecDepth 100000
set_option maxHeartbeats 4000000

namespace G
open PySem PySem.Spec PyProof.Rows L2
theorem facts {P : Program} {w : World} {K : PySem.W.Frag} {h : Heap} {mg : Str → Option Value} {f : Addr} (X : K.In h) (G : h.Ns mainGlobals mg) (hfa : mg ("law" : Str) = some (.ref f)) (c : SaysY chkL fnL K) :
    ∃ fd : FuncData, (∀ (s : Shared) (v : Value), BindsTo s fd ⟨[v], []⟩ [("script", v)]) ∧ ∀ base : Heap, K.In base → base.Ns mainGlobals mg → FnOk P w K mg base (L2N.CX P w) 11 f fd ["script"] (sp_law K) := by
  have T := txt_of X G c
  obtain ⟨fd__law_draw, F__law_draw⟩ := c.def_ 0 (d := d__law_draw) rfl
  obtain ⟨fd__law_bent, F__law_bent⟩ := c.def_ 1 (d := d__law_bent) rfl
  obtain ⟨fd__law_is, F__law_is⟩ := c.def_ 2 (d := d__law_is) rfl
  obtain ⟨fd__law_integers, F__law_integers⟩ := c.def_ 3 (d := d__law_integers) rfl
  obtain ⟨fd_check_operation, F_check_operation⟩ := c.def_ 4 (d := d_check_operation) rfl
  obtain ⟨fd_check_size, F_check_size⟩ := c.def_ 5 (d := d_check_size) rfl
  obtain ⟨fd__check_operations, F__check_operations⟩ := c.def_ 6 (d := d__check_operations) rfl
  obtain ⟨fd__on_node, F__on_node⟩ := c.def_ 7 (d := d__on_node) rfl
  obtain ⟨fd_block_part, F_block_part⟩ := c.def_ 8 (d := d_block_part) rfl
  obtain ⟨fd__law_part_right, F__law_part_right⟩ := c.def_ 9 (d := d__law_part_right) rfl
  obtain ⟨fd__law_ranges, F__law_ranges⟩ := c.def_ 10 (d := d__law_ranges) rfl
  obtain ⟨fd_blocks, F_blocks⟩ := c.def_ 11 (d := d_blocks) rfl
  obtain ⟨fd__law_blocks_right, F__law_blocks_right⟩ := c.def_ 12 (d := d__law_blocks_right) rfl
  obtain ⟨fd__law_box, F__law_box⟩ := c.def_ 13 (d := d__law_box) rfl
  obtain ⟨fd__law_far_size, F__law_far_size⟩ := c.def_ 14 (d := d__law_far_size) rfl
  obtain ⟨fd__law_turned, F__law_turned⟩ := c.def_ 15 (d := d__law_turned) rfl
  obtain ⟨fd_mirror, F_mirror⟩ := c.def_ 16 (d := d_mirror) rfl
  obtain ⟨fd__law_mirror_right, F__law_mirror_right⟩ := c.def_ 17 (d := d__law_mirror_right) rfl
  obtain ⟨fd_Links___init__, F_Links___init__⟩ := c.def_ 18 (d := d_Links___init__) rfl
  obtain ⟨fd_Links_is_legal, F_Links_is_legal⟩ := c.def_ 19 (d := d_Links_is_legal) rfl
  obtain ⟨fd_Links_check, F_Links_check⟩ := c.def_ 20 (d := d_Links_check) rfl
  obtain ⟨fd_Links_apply_at, F_Links_apply_at⟩ := c.def_ 21 (d := d_Links_apply_at) rfl
  obtain ⟨fd_Links_apply, F_Links_apply⟩ := c.def_ 22 (d := d_Links_apply) rfl
  obtain ⟨fd_strikes, F_strikes⟩ := c.def_ 23 (d := d_strikes) rfl
  obtain ⟨fd_first_illegal, F_first_illegal⟩ := c.def_ 24 (d := d_first_illegal) rfl
  obtain ⟨fd__law_asked, F__law_asked⟩ := c.def_ 25 (d := d__law_asked) rfl
  obtain ⟨fd__law_operation_refused, F__law_operation_refused⟩ := c.def_ 26 (d := d__law_operation_refused) rfl
  obtain ⟨fd__law_range_right, F__law_range_right⟩ := c.def_ 27 (d := d__law_range_right) rfl
  obtain ⟨fd__law_rows, F__law_rows⟩ := c.def_ 28 (d := d__law_rows) rfl
  obtain ⟨fd__law_size, F__law_size⟩ := c.def_ 29 (d := d__law_size) rfl
  obtain ⟨fd__law_size_refused, F__law_size_refused⟩ := c.def_ 30 (d := d__law_size_refused) rfl
  obtain ⟨fd__law_most_kept, F__law_most_kept⟩ := c.def_ 31 (d := d__law_most_kept) rfl
  obtain ⟨fd__law_struck, F__law_struck⟩ := c.def_ 32 (d := d__law_struck) rfl
  obtain ⟨fd__law_strikes_right, F__law_strikes_right⟩ := c.def_ 33 (d := d__law_strikes_right) rfl
  obtain ⟨fd_law, F_law⟩ := c.def_ 34 (d := d_law) rfl
  obtain ⟨fd_BadRange___init__, F_BadRange___init__⟩ := c.def_ 35 (d := d_BadRange___init__) rfl
  obtain ⟨fd_BadSize___init__, F_BadSize___init__⟩ := c.def_ 36 (d := d_BadSize___init__) rfl
  obtain ⟨fd_LogError___init__, F_LogError___init__⟩ := c.def_ 37 (d := d_LogError___init__) rfl
  have e := hfa.symm.trans T.gf_law
  cases e
  have bA := FunD.bindsA (ps := ["script"]) F_law fun _ _ _ _ _ _ us hl => match us, hl with | [_], _ => rfl
  refine ⟨fd_law, fun s v => bA s [v] rfl, fun base _ _ => ?_⟩
  have i_BadRange : FnOk P w K mg base (L2N.CX P w) 1 (He.ma K (He.ga K "BadRange") "__init__") fd_BadRange___init__ ["self", "low", "high"] (spIn K ["low", "high"]) := FunD.ok F_BadRange___init__ sc_BadRange___init__ (spIn_len rfl) fun cdv A outer s H vs Q E hr h => ⟨_, pss_cons (ps_ost (pv 0) (pv 1)) (pss_one (ps_ost (pv 0) (pv 2))), ini2 rfl h⟩
  have i_BadSize : FnOk P w K mg base (L2N.CX P w) 1 (He.ma K (He.ga K "BadSize") "__init__") fd_BadSize___init__ ["self", "size"] (spIn K ["size"]) := FunD.ok F_BadSize___init__ sc_BadSize___init__ (spIn_len rfl) fun cdv A outer s H vs Q E hr h => ⟨_, pss_one (ps_ost (pv 0) (pv 1)), ini1 rfl h⟩
  have i_LogError : FnOk P w K mg base (L2N.CX P w) 1 (He.ma K (He.ga K "LogError") "__init__") fd_LogError___init__ ["self", "operation", "index"] (spIn K ["operation", "index"]) := FunD.ok F_LogError___init__ sc_LogError___init__ (spIn_len rfl) fun cdv A outer s H vs Q E hr h => ⟨_, pss_cons (ps_ost (pv 0) (pv 1)) (pss_one (ps_ost (pv 0) (pv 2))), ini2 rfl h⟩
  have x_BadOperation : ExM P w K mg base 1 "BadOperation" (He.ga K "BadOperation") ["operation", "index"] := ⟨T.oe_BadOperation.1, T.oe_BadOperation.2, T.g_BadOperation, _, fd_LogError___init__, ["self", "operation", "index"], i_LogError, (T.sm_BadOperation ▸ T.in_BadOperation).1, (T.sm_BadOperation ▸ T.in_BadOperation).2, FunD.bindsN (ps := ["self", "operation", "index"]) F_LogError___init__ fun _ _ _ _ _ _ us hl => match us, hl with | [_, _, _], _ => rfl⟩
  have x_BadRange : ExM P w K mg base 1 "BadRange" (He.ga K "BadRange") ["low", "high"] := ⟨T.oe_BadRange.1, T.oe_BadRange.2, T.g_BadRange, _, fd_BadRange___init__, ["self", "low", "high"], i_BadRange, T.in_BadRange.1, T.in_BadRange.2, FunD.bindsN (ps := ["self", "low", "high"]) F_BadRange___init__ fun _ _ _ _ _ _ us hl => match us, hl with | [_, _, _], _ => rfl⟩
  have x_BadSize : ExM P w K mg base 1 "BadSize" (He.ga K "BadSize") ["size"] := ⟨T.oe_BadSize.1, T.oe_BadSize.2, T.g_BadSize, _, fd_BadSize___init__, ["self", "size"], i_BadSize, T.in_BadSize.1, T.in_BadSize.2, FunD.bindsN (ps := ["self", "size"]) F_BadSize___init__ fun _ _ _ _ _ _ us hl => match us, hl with | [_, _], _ => rfl⟩
  have x_Illegal : ExM P w K mg base 1 "Illegal" (He.ga K "Illegal") ["operation", "index"] := ⟨T.oe_Illegal.1, T.oe_Illegal.2, T.g_Illegal, _, fd_LogError___init__, ["self", "operation", "index"], i_LogError, (T.sm_Illegal ▸ T.in_Illegal).1, (T.sm_Illegal ▸ T.in_Illegal).2, FunD.bindsN (ps := ["self", "operation", "index"]) F_LogError___init__ fun _ _ _ _ _ _ us hl => match us, hl with | [_, _, _], _ => rfl⟩
  have h__law_is : CalH P w K mg base 1 "_law_is" ["told", "due"] (sp00__law_is K) := ⟨_, fd__law_is, okH__law_is T F__law_is , T.gf__law_is, F__law_is.kp, FunD.bindsN (ps := ["told", "due"]) F__law_is fun _ _ _ _ _ _ us hl => match us, hl with | [_, _], _ => rfl⟩
  have h__law_integers : CalH P w K mg base 2 "_law_integers" ["told", "due"] (sp00__law_integers K) := ⟨_, fd__law_integers, okH__law_integers T F__law_integers h__law_is, T.gf__law_integers, F__law_integers.kp, FunD.bindsN (ps := ["told", "due"]) F__law_integers fun _ _ _ _ _ _ us hl => match us, hl with | [_, _], _ => rfl⟩
  have c__law_draw : Cal P w K mg base 1 "_law_draw" ["box", "many"] (sp00__law_draw K) := ⟨_, fd__law_draw, ok__law_draw T F__law_draw , T.gf__law_draw, F__law_draw.kp, FunD.bindsN (ps := ["box", "many"]) F__law_draw fun _ _ _ _ _ _ us hl => match us, hl with | [_, _], _ => rfl⟩
  have c__law_bent : Cal P w K mg base 2 "_law_bent" ["box", "size", "log"] (sp01__law_bent K) := ⟨_, fd__law_bent, ok__law_bent T F__law_bent c__law_draw, T.gf__law_bent, F__law_bent.kp, FunD.bindsN (ps := ["box", "size", "log"]) F__law_bent fun _ _ _ _ _ _ us hl => match us, hl with | [_, _, _], _ => rfl⟩
  have c__law_is : Cal P w K mg base 1 "_law_is" ["told", "due"] (sp00__law_is K) := ⟨_, fd__law_is, ok__law_is T F__law_is , T.gf__law_is, F__law_is.kp, FunD.bindsN (ps := ["told", "due"]) F__law_is fun _ _ _ _ _ _ us hl => match us, hl with | [_, _], _ => rfl⟩
  have c__law_integers : Cal P w K mg base 2 "_law_integers" ["told", "due"] (sp00__law_integers K) := ⟨_, fd__law_integers, ok__law_integers T F__law_integers c__law_is, T.gf__law_integers, F__law_integers.kp, FunD.bindsN (ps := ["told", "due"]) F__law_integers fun _ _ _ _ _ _ us hl => match us, hl with | [_, _], _ => rfl⟩
  have c_check_operation : Cal P w K mg base 3 "check_operation" ["size", "operation", "index"] (sp_check_operation K) := ⟨_, fd_check_operation, ok_check_operation T F_check_operation x_BadOperation, T.gf_check_operation, F_check_operation.kp, FunD.bindsN (ps := ["size", "operation", "index"]) F_check_operation fun _ _ _ _ _ _ us hl => match us, hl with | [_, _, _], _ => rfl⟩
  have c_check_size : Cal P w K mg base 3 "check_size" ["size"] (sp_check_size K) := ⟨_, fd_check_size, ok_check_size T F_check_size x_BadSize, T.gf_check_size, F_check_size.kp, FunD.bindsN (ps := ["size"]) F_check_size fun _ _ _ _ _ _ us hl => match us, hl with | [_], _ => rfl⟩
  have c__check_operations : Cal P w K mg base 4 "_check_operations" ["size", "log"] (sp01__check_operations K) := ⟨_, fd__check_operations, ok__check_operations T F__check_operations c_check_operation c_check_size, T.gf__check_operations, F__check_operations.kp, FunD.bindsN (ps := ["size", "log"]) F__check_operations fun _ _ _ _ _ _ us hl => match us, hl with | [_, _], _ => rfl⟩
  have c__on_node : Cal P w K mg base 1 "_on_node" ["operation", "node"] (sp04__on_node K) := ⟨_, fd__on_node, ok__on_node T F__on_node , T.gf__on_node, F__on_node.kp, FunD.bindsN (ps := ["operation", "node"]) F__on_node fun _ _ _ _ _ _ us hl => match us, hl with | [_, _], _ => rfl⟩
  have c_block_part : Cal P w K mg base 5 "block_part" ["size", "log", "low", "high"] (sp01_block_part K) := ⟨_, fd_block_part, ok_block_part T F_block_part c__check_operations c__on_node x_BadRange, T.gf_block_part, F_block_part.kp, FunD.bindsN (ps := ["size", "log", "low", "high"]) F_block_part fun _ _ _ _ _ _ us hl => match us, hl with | [_, _, _, _], _ => rfl⟩
  have c__law_part_right : Cal P w K mg base 6 "_law_part_right" ["size", "log", "low", "high"] (sp01__law_part_right K) := ⟨_, fd__law_part_right, ok__law_part_right T F__law_part_right c__law_integers c_block_part, T.gf__law_part_right, F__law_part_right.kp, FunD.bindsN (ps := ["size", "log", "low", "high"]) F__law_part_right fun _ _ _ _ _ _ us hl => match us, hl with | [_, _, _, _], _ => rfl⟩
  have c__law_ranges : Cal P w K mg base 1 "_law_ranges" ["size", "log"] (sp01__law_ranges K) := ⟨_, fd__law_ranges, ok__law_ranges T F__law_ranges , T.gf__law_ranges, F__law_ranges.kp, FunD.bindsN (ps := ["size", "log"]) F__law_ranges fun _ _ _ _ _ _ us hl => match us, hl with | [_, _], _ => rfl⟩
  have c_blocks : Cal P w K mg base 5 "blocks" ["size", "log"] (sp01_blocks K) := ⟨_, fd_blocks, ok_blocks T F_blocks c__check_operations, T.gf_blocks, F_blocks.kp, FunD.bindsN (ps := ["size", "log"]) F_blocks fun _ _ _ _ _ _ us hl => match us, hl with | [_, _], _ => rfl⟩
  have c__law_blocks_right : Cal P w K mg base 7 "_law_blocks_right" ["size", "log"] (sp01__law_blocks_right K) := ⟨_, fd__law_blocks_right, ok__law_blocks_right T F__law_blocks_right c__law_integers c__law_is c__law_part_right c__law_ranges c_blocks, T.gf__law_blocks_right, F__law_blocks_right.kp, FunD.bindsN (ps := ["size", "log"]) F__law_blocks_right fun _ _ _ _ _ _ us hl => match us, hl with | [_, _], _ => rfl⟩
  have c__law_box : Cal P w K mg base 1 "_law_box" ["script"] (sp00__law_box K) := ⟨_, fd__law_box, ok__law_box T F__law_box , T.gf__law_box, F__law_box.kp, FunD.bindsN (ps := ["script"]) F__law_box fun _ _ _ _ _ _ us hl => match us, hl with | [_], _ => rfl⟩
  have c__law_far_size : Cal P w K mg base 2 "_law_far_size" ["box"] (sp02__law_far_size K) := ⟨_, fd__law_far_size, ok__law_far_size T F__law_far_size c__law_draw, T.gf__law_far_size, F__law_far_size.kp, FunD.bindsN (ps := ["box"]) F__law_far_size fun _ _ _ _ _ _ us hl => match us, hl with | [_], _ => rfl⟩
  have c__law_turned : Cal P w K mg base 1 "_law_turned" ["size", "operation"] (sp04__law_opposite K) := ⟨_, fd__law_turned, ok__law_turned T F__law_turned , T.gf__law_turned, F__law_turned.kp, FunD.bindsN (ps := ["size", "operation"]) F__law_turned fun _ _ _ _ _ _ us hl => match us, hl with | [_, _], _ => rfl⟩
  have c_mirror : Cal P w K mg base 5 "mirror" ["size", "log"] (sp01_mirror K) := ⟨_, fd_mirror, ok_mirror T F_mirror c__check_operations c__on_node, T.gf_mirror, F_mirror.kp, FunD.bindsN (ps := ["size", "log"]) F_mirror fun _ _ _ _ _ _ us hl => match us, hl with | [_, _], _ => rfl⟩
  have c__law_mirror_right : Cal P w K mg base 6 "_law_mirror_right" ["size", "log"] (sp01__law_mirror_right K) := ⟨_, fd__law_mirror_right, ok__law_mirror_right T F__law_mirror_right c__law_integers c__law_turned c_mirror, T.gf__law_mirror_right, F__law_mirror_right.kp, FunD.bindsN (ps := ["size", "log"]) F__law_mirror_right fun _ _ _ _ _ _ us hl => match us, hl with | [_, _], _ => rfl⟩
  have m_Links : Mak P w K mg base 4 "Links" (He.ga K "Links") ["self", "size"] (sp_Links___init__ K) := ⟨_, fd_Links___init__, ok_Links___init__ T F_Links___init__ c_check_size, T.mk_Links, T.g_Links, FunD.bindsN (ps := ["self", "size"]) F_Links___init__ fun _ _ _ _ _ _ us hl => match us, hl with | [_, _], _ => rfl⟩
  have c_Links_is_legal : Met P w K mg base 1 (He.ga K "Links") "is_legal" ["self", "operation"] (sp_Links_is_legal K) := ⟨_, fd_Links_is_legal, ok_Links_is_legal T F_Links_is_legal , T.me_Links_is_legal, FunD.bindsN (ps := ["self", "operation"]) F_Links_is_legal fun _ _ _ _ _ _ us hl => match us, hl with | [_, _], _ => rfl⟩
  have c_Links_check : Met P w K mg base 4 (He.ga K "Links") "check" ["self", "operation", "index"] (sp_Links_check K) := ⟨_, fd_Links_check, ok_Links_check T F_Links_check c_Links_is_legal c_check_operation x_Illegal, T.me_Links_check, FunD.bindsN (ps := ["self", "operation", "index"]) F_Links_check fun _ _ _ _ _ _ us hl => match us, hl with | [_, _, _], _ => rfl⟩
  have c_Links_apply_at : Met P w K mg base 5 (He.ga K "Links") "apply_at" ["self", "operation", "index"] (sp_Links_apply_at K) := ⟨_, fd_Links_apply_at, ok_Links_apply_at T F_Links_apply_at c_Links_check, T.me_Links_apply_at, FunD.bindsN (ps := ["self", "operation", "index"]) F_Links_apply_at fun _ _ _ _ _ _ us hl => match us, hl with | [_, _, _], _ => rfl⟩
  have c_Links_apply : Met P w K mg base 6 (He.ga K "Links") "apply" ["self", "operation"] (sp_Links_apply K) := ⟨_, fd_Links_apply, ok_Links_apply T F_Links_apply c_Links_apply_at, T.me_Links_apply, FunD.bindsN (ps := ["self", "operation"]) F_Links_apply fun _ _ _ _ _ _ us hl => match us, hl with | [_, _], _ => rfl⟩
  have c_strikes : Cal P w K mg base 7 "strikes" ["size", "log"] (sp01_strikes K) := ⟨_, fd_strikes, ok_strikes T F_strikes m_Links c_Links_apply c_Links_is_legal c__check_operations, T.gf_strikes, F_strikes.kp, FunD.bindsN (ps := ["size", "log"]) F_strikes fun _ _ _ _ _ _ us hl => match us, hl with | [_, _], _ => rfl⟩
  have c_first_illegal : Cal P w K mg base 8 "first_illegal" ["size", "log"] (sp01_first_illegal K) := ⟨_, fd_first_illegal, ok_first_illegal T F_first_illegal c_strikes, T.gf_first_illegal, F_first_illegal.kp, FunD.bindsN (ps := ["size", "log"]) F_first_illegal fun _ _ _ _ _ _ us hl => match us, hl with | [_, _], _ => rfl⟩
  have c__law_asked : Cal P w K mg base 9 "_law_asked" ["way", "size", "log", "low", "high"] (sp01__law_asked K) := ⟨_, fd__law_asked, ok__law_asked T F__law_asked c_block_part c_blocks c_first_illegal c_mirror c_strikes, T.gf__law_asked, F__law_asked.kp, FunD.bindsN (ps := ["way", "size", "log", "low", "high"]) F__law_asked fun _ _ _ _ _ _ us hl => match us, hl with | [_, _, _, _, _], _ => rfl⟩
  have c__law_operation_refused : Cal P w K mg base 10 "_law_operation_refused" ["way", "size", "log", "low", "high"] (sp01__law_operation_refused K) := ⟨_, fd__law_operation_refused, ok__law_operation_refused T F__law_operation_refused c__law_asked h__law_integers h__law_is, T.gf__law_operation_refused, F__law_operation_refused.kp, FunD.bindsN (ps := ["way", "size", "log", "low", "high"]) F__law_operation_refused fun _ _ _ _ _ _ us hl => match us, hl with | [_, _, _, _, _], _ => rfl⟩
  have c__law_range_right : Cal P w K mg base 7 "_law_range_right" ["size", "log", "low", "high"] (sp01__law_range_right K) := ⟨_, fd__law_range_right, ok__law_range_right T F__law_range_right c__law_part_right c_block_part h__law_integers h__law_is, T.gf__law_range_right, F__law_range_right.kp, FunD.bindsN (ps := ["size", "log", "low", "high"]) F__law_range_right fun _ _ _ _ _ _ us hl => match us, hl with | [_, _, _, _], _ => rfl⟩
  have c__law_rows : Cal P w K mg base 2 "_law_rows" ["box", "size"] (sp01__law_rows K) := ⟨_, fd__law_rows, ok__law_rows T F__law_rows c__law_draw, T.gf__law_rows, F__law_rows.kp, FunD.bindsN (ps := ["box", "size"]) F__law_rows fun _ _ _ _ _ _ us hl => match us, hl with | [_, _], _ => rfl⟩
  have c__law_size : Cal P w K mg base 2 "_law_size" ["box"] (sp02__law_size K) := ⟨_, fd__law_size, ok__law_size T F__law_size c__law_draw, T.gf__law_size, F__law_size.kp, FunD.bindsN (ps := ["box"]) F__law_size fun _ _ _ _ _ _ us hl => match us, hl with | [_], _ => rfl⟩
  have c__law_size_refused : Cal P w K mg base 10 "_law_size_refused" ["way", "size", "log", "low", "high"] (sp01__law_size_refused K) := ⟨_, fd__law_size_refused, ok__law_size_refused T F__law_size_refused c__law_asked h__law_integers h__law_is, T.gf__law_size_refused, F__law_size_refused.kp, FunD.bindsN (ps := ["way", "size", "log", "low", "high"]) F__law_size_refused fun _ _ _ _ _ _ us hl => match us, hl with | [_, _, _, _, _], _ => rfl⟩
  have c__law_most_kept : Cal P w K mg base 1 "_law_most_kept" ["size", "log"] (sp01__law_most_kept K) := ⟨_, fd__law_most_kept, ok__law_most_kept T F__law_most_kept , T.gf__law_most_kept, F__law_most_kept.kp, FunD.bindsN (ps := ["size", "log"]) F__law_most_kept fun _ _ _ _ _ _ us hl => match us, hl with | [_, _], _ => rfl⟩
  have c__law_struck : Cal P w K mg base 1 "_law_struck" ["size", "log"] (sp01__law_struck K) := ⟨_, fd__law_struck, ok__law_struck T F__law_struck , T.gf__law_struck, F__law_struck.kp, FunD.bindsN (ps := ["size", "log"]) F__law_struck fun _ _ _ _ _ _ us hl => match us, hl with | [_, _], _ => rfl⟩
  have c__law_strikes_right : Cal P w K mg base 9 "_law_strikes_right" ["size", "log"] (sp01__law_strikes_right K) := ⟨_, fd__law_strikes_right, ok__law_strikes_right T F__law_strikes_right c__law_integers c__law_is c__law_most_kept c__law_struck c_first_illegal c_strikes, T.gf__law_strikes_right, F__law_strikes_right.kp, FunD.bindsN (ps := ["size", "log"]) F__law_strikes_right fun _ _ _ _ _ _ us hl => match us, hl with | [_, _], _ => rfl⟩
  exact ok_law T F_law c__law_bent c__law_blocks_right c__law_box c__law_draw c__law_far_size c__law_mirror_right c__law_operation_refused c__law_range_right c__law_rows c__law_size c__law_size_refused c__law_strikes_right
end G
open PySem PySem.W PySem.Calls PyProof.Rows
set_option maxRecDepth 100000 in
set_option maxHeartbeats 0 in
theorem PySem.Challenge.cw_latelink_k01_rows_of_operations_holds : PySem.Challenge.rw_latelink_k01_rows_of_operations.Holds := by
  w_on; o_law
  refine HandSHeadRun.head_any (r := OpenLaw.row PySem.Challenge.rw_latelink_k01_rows_of_operations) (q := view (OpenLaw.row PySem.Challenge.rw_latelink_k01_rows_of_operations).prog [53]) (H := G.hk) (ob := G.ob) (M := 8000) (loose := G.loose) (d := HandSHeadRun.topDef (OpenLaw.row PySem.Challenge.rw_latelink_k01_rows_of_operations).prog 53) (kwd := []) G.ob_eq
    (by kernel_rfl) (fun s => by kernel_rfl) G.run (by kernel_rfl) (by kernel_rfl) (by kernel_rfl) (by rfl) (by first | assumption | decide +kernel) (by decide +kernel) ⟨rfl, rfl, rfl, rfl, rfl, by decide +kernel⟩ ?hw ?hc
  case hw => w_witness2
  case hc =>
    refine L2.walk_ofE (l := PySem.Challenge.rw_latelink_k01_rows_of_operations) (n := 63) (k := 11) (x := "script") (CX := L2.CX0) rfl (by decide) (by kernel_rfl) ⟨rfl, by decide, by decide⟩ ?F (fun _ _ _ _ z => z)
    case F =>
      intro w mg fa h Y Gm hmg0
      obtain ⟨K, KX, c⟩ := Y
      have hmg : mg ("law" : PySem.Str) = some (.ref fa) := by
        have e : (HandSHeadRun.topDef (OpenLaw.row PySem.Challenge.rw_latelink_k01_rows_of_operations).prog 53).name = ("law" : PySem.Str) := by kernel_rfl
        rw [← e]
        exact hmg0
      obtain ⟨fd, hb, hF⟩ := G.facts (P := (PySem.Challenge.rw_latelink_k01_rows_of_operations).prog) (w := w) KX Gm hmg c
      exact ⟨K, fd, _, KX, hb, fun H a ns hl _ hS => ⟨a, ns, rfl, hS, hl, fun _ => rfl⟩, fun base h1 h2 => G.noX (hF base h1 h2)⟩
