import PyProof.Rows.All
import Wide.All
import OpenK.AllK
import Wide.FinOn
import KE.KStateDown
import KE.KExcIs
import HandS.ForMost
import HandS.Exc
import HandS.ExcOwn
import HandS.ExcCtx
import HandS.ExcInit
import HandS.ExcField
import HandS.HotCalls
import HandS.WordsExc
import HandS.IsInst
import HandS.Conv
import HandS.Defaults
import HandS.Evl
import HandS.Head0
import HandS.Head1
import HandS.Head2
import HandS.HeadEnd
import HandS.HeadHook1
import HandS.HeadHook2
import HandS.ClsMeth
import HandS.ExcInitHot
import HandS.OwnEq
import PySem.Challenge.RW_latelink_k10_whole_verdicts_of_logs
set_option Elab.async false
set_option linter.all false
set_option maxRecDepth 100000
set_option maxHeartbeats 4000000
/-! Calls by bundles, own exceptions with fields, raised, caught, asked. -/
namespace G
open PySem PySem.Spec PyProof.Rows L2

/-! ### a def, a method of the text, ready to be called -/
structure Cal (P : Program) (w : World) (K : PySem.W.Frag) (mg : Str → Option Value) (base : Heap) (k : Nat) (x : Str) (ps : List Str) (sp : Sp) : Prop where
  ex : ∃ (f : Addr) (fd : FuncData), FnOk P w K mg base (L2N.CX P w) k f fd ps sp ∧ mg x = some (.ref f) ∧ PySem.W.keepIn K (.ref f) = true ∧ Binds K fd ps []
structure Met (P : Program) (w : World) (K : PySem.W.Frag) (mg : Str → Option Value) (base : Heap) (k : Nat) (C : Addr) (m : Str) (ps : List Str) (sp : Sp) : Prop where
  ex : ∃ (f : Addr) (fd : FuncData), FnOk P w K mg base (L2N.CX P w) k f fd ps sp ∧ Meth K C m f ∧ Binds K fd ps []
structure Mak (P : Program) (w : World) (K : PySem.W.Frag) (mg : Str → Option Value) (base : Heap) (k : Nat) (x : Str) (C : Addr) (ps : List Str) (sp : Sp) : Prop where
  ex : ∃ (f : Addr) (fd : FuncData), FnOk P w K mg base (L2N.CX P w) k f fd ps sp ∧ Mk K C f ∧ mg x = some (.ref C) ∧ Binds K fd ps []
/-- the same where an exception is handled -/
structure CalH (P : Program) (w : World) (K : PySem.W.Frag) (mg : Str → Option Value) (base : Heap) (k : Nat) (x : Str) (ps : List Str) (sp : Sp) : Prop where
  ex : ∃ (f : Addr) (fd : FuncData), L2H.FnH P w K mg base (L2N.CX P w) k f fd ps sp ∧ mg x = some (.ref f) ∧ PySem.W.keepIn K (.ref f) = true ∧ Binds K fd ps []
section
variable {X : Cx} {j k : Nat} {x m : Str} {ps : List Str} {sp : Sp} {E : XK} {C : Addr} {p pos apos : Pos} {e o : Expr} {es : List Expr} {t : TA} {ta : TE}
/-- f(..): what leaves it as an exception is wished for by E -/
def tCl (sp : Sp) (E : L2.St → XK) (t : TA) : TE := fun σ H Q => t σ H fun vs H1 => sp vs H1 Q (E σ)
def tMt (C : Addr) (m : Str) (sp : Sp) (E : L2.St → XK) (ta : TE) (t : TA) : TE := fun σ H Q => ta σ H fun x H1 => ∃ a dx fs, x = .ref a ∧ H1 a = some (.ins C dx fs) ∧ fs.lookup m = none ∧ t σ H1 fun vs H2 => sp (x :: vs) H2 Q (E σ)
def tMk (C : Addr) (sp : Sp) (E : L2.St → XK) (t : TA) : TE := fun σ H Q => t σ H fun vs H1 => ∀ x dx, H1 x = none → H1 dx = none → dx ≠ x → sp (.ref x :: vs) (upd (upd H1 dx (.own x)) x (.ins C dx [])) (fun v H2 => v = .non ∧ Q (.ref x) H2) (E σ)
abbrev PAt (X : Cx) (E : L2.St → XK) : Prop := ∀ σ, PassesAt (L2N.CX X.prog X.w) X σ (E σ)
theorem pat_of {X : Cx} {W : WX} (tk : L2N.Takes X W) : PAt X (WE W) := fun σ => L2N.passAt tk σ
/-- where nothing may be let out -/
theorem pat_no {X : Cx} : PAt X (fun _ => L2.E0) := fun σ pins H s e s' I c => by
  obtain ⟨_, _, _, _, _, _, _, _, _, _, _, _, z⟩ := c
  exact z.elim
variable {E : L2.St → XK}
theorem pe_cl (c : Cal X.prog X.w X.K X.mg X.base k x ps sp) (hr : Room j X.A) (hk : k ≤ j) (hx : PAt X E) (ha : PA X (e :: es) t) (hg : Gl X x := by rfl) (hdb : (x == ("__debug__" : Str)) = false := by decide)
    (he : starEach (e :: es) X.env = (false, eval e X.env) :: starEach es X.env := by rfl) (hpl : (backTo pos (starEach es X.env)).any (·.1) = false := by rfl) : PE X (.Call (.Name x p) (e :: es) [] pos) (tCl sp E t) := by
  obtain ⟨f, fd, F, hm, kp, hb⟩ := c.ex
  refine ⟨fun pins s σ H Q I h => ?_⟩
  exact (pe_callS (E := E) F (hr.mono hk) hg hm kp hb hx ha hdb he hpl).run pins s σ H Q I h
theorem pe_cl0 (c : Cal X.prog X.w X.K X.mg X.base k x ps sp) (hr : Room j X.A) (hk : k ≤ j) (hx : PAt X E) (hg : Gl X x := by rfl) (hdb : (x == ("__debug__" : Str)) = false := by decide) : PE X (.Call (.Name x p) [] [] pos) (tCl sp E tNil) := by
  obtain ⟨f, fd, F, hm, kp, hb⟩ := c.ex
  refine ⟨fun pins s σ H Q I h => wpAny_Call_Name_kw (ld_glob I hg hm ?_ hdb)⟩
  exact PySem.W.callWith_K0 I.kIn kp (run_fnS (E := E) (us := []) (vs := []) F (hr.mono hk) hb (hx σ) I .nil h)
theorem run_mt {pins : List (Addr × Obj)} {s : Shared} {σ : L2.St} {H : Hp} {Q : VK} {f : Addr} {fd : FuncData} {us : List Value} {vs : List V} (F : FnOk X.prog X.w X.K X.mg X.base (L2N.CX X.prog X.w) k f fd ps sp) (hr : Room k X.A) (hb : Binds X.K fd ps []) (hx : PAt X E) (I : Inv X pins σ H s) (r : Vals vs us)
    (h : sp vs H Q (E σ)) : wpAny (model X.prog X.w) X.A (call (.ref f) us) (EP X pins σ Q) X.xe s := run_fnS F hr hb (hx σ) I r h
theorem pe_mt {pl : Sem Bool} (c : Met X.prog X.w X.K X.mg X.base k C m ps sp) (cl : Cls X.K C) (hr : Room j X.A) (hk : k ≤ j) (hx : PAt X E) (he : PE X o ta) (ha : PA X (e :: es) t)
    (hst : starEach (e :: es) X.env = (false, eval e X.env) :: starEach es X.env := by rfl) (hpl : (backTo pos (starEach es X.env)).any (·.1) = false := by rfl)
    (ht : eval (.Call (.Attribute o m apos) (e :: es) [] pos) X.env = (do
      let ov ← eval o X.env
      standAt apos.atName
      let (f, first) ← holding [ov] (getMethod ov m pl)
      callWith pos f first (backTo pos (starEach (e :: es) X.env)) (backToKw pos (keywordEach [] X.env))) := by rfl) : PE X (.Call (.Attribute o m apos) (e :: es) [] pos) (tMt C m sp E ta t) := by
  obtain ⟨f, fd, F, hm, hb⟩ := c.ex
  refine ⟨fun pins s σ H Q I h => PySem.W.methodCall_KW (pl := pl) (thn (he.run pins s σ H _ I h) fun u s1 hh => ?_) ht⟩
  obtain ⟨x, H1, I1, rx, a, dx, fs, ex, ea, l, q⟩ := hh
  subst ex
  obtain rfl : u = Value.ref a := rx
  refine getmeth_ok I1 ea cl hm l (PySem.W.callWith_K (first := [.ref a]) (h₀ := X.base) I.ok.mod.kin hm.kp (thn (ha.run pos pins s1 σ H1 _ I1 q) fun us s2 hh => ?_) hst hpl)
  obtain ⟨vs, H2, I2, r, q2⟩ := hh
  exact ⟨I2.kIn, run_fnS (us := .ref a :: us) (vs := .ref a :: vs) F (hr.mono hk) hb (hx σ) I2 (.cons rfl r) q2⟩
theorem pe_mt0 {pl : Sem Bool} (c : Met X.prog X.w X.K X.mg X.base k C m ps sp) (cl : Cls X.K C) (hr : Room j X.A) (hk : k ≤ j) (hx : PAt X E) (he : PE X o ta)
    (ht : eval (.Call (.Attribute o m apos) [] [] pos) X.env = (do
      let ov ← eval o X.env
      standAt apos.atName
      let (f, first) ← holding [ov] (getMethod ov m pl)
      callWith pos f first (backTo pos (starEach [] X.env)) (backToKw pos (keywordEach [] X.env))) := by rfl) : PE X (.Call (.Attribute o m apos) [] [] pos) (tMt C m sp E ta tNil) := by
  obtain ⟨f, fd, F, hm, hb⟩ := c.ex
  refine ⟨fun pins s σ H Q I h => PySem.W.methodCall_KW (pl := pl) (thn (he.run pins s σ H _ I h) fun u s1 hh => ?_) ht⟩
  obtain ⟨x, H1, I1, rx, a, dx, fs, ex, ea, l, q⟩ := hh
  subst ex
  obtain rfl : u = Value.ref a := rx
  refine getmeth_ok I1 ea cl hm l ?_
  exact PySem.W.callWith_K0 (first := [.ref a]) I1.kIn hm.kp (run_fnS (us := [.ref a]) (vs := [.ref a]) F (hr.mono hk) hb (hx σ) I1 (.cons rfl .nil) q)
/-- an instance is made, what its __init__ lets out is wished for at the slots σ -/
theorem run_mk {pn : List (Addr × Obj)} {τ : L2.St} {H0 : Hp} {sh : Shared} {R : VK} {f : Addr} {fd : FuncData} {uu : List Value} {vv : List V} (M : Mk X.K C f) (F : FnOk X.prog X.w X.K X.mg X.base (L2N.CX X.prog X.w) k f fd ps sp)
    (hr : Room (k + 1) X.A) (hb : Binds X.K fd ps []) (hx : PAt X E) (I : Inv X pn τ H0 sh) (r : Vals vv uu)
    (h : ∀ x dx, H0 x = none → H0 dx = none → dx ≠ x → sp (.ref x :: vv) (upd (upd H0 dx (.own x)) x (.ins C dx [])) (fun v H2 => v = .non ∧ R (.ref x) H2) (E τ)) :
    wpAny (model X.prog X.w) X.A (call (.ref C) uu) (EP X pn τ R) X.xe sh := by
  have q0 := h (sh.heap.objs.size + 1) sh.heap.objs.size (I.hok.fresh (Nat.le_succ _)) (I.hok.fresh (Nat.le_refl _)) (Nat.ne_of_lt (Nat.lt_succ_self _))
  have J := Inv.made (C := C) I
  have rr : Vals (V.ref (sh.heap.objs.size + 1) :: vv) (Value.ref (sh.heap.objs.size + 1) :: uu) := .cons rfl r
  have ln : (Value.ref (sh.heap.objs.size + 1) :: uu ++ []).length = ps.length := by
    rw [List.append_nil, ← rr.length]
    exact F.len _ _ _ _ q0
  have bb := hb _ (Value.ref (sh.heap.objs.size + 1) :: uu) J.kIn ln
  rw [List.append_nil] at bb
  have go := F.run _ X.stack _ _ ⟨Value.ref (sh.heap.objs.size + 1) :: uu, []⟩ _ _ _ (E τ) (hr.make C uu []) (J.env0.make C uu []) bb rr q0
  refine wpAny_call (make_map (f := f) I.kIn M.makes M.init (beq_iff_eq.mp M.fn) (codeAny_mono go fun rs s2 w => ?_))
  cases rs with
  | error er => exact hx τ pn _ _ er s2 J w
  | ok fl =>
    cases fl with
    | ret u =>
      obtain ⟨v, H2, J2, rv, ev, w2⟩ := J.after w
      subst ev
      exact ⟨rv, V.ref (sh.heap.objs.size + 1), H2, J2, rfl, w2⟩
    | next => exact w.elim
    | brk => exact w.elim
    | cont => exact w.elim
theorem pe_mk (c : Mak X.prog X.w X.K X.mg X.base k x C ps sp) (hr : Room j X.A) (hk : k + 1 ≤ j) (hx : PAt X E) (ha : PA X (e :: es) t) (hg : Gl X x := by rfl) (hdb : (x == ("__debug__" : Str)) = false := by decide)
    (he : starEach (e :: es) X.env = (false, eval e X.env) :: starEach es X.env := by rfl) (hpl : (backTo pos (starEach es X.env)).any (·.1) = false := by rfl) : PE X (.Call (.Name x p) (e :: es) [] pos) (tMk C sp E t) := by
  obtain ⟨f, fd, F, M, hm, hb⟩ := c.ex
  refine ⟨fun pn s τ H Q I h => wpAny_Call_Name_kw (ld_glob I hg hm ?_ hdb)⟩
  refine PySem.W.callWith_K (h₀ := X.base) I.ok.mod.kin M.kp (thn (ha.run pos pn s τ H _ I h) fun us s1 hh => ?_) he hpl
  obtain ⟨vs, H1, I1, r, q⟩ := hh
  exact ⟨I1.kIn, run_mk M F (hr.mono hk) hb hx I1 r q⟩
end

/-! ### calls where an exception is handled -/
section
variable {X : Cx} {j k : Nat} {x : Str} {ps : List Str} {sp : Sp} {p pos : Pos} {e : Expr} {es : List Expr} {t : TA} {E : L2.St → XK}
theorem pe_clH (c : CalH X.prog X.w X.K X.mg X.base k x ps sp) (hr : L2H.RoomH j X.A) (hk : k ≤ j) (hc : L2H.HotC X) (hx : PAt X E) (ha : PA X (e :: es) t) (hg : Gl X x := by rfl) (hdb : (x == ("__debug__" : Str)) = false := by decide)
    (he : starEach (e :: es) X.env = (false, eval e X.env) :: starEach es X.env := by rfl) (hpl : (backTo pos (starEach es X.env)).any (·.1) = false := by rfl) : PE X (.Call (.Name x p) (e :: es) [] pos) (tCl sp E t) := by
  obtain ⟨f, fd, F, hm, kp, hb⟩ := c.ex
  refine ⟨fun pins s σ H Q I h => ?_⟩
  exact (L2H.pe_callH (E := E) F (hr.mono hk) hc hg hm kp hb hx ha hdb he hpl).run pins s σ H Q I h
/-- the suite of a clause is such a place -/
theorem hot_suite {X : Cx} {a : Addr} {oe : Obj} {cls : Value} {d : Option Addr} {pn : List (Addr × Obj)} (hz : L2N.Zn cls d oe) (hf : ∃ vs, oe.data = .fields vs) : L2H.HotC (X.suite a ((a, oe) :: pn)) := by
  obtain ⟨vs, hv⟩ := hf
  exact ⟨(a, oe), ⟨rfl, vs, hv, hz.2.2 vs hv⟩, List.mem_cons_self⟩
end

/-! ### own exceptions with fields -/
/-- what a class of errors must be for its instances to be asked and read -/
structure ExK (K : PySem.W.Frag) (C : Addr) : Prop where
  cl : (PySem.W.clsIn K C).isSome = true
  ga : PySem.W.findIn K (.ref C) "__getattribute__" = some (some (.builtin "BaseException.__getattribute__"))
  gg : PySem.W.findIn K (.ref C) "__getattr__" = some none
  be : PySem.W.subIn K (.ref C) (.type "BaseException") = some true
  hd : PySem.W.hasDictIn K C = true
  cc : PySem.W.findIn K (.ref C) "__class__" = some (some (.builtin "object.__class__"))
  gs : PySem.W.specialIn K (.builtin "object.__class__") "__get__" = some (some (.builtin "getset_descriptor.__get__"))
  tk : PySem.W.takesIn K (.builtin "object.__class__") = some true
  mo : PySem.W.mroIn K C (.type "object") = some true
/-- isinstance(raised, c) -/
def rIsX (K : PySem.W.Frag) (cls : Value) (d : Option Addr) (a : Addr) : List V → Hp → VK → Prop := fun xs H Q => ∃ (D dd : Addr) (fs : List (Str × V)) (c : V) (u : Value) (b : Bool),
  cls = .ref D ∧ d = some dd ∧ H dd = some (.xd fs) ∧ ExK K D ∧ xs = [.ref a, c] ∧ ClsV c u ∧ PySem.W.kitOne K (.ref D) u = some b ∧ Q (.bl b) H
section
variable {X : Cx} {a : Addr} {oe : Obj} {cls : Value} {d : Option Addr} {pn : List (Addr × Obj)}
theorem exc_at {pins : List (Addr × Obj)} {s : Shared} {σ : L2.St} {H : Hp} {D dd : Addr} {fs : List (Str × V)} (I : Inv (X.suite a ((a, oe) :: pn)) pins σ H s) (hz : Zc cls d oe) (hf : ∃ vs, oe.data = .fields vs) (ec : cls = .ref D) (ed : d = some dd)
    (hd : H dd = some (.xd fs)) : ∃ (od : Obj) (mA : Str → Option Value), PySem.W.InstAt s.heap a oe D (some od) ∧ (∀ f, RelO (fs.lookup f) (mA f)) ∧ ∀ n, PySem.W.lookIn n od = some (mA n) := by
  obtain ⟨hget, _⟩ := I.pin (a, oe) (List.mem_append_left _ List.mem_cons_self)
  obtain ⟨vs, hv⟩ := hf
  obtain ⟨mA, hns, hr⟩ := (show ObjOk X.prog X.w H s.heap dd (.xd fs) from I.hok dd _ hd)
  obtain ⟨od, ho, hl⟩ := lookIn_ns hns
  refine ⟨od, mA, ⟨hget, hz.1.trans ec, ?_, ?_⟩, hr, hl⟩
  · unfold PySem.W.notCls
    rw [hv] <;> rfl
  · rw [hz.2, ed]
    exact ho
theorem call_isX (hz : Zc cls d oe) (hf : ∃ vs, oe.data = .fields vs) : CallR (X.suite a ((a, oe) :: pn)) (.builtin "isinstance") (rIsX X.K cls d a) := by
  intro pins s σ H xs us Q I r h
  obtain ⟨D, dd, fs, c, u, b, ec, ed, hd, T, rfl, k, e, q⟩ := h
  obtain ⟨u1, u2, rfl, r1, r2⟩ := vals2 r
  cases (show u1 = Value.ref a from r1)
  have e2 := k.eq r2
  subst e2
  obtain ⟨od, mA, J, _, _⟩ := exc_at I hz hf ec ed hd
  exact PySem.W.kia_one (PySem.W.kitx_exc T.cl T.ga T.gg T.be T.cc T.gs T.tk T.mo) I.kIn J e (fun z => nomatch z) fun tk => ⟨.bl b, H, I.tok tk, rfl, q⟩
/-- raised.f -/
def tXat (K : PySem.W.Frag) (a : Addr) (cls : Value) (d : Option Addr) (f : Str) (te : TE) : TE := fun σ H Q => te σ H fun x H1 => ∃ (D dd : Addr) (fs : List (Str × V)) (v : V),
  cls = .ref D ∧ d = some dd ∧ H1 dd = some (.xd fs) ∧ ExK K D ∧ x = .ref a ∧ PySem.W.findIn K (.ref D) f = some none ∧ fs.lookup f = some v ∧ Q v H1
theorem pe_xat {e : Expr} {te : TE} {pos : Pos} {n : Str} (hz : Zc cls d oe) (hf : ∃ vs, oe.data = .fields vs) (he : PE (X.suite a ((a, oe) :: pn)) e te) (hb : attributeBase e n X.env (eval e X.env) = eval e X.env := by rfl) :
    PE (X.suite a ((a, oe) :: pn)) (.Attribute e n pos) (tXat X.K a cls d n te) := by
  refine ⟨fun pins s σ H Q I h => attr_of hb (thn (he.run pins s σ H _ I h) fun u s1 hh => ?_)⟩
  obtain ⟨x, H1, I1, rx, D, dd, fs, v, ec, ed, hd, T, ex, hno, l, q⟩ := hh
  subst ex
  obtain rfl : u = Value.ref a := rx
  obtain ⟨od, mA, J, hr, hl⟩ := exc_at I1 hz hf ec ed hd
  obtain ⟨u, hu, ru⟩ := RelO.some_of (v := v) (o := mA n) (by rw [← l]; exact hr n)
  exact HandSPX.exc_get I1.kIn J T.ga T.gg T.be (PySem.W.findObj_own T.hd hno rfl (by rw [hl, hu])) (handed_of ru) ⟨v, H1, I1.tok _, ru, q⟩
end
end G

set_option Elab.async false
set_option linter.all false
set_option maxRecDepth 100000
set_option maxHeartbeats 4000000
/-! Own errors made and raised where nothing is handled. -/
namespace G
open PySem PySem.Spec PyProof.Rows L2

/-- what an error's __init__ leaves: its fields fs hold the values us -/
def spIn (K : PySem.W.Frag) (fs : List Str) : Sp := fun vs H Q _ => ∃ (a C : Addr) (us : List V), vs = .ref a :: us ∧ us.length = fs.length ∧ OexC K C ∧ (∀ f ∈ fs, PySem.W.findIn K (.ref C) f = some none) ∧ H a = some (exo a C none) ∧
  ∀ (dx : Addr) (H' : Hp), H dx = none → dx ≠ a → H' a = some (exo a C (some dx)) → H' dx = some (exd dx (fs.zip us).reverse) → (∀ b, b ≠ a → b ≠ dx → H' b = H b) → Q .non H'
theorem spIn_len {K : PySem.W.Frag} {fs ps : List Str} (h : ps.length = fs.length + 1) : ∀ vs H Q E, spIn K fs vs H Q E → vs.length = ps.length := by
  rintro vs H Q E ⟨a, C, us, rfl, hl, _⟩
  rw [h, List.length_cons, hl]
/-- an own class of errors -/
structure ExM (P : Program) (w : World) (K : PySem.W.Frag) (mg : Str → Option Value) (base : Heap) (k : Nat) (x : Str) (C : Addr) (fs : List Str) : Prop where
  oex : OexC K C
  no : ∀ f ∈ fs, PySem.W.findIn K (.ref C) f = some none
  gl : mg x = some (.ref C)
  ex : ∃ (fI : Addr) (fd : FuncData) (ps : List Str), FnOk P w K mg base (L2N.CX P w) k fI fd ps (spIn K fs) ∧ PySem.W.findIn K (.ref C) "__init__" = some (some (.ref fI)) ∧ PySem.W.typeIn K (.ref fI) = some (.type "function") ∧ Binds K fd ps []
theorem heap_mk {H H2 : Hp} {a d : Addr} {o : HO} (ha : H a = none) (hd : d ≠ a) (k : ∀ b, b ≠ a → b ≠ d → H2 b = H b) : upd (del H2 a) d o = upd H d o := by
  funext b
  by_cases hb : b = d
  · rw [hb, upd_same, upd_same]
  · rw [upd_ne hb, upd_ne hb]
    by_cases hba : b = a
    · rw [hba, del_same, ha]
    · rw [del_ne hba, k b hba hb]
theorem mk_go {K : PySem.W.Frag} {C : Addr} {fs : List Str} {us : List V} {H : Hp} {Q : XK} (T : OexC K C) (hf : ∀ f ∈ fs, PySem.W.findIn K (.ref C) f = some none) (hl : us.length = fs.length) (h : ∀ d, H d = none → Q (.ref C) (some d) (upd H d (.xd (fs.zip us).reverse))) :
    ∀ a, H a = none → spIn K fs (.ref a :: us) (upd H a (exo a C none)) (fun v H2 => v = .non ∧ ∃ (d : Addr) (gs : List (Str × V)), H2 a = some (exo a C (some d)) ∧ H2 d = some (exd d gs) ∧ H d = none ∧ Q (.ref C) (some d) (upd (del H2 a) d (.xd gs))) (fun _ _ _ => False) := by
  intro a ha
  refine ⟨a, C, us, rfl, hl, T, hf, upd_same, fun dx H' nd ne e1 e2 k => ⟨rfl, dx, _, e1, e2, ?_, ?_⟩⟩
  · rw [upd_ne ne] at nd
    exact nd
  · have nd' : H dx = none := by
      rw [upd_ne ne] at nd
      exact nd
    rw [heap_mk ha ne fun b h1 h2 => (k b h1 h2).trans (upd_ne h1)]
    exact h dx nd'
/-- x(e, ..), x a class of errors -/
def tRz (C : Addr) (fs : List Str) (W : WX) (ta : TA) : TS := fun _ σ H => ta σ H fun us H1 => us.length = fs.length ∧ us.length ≤ 1000 ∧ ∀ d, H1 d = none → W (.ref C) (some d) σ (upd H1 d (.xd (fs.zip us).reverse))
section
variable {X : Cx} {j k : Nat} {x : Str} {C : Addr} {fs : List Str} {p pos pos2 : Pos} {e : Expr} {es : List Expr} {ta : TA}
theorem pmk_x (c : ExM X.prog X.w X.K X.mg X.base k x C fs) (hr : Room j X.A) (hk : k + 1 ≤ j) (ha : PA X (e :: es) ta) (hg : Gl X x) (hdb : (x == ("__debug__" : Str)) = false)
    (he : starEach (e :: es) X.env = (false, eval e X.env) :: starEach es X.env) (hpl : (backTo pos (starEach es X.env)).any (·.1) = false) :
    L2N.PMk X (.Call (.Name x p) (e :: es) [] pos) (fun σ H Q => ta σ H fun us H1 => us.length = fs.length ∧ us.length ≤ 1000 ∧ ∀ d, H1 d = none → Q (.ref C) (some d) (upd H1 d (.xd (fs.zip us).reverse))) := by
  obtain ⟨T, hno, hm, fI, fd, ps, F1, iC, tI, hb⟩ := c
  intro pn s τ H Q I h
  obtain ⟨nm, qn, N, bs, bm, sn, sub, ab, col, dd, k0, k1, k2, k3, k5, hC, hbm⟩ := T.cls
  refine wpAny_Call_Name_kw (ld_glob I hg hm (PySem.W.callWith_K (h₀ := X.base) I.ok.mod.kin T.kC (thn (ha.run pos pn s τ H _ I h) fun us s1 hh => ?_) he hpl) hdb)
  obtain ⟨vs, H1, I1, r1, hl, hz, q1⟩ := hh
  refine ⟨I1.kIn, ?_⟩
  obtain ⟨hp, g, dr, tk, os⟩ := s1
  show wpAny _ _ (call (.ref C) us) _ _ _
  have hle := Nat.le_succ hp.objs.size
  have hn : H1 (hp.objs.size + 1) = none := I1.hok.fresh hle
  have hq := mk_go (Q := Q) T hno hl q1 (hp.objs.size + 1) hn
  have up : ∀ b o, hp.get? b = some o → ((hp.push (PySem.W.kdv_tup us)).push (PySem.HandSPX.excO C hp.objs.size)).get? b = some o := fun b o z => Heap.get?_push_of_some _ (Heap.get?_push_of_some _ z)
  have new : ((hp.push (PySem.W.kdv_tup us)).push (PySem.HandSPX.excO C hp.objs.size)).get? (hp.objs.size + 1) = some (PySem.HandSPX.excO C hp.objs.size) := by heap_get
  have J := I1.laid (t' := tk) (a := hp.objs.size + 1) (o := exo (hp.objs.size + 1) C none) up hle (exo_ok new)
  have rr : Vals (V.ref (hp.objs.size + 1) :: vs) (Value.ref (hp.objs.size + 1) :: us) := .cons rfl r1
  have ln : (Value.ref (hp.objs.size + 1) :: us ++ []).length = ps.length := by
    rw [List.append_nil, ← rr.length]
    exact F1.len _ _ _ _ hq
  have bb := hb _ (Value.ref (hp.objs.size + 1) :: us) J.kIn ln
  rw [List.append_nil] at bb
  have sz : us.length ≤ sizeLine := by
    rw [← r1.length, sizeLine_eq]
    omega
  have hr' : Room (k + 1) X.A := hr.mono hk
  have go := F1.run _ X.stack _ _ ⟨Value.ref (hp.objs.size + 1) :: us, []⟩ _ _ _ _ (hr'.make C us []) (J.env0.make C us []) bb rr hq
  refine wpAny_call (PySem.HandSPX.call_own F.excBase_ValueError (fun Y => PySem.HandSPX.refsVE_contains Y bm hbm) (I1.kIn _ _ hC) (PySem.W.looks_findIn I1.kIn iC) (fun self => PySem.W.bind_fn I1.kIn self tI) sz (codeAny_mono go fun rs s2 w => ?_))
  cases rs with
  | error er =>
    obtain ⟨_, _, _, _, _, _, _, _, _, _, _, _, z⟩ := w
    exact z.elim
  | ok fl =>
    cases fl with
    | ret u =>
      obtain ⟨v, H2, os2, ba, un, hok, rv, ev, d, gs, ea, ed, hd1, q2⟩ := w
      subst ev
      obtain ⟨h2, g2, d2, t2, os'⟩ := s2
      obtain ⟨t0, HG, J2, kG, ge, hoe, na⟩ := mk_end0 (d2 := d2) (t2 := t2) I1 hle up un hok os2 ba ea ed hd1
      exact ⟨rv, hp.objs.size + 1, _, _, ⟨HG, g2, d2, t2, os'⟩, _, .ref C, some d, rfl, J2, kG, ge, hoe, ⟨rfl, rfl, fun zs hv => by cases hv; rfl⟩, rfl, rfl, na, rfl, ba, raises_own T.exC T.tyC, q2⟩
    | next => exact w.elim
    | brk => exact w.elim
    | cont => exact w.elim
/-- raise x(e, ..) -/
theorem ps_rz {W : WX} (c : ExM X.prog X.w X.K X.mg X.base k x C fs) (hc : X.calm = true) (tk : L2N.Takes X W) (hr : Room j X.A) (hk : k + 1 ≤ j) (ha : PA X (e :: es) ta) (hg : Gl X x := by rfl) (hdb : (x == ("__debug__" : Str)) = false := by decide)
    (he : starEach (e :: es) X.env = (false, eval e X.env) :: starEach es X.env := by rfl) (hpl : (backTo pos (starEach es X.env)).any (·.1) = false := by rfl) : PS X (.Raise (some (.Call (.Name x p) (e :: es) [] pos)) none pos2) (tRz C fs W ta) :=
  L2N.ps_raise hc tk (pmk_x c hr hk ha hg hdb he hpl)
end
/-! ### the __init__ of one field, of two -/
theorem ini1 {K : PySem.W.Frag} {f : Str} {vs : List V} {H : Hp} {Q : VK} {E : XK} {N : List Str} (hN : N.length = 2) (h : spIn K [f] vs H Q E) : (tOst K f (tVar 0) (tVar 1)) { nx := fun _ H' => Q .non H', rt := Q } (start N vs) H := by
  obtain ⟨a, C, us, rfl, hl, T, hno, ha, q⟩ := h
  match us, hl with
  | [v], _ =>
    match N, hN with
    | [_, _], _ =>
      refine ⟨_, rfl, _, rfl, a, C, rfl, T, hno f (List.mem_singleton.mpr rfl), Or.inl ⟨ha, fun dx hd ne => ?_⟩⟩
      refine q dx _ hd ne upd_same ?_ fun b h1 h2 => ?_
      · rw [upd_ne ne, upd_same] <;> rfl
      · rw [upd_ne h1, upd_ne h2]
theorem ini2 {K : PySem.W.Frag} {f g : Str} {vs : List V} {H : Hp} {Q : VK} {E : XK} {N : List Str} (hN : N.length = 3) (h : spIn K [f, g] vs H Q E) :
    (tSeq (tOst K f (tVar 0) (tVar 1)) (tOst K g (tVar 0) (tVar 2))) { nx := fun _ H' => Q .non H', rt := Q } (start N vs) H := by
  obtain ⟨a, C, us, rfl, hl, T, hno, ha, q⟩ := h
  match us, hl with
  | [v, v2], _ =>
    match N, hN with
    | [_, _, _], _ =>
      refine ⟨_, rfl, _, rfl, a, C, rfl, T, hno f List.mem_cons_self, Or.inl ⟨ha, fun dx hd ne => ?_⟩⟩
      refine ⟨_, rfl, _, rfl, a, C, rfl, T, hno g (List.mem_cons_of_mem _ List.mem_cons_self), Or.inr ⟨dx, [(f, v)], upd_same, ?_, by show 1 ≤ 900; decide, ?_⟩⟩
      · rw [upd_ne ne, upd_same]
      · refine q dx _ hd ne ?_ upd_same fun b h1 h2 => ?_
        · rw [upd_ne (Ne.symm ne), upd_same]
        · rw [upd_ne h2, upd_ne h1, upd_ne h2]
end G

set_option Elab.async false
set_option linter.all false
set_option maxRecDepth 100000
set_option maxHeartbeats 4000000
/-! Operators that take what comes, and the steps of a reading, from the front. -/
namespace G
open PySem PySem.Spec PyProof.Rows L2

/-! ### operators by values -/
def rAddA : R2 := fun x y H Q => (∃ i j, x = .int i ∧ y = .int j ∧ Q (.int (i + j)) H) ∨ (∃ i j : Str, x = .str i ∧ y = .str j ∧ i.length + j.length ≤ sizeLine ∧ Q (.str (i ++ j)) H) ∨ rCat x y H Q
def rMulA : R2 := fun x y H Q => (∃ i j, x = .int i ∧ y = .int j ∧ CMul i j ∧ Q (.int (i * j)) H) ∨ rRep x y H Q
def rEqA (K : PySem.W.Frag) : R2 := fun x y H Q => rEq x y H Q ∨ rEqD K x y H Q
def rNeA (K : PySem.W.Frag) : R2 := fun x y H Q => rNe x y H Q ∨ rNeD K x y H Q
def rLenA (K : PySem.W.Frag) : List V → Hp → VK → Prop := fun xs H Q => ∃ x n, xs = [x] ∧ LenV K x H n ∧ Q (.int n) H
def rListA (K : PySem.W.Frag) : List V → Hp → VK → Prop := fun xs H Q => ∃ p ys, xs = [.ref p] ∧ (SqL K H p ys ∨ SqT K H p ys) ∧ ∀ l, H l = none → Q (.ref l) (upd H l (.lst ys))
def rIntA : List V → Hp → VK → Prop := fun xs H Q => (∃ i, xs = [.int i] ∧ Q (.int i) H) ∨ ∃ k, xs = [.bl k] ∧ Q (.int (if k then 1 else 0)) H
def rAbsA : List V → Hp → VK → Prop := fun xs H Q => ∃ i, xs = [.int i] ∧ Q (.int (if i < 0 then -i else i)) H
def rMin2A : List V → Hp → VK → Prop := fun xs H Q => ∃ i j, xs = [.int i, .int j] ∧ Q (.int (if j < i then j else i)) H
def rMax2A : List V → Hp → VK → Prop := fun xs H Q => ∃ i j, xs = [.int i, .int j] ∧ Q (.int (if j > i then j else i)) H
def rIsNA : R2 := fun x y H Q => y = .non ∧ Q (.bl (decide (x = .non))) H
def rNotNA : R2 := fun x y H Q => y = .non ∧ Q (.bl (!decide (x = .non))) H
abbrev rSubA : R2 := rI0 fun i j => .int (i - j)
abbrev rModA : R2 := rI (fun _ j => 0 < j) fun i j => .int (i % j)
abbrev rDivA : R2 := rI CDiv fun i j => .int (i / j)
abbrev rPowA : R2 := rI CPow fun i j => .int (i ^ j.toNat)
abbrev rLtA : R2 := rI0 fun i j => .bl (decide (i < j))
abbrev rLeA : R2 := rI0 fun i j => .bl (decide (i ≤ j))
abbrev rGtA : R2 := rI0 fun i j => .bl (decide (j < i))
abbrev rGeA : R2 := rI0 fun i j => .bl (decide (j ≤ i))
abbrev rNegA : V → Hp → VK → Prop := rU fun i => .int (-i)
section
variable {X : Cx}
theorem op_addA : OpR X (binaryOp .Add) rAddA := OpR.or op_add (OpR.or op_add_str op_cat)
theorem op_mulA : OpR X (binaryOp .Mult) rMulA := OpR.or op_mul op_rep
theorem op_eqA {k : Nat} (hr : Room k X.A) : OpR X (compareOp .Eq) (rEqA X.K) := OpR.or op_eq (op_eqD hr.units)
theorem op_neA {k : Nat} (hr : Room k X.A) : OpR X (compareOp .NotEq) (rNeA X.K) := OpR.or op_ne (op_neD hr.units)
theorem call_lenA : CallR X (.builtin "len") (rLenA X.K) := call_len
theorem call_listA : CallR X (.type "list") (rListA X.K) := call_list_of
theorem call_intA : CallR X (.type "int") rIntA := call_int1
theorem call_absA : CallR X (.builtin "abs") rAbsA := call_abs
theorem call_min2A (hc : X.calm = true) : CallR X (.builtin "min") rMin2A := call_min2 hc
theorem call_max2A (hc : X.calm = true) : CallR X (.builtin "max") rMax2A := call_max2 hc
theorem op_isNA : OpR X (compareOp .Is) rIsNA := op_isN
theorem op_notNA : OpR X (compareOp .IsNot) rNotNA := op_notN
end

/-! ### what frames a step: all that was tracked but the addresses of S -/
def Kp (S : List Addr) (H H' : Hp) : Prop := ∀ b o, b ∉ S → H b = some o → H' b = some o
theorem Kp.refl (S : List Addr) (H : Hp) : Kp S H H := fun _ _ _ h => h
theorem Kp.trans {S : List Addr} {H H1 H2 : Hp} (a : Kp S H H1) (b : Kp S H1 H2) : Kp S H H2 := fun c o n h => b c o n (a c o n h)
theorem Kp.mono {S S' : List Addr} {H H1 : Hp} (a : Kp S H H1) (h : ∀ b ∈ S, b ∈ S') : Kp S' H H1 := fun c o n e => a c o (fun z => n (h c z)) e
theorem Kp.all {S : List Addr} {H H1 : Hp} (a : Kp [] H H1) : Kp S H H1 := fun c o _ e => a c o (by simp) e
theorem Kp.new {S : List Addr} {H : Hp} {p : Addr} {o : HO} (n : H p = none) : Kp S H (upd H p o) := fun b u _ e => by
  rw [upd_ne (ne_of_none e n)]
  exact e
theorem Kp.put {S : List Addr} {H : Hp} {p : Addr} {o : HO} (h : p ∈ S) : Kp S H (upd H p o) := fun b u n e => by
  have ne : b ≠ p := fun z => n (by rw [z]; exact h)
  rw [upd_ne ne]
  exact e
/-- an object that H does not know may change -/
theorem Kp.mut {S : List Addr} {H H1 : Hp} {p : Addr} {o : HO} (e : Kp S H H1) (n : H p = none) : Kp S H (upd H1 p o) := fun b u h z => by
  rw [upd_ne (ne_of_none z n)]
  exact e b u h z
theorem Kp.at0 {H H' : Hp} {b : Addr} {o : HO} (k : Kp [] H H') (h : H b = some o) : H' b = some o := k b o (by simp) h
theorem Kp.at1 {H H' : Hp} {a b : Addr} {o : HO} (k : Kp [a] H H') (n : b ≠ a) (h : H b = some o) : H' b = some o := k b o (by simpa using n) h
theorem Kp.free {S : List Addr} {H H' : Hp} {b : Addr} (k : Kp S H H') (n : b ∉ S) (h : H' b = none) : H b = none := by
  cases e : H b with
  | none => rfl
  | some o =>
    rw [k b o n e] at h
    cases h
theorem Kp.free0 {H H' : Hp} {b : Addr} (k : Kp [] H H') (h : H' b = none) : H b = none := k.free (by simp) h
theorem Kp.sql {S : List Addr} {K : PySem.W.Frag} {H H' : Hp} {a : Addr} {xs : List V} (e : Kp S H H') (n : a ∉ S) (h : SqL K H a xs) : SqL K H' a xs := by
  rcases h with (h | ⟨o, h⟩) | h
  · exact .inl (.inl (e _ _ n h))
  · exact .inl (.inr ⟨o, e _ _ n h⟩)
  · exact .inr h
theorem Kp.sqt {S : List Addr} {K : PySem.W.Frag} {H H' : Hp} {a : Addr} {xs : List V} (e : Kp S H H') (n : a ∉ S) (h : SqT K H a xs) : SqT K H' a xs := by
  rcases h with (h | ⟨o, h⟩) | h
  · exact .inl (.inl (e _ _ n h))
  · exact .inl (.inr ⟨o, e _ _ n h⟩)
  · exact .inr h

/-! ### the steps -/
section
variable {K : PySem.W.Frag} {σ : L2.St} {H : Hp} {Q : VK} {ta tb tc te : TE} {t u : TT} {x y v : V} {QB : Bool → Hp → Prop} {QA : List V → Hp → Prop} {D : Ends} {s1 s2 : TS} {tl tr : TA} {i j : Int} {n m : Nat} {p q : Addr} {xs ys : List V}
theorem w_var {k : Nat} (h : σ[k]? = some (some v)) (g : Q v H) : tVar k σ H Q := ⟨v, h, g⟩
theorem w_c (g : Q v H) : tC v σ H Q := g
theorem w_op {r : R2} (g : ta σ H fun x H1 => tb σ H1 fun y H2 => r x y H2 Q) : tOp r ta tb σ H Q := g
theorem w_un {r : V → Hp → VK → Prop} (g : ta σ H fun x H1 => r x H1 Q) : tUn r ta σ H Q := g
theorem w_test (g : te σ H fun x H1 => ∃ k, x = .bl k ∧ QB k H1) : tTest te σ H QB := g
theorem w_tb (g : te σ H fun x H1 => ∃ k, x = .bl k ∧ QB k H1) : tB te σ H QB := g
theorem w_and (g : t σ H fun c H1 => if c = true then u σ H1 QB else QB false H1) : tAnd t u σ H QB := g
theorem w_or (g : t σ H fun c H1 => if c = true then QB true H1 else u σ H1 QB) : tOr t u σ H QB := g
theorem w_not (g : t σ H fun c H1 => QB (!c) H1) : tNot t σ H QB := g
theorem w_andV (g : ta σ H fun x H1 => ∃ c, x = .bl c ∧ if c = true then tb σ H1 Q else Q (.bl false) H1) : tAndV ta tb σ H Q := g
theorem w_orV (g : ta σ H fun x H1 => ∃ c, x = .bl c ∧ if c = true then Q (.bl true) H1 else tb σ H1 Q) : tOrV ta tb σ H Q := g
theorem w_notV (g : ta σ H fun x H1 => ∃ c, x = .bl c ∧ Q (.bl (!c)) H1) : tNotV ta σ H Q := g
theorem w_ifE (g : t σ H fun c H1 => if c = true then ta σ H1 Q else tb σ H1 Q) : tIf t ta tb σ H Q := g
theorem w_chain {r r' : R2} (g : ta σ H fun x H1 => tb σ H1 fun y H2 => r x y H2 fun z H3 => ∃ k, z = .bl k ∧ (if k = true then tc σ H3 fun w' H4 => r' y w' H4 Q else Q (.bl false) H3)) : tChain r r' ta tb tc σ H Q := g
theorem w_nil (g : QA [] H) : tNil σ H QA := g
theorem w_cons (g : ta σ H fun x H1 => tr σ H1 fun xs H2 => QA (x :: xs) H2) : tCons ta tr σ H QA := g
theorem w_cb {r : List V → Hp → VK → Prop} (g : tl σ H fun vs H1 => r vs H1 Q) : tCB r tl σ H Q := g
theorem w_cl {sp : Sp} {E : L2.St → XK} (g : tl σ H fun vs H1 => sp vs H1 Q (E σ)) : tCl sp E tl σ H Q := g
theorem w_tup (g : tl σ H fun xs H1 => xs.length ≤ sizeLine ∧ ∀ p, H1 p = none → Q (.ref p) (upd H1 p (.tup xs))) : tTup tl σ H Q := g
theorem w_lst (g : tl σ H fun xs H1 => xs.length ≤ sizeLine ∧ ∀ p, H1 p = none → Q (.ref p) (upd H1 p (.lst xs))) : tLst tl σ H Q := g
theorem w_bm {T : String} {r : V → List V → Hp → VK → Prop} (g : te σ H fun x H1 => tyV K T x H1 ∧ tl σ H1 fun xs H2 => r x xs H2 Q) : tBM K T r te tl σ H Q := g
theorem w_bm0 {T : String} {r : V → List V → Hp → VK → Prop} (g : te σ H fun x H1 => tyV K T x H1 ∧ r x [] H1 Q) : tBM0 K T r te σ H Q := g
theorem w_fld {f : Str} (g : ta σ H fun x H1 => ∃ a C dx fs v, x = .ref a ∧ H1 a = some (.ins C dx fs) ∧ Cls K C ∧ NoAttr K C f ∧ fs.lookup f = some v ∧ Q v H1) : tFld K ta f σ H Q := g
theorem w_mt {C : Addr} {m : Str} {sp : Sp} {E : L2.St → XK} (g : ta σ H fun x H1 => ∃ a dx fs, x = .ref a ∧ H1 a = some (.ins C dx fs) ∧ fs.lookup m = none ∧ tl σ H1 fun vs H2 => sp (x :: vs) H2 Q (E σ)) : tMt C m sp E ta tl σ H Q := g
theorem w_seq (g : s1 { D with nx := s2 D } σ H) : tSeq s1 s2 D σ H := g
theorem w_next (g : D.nx σ H) : tNext D σ H := g
theorem w_if (g : t σ H fun b H1 => if b = true then s1 D σ H1 else s2 D σ H1) : tIfS t s1 s2 D σ H := g
theorem w_ret (g : te σ H D.rt) : tRet te D σ H := g
theorem w_drop (g : te σ H fun _ H1 => D.nx σ H1) : tDrop te D σ H := g
theorem w_asg {k : Nat} (g : te σ H fun x H1 => D.nx (σ.set k (some x)) H1) : tAsg te (gName k) D σ H := g
theorem w_asgS {to ti : TE} {r : TSet} (g : te σ H fun v H0 => to σ H0 fun o H1 => ti σ H1 fun i H2 => r o i v H2 fun H3 => D.nx σ H3) : tAsg te (gSub to ti r) D σ H := g
theorem w_ast {k : Nat} {ts : TGs} (g : te σ H fun v H0 => ∃ a xs, v = .ref a ∧ SqT K H0 a xs ∧ xs.length = k ∧ ts xs σ H0 D.nx) : tAsg te (gTup K k ts) D σ H := g
theorem w_asf {f : Str} (g : te σ H fun y H1 => ta σ H1 fun x H2 => ∃ a C dx fs, x = .ref a ∧ H2 a = some (.ins C dx fs) ∧ Cls K C ∧ NoAttr K C f ∧ fs.length < 1000 ∧ D.nx σ (upd H2 a (.ins C dx (putF f y fs)))) : sFld K ta te f D σ H := g
theorem w_ex1 {P : Bool → Prop} {b : Bool} (g : P b) : ∃ k, V.bl b = .bl k ∧ P k := ⟨b, rfl, g⟩
theorem w_iteD {c A B : Prop} [Decidable c] (h1 : c → A) (h2 : ¬ c → B) : if decide c = true then A else B := by
  by_cases h : c
  · rw [decide_eq_true h]
    exact iteT (h1 h)
  · rw [decide_eq_false h]
    exact iteF (h2 h)
theorem w_iteN {c A B : Prop} [Decidable c] (h1 : ¬ c → A) (h2 : c → B) : if (!decide c) = true then A else B := by
  by_cases h : c
  · rw [decide_eq_true h]
    exact iteF (h2 h)
  · rw [decide_eq_false h]
    exact iteT (h1 h)
theorem w_iteB {b : Bool} {A B : Prop} (h1 : b = true → A) (h2 : b = false → B) : if b = true then A else B := by
  cases b with
  | true => exact iteT (h1 rfl)
  | false => exact iteF (h2 rfl)
theorem w_iteBN {b : Bool} {A B : Prop} (h1 : b = false → A) (h2 : b = true → B) : if (!b) = true then A else B := by
  cases b with
  | true => exact iteF (h2 rfl)
  | false => exact iteT (h1 rfl)
theorem w_addI (g : Q (.int (i + j)) H) : rAddA (.int i) (.int j) H Q := .inl ⟨i, j, rfl, rfl, g⟩
theorem w_addS {a b : Str} (h : a.length + b.length ≤ sizeLine) (g : Q (.str (a ++ b)) H) : rAddA (.str a) (.str b) H Q := .inr (.inl ⟨a, b, rfl, rfl, h, g⟩)
theorem w_addL (h1 : H p = some (.lst xs)) (h2 : H q = some (.lst ys)) (h : xs.length + ys.length ≤ sizeLine) (g : ∀ r, H r = none → Q (.ref r) (upd H r (.lst (xs ++ ys)))) : rAddA (.ref p) (.ref q) H Q :=
  .inr (.inr ⟨p, q, xs, ys, rfl, rfl, h1, h2, h, g⟩)
theorem w_mulI (h : CMul i j) (g : Q (.int (i * j)) H) : rMulA (.int i) (.int j) H Q := .inl ⟨i, j, rfl, rfl, h, g⟩
theorem w_mulL (h1 : H p = some (.lst xs)) (h2 : -(2 ^ 63) ≤ j) (h3 : j < 2 ^ 63) (h : xs.length * j.toNat ≤ sizeLine) (g : ∀ r, H r = none → Q (.ref r) (upd H r (.lst (List.replicate j.toNat xs).flatten))) : rMulA (.ref p) (.int j) H Q :=
  .inr ⟨p, j, xs, rfl, rfl, h1, h2, h3, h, g⟩
theorem w_i0 {f : Int → Int → V} (g : Q (f i j) H) : rI0 f (.int i) (.int j) H Q := ⟨i, j, rfl, rfl, g⟩
theorem w_ic {C : Int → Int → Prop} {f : Int → Int → V} (h : C i j) (g : Q (f i j) H) : rI C f (.int i) (.int j) H Q := ⟨i, j, rfl, rfl, h, g⟩
theorem w_u1 {f : Int → V} (g : Q (f i) H) : rU f (.int i) H Q := ⟨i, rfl, g⟩
theorem dec_I : decide (V.int i = V.int j) = decide (i = j) := by
  rw [Bool.eq_iff_iff]
  simp
theorem dec_S {a b : Str} : decide (V.str a = V.str b) = decide (a = b) := by
  rw [Bool.eq_iff_iff]
  simp
theorem dec_B {a b : Bool} : decide (V.bl a = V.bl b) = decide (a = b) := by
  rw [Bool.eq_iff_iff]
  simp
theorem w_eqI (g : Q (.bl (decide (i = j))) H) : rEqA K (.int i) (.int j) H Q := .inl ⟨rfl, by rw [dec_I]; exact g⟩
theorem w_eqS {a b : Str} (g : Q (.bl (decide (a = b))) H) : rEqA K (.str a) (.str b) H Q := .inl ⟨rfl, by rw [dec_S]; exact g⟩
theorem w_eqB {a b : Bool} (g : Q (.bl (decide (a = b))) H) : rEqA K (.bl a) (.bl b) H Q := .inl ⟨rfl, by rw [dec_B]; exact g⟩
theorem w_neI (g : Q (.bl (!decide (i = j))) H) : rNeA K (.int i) (.int j) H Q := .inl ⟨rfl, by rw [dec_I]; exact g⟩
theorem w_neS {a b : Str} (g : Q (.bl (!decide (a = b))) H) : rNeA K (.str a) (.str b) H Q := .inl ⟨rfl, by rw [dec_S]; exact g⟩
theorem w_neB {a b : Bool} (g : Q (.bl (!decide (a = b))) H) : rNeA K (.bl a) (.bl b) H Q := .inl ⟨rfl, by rw [dec_B]; exact g⟩
theorem w_eqD {d e : PyData} (h1 : Dp K H x d) (h2 : Dp K H y e) (h3 : SeqAt.shaped d = true) (h4 : SeqAt.shaped e = true) (g : Q (.bl (PyData.eqv d e)) H) : rEqA K x y H Q := .inr ⟨d, e, h1, h2, h3, h4, g⟩
theorem w_neD {d e : PyData} (h1 : Dp K H x d) (h2 : Dp K H y e) (h3 : SeqAt.shaped d = true) (h4 : SeqAt.shaped e = true) (g : Q (.bl (!PyData.eqv d e)) H) : rNeA K x y H Q := .inr ⟨d, e, h1, h2, h3, h4, g⟩
theorem w_isN0 (g : Q (.bl true) H) : rIsNA .non .non H Q := ⟨rfl, g⟩
theorem w_isN1 (h : x ≠ .non) (g : Q (.bl false) H) : rIsNA x .non H Q := ⟨rfl, by rw [decide_eq_false h]; exact g⟩
theorem w_notN0 (g : Q (.bl false) H) : rNotNA .non .non H Q := ⟨rfl, g⟩
theorem w_notN1 (h : x ≠ .non) (g : Q (.bl true) H) : rNotNA x .non H Q := ⟨rfl, by rw [decide_eq_false h]; exact g⟩
theorem w_lenL (h : SqL K H p xs) (g : Q (.int (xs.length : Int)) H) : rLenA K [.ref p] H Q := ⟨_, _, rfl, .inl ⟨xs, h, rfl⟩, g⟩
theorem w_lenT (h : SqT K H p xs) (g : Q (.int (xs.length : Int)) H) : rLenA K [.ref p] H Q := ⟨_, _, rfl, .inr ⟨xs, h, rfl⟩, g⟩
theorem w_lenS {a : Str} (h : a.length ≤ sizeLine) (g : Q (.int (a.length : Int)) H) : rLenA K [.str a] H Q := ⟨_, _, rfl, ⟨h, rfl⟩, g⟩
theorem w_listL (h : SqL K H p xs) (g : ∀ l, H l = none → Q (.ref l) (upd H l (.lst xs))) : rListA K [.ref p] H Q := ⟨p, xs, rfl, .inl h, g⟩
theorem w_listT (h : SqT K H p xs) (g : ∀ l, H l = none → Q (.ref l) (upd H l (.lst xs))) : rListA K [.ref p] H Q := ⟨p, xs, rfl, .inr h, g⟩
theorem w_intI (g : Q (.int i) H) : rIntA [.int i] H Q := .inl ⟨i, rfl, g⟩
theorem w_abs (g : Q (.int (if i < 0 then -i else i)) H) : rAbsA [.int i] H Q := ⟨i, rfl, g⟩
theorem w_min2 (g : Q (.int (if j < i then j else i)) H) : rMin2A [.int i, .int j] H Q := ⟨i, j, rfl, g⟩
theorem w_max2 (g : Q (.int (if j > i then j else i)) H) : rMax2A [.int i, .int j] H Q := ⟨i, j, rfl, g⟩
theorem w_ixL (h : SqL K H p xs) (ha : atI xs i = some v) (g : Q v H) : rIx K (.ref p) (.int i) H Q := .inl ⟨p, xs, i, v, rfl, rfl, h, ha, g⟩
theorem w_ixT (h : SqT K H p xs) (ha : atI xs i = some v) (g : Q v H) : rIx K (.ref p) (.int i) H Q := .inr (.inl ⟨p, xs, i, v, rfl, rfl, h, ha, g⟩)
theorem w_ixS {a : Str} {c : Nat} (h : a.length ≤ sizeLine) (ha : atI a.cps.toList i = some c) (g : Q (.str ⟨#[c]⟩) H) : rIx K (.str a) (.int i) H Q := .inr (.inr ⟨a, i, c, rfl, rfl, h, ha, g⟩)
theorem w_setL {R : Hp → Prop} (h : H p = some (.lst xs)) (ha : ixN xs.length i = some n) (g : R (upd H p (.lst (xs.set n v)))) : rSetL (.ref p) (.int i) v H R := ⟨p, xs, i, n, rfl, rfl, h, ha, g⟩
theorem w_app (h : H p = some (.lst xs)) (hl : xs.length < sizeLine) (g : Q .non (upd H p (.lst (xs ++ [v])))) : tyV K "list" (.ref p) H ∧ rAppend (.ref p) [v] H Q := ⟨.inl ⟨rfl, xs, SqL.of h⟩, p, xs, v, rfl, rfl, h, hl, g⟩
theorem w_ty (h : SqL K H p xs) : tyV K "list" (.ref p) H := .inl ⟨rfl, xs, h⟩
theorem w_append (h : H p = some (.lst xs)) (hl : xs.length < sizeLine) (g : Q .non (upd H p (.lst (xs ++ [v])))) : rAppend (.ref p) [v] H Q := ⟨p, xs, v, rfl, rfl, h, hl, g⟩
end
end G

set_option Elab.async false
set_option linter.all false
set_option maxRecDepth 100000
set_option maxHeartbeats 4000000
/-! Loops, comprehensions by words; the head's own facts. -/
namespace G
open PySem PySem.Spec PyProof.Rows L2

/-! ### what a loop wants of its walk J -/
def LoopG (J : It) (g : TG) (tb : TS) (D : Ends) (σ : L2.St) (H1 : Hp) : Prop := ∃ W : Nat → Nat → L2.St → Hp → Prop, (∃ m, W 0 m σ H1) ∧ ∀ i m σ H, W i m σ H →
  (J.stop i H ∧ D.nx σ H) ∨ (J.go i H ∧ ∃ N : L2.St → Hp → Prop, (∀ σ' H', N σ' H' → ∃ m', m' < m ∧ W (i + 1) m' σ' H') ∧ ∀ x H', J.yld i H x H' → g x σ H' fun σ2 H2 => tb { D with nx := N, ct := N, bk := D.nx } σ2 H2)
def CompG (J : It) (g : TG) (tt : TT) (te : TE) (vs : List Nat) (σ : L2.St) (Q : VK) (H1 : Hp) : Prop := ∀ D, H1 D = none → ∃ W : Nat → Nat → Hp → Prop, (∃ m, W 0 m (upd H1 D (.lst []))) ∧ ∀ i m H, W i m H →
  (J.stop i H ∧ Q (.ref D) H) ∨ (J.go i H ∧ ∃ Nx : Hp → Prop, (∀ H', Nx H' → ∃ m', m' < m ∧ W (i + 1) m' H') ∧ ∀ x H', J.yld i H x H' → g x (wipe σ vs) H' fun σ2 H2 => wipe σ2 vs = wipe σ vs ∧ tt σ2 H2 fun b H3 =>
    if b = true then te σ2 H3 fun y H4 => ∃ acc, H4 D = some (.lst acc) ∧ acc.length < sizeLine ∧ Nx (upd H4 D (.lst (acc ++ [y]))) else Nx H3)
section
variable {K : PySem.W.Frag} {σ : L2.St} {H : Hp} {Q : VK} {ta : TA} {te tl : TE} {tt : TT} {D : Ends} {tb : TS} {g : TG} {wi : TI} {j : Nat} {R : It → Hp → Prop} {vs : List Nat}
theorem w_for (h : wi σ H fun J H1 => LoopG J g tb D σ H1) : tFor wi g tb D σ H := h
theorem w_lc (h : wi σ H fun J H1 => CompG J g tt te vs σ Q H1) : tLc wi g tt te vs σ H Q := h
theorem w_iR1 (h : ta σ H fun vs H1 => ∃ j : Int, vs = [.int j] ∧ -(2 ^ 62) ≤ j ∧ j < 2 ^ 62 ∧ R (Itr 0 j.toNat) H1) : iRng1 ta σ H R := h
theorem w_iR2 (h : ta σ H fun vs H1 => ∃ i j : Int, vs = [.int i, .int j] ∧ (-(2 ^ 62) ≤ i ∧ i < 2 ^ 62 ∧ -(2 ^ 62) ≤ j ∧ j < 2 ^ 62) ∧ R (Itr i (j - i).toNat) H1) : iRng2 ta σ H R := h
theorem w_rng1 {n : Int} (h : -(2 ^ 62) ≤ n ∧ n < 2 ^ 62) (g : R (Itr 0 n.toNat) H) : ∃ j : Int, [V.int n] = [.int j] ∧ -(2 ^ 62) ≤ j ∧ j < 2 ^ 62 ∧ R (Itr 0 j.toNat) H := ⟨n, rfl, h.1, h.2, g⟩
theorem w_rng2 {a b : Int} (h : -(2 ^ 62) ≤ a ∧ a < 2 ^ 62 ∧ -(2 ^ 62) ≤ b ∧ b < 2 ^ 62) (g : R (Itr a (b - a).toNat) H) :
    ∃ i j : Int, [V.int a, V.int b] = [.int i, .int j] ∧ (-(2 ^ 62) ≤ i ∧ i < 2 ^ 62 ∧ -(2 ^ 62) ≤ j ∧ j < 2 ^ 62) ∧ R (Itr i (j - i).toNat) H := ⟨a, b, rfl, h, g⟩
theorem w_iL (h : tl σ H fun x H1 => ∃ a, x = .ref a ∧ (∃ xs, SqL K H1 a xs) ∧ R (Itl K a) H1) : iList K tl σ H R := h
theorem w_iT (h : tl σ H fun x H1 => ∃ a, x = .ref a ∧ (∃ xs, SqT K H1 a xs) ∧ R (Itt K a) H1) : iTup K tl σ H R := h
theorem w_lst1 {a : Addr} {xs : List V} (h : SqL K H a xs) (g : R (Itl K a) H) : ∃ b, V.ref a = .ref b ∧ (∃ xs, SqL K H b xs) ∧ R (Itl K b) H := ⟨a, rfl, ⟨xs, h⟩, g⟩
theorem w_tup1 {a : Addr} {xs : List V} (h : SqT K H a xs) (g : R (Itt K a) H) : ∃ b, V.ref a = .ref b ∧ (∃ xs, SqT K H b xs) ∧ R (Itt K b) H := ⟨a, rfl, ⟨xs, h⟩, g⟩
theorem w_iE (h : ta σ H fun vs H1 => ∃ a xs, vs = [.ref a] ∧ SqL K H1 a xs ∧ R (Ite K a) H1) : iEnum K ta σ H R := h
theorem w_iZ (h : ta σ H fun vs H1 => ∃ a b xs ys, vs = [.ref a, .ref b] ∧ SqL K H1 a xs ∧ SqL K H1 b ys ∧ R (Itz K a b) H1) : iZip K ta σ H R := h

/-! ### loops -/
theorem lp_rng {lo : Int} {n : Nat} (Pv : Nat → L2.St → Hp → Prop) (h0 : Pv 0 σ H) (hs : ∀ (i : Nat) σ' H', i < n → Pv i σ' H' → g (.int (lo + (i : Int))) σ' H' fun σ2 H2 => tb { D with nx := Pv (i + 1), ct := Pv (i + 1), bk := D.nx } σ2 H2)
    (hd : ∀ σ' H', Pv n σ' H' → D.nx σ' H') : LoopG (Itr lo n) g tb D σ H := for_range Pv h0 hs hd
theorem lp_rng0 {n : Nat} (Pv : Nat → L2.St → Hp → Prop) (h0 : Pv 0 σ H) (hs : ∀ (i : Nat) σ' H', i < n → Pv i σ' H' → g (.int (i : Int)) σ' H' fun σ2 H2 => tb { D with nx := Pv (i + 1), ct := Pv (i + 1), bk := D.nx } σ2 H2)
    (hd : ∀ σ' H', Pv n σ' H' → D.nx σ' H') : LoopG (Itr 0 n) g tb D σ H := for_range Pv h0 (fun i σ' H' hi p => by rw [Int.zero_add]; exact hs i σ' H' hi p) hd
theorem lp_lst {a : Addr} {xs : List V} (Pv : Nat → L2.St → Hp → Prop) (h0 : Pv 0 σ H) (hl : ∀ i σ' H', i ≤ xs.length → Pv i σ' H' → SqL K H' a xs)
    (hs : ∀ i x σ' H', xs[i]? = some x → Pv i σ' H' → g x σ' H' fun σ2 H2 => tb { D with nx := Pv (i + 1), ct := Pv (i + 1), bk := D.nx } σ2 H2) (hd : ∀ σ' H', Pv xs.length σ' H' → D.nx σ' H') : LoopG (Itl K a) g tb D σ H := for_list Pv h0 hl hs hd
theorem lp_tup {a : Addr} {xs : List V} (Pv : Nat → L2.St → Hp → Prop) (h0 : Pv 0 σ H) (hl : ∀ i σ' H', i ≤ xs.length → Pv i σ' H' → SqT K H' a xs)
    (hs : ∀ i x σ' H', xs[i]? = some x → Pv i σ' H' → g x σ' H' fun σ2 H2 => tb { D with nx := Pv (i + 1), ct := Pv (i + 1), bk := D.nx } σ2 H2) (hd : ∀ σ' H', Pv xs.length σ' H' → D.nx σ' H') : LoopG (Itt K a) g tb D σ H := for_tup Pv h0 hl hs hd
theorem lp_enum {a : Addr} {xs : List V} (Pv : Nat → L2.St → Hp → Prop) (h0 : Pv 0 σ H) (hl : ∀ i σ' H', i ≤ xs.length → Pv i σ' H' → SqL K H' a xs)
    (hs : ∀ (i : Nat) (x : V) (T : Addr) σ' H', xs[i]? = some x → Pv i σ' H' → H' T = none → g (.ref T) σ' (upd H' T (.tup [.int (i : Int), x])) fun σ2 H2 => tb { D with nx := Pv (i + 1), ct := Pv (i + 1), bk := D.nx } σ2 H2)
    (hd : ∀ σ' H', Pv xs.length σ' H' → D.nx σ' H') : LoopG (Ite K a) g tb D σ H := by
  refine ⟨fun i m σ H => m = xs.length - i ∧ i ≤ xs.length ∧ Pv i σ H, ⟨xs.length, by simp, Nat.zero_le _, h0⟩, ?_⟩
  rintro i m σ H ⟨rfl, hi, p⟩
  have q := hl i σ H hi p
  by_cases lt : i < xs.length
  · refine .inr ⟨⟨xs, xs[i], q, by simp [lt]⟩, Pv (i + 1), fun σ' H' p' => ⟨xs.length - (i + 1), by omega, rfl, lt, p'⟩, fun v H' y => ?_⟩
    obtain ⟨T, x, rfl, nT, rfl, hx⟩ := y
    exact hs i x T σ H (hx xs q) p nT
  · have e : i = xs.length := by omega
    subst e
    exact .inl ⟨⟨xs, q, Nat.le_refl _⟩, hd σ H p⟩

/-! ### comprehensions: items i is what stands behind i turns -/
theorem cp_go {J : It} {n : Nat} (items : Nat → List V) (Ok : Hp → Prop) (hz : ∀ i, i < n → (items i).length < sizeLine) (h0 : items 0 = []) (ok0 : ∀ H', Kp [] H H' → Ok H') (hgo : ∀ i H', i < n → Ok H' → J.go i H') (hst : ∀ H', Ok H' → J.stop n H')
    (hs : ∀ (i : Nat) (x : V) (H' H'' : Hp) (S : V → Hp → Prop) (N : Hp → Prop), i < n → Kp [] H H' → J.yld i H' x H'' → (∀ y H4, Kp [] H' H4 → items (i + 1) = items i ++ [y] → S y H4) → (∀ H4, Kp [] H' H4 → items (i + 1) = items i → N H4) →
      g x (wipe σ vs) H'' fun σ2 H2 => wipe σ2 vs = wipe σ vs ∧ tt σ2 H2 fun b H3 => if b = true then te σ2 H3 S else N H3)
    (hd : ∀ D H', H D = none → Kp [] H H' → H' D = some (.lst (items n)) → Q (.ref D) H') : CompG J g tt te vs σ Q H := by
  intro D nD
  refine ⟨fun i m H' => m = n - i ∧ i ≤ n ∧ Kp [] H H' ∧ H' D = some (.lst (items i)), ⟨n, by simp, Nat.zero_le _, Kp.new nD, by rw [h0]; exact upd_same⟩, ?_⟩
  rintro i m H' ⟨rfl, hi, k, e⟩
  by_cases lt : i < n
  · refine .inr ⟨hgo i H' lt (ok0 H' k), fun H'' => Kp [] H H'' ∧ H'' D = some (.lst (items (i + 1))), fun H'' p => ⟨n - (i + 1), by omega, rfl, lt, p.1, p.2⟩, fun x H'' y => ?_⟩
    refine hs i x H' H'' _ _ lt k y (fun y H4 k4 ei => ⟨items i, k4.at0 e, hz i lt, ?_, ?_⟩) (fun H4 k4 ei => ⟨k.trans k4, ?_⟩)
    · exact Kp.mut (k.trans k4) nD
    · rw [ei]
      exact upd_same
    · rw [ei]
      exact k4.at0 e
  · have ei : i = n := by omega
    subst ei
    exact .inl ⟨hst H' (ok0 H' k), hd D H' nD k e⟩
theorem cp_rng {lo : Int} {n : Nat} (items : Nat → List V) (hz : ∀ i, i < n → (items i).length < sizeLine) (h0 : items 0 = [])
    (hs : ∀ (i : Nat) (H' : Hp) (S : V → Hp → Prop) (N : Hp → Prop), i < n → Kp [] H H' → (∀ y H4, Kp [] H' H4 → items (i + 1) = items i ++ [y] → S y H4) → (∀ H4, Kp [] H' H4 → items (i + 1) = items i → N H4) →
      g (.int (lo + (i : Int))) (wipe σ vs) H' fun σ2 H2 => wipe σ2 vs = wipe σ vs ∧ tt σ2 H2 fun b H3 => if b = true then te σ2 H3 S else N H3)
    (hd : ∀ D H', H D = none → Kp [] H H' → H' D = some (.lst (items n)) → Q (.ref D) H') : CompG (Itr lo n) g tt te vs σ Q H :=
  cp_go items (fun _ => True) hz h0 (fun _ _ => trivial) (fun i H' hi _ => hi) (fun H' _ => Nat.le_refl n) (fun i x H' H'' S N hi k y a b => by
    obtain ⟨rfl, rfl⟩ := y
    exact hs i H'' S N hi k a b) hd
theorem cp_lst {a : Addr} {xs : List V} (h : SqL K H a xs) (items : Nat → List V) (hz : ∀ i, i < xs.length → (items i).length < sizeLine) (h0 : items 0 = [])
    (hs : ∀ (i : Nat) (x : V) (H' : Hp) (S : V → Hp → Prop) (N : Hp → Prop), xs[i]? = some x → Kp [] H H' → (∀ y H4, Kp [] H' H4 → items (i + 1) = items i ++ [y] → S y H4) → (∀ H4, Kp [] H' H4 → items (i + 1) = items i → N H4) →
      g x (wipe σ vs) H' fun σ2 H2 => wipe σ2 vs = wipe σ vs ∧ tt σ2 H2 fun b H3 => if b = true then te σ2 H3 S else N H3)
    (hd : ∀ D H', H D = none → Kp [] H H' → H' D = some (.lst (items xs.length)) → Q (.ref D) H') : CompG (Itl K a) g tt te vs σ Q H :=
  cp_go (n := xs.length) items (fun H' => SqL K H' a xs) hz h0 (fun _ k => k.sql (by simp) h) (fun i H' hi q => ⟨xs, xs[i], q, by simp [hi]⟩) (fun H' q => ⟨xs, q, Nat.le_refl _⟩) (fun i x H' H'' S N hi k y a b => by
    obtain ⟨rfl, hx⟩ := y
    exact hs i x H'' S N (hx xs (k.sql (by simp) h)) k a b) hd
theorem cp_tup {a : Addr} {xs : List V} (h : SqT K H a xs) (items : Nat → List V) (hz : ∀ i, i < xs.length → (items i).length < sizeLine) (h0 : items 0 = [])
    (hs : ∀ (i : Nat) (x : V) (H' : Hp) (S : V → Hp → Prop) (N : Hp → Prop), xs[i]? = some x → Kp [] H H' → (∀ y H4, Kp [] H' H4 → items (i + 1) = items i ++ [y] → S y H4) → (∀ H4, Kp [] H' H4 → items (i + 1) = items i → N H4) →
      g x (wipe σ vs) H' fun σ2 H2 => wipe σ2 vs = wipe σ vs ∧ tt σ2 H2 fun b H3 => if b = true then te σ2 H3 S else N H3)
    (hd : ∀ D H', H D = none → Kp [] H H' → H' D = some (.lst (items xs.length)) → Q (.ref D) H') : CompG (Itt K a) g tt te vs σ Q H :=
  cp_go (n := xs.length) items (fun H' => SqT K H' a xs) hz h0 (fun _ k => k.sqt (by simp) h) (fun i H' hi q => ⟨xs, xs[i], q, by simp [hi]⟩) (fun H' q => ⟨xs, q, Nat.le_refl _⟩) (fun i x H' H'' S N hi k y a b => by
    obtain ⟨rfl, hx⟩ := y
    exact hs i x H'' S N (hx xs (k.sqt (by simp) h)) k a b) hd
theorem cp_enum {a : Addr} {xs : List V} (h : SqL K H a xs) (items : Nat → List V) (hz : ∀ i, i < xs.length → (items i).length < sizeLine) (h0 : items 0 = [])
    (hs : ∀ (i : Nat) (x : V) (T : Addr) (H' : Hp) (S : V → Hp → Prop) (N : Hp → Prop), xs[i]? = some x → Kp [] H H' → H' T = none → (∀ y H4, Kp [] H' H4 → items (i + 1) = items i ++ [y] → S y H4) → (∀ H4, Kp [] H' H4 → items (i + 1) = items i → N H4) →
      g (.ref T) (wipe σ vs) (upd H' T (.tup [.int (i : Int), x])) fun σ2 H2 => wipe σ2 vs = wipe σ vs ∧ tt σ2 H2 fun b H3 => if b = true then te σ2 H3 S else N H3)
    (hd : ∀ D H', H D = none → Kp [] H H' → H' D = some (.lst (items xs.length)) → Q (.ref D) H') : CompG (Ite K a) g tt te vs σ Q H :=
  cp_go (n := xs.length) items (fun H' => SqL K H' a xs) hz h0 (fun _ k => k.sql (by simp) h) (fun i H' hi q => ⟨xs, xs[i], q, by simp [hi]⟩) (fun H' q => ⟨xs, q, Nat.le_refl _⟩) (fun i v H' H'' S N hi k y a b => by
    obtain ⟨T, x, rfl, nT, rfl, hx⟩ := y
    exact hs i x T H' S N (hx xs (k.sql (by simp) h)) k nT a b) hd
end

/-! ### the head's facts: any tests of the written part -/
abbrev Chk := PySem.W.Frag → Bool
def obsX (fa : List Chk) (fn : List He.DefD) (K : PySem.W.Frag) : He.AlD := ((fa.all fun f => f K) && fn.all fun d => d.ok K, fn.map fun d => He.fnW K d.at_)
def SaysX (fa : List Chk) (fn : List He.DefD) (K : PySem.W.Frag) : Prop := obsX fa fn K = He.valD fn
def obsXG (n : Nat) (fa : List Chk) (fn : List He.DefD) (g : Addr → Option Obj) : He.AlD := obsX fa fn (He.frG g (He.asD g n ++ [cStatics]))
def hookX (n : Nat) (fa : List Chk) (fn : List He.DefD) : PySem.W.Hook where
  α := He.AlD
  obs := fun s => obsXG n fa fn s.heap.get?
  val := fun _ => He.valD fn
  says := fun _ h => ∃ K : PySem.W.Frag, K.In h ∧ SaysX fa fn K
  of := fun _ _ e => ⟨_, He.frG_in, e⟩
  keeps := fun _ _ _ ⟨K, hK, c⟩ k => ⟨K, PySem.W.Frag.In.keeps hK k, c⟩
theorem obsXG_eq {n : Nat} {fa : List Chk} {fn : List He.DefD} {g : Addr → Option Obj} {s : Shared} (h : ∀ a, g a = s.heap.get? a) : obsXG n fa fn g = (hookX n fa fn).obs s := by
  have e : g = s.heap.get? := funext h
  rw [e] <;> rfl
section
variable {fa : List Chk} {fn : List He.DefD} {K : PySem.W.Frag}
theorem SaysX.fact (c : SaysX fa fn K) (i : Nat) {f : Chk} (h : fa[i]? = some f := by rfl) : f K = true := by
  have c1 := (He.ba (show ((fa.all fun f => f K) && fn.all fun d => d.ok K) = true from congrArg (fun z : He.AlD => z.1) c)).1
  exact List.all_eq_true.mp c1 f (List.mem_of_getElem? h)
theorem SaysX.def_ (c : SaysX fa fn K) (i : Nat) {d : He.DefD} (h : fn[i]? = some d := by rfl) : ∃ fd, FunD K d.name d.qual d.params d.body d.scope (d.dvs K) (d.kws K) (He.fAd K d.at_) fd := by
  have c2 := (He.ba (show ((fa.all fun f => f K) && fn.all fun d => d.ok K) = true from congrArg (fun z : He.AlD => z.1) c)).2
  have e : fn.map (fun d => He.fnW K d.at_) = fn.map He.DefD.val := congrArg (fun z : He.AlD => z.2) c
  have e2 : (fn.map fun d => He.fnW K d.at_)[i]? = (fn.map He.DefD.val)[i]? := by rw [e]
  rw [List.getElem?_map, List.getElem?_map, h] at e2
  exact He.DefD.funD (Option.some.inj e2) (List.all_eq_true.mp c2 d (List.mem_of_getElem? h))
/-- a plain fact of He -/
abbrev fa_ (f : He.Fa) : Chk := fun K => f.ok K
/-- a class of errors, as it is made -/
def oexB (C : Addr) (K : PySem.W.Frag) : Bool := match K.lookup C with
  | some ⟨.type "type", _, .cls cd, sl⟩ => (match cd.mro, sl.toList with
    | .ref C1 :: bm, [_, _, _, _, some (.builtin n), _] => C1 == C && n == "ValueError.__new__" && !cd.hasDel && cd.hasDict && PySem.HandSPX.refsVE bm
    | _, _ => false)
  | _ => false
theorem oexB_ok {C : Addr} (q : oexB C K = true) : ∃ nm qn N bs bm sn sub ab col dd k0 k1 k2 k3 k5, K.lookup C = some (excClassObj nm qn C N bs bm true sn sub ab col dd k0 k1 k2 k3 k5 "ValueError.__new__") ∧ PySem.HandSPX.refsVE bm = true := by
  unfold oexB at q
  split at q
  · rename_i dd cd sl ho
    split at q
    · rename_i C1 bm k0 k1 k2 k3 n k5 hm hs
      simp only [Bool.and_eq_true, beq_iff_eq, Bool.not_eq_true'] at q
      obtain ⟨⟨⟨⟨rfl, rfl⟩, del⟩, hd⟩, hr⟩ := q
      obtain ⟨nm, bs, mro, ns, qn, hdd, sn, sub, ab, col, dl⟩ := cd
      dsimp only at hm del hd
      subst hm del hd
      have es : sl = #[k0, k1, k2, k3, some (.builtin "ValueError.__new__"), k5] := by
        obtain ⟨l⟩ := sl
        exact congrArg Array.mk hs
      subst es
      exact ⟨nm, qn, ns, bs, bm, sn, sub, ab, col, dd, k0, k1, k2, k3, k5, ho, hr⟩
    · cases q
  · cases q
def eqT (a b : Option Bool) : Bool := decide (a = b)
/-- all that an own class of errors C with the fields fs is asked -/
def excB (x : Str) (fs : List Str) (K : PySem.W.Frag) : Bool := oexB (He.ga K x) K && (He.eqO (PySem.W.findIn K (.ref (He.ga K x)) "__setattr__") (some (some (.builtin "object.__setattr__"))) &&
  (eqT (PySem.W.subIn K (.ref (He.ga K x)) (.type "BaseException")) (some true) && (decide (PySem.W.typeIn K (.ref (He.ga K x)) = some (.type "type")) && (PySem.W.keepIn K (.ref (He.ga K x)) &&
  (fs.all fun f => He.eqO (PySem.W.findIn K (.ref (He.ga K x)) f) (some none))))))
/-- .. and its instances are asked -/
def askB (x : Str) (K : PySem.W.Frag) : Bool := (PySem.W.clsIn K (He.ga K x)).isSome && (He.eqO (PySem.W.findIn K (.ref (He.ga K x)) "__getattribute__") (some (some (.builtin "BaseException.__getattribute__"))) &&
  (He.eqO (PySem.W.findIn K (.ref (He.ga K x)) "__getattr__") (some none) && (eqT (PySem.W.subIn K (.ref (He.ga K x)) (.type "BaseException")) (some true) && (PySem.W.hasDictIn K (He.ga K x) &&
  (He.eqO (PySem.W.findIn K (.ref (He.ga K x)) "__class__") (some (some (.builtin "object.__class__"))) && (He.eqO (PySem.W.specialIn K (.builtin "object.__class__") "__get__") (some (some (.builtin "getset_descriptor.__get__"))) &&
  (eqT (PySem.W.takesIn K (.builtin "object.__class__")) (some true) && eqT (PySem.W.mroIn K (He.ga K x) (.type "object")) (some true))))))))
theorem excB_ok {x : Str} {fs : List Str} (q : excB x fs K = true) : OexC K (He.ga K x) ∧ ∀ f ∈ fs, PySem.W.findIn K (.ref (He.ga K x)) f = some none := by
  obtain ⟨q1, q⟩ := He.ba q
  obtain ⟨q2, q⟩ := He.ba q
  obtain ⟨q3, q⟩ := He.ba q
  obtain ⟨q4, q⟩ := He.ba q
  obtain ⟨q5, q6⟩ := He.ba q
  exact ⟨⟨oexB_ok q1, He.eqO_ok q2, of_decide_eq_true q3, of_decide_eq_true q4, q5⟩, fun f hf => He.eqO_ok (List.all_eq_true.mp q6 f hf)⟩
theorem askB_ok {x : Str} (q : askB x K = true) : ExK K (He.ga K x) := by
  obtain ⟨q1, q⟩ := He.ba q
  obtain ⟨q2, q⟩ := He.ba q
  obtain ⟨q3, q⟩ := He.ba q
  obtain ⟨q4, q⟩ := He.ba q
  obtain ⟨q5, q⟩ := He.ba q
  obtain ⟨q6, q⟩ := He.ba q
  obtain ⟨q7, q⟩ := He.ba q
  obtain ⟨q8, q9⟩ := He.ba q
  exact ⟨q1, He.eqO_ok q2, He.eqO_ok q3, of_decide_eq_true q4, q5, He.eqO_ok q6, He.eqO_ok q7, of_decide_eq_true q8, of_decide_eq_true q9⟩
/-- isinstance of an instance of x by the class y, by a built-in one -/
def kitB2 (x y : Str) (b : Bool) (K : PySem.W.Frag) : Bool := eqT (PySem.W.kitOne K (.ref (He.ga K x)) (.ref (He.ga K y))) (some b)
def kitT2 (x : Str) (y : String) (b : Bool) (K : PySem.W.Frag) : Bool := eqT (PySem.W.kitOne K (.ref (He.ga K x)) (.type y)) (some b)
/-- except y takes an x -/
def exmB (x y : Str) (b : Bool) (K : PySem.W.Frag) : Bool := eqT (PySem.W.exmOne K (.ref (He.ga K x)) (.ref (He.ga K y))) (some b)
/-- the __init__ that is found, a function -/
def iniB (x : Str) (K : PySem.W.Frag) : Bool := He.eqO (PySem.W.findIn K (.ref (He.ga K x)) "__init__") (some (some (.ref (He.ma K (He.ga K x) "__init__")))) && decide (PySem.W.typeIn K (.ref (He.ma K (He.ga K x) "__init__")) = some (.type "function"))
theorem iniB_ok {x : Str} (q : iniB x K = true) : PySem.W.findIn K (.ref (He.ga K x)) "__init__" = some (some (.ref (He.ma K (He.ga K x) "__init__"))) ∧ PySem.W.typeIn K (.ref (He.ma K (He.ga K x) "__init__")) = some (.type "function") := by
  obtain ⟨q1, q2⟩ := He.ba q
  exact ⟨He.eqO_ok q1, of_decide_eq_true q2⟩
end
end G

set_option Elab.async false
set_option linter.all false
set_option maxRecDepth 100000
set_option maxHeartbeats 4000000
/-! Constants of a class; truth; two things more. -/
namespace G
open PySem PySem.Spec PyProof.Rows L2
section
variable {X : Cx} {C : Addr} {mc u : Value} {v : V} {e : Expr} {f : Str} {pos : Pos} {ta : TE}
theorem pe_cc (k : ∃ mc u, ClX.CRead X.K C mc ∧ ClX.CVal X.K C mc f v u) (he : PE X e (tC (.ref C))) (hb : attributeBase e f X.env (eval e X.env) = eval e X.env := by rfl) : PE X (.Attribute e f pos) (tC v) := by
  obtain ⟨mc, u, r, k⟩ := k
  exact ⟨fun pins s σ H Q I h => (ClX.pe_cval he hb).run pins s σ H Q I ⟨C, mc, v, u, rfl, r, k, h⟩⟩
def tTr (K : PySem.W.Frag) (ta : TE) : TT := fun σ H Q => ta σ H fun x H' => ∃ k, TruV K x H' k ∧ Q k H'
theorem pt_tr (ha : PE X e ta) (he : ∀ whole, isTrue e X.env whole = (do let v ← whole; standAt e.pos; holding [v] (truthy v))) : PT X e (tTr X.K ta) := pt_truth ha he
end
/-- x.f is the whole number i -/
def ccB (x f : Str) (i : Int) (K : PySem.W.Frag) : Bool := PySem.W.readsIn K (He.ga K x) (.type "type") && (He.eqO (PySem.W.specialIn K (.ref (He.ga K x)) "__getattribute__") (some (some (.builtin "type.__getattribute__"))) &&
  (match PySem.W.findCls K (.ref (He.ga K x)) (.type "type") f with
  | some (.val (.int j _)) => decide (j = i)
  | _ => false))
theorem ccB_ok {K : PySem.W.Frag} {x f : Str} {i : Int} (q : ccB x f i K = true) : ∃ mc u, ClX.CRead K (He.ga K x) mc ∧ ClX.CVal K (He.ga K x) mc f (.int i) u := by
  obtain ⟨q1, q⟩ := He.ba q
  obtain ⟨q2, q3⟩ := He.ba q
  have q4 : (match PySem.W.findCls K (.ref (He.ga K x)) (.type "type") f with
    | some (.val (.int j _)) => decide (j = i)
    | _ => false) = true := q3
  split at q4
  · rename_i j t e
    have ej : j = i := of_decide_eq_true q4
    subst ej
    exact ⟨.type "type", .int j t, ⟨q1, He.eqO_ok q2⟩, ⟨e, t, rfl⟩⟩
  · cases q4
/-- a fact's list is looked up -/
theorem glf_ok {K : PySem.W.Frag} {h : Heap} {mg : Str → Option Value} {x : Str} (X : K.In h) (G : h.Ns mainGlobals mg) (c : (He.Fa.glo x).ok K = true) : mg x = some (.ref (He.ga K x)) := He.glo_ok X G c
end G
namespace G
open PySem PySem.Spec PyProof.Rows L2
/-- a built-in class as a value -/
theorem pe_ty {X : Cx} {x : Str} (n : String) {pos : Pos} (hm : X.mg x = none) (hv : bootBuiltins x = some (.type n)) (hg : Gl X x := by rfl) (hn : x ≠ "__name__" := by decide) (hd : (x == ("__debug__" : Str)) = false := by decide) : PE X (.Name x pos) (tC (.ty n)) :=
  pe_bltn hg hm hv rfl hn hd
/-- an own class as a value -/
theorem pe_own {X : Cx} {x : Str} {C : Addr} {pos : Pos} (hm : X.mg x = some (.ref C)) (hg : Gl X x := by rfl) (hd : (x == ("__debug__" : Str)) = false := by decide) : PE X (.Name x pos) (tC (.ref C)) := pe_glob hg hm rfl hd
end G
namespace G
open PySem PySem.Spec PyProof.Rows L2
/-- a def of the text where an exception is handled -/
theorem okH {P : Program} {w : World} {K : PySem.W.Frag} {mg : Str → Option Value} {base : Heap} {CX : CXT} {x qual : Str} {params : Arguments} {body : List Stmt} {scope : Scope} {dvs : List V} {kws : List (Str × V)} {f : Addr} {fd : FuncData} {N ps : List Str} {k : Nat} {sp : Sp}
    (F : FunD K x qual params body scope dvs kws f fd) (S : FnScope N ps scope) (len : ∀ vs H Q E, sp vs H Q E → vs.length = ps.length)
    (hb : ∀ (cdv : Value) (A : Around) (outer : List Env) (s : Shared) (H : Hp) (vs : List V) (Q : VK) (E : XK) (p : Addr × Obj), L2H.Hot1 A p → L2H.RoomH k (A.deeper (envOfC qual scope s.heap.objs.size f cdv)) → sp vs H Q E →
      ∃ t, PSs (L2H.cxH CX P w K mg base N qual scope f cdv A outer s H E p) body t ∧ t { nx := fun _ H' => Q .non H', rt := Q } (start N vs) H) : L2H.FnH P w K mg base CX (k + 1) f fd ps sp := by
  obtain ⟨oc, od, dV, kV, doc, pm, an, cdv, ct, osl, rfl, lk, hcd, _, _⟩ := F.ex
  exact L2H.fn_ofH lk hcd S len fun A outer s H vs Q E p h1 h2 h3 => hb cdv A outer s H vs Q E p h1 h2 h3
/-- a def called there -/
theorem hotC {CX : CXT} {P : Program} {w : World} {K : PySem.W.Frag} {mg : Str → Option Value} {base : Heap} {N : List Str} {qual : Str} {scope : Scope} {f : Addr} {cd : Value} {A : Around} {outer : List Env} {s : Shared} {H : Hp} {E : XK} {p : Addr × Obj} (h : L2H.Hot1 A p) :
    L2H.HotC (L2H.cxH CX P w K mg base N qual scope f cd A outer s H E p) := ⟨p, h, List.mem_cons_self⟩
end G
namespace G
open PySem PySem.Spec PyProof.Rows L2
/-- what lets nothing out -/
theorem noX {P : Program} {w : World} {K : PySem.W.Frag} {mg : Str → Option Value} {base : Heap} {k : Nat} {f : Addr} {fd : FuncData} {ps : List Str} {sp : Sp} (F : FnOk P w K mg base (L2N.CX P w) k f fd ps sp) :
    FnOk P w K mg base L2.CX0 k f fd ps (fun vs H Q _ => sp vs H Q L2.E0) := by
  refine ⟨fun vs H Q E h => F.len vs H Q _ h, fun A outer s H args us vs Q E hr e0 hb r h => codeAny_mono (F.run A outer s H args us vs Q _ hr e0 hb r h) fun rs s2 q => ?_⟩
  cases rs with
  | error e =>
    obtain ⟨_, _, _, _, _, _, _, _, _, _, _, _, z⟩ := q
    exact z.elim
  | ok fl => cases fl <;> exact q
end G

set_option Elab.async false
set_option linter.all false
set_option maxRecDepth 100000
set_option maxHeartbeats 4000000
/-! Standings as plain lists, and what operations do to them. -/
namespace G
open PySem PySem.Spec PyProof.Rows L2

/-! ### lists by place -/
def gI (l : List Int) (i : Nat) : Int := l.getD i 0
def gB (l : List Bool) (i : Nat) : Bool := l.getD i false
theorem gI_at {l : List Int} {i : Nat} (h : i < l.length) : l[i]? = some (gI l i) := by
  unfold gI
  rw [List.getElem?_eq_getElem h, List.getD_eq_getElem?_getD, List.getElem?_eq_getElem h] <;> rfl
theorem gB_at {l : List Bool} {i : Nat} (h : i < l.length) : l[i]? = some (gB l i) := by
  unfold gB
  rw [List.getElem?_eq_getElem h, List.getD_eq_getElem?_getD, List.getElem?_eq_getElem h] <;> rfl
theorem gI_of {l : List Int} {i : Nat} {v : Int} (h : l[i]? = some v) : gI l i = v := by
  unfold gI
  rw [List.getD_eq_getElem?_getD, h] <;> rfl
theorem gB_of {l : List Bool} {i : Nat} {v : Bool} (h : l[i]? = some v) : gB l i = v := by
  unfold gB
  rw [List.getD_eq_getElem?_getD, h] <;> rfl
theorem gI_set {l : List Int} {i j : Nat} {v : Int} (h : i < l.length) : gI (l.set i v) j = if j = i then v else gI l j := by
  unfold gI
  rw [List.getD_eq_getElem?_getD, List.getD_eq_getElem?_getD]
  by_cases e : j = i
  · rw [if_pos e, e, List.getElem?_set_self h] <;> rfl
  · rw [if_neg e, List.getElem?_set_ne (Ne.symm e)]
theorem gB_set {l : List Bool} {i j : Nat} {v : Bool} (h : i < l.length) : gB (l.set i v) j = if j = i then v else gB l j := by
  unfold gB
  rw [List.getD_eq_getElem?_getD, List.getD_eq_getElem?_getD]
  by_cases e : j = i
  · rw [if_pos e, e, List.getElem?_set_self h] <;> rfl
  · rw [if_neg e, List.getElem?_set_ne (Ne.symm e)]
theorem atI_pos {α : Type} {l : List α} {i : Int} (h0 : 0 ≤ i) (h1 : i < (l.length : Int)) : atI l i = l[i.toNat]? := by
  unfold atI ixN
  rw [if_pos h0, if_pos h1] <;> rfl
theorem ixN_pos {n : Nat} {i : Int} (h0 : 0 ≤ i) (h1 : i < (n : Int)) : ixN n i = some i.toNat := by
  unfold ixN
  rw [if_pos h0, if_pos h1]
theorem at_I {l : List Int} {i : Int} (h0 : 0 ≤ i) (h1 : i < (l.length : Int)) : atI (l.map V.int) i = some (.int (gI l i.toNat)) := by
  rw [atI_pos h0 (by rw [List.length_map]; exact h1), List.getElem?_map, gI_at (by omega)] <;> rfl
theorem at_B {l : List Bool} {i : Int} (h0 : 0 ≤ i) (h1 : i < (l.length : Int)) : atI (l.map V.bl) i = some (.bl (gB l i.toNat)) := by
  rw [atI_pos h0 (by rw [List.length_map]; exact h1), List.getElem?_map, gB_at (by omega)] <;> rfl
theorem at_last {α : Type} {l : List α} {x : α} (h : l.getLast? = some x) : atI l (-1) = some x := by
  have hne : l ≠ [] := by
    intro e
    rw [e] at h
    cases h
  have hl : 0 < l.length := List.length_pos_iff.mpr hne
  unfold atI ixN
  rw [if_neg (by decide), if_pos (by omega)]
  show l[(-1 + (l.length : Int)).toNat]? = some x
  rw [show (-1 + (l.length : Int)).toNat = l.length - 1 by omega, ← List.getLast?_eq_getElem?]
  exact h
theorem set_I {l : List Int} {k : Nat} {v : Int} : (l.map V.int).set k (V.int v) = (l.set k v).map V.int := by rw [List.map_set]
theorem set_B {l : List Bool} {k : Nat} {v : Bool} : (l.map V.bl).set k (V.bl v) = (l.set k v).map V.bl := by rw [List.map_set]
theorem sz_ok {n : Nat} (h : n ≤ 1000000) : n ≤ sizeLine := by
  rw [sizeLine_eq]
  omega
theorem sz_lt {n : Nat} (h : n < 1000000) : n < sizeLine := by
  rw [sizeLine_eq]
  omega
theorem map_inj_I : ∀ {a b : List Int}, a.map V.int = b.map V.int → a = b
  | [], [], _ => rfl
  | [], _ :: _, h => by cases h
  | _ :: _, [], h => by cases h
  | x :: a, y :: b, h => by
    have h' : V.int x :: a.map V.int = V.int y :: b.map V.int := h
    injection h' with h1 h2
    injection h1 with h1
    rw [h1, map_inj_I h2]

/-! ### standings -/
structure Sd where
  n : Nat
  R : List Int
  L : List Int
  O : List Bool
structure Wf (s : Sd) : Prop where
  n60 : s.n ≤ 60
  lR : s.R.length = s.n + 1
  lL : s.L.length = s.n + 2
  lO : s.O.length = s.n + 2
  rb : ∀ v : Nat, v ≤ s.n → (v : Int) < gI s.R v ∧ gI s.R v ≤ (s.n : Int) + 1
  lb : ∀ v : Nat, 1 ≤ v → v ≤ s.n + 1 → 0 ≤ gI s.L v ∧ gI s.L v < (v : Int)
def stepS (s : Sd) (op : Int) : Sd :=
  let x := op.natAbs
  let l := (gI s.L x).toNat
  let r := (gI s.R x).toNat
  ⟨s.n, s.R.set l (if op < 0 then gI s.R x else (x : Int)), s.L.set r (if op < 0 then gI s.L x else (x : Int)), s.O.set x (decide (op < 0))⟩
/-- an operation for the size; a legal one -/
def IsOp (n : Nat) (op : Int) : Prop := 1 ≤ op.natAbs ∧ op.natAbs ≤ n
def OkOp (s : Sd) (op : Int) : Prop := IsOp s.n op ∧ gB s.O op.natAbs = decide (0 < op)
instance (n : Nat) (op : Int) : Decidable (IsOp n op) := by unfold IsOp; infer_instance
instance (s : Sd) (op : Int) : Decidable (OkOp s op) := by unfold OkOp; infer_instance
theorem Wf.step {s : Sd} (w : Wf s) {op : Int} (h : IsOp s.n op) : Wf (stepS s op) := by
  obtain ⟨h1, h2⟩ := h
  obtain ⟨r1, r2⟩ := w.rb op.natAbs (by omega)
  obtain ⟨l1, l2⟩ := w.lb op.natAbs h1 (by omega)
  have e1 : (gI s.L op.natAbs).toNat < s.R.length := by rw [w.lR]; omega
  have e2 : (gI s.R op.natAbs).toNat < s.L.length := by rw [w.lL]; omega
  refine ⟨w.n60, ?_, ?_, ?_, fun v hv => ?_, fun v hv hv2 => ?_⟩
  · show (s.R.set _ _).length = _
    rw [List.length_set]
    exact w.lR
  · show (s.L.set _ _).length = _
    rw [List.length_set]
    exact w.lL
  · show (s.O.set _ _).length = _
    rw [List.length_set]
    exact w.lO
  · show (v : Int) < gI (s.R.set _ _) v ∧ gI (s.R.set _ _) v ≤ (s.n : Int) + 1
    rw [gI_set e1]
    by_cases e : v = (gI s.L op.natAbs).toNat
    · rw [if_pos e]
      by_cases o : op < 0
      · rw [if_pos o]
        omega
      · rw [if_neg o]
        omega
    · rw [if_neg e]
      exact w.rb v hv
  · show 0 ≤ gI (s.L.set _ _) v ∧ gI (s.L.set _ _) v < (v : Int)
    rw [gI_set e2]
    by_cases e : v = (gI s.R op.natAbs).toNat
    · rw [if_pos e]
      by_cases o : op < 0
      · rw [if_pos o]
        omega
      · rw [if_neg o]
        omega
    · rw [if_neg e]
      exact w.lb v hv hv2
/-- its own links stay -/
theorem step_R {s : Sd} (w : Wf s) {op : Int} (h : IsOp s.n op) : gI (stepS s op).R op.natAbs = gI s.R op.natAbs := by
  obtain ⟨l1, l2⟩ := w.lb op.natAbs h.1 (by have := h.2; omega)
  show gI (s.R.set _ _) _ = _
  rw [gI_set (by rw [w.lR]; have := h.2; omega), if_neg (by omega)]
theorem step_L {s : Sd} (w : Wf s) {op : Int} (h : IsOp s.n op) : gI (stepS s op).L op.natAbs = gI s.L op.natAbs := by
  obtain ⟨l1, l2⟩ := w.rb op.natAbs (by have := h.2; omega)
  show gI (s.L.set _ _) _ = _
  rw [gI_set (by rw [w.lL]; omega), if_neg (by omega)]
/-- a, a + 1, .. n of them -/
def rgI (a : Int) (n : Nat) : List Int := (List.range n).map fun (i : Nat) => a + (i : Int)
theorem rgI_len (a : Int) (n : Nat) : (rgI a n).length = n := by simp [rgI]
def wholeS (n : Nat) : Sd := ⟨n, rgI 1 (n + 1), 0 :: rgI 0 (n + 1), List.replicate (n + 2) false⟩
theorem gI_range {n i : Nat} {a : Int} (h : i < n) : gI (rgI a n) i = a + (i : Int) := by
  refine gI_of ?_
  unfold rgI
  rw [List.getElem?_map, List.getElem?_range h] <;> rfl
theorem Wf.whole {n : Nat} (h : n ≤ 60) : Wf (wholeS n) := by
  refine ⟨h, rgI_len _ _, congrArg Nat.succ (rgI_len _ _), List.length_replicate, fun v hv => ?_, fun v h1 h2 => ?_⟩
  · show (v : Int) < gI (rgI 1 (n + 1)) v ∧ gI (rgI 1 (n + 1)) v ≤ (n : Int) + 1
    have hv' : v ≤ n := hv
    rw [gI_range (by omega)]
    omega
  · show 0 ≤ gI (0 :: rgI 0 (n + 1)) v ∧ gI (0 :: rgI 0 (n + 1)) v < (v : Int)
    have h2' : v ≤ n + 1 := h2
    obtain ⟨u, rfl⟩ : ∃ u, v = u + 1 := ⟨v - 1, by omega⟩
    have e : gI (0 :: rgI 0 (n + 1)) (u + 1) = gI (rgI 0 (n + 1)) u := rfl
    rw [e, gI_range (by omega)]
    omega
theorem snoc_ind {α : Type} {P : List α → Prop} (h0 : P []) (h1 : ∀ l x, P l → P (l ++ [x])) (l : List α) : P l := by
  have key : ∀ r : List α, P r.reverse := by
    intro r
    induction r with
    | nil => exact h0
    | cons x r ih =>
      rw [List.reverse_cons]
      exact h1 _ _ ih
  have e := key l.reverse
  rwa [List.reverse_reverse] at e
def runS (s : Sd) (log : List Int) : Sd := log.foldl stepS s
theorem runS_snoc (s : Sd) (log : List Int) (op : Int) : runS s (log ++ [op]) = stepS (runS s log) op := by
  unfold runS
  rw [List.foldl_append] <;> rfl
theorem stepS_n (s : Sd) (op : Int) : (stepS s op).n = s.n := rfl
theorem runS_n (s : Sd) : ∀ log : List Int, (runS s log).n = s.n := by
  intro log
  induction log using snoc_ind with
  | h0 => rfl
  | h1 l x ih => rw [runS_snoc]; exact ih
/-- every operation is legal in turn -/
def Leg (s : Sd) (log : List Int) : Prop := ∀ i op, log[i]? = some op → OkOp (runS s (log.take i)) op
theorem Leg.snoc {s : Sd} {log : List Int} {op : Int} (h : Leg s log) (o : OkOp (runS s log) op) : Leg s (log ++ [op]) := by
  intro i p hp
  by_cases hi : i < log.length
  · rw [List.getElem?_append_left hi] at hp
    rw [List.take_append_of_le_length (by omega)]
    exact h i p hp
  · rw [List.getElem?_append_right (by omega)] at hp
    have e : i = log.length := by
      have := (List.getElem?_eq_some_iff.mp hp).1
      simp at this
      omega
    subst e
    have : p = op := by simpa using hp.symm
    subst this
    rw [List.take_left']
    · exact o
    · rfl
theorem Leg.take {s : Sd} {log : List Int} (h : Leg s log) (k : Nat) : Leg s (log.take k) := by
  intro i op hp
  have hi : i < (log.take k).length := (List.getElem?_eq_some_iff.mp hp).1
  rw [List.length_take] at hi
  rw [List.getElem?_take_of_lt (by omega)] at hp
  rw [List.take_take, Nat.min_eq_left (by omega)]
  exact h i op hp
theorem Leg.wf {s : Sd} (w : Wf s) : ∀ {log : List Int}, Leg s log → Wf (runS s log) := by
  intro log
  induction log using snoc_ind with
  | h0 => exact fun _ => w
  | h1 l x ih =>
    intro h
    have h1 : Leg s l := by
      have := h.take l.length
      rwa [List.take_left' rfl] at this
    have h2 := h l.length x (by simp)
    rw [List.take_left' rfl] at h2
    rw [runS_snoc]
    exact (ih h1).step h2.1
end G

set_option Elab.async false
set_option linter.all false
set_option maxRecDepth 100000
set_option maxHeartbeats 4000000
/-! What the program's own defs promise: standings, logs, gaps. -/
namespace G
open PySem PySem.Spec PyProof.Rows L2

/-! ### a standing in the heap -/
def fl (n r l o : V) : List (Str × V) := putF "_out" o (putF "_lefts" l (putF "_rights" r (putF "size" n [])))
theorem n1 : ¬ (("size" : Str) = "_rights") := by decide +kernel
theorem n2 : ¬ (("size" : Str) = "_lefts") := by decide +kernel
theorem n3 : ¬ (("size" : Str) = "_out") := by decide +kernel
theorem n4 : ¬ (("_rights" : Str) = "_lefts") := by decide +kernel
theorem n5 : ¬ (("_rights" : Str) = "_out") := by decide +kernel
theorem n6 : ¬ (("_lefts" : Str) = "_out") := by decide +kernel
theorem fl_size (n r l o : V) : (fl n r l o).lookup ("size" : Str) = some n := by
  unfold fl
  rw [lookup_putF, if_neg n3, lookup_putF, if_neg n2, lookup_putF, if_neg n1, lookup_putF, if_pos rfl]
theorem fl_R (n r l o : V) : (fl n r l o).lookup ("_rights" : Str) = some r := by
  unfold fl
  rw [lookup_putF, if_neg n5, lookup_putF, if_neg n4, lookup_putF, if_pos rfl]
theorem fl_L (n r l o : V) : (fl n r l o).lookup ("_lefts" : Str) = some l := by
  unfold fl
  rw [lookup_putF, if_neg n6, lookup_putF, if_pos rfl]
theorem fl_O (n r l o : V) : (fl n r l o).lookup ("_out" : Str) = some o := by
  unfold fl
  rw [lookup_putF, if_pos rfl]
theorem fl_no {m : Str} (n r l o : V) (h1 : ¬ m = "size") (h2 : ¬ m = "_rights") (h3 : ¬ m = "_lefts") (h4 : ¬ m = "_out") : (fl n r l o).lookup m = none := by
  unfold fl
  rw [lookup_putF, if_neg h4, lookup_putF, if_neg h3, lookup_putF, if_neg h2, lookup_putF, if_neg h1]
  rfl
theorem fl_eq (n r l o : V) : fl n r l o = [(("size" : Str), n), ("_rights", r), ("_lefts", l), ("_out", o)] := by
  unfold fl
  simp only [putF, if_neg n1, if_neg n2, if_neg n3, if_neg n4, if_neg n5, if_neg n6]
theorem fl_len (n r l o : V) : (fl n r l o).length < 1000 := by
  rw [fl_eq]
  show 4 < 1000
  decide
theorem fl_putR (n r l o r2 : V) : putF "_rights" r2 (fl n r l o) = fl n r2 l o := by
  rw [fl_eq, fl_eq]
  simp only [putF]
  rw [if_neg n1, if_pos trivial]
theorem fl_putL (n r l o l2 : V) : putF "_lefts" l2 (fl n r l o) = fl n r l2 o := by
  rw [fl_eq, fl_eq]
  simp only [putF]
  rw [if_neg n2, if_neg n4, if_pos trivial]
theorem fl_putO (n r l o o2 : V) : putF "_out" o2 (fl n r l o) = fl n r l o2 := by
  rw [fl_eq, fl_eq]
  simp only [putF]
  rw [if_neg n3, if_neg n5, if_neg n6, if_pos trivial]
structure LinksAt (K : PySem.W.Frag) (H : Hp) (p r l o : Addr) (s : Sd) : Prop where
  ob : ∃ dx, H p = some (.ins (He.ga K "Links") dx (fl (.int s.n) (.ref r) (.ref l) (.ref o)))
  hr : H r = some (.lst (s.R.map V.int))
  hl : H l = some (.lst (s.L.map V.int))
  ho : H o = some (.lst (s.O.map V.bl))
  rl : r ≠ l
  ro : r ≠ o
  lo : l ≠ o
  wf : Wf s
theorem LinksAt.pr {K : PySem.W.Frag} {H : Hp} {p r l o : Addr} {s : Sd} (a : LinksAt K H p r l o s) : p ≠ r ∧ p ≠ l ∧ p ≠ o := by
  obtain ⟨dx, h⟩ := a.ob
  exact ⟨ne_of h a.hr (by intro z; cases z), ne_of h a.hl (by intro z; cases z), ne_of h a.ho (by intro z; cases z)⟩
theorem LinksAt.kp {K : PySem.W.Frag} {H H' : Hp} {p r l o : Addr} {s : Sd} {S : List Addr} (a : LinksAt K H p r l o s) (k : Kp S H H') (h1 : p ∉ S) (h2 : r ∉ S) (h3 : l ∉ S) (h4 : o ∉ S) : LinksAt K H' p r l o s := by
  obtain ⟨dx, h⟩ := a.ob
  exact ⟨⟨dx, k _ _ h1 h⟩, k _ _ h2 a.hr, k _ _ h3 a.hl, k _ _ h4 a.ho, a.rl, a.ro, a.lo, a.wf⟩
theorem LinksAt.k0 {K : PySem.W.Frag} {H H' : Hp} {p r l o : Addr} {s : Sd} (a : LinksAt K H p r l o s) (k : Kp [] H H') : LinksAt K H' p r l o s := a.kp k (by simp) (by simp) (by simp) (by simp)

/-! ### errors -/
/-- an error of the class x leaves, new, with these fields -/
def Ex (K : PySem.W.Frag) (x : Str) (fs : List (Str × V)) (E : XK) (H : Hp) : Prop := ∀ d, H d = none → E (.ref (He.ga K x)) (some d) (upd H d (.xd fs))
def OpE (K : PySem.W.Frag) (n : Nat) (op : Int) (i : Int) (E : XK) (H : Hp) : Prop := Ex K (if IsOp n op then "Illegal" else "BadOperation") [("index", .int i), ("operation", .int op)] E H
/-- .. the first wrong operation of a log -/
def LogE (K : PySem.W.Frag) (s : Sd) (log : List Int) (E : XK) (H : Hp) : Prop := ∀ (i : Nat) (op : Int), log[i]? = some op → Leg s (log.take i) → ¬ OkOp (runS s (log.take i)) op → ∀ H', Kp [] H H' → OpE K s.n op i E H'
def SizeOk (size : Int) : Prop := 0 ≤ size ∧ size ≤ 60
instance (size : Int) : Decidable (SizeOk size) := by unfold SizeOk; infer_instance

/-! ### gaps -/
def stT (s : Sd) (v : Nat) : Str := if gI s.R v = (v : Int) + 1 then (if gI s.L (v + 1) = (v : Int) then "joined" else "left") else (if gI s.L (v + 1) = (v : Int) then "right" else "lost")
def lostL (s : Sd) : List Nat := (List.range (s.n + 1)).filter fun v => decide (stT s v = "lost")

/-! ### promises -/
section
variable (K : PySem.W.Frag)
def sp_check_size : Sp := fun vs H Q E => ∃ size : Int, vs = [.int size] ∧ (SizeOk size → Q .non H) ∧ (¬ SizeOk size → Ex K "BadSize" [("size", .int size)] E H)
def sp_check_operation : Sp := fun vs H Q E => ∃ (n : Nat) (op i : Int), vs = [.int n, .int op, .int i] ∧ (IsOp n op → Q .non H) ∧ (¬ IsOp n op → Ex K "BadOperation" [("index", .int i), ("operation", .int op)] E H)
def sp_check_gap : Sp := fun vs H Q E => ∃ (n : Nat) (g : Int), vs = [.int n, .int g] ∧ (0 ≤ g ∧ g ≤ n → Q .non H) ∧ (¬ (0 ≤ g ∧ g ≤ n) → Ex K "BadGap" [("gap", .int g)] E H)
def sp_Links___init__ : Sp := fun vs H Q E => ∃ (p dx : Addr) (size : Int), vs = [.ref p, .int size] ∧ H p = some (.ins (He.ga K "Links") dx []) ∧
  (SizeOk size → ∀ (r l o : Addr) (H' : Hp), H r = none → H l = none → H o = none → Kp [p] H H' → LinksAt K H' p r l o (wholeS size.toNat) → Q .non H') ∧ (¬ SizeOk size → Ex K "BadSize" [("size", .int size)] E H)
def sp_Links_is_legal : Sp := fun vs H Q E => ∃ (p r l o : Addr) (s : Sd) (op : Int), vs = [.ref p, .int op] ∧ LinksAt K H p r l o s ∧ IsOp s.n op ∧ Q (.bl (decide (gB s.O op.natAbs = decide (0 < op)))) H
def sp_Links_check : Sp := fun vs H Q E => ∃ (p r l o : Addr) (s : Sd) (op i : Int), vs = [.ref p, .int op, .int i] ∧ LinksAt K H p r l o s ∧ (OkOp s op → Q .non H) ∧ (¬ OkOp s op → OpE K s.n op i E H)
def sp_Links_apply_at : Sp := fun vs H Q E => ∃ (p r l o : Addr) (s : Sd) (op i : Int), vs = [.ref p, .int op, .int i] ∧ LinksAt K H p r l o s ∧ (OkOp s op → ∀ H', Kp [r, l, o] H H' → LinksAt K H' p r l o (stepS s op) → Q .non H') ∧ (¬ OkOp s op → OpE K s.n op i E H)
def sp_Links_apply : Sp := fun vs H Q E => ∃ (p r l o : Addr) (s : Sd) (op : Int), vs = [.ref p, .int op] ∧ LinksAt K H p r l o s ∧ (OkOp s op → ∀ H', Kp [r, l, o] H H' → LinksAt K H' p r l o (stepS s op) → Q .non H') ∧ (¬ OkOp s op → OpE K s.n op 0 E H)
def sp_Links_left : Sp := fun vs H Q E => ∃ (p r l o : Addr) (s : Sd) (v : Nat), vs = [.ref p, .int v] ∧ LinksAt K H p r l o s ∧ 1 ≤ v ∧ v ≤ s.n + 1 ∧ Q (.int (gI s.L v)) H
def sp_Links_right : Sp := fun vs H Q E => ∃ (p r l o : Addr) (s : Sd) (v : Nat), vs = [.ref p, .int v] ∧ LinksAt K H p r l o s ∧ v ≤ s.n ∧ Q (.int (gI s.R v)) H
/-- a new standing s -/
def NewS (H : Hp) (s : Sd) (Q : VK) : Prop := ∀ (p r l o : Addr) (H' : Hp), H p = none → H r = none → H l = none → H o = none → Kp [] H H' → LinksAt K H' p r l o s → Q (.ref p) H'
def sp_Links_copy : Sp := fun vs H Q E => ∃ (p r l o : Addr) (s : Sd), vs = [.ref p] ∧ LinksAt K H p r l o s ∧ NewS K H s Q
def sp_play : Sp := fun vs H Q E => ∃ (p r l o a : Addr) (s : Sd) (log : List Int), vs = [.ref p, .ref a] ∧ LinksAt K H p r l o s ∧ SqL K H a (log.map V.int) ∧ (Leg s log → NewS K H (runS s log) Q) ∧ LogE K s log E H
def sp_replay : Sp := fun vs H Q E => ∃ (a : Addr) (size : Int) (log : List Int), vs = [.int size, .ref a] ∧ SqL K H a (log.map V.int) ∧ (SizeOk size → Leg (wholeS size.toNat) log → NewS K H (runS (wholeS size.toNat) log) Q) ∧
  (SizeOk size → LogE K (wholeS size.toNat) log E H) ∧ (¬ SizeOk size → ∀ H', Kp [] H H' → Ex K "BadSize" [("size", .int size)] E H')
def sp_gap_state : Sp := fun vs H Q E => ∃ (p r l o : Addr) (s : Sd) (g : Int), vs = [.ref p, .int g] ∧ LinksAt K H p r l o s ∧ (0 ≤ g ∧ g ≤ s.n → Q (.str (stT s g.toNat)) H) ∧ (¬ (0 ≤ g ∧ g ≤ s.n) → Ex K "BadGap" [("gap", .int g)] E H)
def sp_gap_states : Sp := fun vs H Q E => ∃ (p r l o : Addr) (s : Sd), vs = [.ref p] ∧ LinksAt K H p r l o s ∧ ∀ (q : Addr) (H' : Hp), H q = none → Kp [] H H' → H' q = some (.lst ((List.range (s.n + 1)).map fun (v : Nat) => V.str (stT s v))) → Q (.ref q) H'
def sp_lost_gaps : Sp := fun vs H Q E => ∃ (p r l o : Addr) (s : Sd), vs = [.ref p] ∧ LinksAt K H p r l o s ∧ ∀ (q : Addr) (H' : Hp), H q = none → Kp [] H H' → H' q = some (.lst ((lostL s).map fun (v : Nat) => V.int (v : Int))) → Q (.ref q) H'
end
end G

set_option Elab.async false
set_option linter.all false
set_option maxRecDepth 100000
set_option maxHeartbeats 4000000
/-! More steps. -/
namespace G
open PySem PySem.Spec PyProof.Rows L2
section
variable {K : PySem.W.Frag} {σ : L2.St} {H : Hp} {Q : VK} {ta tb tc te : TE} {x y v : V} {D : Ends} {tl : TA} {i j : Int} {n m : Nat} {p q : Addr} {xs ys : List V} {A B : Prop}
theorem w_tT (a : A) : if true = true then A else B := iteT a
theorem w_tF (b : B) : if false = true then A else B := iteF b
theorem w_nT (a : A) : if (!false) = true then A else B := iteT a
theorem w_nF (b : B) : if (!true) = true then A else B := iteF b
theorem w_rz {C : Addr} {fs : List Str} {W : WX} (g : tl σ H fun us H1 => us.length = fs.length ∧ us.length ≤ 1000 ∧ ∀ d, H1 d = none → W (.ref C) (some d) σ (upd H1 d (.xd (fs.zip us).reverse))) : tRz C fs W tl D σ H := g
theorem w_mk {C : Addr} {sp : Sp} {E : L2.St → XK} (g : tl σ H fun vs H1 => ∀ x dx, H1 x = none → H1 dx = none → dx ≠ x → sp (.ref x :: vs) (upd (upd H1 dx (.own x)) x (.ins C dx [])) (fun v H2 => v = .non ∧ Q (.ref x) H2) (E σ)) : tMk C sp E tl σ H Q := g
theorem w_lrg {t : L2.St → Hp → (Int → Int → Hp → Prop) → Prop} (g : t σ H fun a b H1 => RgOk a b ∧ ∀ q, H1 q = none → Q (.ref q) (upd H1 q (.lst (rgV a b)))) : tLstRg t σ H Q := g
theorem w_rg1 {R : Int → Int → Hp → Prop} (g : te σ H fun x H1 => ∃ n, x = .int n ∧ R 0 n H1) : tRg1 te σ H R := g
theorem w_rg2 {R : Int → Int → Hp → Prop} (g : ta σ H fun x H1 => tb σ H1 fun y H2 => ∃ i j, x = .int i ∧ y = .int j ∧ R i j H2) : tRg2 ta tb σ H R := g
theorem w_n1 {R : Int → Prop} (g : R i) : ∃ n, V.int i = .int n ∧ R n := ⟨i, rfl, g⟩
theorem w_n2 {R : Int → Int → Prop} (g : R i j) : ∃ a b, V.int i = .int a ∧ V.int j = .int b ∧ R a b := ⟨i, j, rfl, rfl, g⟩
theorem w_sl {r : V → Option Int → Option Int → Hp → VK → Prop} {tlo thi : TO} (g : te σ H fun x H1 => tlo σ H1 fun l H2 => thi σ H2 fun u H3 => r x l u H3 Q) : tSl r te tlo thi σ H Q := g
theorem w_np {R : Option Int → Hp → Prop} (g : R none H) : tNoPart σ H R := g
theorem w_pt {R : Option Int → Hp → Prop} (g : te σ H fun x H1 => ∃ i, x = .int i ∧ R (some i) H1) : tPart te σ H R := g
theorem w_tr {R : Bool → Hp → Prop} (g : te σ H fun x H' => ∃ k, TruV K x H' k ∧ R k H') : tTr K te σ H R := g
theorem w_truL {R : Bool → Prop} (h : SqL K H p xs) (g : R (!xs.isEmpty)) : ∃ k, TruV K (.ref p) H k ∧ R k := ⟨_, .inl ⟨xs, h, rfl⟩, g⟩
theorem w_gn {k : Nat} {R : L2.St → Hp → Prop} (g : R (σ.set k (some v)) H) : gName k v σ H R := g
theorem w_g2 {T : Addr} {g1 g2 : TG} {R : L2.St → Hp → Prop} (h : SqT K H T [x, y]) (g : g1 x σ H fun σ1 H1 => g2 y σ1 H1 R) : gTup K 2 (gCons g1 (gCons g2 gNil)) (.ref T) σ H R :=
  ⟨T, [x, y], rfl, h, rfl, x, [y], rfl, by
    show g1 x σ H _
    exact (funext fun σ1 => funext fun H1 => propext ⟨fun z => ⟨y, [], rfl, by
      show g2 y σ1 H1 _
      exact (funext fun σ2 => funext fun H2 => propext ⟨fun z => ⟨rfl, z⟩, fun z => z.2⟩ : R = fun σ2 H2 => ([] : List V) = [] ∧ R σ2 H2) ▸ z⟩, fun ⟨v, r, e, z⟩ => by
      injection e with e1 e2
      subst e1 e2
      exact (funext fun σ2 => funext fun H2 => propext ⟨fun z => z.2, fun z => ⟨rfl, z⟩⟩ : (fun σ2 H2 => ([] : List V) = [] ∧ R σ2 H2) = R) ▸ z⟩ : (fun σ1 H1 => g2 y σ1 H1 R) = fun σ1 H1 => gCons g2 gNil [y] σ1 H1 R) ▸ g⟩
theorem w_g1 {g1 : TG} {R : L2.St → Hp → Prop} (g : g1 x σ H R) : gCons g1 gNil [x] σ H R := ⟨x, [], rfl, by
  have e : (fun σ2 H2 => gNil [] σ2 H2 R) = R := funext fun σ2 => funext fun H2 => propext ⟨fun z => z.2, fun z => ⟨rfl, z⟩⟩
  rw [e]
  exact g⟩
theorem w_gc {g1 : TG} {ts : TGs} {R : L2.St → Hp → Prop} (g : g1 x σ H fun σ1 H1 => ts (y :: xs) σ1 H1 R) : gCons g1 ts (x :: y :: xs) σ H R := ⟨x, y :: xs, rfl, g⟩
theorem w_gt {T : Addr} {k : Nat} {ts : TGs} {R : L2.St → Hp → Prop} (h : SqT K H T xs) (hl : xs.length = k) (g : ts xs σ H R) : gTup K k ts (.ref T) σ H R := ⟨T, xs, rfl, h, hl, g⟩
/-- a new object: the heap goes on under a name -/
def NwU (o : HO) (H : Hp) (Q : VK) : Prop := ∀ q, H q = none → Q (.ref q) (upd H q o)
theorem nw {o : HO} (g : ∀ q H', H q = none → Kp [] H H' → H' q = some o → Q (.ref q) H') : NwU o H Q := fun q n => g q _ n (Kp.new n) upd_same
theorem nwu {o : HO} (g : ∀ q, H q = none → Q (.ref q) (upd H q o)) : NwU o H Q := g
theorem w_lstN (g : tl σ H fun xs H1 => xs.length ≤ sizeLine ∧ NwU (.lst xs) H1 Q) : tLst tl σ H Q := g
theorem w_tupN (g : tl σ H fun xs H1 => xs.length ≤ sizeLine ∧ NwU (.tup xs) H1 Q) : tTup tl σ H Q := g
theorem w_lrgN {t : L2.St → Hp → (Int → Int → Hp → Prop) → Prop} (g : t σ H fun a b H1 => RgOk a b ∧ NwU (.lst (rgV a b)) H1 Q) : tLstRg t σ H Q := g
theorem w_addLN (h1 : H p = some (.lst xs)) (h2 : H q = some (.lst ys)) (h : xs.length + ys.length ≤ sizeLine) (g : ∀ r H', H r = none → Kp [] H H' → H' r = some (.lst (xs ++ ys)) → Q (.ref r) H') : rAddA (.ref p) (.ref q) H Q := w_addL h1 h2 h (nw g)
theorem w_mulLN (h1 : H p = some (.lst xs)) (h2 : -(2 ^ 63) ≤ j) (h3 : j < 2 ^ 63) (h : xs.length * j.toNat ≤ sizeLine) (g : ∀ r H', H r = none → Kp [] H H' → H' r = some (.lst (List.replicate j.toNat xs).flatten) → Q (.ref r) H') : rMulA (.ref p) (.int j) H Q := w_mulL h1 h2 h3 h (nw g)
theorem w_listLN (h : SqL K H p xs) (g : ∀ l H', H l = none → Kp [] H H' → H' l = some (.lst xs) → Q (.ref l) H') : rListA K [.ref p] H Q := w_listL h (nw g)
theorem w_listTN (h : SqT K H p xs) (g : ∀ l H', H l = none → Kp [] H H' → H' l = some (.lst xs) → Q (.ref l) H') : rListA K [.ref p] H Q := w_listT h (nw g)
theorem w_sT {C dx : Addr} {fs : List (Str × V)} {f : Str} {R : Hp → Prop} {v : V} (cl : Cls K C) (na : NoAttr K C f) (h : H p = some (.ins C dx fs)) (hl : fs.length < 1000) (g : ∀ H', Kp [p] H H' → H' p = some (.ins C dx (putF f v fs)) → R H') :
    ∃ a C dx fs, V.ref p = .ref a ∧ H a = some (.ins C dx fs) ∧ Cls K C ∧ NoAttr K C f ∧ fs.length < 1000 ∧ R (upd H a (.ins C dx (putF f v fs))) := ⟨p, C, dx, fs, rfl, h, cl, na, hl, g _ (Kp.put (by simp)) upd_same⟩
theorem w_seT {R : Hp → Prop} (h : H p = some (.lst xs)) (ha : ixN xs.length i = some n) (g : ∀ H', Kp [p] H H' → H' p = some (.lst (xs.set n v)) → R H') : rSetL (.ref p) (.int i) v H R := w_setL h ha (g _ (Kp.put (by simp)) upd_same)
theorem w_apT (h : H p = some (.lst xs)) (hl : xs.length < sizeLine) (g : ∀ H', Kp [p] H H' → H' p = some (.lst (xs ++ [v])) → Q .non H') : rAppend (.ref p) [v] H Q := w_append h hl (g _ (Kp.put (by simp)) upd_same)
/-- an object of a class, made: its dict, the object -/
def MkU (C : Addr) (sp : Sp) (E : XK) (vs : List V) (H : Hp) (Q : VK) : Prop := ∀ x dx, H x = none → H dx = none → dx ≠ x → sp (.ref x :: vs) (upd (upd H dx (.own x)) x (.ins C dx [])) (fun v H2 => v = .non ∧ Q (.ref x) H2) E
theorem w_mkN {C : Addr} {sp : Sp} {E : L2.St → XK} (g : tl σ H fun vs H1 => MkU C sp (E σ) vs H1 Q) : tMk C sp E tl σ H Q := g
theorem mk {C : Addr} {sp : Sp} {E : XK} {vs : List V} (g : ∀ x dx H', H x = none → H' x = some (.ins C dx []) → Kp [] H H' → sp (.ref x :: vs) H' (fun v H2 => v = .non ∧ Q (.ref x) H2) E) : MkU C sp E vs H Q :=
  fun x dx n1 n2 ne => g x dx _ n1 upd_same ((Kp.new n2).trans (Kp.new (by rw [upd_ne (Ne.symm ne)]; exact n1)))
theorem w_r1 {R : Int → Prop} {n : Int} (h : -(2 ^ 62) ≤ n ∧ n < 2 ^ 62) (g : R n) : ∃ j : Int, [V.int n] = [.int j] ∧ -(2 ^ 62) ≤ j ∧ j < 2 ^ 62 ∧ R j := ⟨n, rfl, h.1, h.2, g⟩
theorem w_r2 {R : Int → Int → Prop} {a b : Int} (h : -(2 ^ 62) ≤ a ∧ a < 2 ^ 62 ∧ -(2 ^ 62) ≤ b ∧ b < 2 ^ 62) (g : R a b) : ∃ i j : Int, [V.int a, V.int b] = [.int i, .int j] ∧ (-(2 ^ 62) ≤ i ∧ i < 2 ^ 62 ∧ -(2 ^ 62) ≤ j ∧ j < 2 ^ 62) ∧ R i j := ⟨a, b, rfl, h, g⟩
theorem w_yes {R : Bool → Hp → Prop} (g : R true H) : tYes σ H R := g
theorem ref_ne : V.ref p ≠ .non := fun z => by cases z
theorem int_ne : V.int i ≠ .non := fun z => by cases z
theorem at_0 : atI (x :: xs) 0 = some x := by
  rw [atI_pos (by omega) (by rw [List.length_cons]; omega)] <;> rfl
theorem w_l1 {R : Addr → Prop} (h : SqL K H p xs) (g : R p) : ∃ a, V.ref p = .ref a ∧ (∃ xs, SqL K H a xs) ∧ R a := ⟨p, rfl, ⟨xs, h⟩, g⟩
/-- a field of a standing -/
theorem w_fR {r l o : Addr} {s : Sd} {R : V → Prop} (cl : Cls K (He.ga K "Links")) (na : NoAttr K (He.ga K "Links") "_rights") (a : LinksAt K H p r l o s) (g : R (.ref r)) :
    ∃ a C dx fs v, V.ref p = .ref a ∧ H a = some (.ins C dx fs) ∧ Cls K C ∧ NoAttr K C "_rights" ∧ fs.lookup ("_rights" : Str) = some v ∧ R v := by
  obtain ⟨dx, h⟩ := a.ob
  exact ⟨p, _, dx, _, _, rfl, h, cl, na, fl_R _ _ _ _, g⟩
theorem w_fL {r l o : Addr} {s : Sd} {R : V → Prop} (cl : Cls K (He.ga K "Links")) (na : NoAttr K (He.ga K "Links") "_lefts") (a : LinksAt K H p r l o s) (g : R (.ref l)) :
    ∃ a C dx fs v, V.ref p = .ref a ∧ H a = some (.ins C dx fs) ∧ Cls K C ∧ NoAttr K C "_lefts" ∧ fs.lookup ("_lefts" : Str) = some v ∧ R v := by
  obtain ⟨dx, h⟩ := a.ob
  exact ⟨p, _, dx, _, _, rfl, h, cl, na, fl_L _ _ _ _, g⟩
theorem w_fO {r l o : Addr} {s : Sd} {R : V → Prop} (cl : Cls K (He.ga K "Links")) (na : NoAttr K (He.ga K "Links") "_out") (a : LinksAt K H p r l o s) (g : R (.ref o)) :
    ∃ a C dx fs v, V.ref p = .ref a ∧ H a = some (.ins C dx fs) ∧ Cls K C ∧ NoAttr K C "_out" ∧ fs.lookup ("_out" : Str) = some v ∧ R v := by
  obtain ⟨dx, h⟩ := a.ob
  exact ⟨p, _, dx, _, _, rfl, h, cl, na, fl_O _ _ _ _, g⟩
theorem w_fS {r l o : Addr} {s : Sd} {R : V → Prop} (cl : Cls K (He.ga K "Links")) (na : NoAttr K (He.ga K "Links") "size") (a : LinksAt K H p r l o s) (g : R (.int s.n)) :
    ∃ a C dx fs v, V.ref p = .ref a ∧ H a = some (.ins C dx fs) ∧ Cls K C ∧ NoAttr K C "size" ∧ fs.lookup ("size" : Str) = some v ∧ R v := by
  obtain ⟨dx, h⟩ := a.ob
  exact ⟨p, _, dx, _, _, rfl, h, cl, na, fl_size _ _ _ _, g⟩
/-- .. of an object with the fields of a standing -/
theorem w_oR {dx : Addr} {n r l o : V} {R : V → Prop} (cl : Cls K (He.ga K "Links")) (na : NoAttr K (He.ga K "Links") "_rights") (h : H p = some (.ins (He.ga K "Links") dx (fl n r l o))) (g : R r) :
    ∃ a C dx fs v, V.ref p = .ref a ∧ H a = some (.ins C dx fs) ∧ Cls K C ∧ NoAttr K C "_rights" ∧ fs.lookup ("_rights" : Str) = some v ∧ R v := ⟨p, _, dx, _, _, rfl, h, cl, na, fl_R _ _ _ _, g⟩
theorem w_oL {dx : Addr} {n r l o : V} {R : V → Prop} (cl : Cls K (He.ga K "Links")) (na : NoAttr K (He.ga K "Links") "_lefts") (h : H p = some (.ins (He.ga K "Links") dx (fl n r l o))) (g : R l) :
    ∃ a C dx fs v, V.ref p = .ref a ∧ H a = some (.ins C dx fs) ∧ Cls K C ∧ NoAttr K C "_lefts" ∧ fs.lookup ("_lefts" : Str) = some v ∧ R v := ⟨p, _, dx, _, _, rfl, h, cl, na, fl_L _ _ _ _, g⟩
theorem w_oO {dx : Addr} {n r l o : V} {R : V → Prop} (cl : Cls K (He.ga K "Links")) (na : NoAttr K (He.ga K "Links") "_out") (h : H p = some (.ins (He.ga K "Links") dx (fl n r l o))) (g : R o) :
    ∃ a C dx fs v, V.ref p = .ref a ∧ H a = some (.ins C dx fs) ∧ Cls K C ∧ NoAttr K C "_out" ∧ fs.lookup ("_out" : Str) = some v ∧ R v := ⟨p, _, dx, _, _, rfl, h, cl, na, fl_O _ _ _ _, g⟩
/-- a field of an object is set -/
theorem w_st {C dx : Addr} {fs : List (Str × V)} {f : Str} {R : Hp → Prop} {v : V} (cl : Cls K C) (na : NoAttr K C f) (h : H p = some (.ins C dx fs)) (hl : fs.length < 1000) (g : R (upd H p (.ins C dx (putF f v fs)))) :
    ∃ a C dx fs, V.ref p = .ref a ∧ H a = some (.ins C dx fs) ∧ Cls K C ∧ NoAttr K C f ∧ fs.length < 1000 ∧ R (upd H a (.ins C dx (putF f v fs))) := ⟨p, C, dx, fs, rfl, h, cl, na, hl, g⟩
/-- a method of a standing -/
theorem w_me {r l o : Addr} {s : Sd} {m : Str} {R : Prop} (a : LinksAt K H p r l o s) (hm : ∀ n r l o : V, (fl n r l o).lookup m = none) (g : R) : ∃ a dx fs, V.ref p = .ref a ∧ H a = some (.ins (He.ga K "Links") dx fs) ∧ fs.lookup m = none ∧ R := by
  obtain ⟨dx, h⟩ := a.ob
  exact ⟨p, dx, _, rfl, h, hm _ _ _ _, g⟩
end
/-- a method's name is none of the fields -/
theorem no_m {m : Str} (h1 : ¬ m = "size" := by decide +kernel) (h2 : ¬ m = "_rights" := by decide +kernel) (h3 : ¬ m = "_lefts" := by decide +kernel) (h4 : ¬ m = "_out" := by decide +kernel) (n r l o : V) : (fl n r l o).lookup m = none := fl_no n r l o h1 h2 h3 h4
theorem natAbs_if (i : Int) : (if i < 0 then -i else i) = (i.natAbs : Int) := by
  split <;> omega
end G

set_option Elab.async false
set_option linter.all false
set_option maxRecDepth 100000
set_option maxHeartbeats 4000000
/-! What a log writes down: last writes, last changes, the first loss. Promises of the defs that read logs. -/
namespace G
open PySem PySem.Spec PyProof.Rows L2

/-! ### the book -/
structure Bk where
  s : Sd
  k : Nat
  wr : List Int
  wl : List Int
  de : List Int
  ls : Option (Nat × Nat)
def lowN (s : Sd) (op : Int) : Nat := (gI s.L op.natAbs).toNat
def hiN (s : Sd) (op : Int) : Nat := (gI s.R op.natAbs).toNat - 1
def deS (s s' : Sd) (k : Nat) (de : List Int) (g : Nat) : List Int := if stT s g = stT s' g then de else de.set g (k : Int)
def lsS (s s' : Sd) (k g : Nat) (ls : Option (Nat × Nat)) : Option (Nat × Nat) := if ls = none ∧ stT s g ≠ stT s' g ∧ stT s' g = "lost" then some (k, g) else ls
def bstep (b : Bk) (op : Int) : Bk :=
  let s' := stepS b.s op
  ⟨s', b.k + 1, b.wr.set (lowN b.s op) (b.k : Int), b.wl.set (hiN b.s op) (b.k : Int), deS b.s s' b.k (deS b.s s' b.k b.de (lowN b.s op)) (hiN b.s op), lsS b.s s' b.k (hiN b.s op) (lsS b.s s' b.k (lowN b.s op) b.ls)⟩
def bk0 (n : Nat) : Bk := ⟨wholeS n, 0, List.replicate (n + 1) (-1), List.replicate (n + 1) (-1), List.replicate (n + 1) (-1), none⟩
def bkR (n : Nat) (log : List Int) : Bk := log.foldl bstep (bk0 n)
theorem bkR_snoc (n : Nat) (log : List Int) (op : Int) : bkR n (log ++ [op]) = bstep (bkR n log) op := by
  unfold bkR
  rw [List.foldl_append] <;> rfl
theorem bkR_s (n : Nat) (log : List Int) : (bkR n log).s = runS (wholeS n) log := by
  induction log using snoc_ind with
  | h0 => rfl
  | h1 l x ih => rw [bkR_snoc, runS_snoc, ← ih] <;> rfl
theorem bkR_k (n : Nat) (log : List Int) : (bkR n log).k = log.length := by
  induction log using snoc_ind with
  | h0 => rfl
  | h1 l x ih =>
    rw [bkR_snoc, List.length_append]
    show (bkR n l).k + 1 = _
    rw [ih] <;> rfl
theorem deS_len (s s' : Sd) (k : Nat) (de : List Int) (g : Nat) : (deS s s' k de g).length = de.length := by
  unfold deS
  split
  · rfl
  · exact List.length_set
theorem bkR_len (n : Nat) (log : List Int) : (bkR n log).wr.length = n + 1 ∧ (bkR n log).wl.length = n + 1 ∧ (bkR n log).de.length = n + 1 := by
  induction log using snoc_ind with
  | h0 => exact ⟨List.length_replicate, List.length_replicate, List.length_replicate⟩
  | h1 l x ih =>
    rw [bkR_snoc]
    obtain ⟨a, b, c⟩ := ih
    refine ⟨?_, ?_, ?_⟩
    · show (List.set _ _ _).length = _
      rw [List.length_set, a]
    · show (List.set _ _ _).length = _
      rw [List.length_set, b]
    · show (deS _ _ _ _ _).length = _
      rw [deS_len, deS_len, c]
/-- bounds of the two touched gaps -/
theorem touch_bd {s : Sd} (w : Wf s) {op : Int} (h : IsOp s.n op) : lowN s op < op.natAbs ∧ op.natAbs ≤ hiN s op ∧ hiN s op ≤ s.n ∧ gI s.L op.natAbs = (lowN s op : Int) ∧ gI s.R op.natAbs = (hiN s op : Int) + 1 := by
  unfold lowN hiN
  obtain ⟨r1, r2⟩ := w.rb op.natAbs h.2
  obtain ⟨l1, l2⟩ := w.lb op.natAbs h.1 (by have := h.2; omega)
  refine ⟨by omega, by omega, by omega, by omega, by omega⟩
/-- no other gap changes -/
theorem step_st {s : Sd} (w : Wf s) {op : Int} (h : IsOp s.n op) {g : Nat} (hl : g ≠ lowN s op) (hh : g ≠ hiN s op) : stT (stepS s op) g = stT s g := by
  obtain ⟨t1, t2, t3, t4, t5⟩ := touch_bd w h
  have e1 : gI (stepS s op).R g = gI s.R g := by
    show gI (s.R.set _ _) g = _
    rw [gI_set (by rw [w.lR, t4]; have := h.2; omega), t4, if_neg (by rw [Int.toNat_natCast]; exact hl)]
  have e2 : gI (stepS s op).L (g + 1) = gI s.L (g + 1) := by
    show gI (s.L.set _ _) (g + 1) = _
    rw [gI_set (by rw [w.lL, t5]; omega), t5, if_neg (by omega)]
  unfold stT
  rw [e1, e2]
/-- the lost gaps, ascending -/
theorem mem_lost {s : Sd} {g : Nat} : g ∈ lostL s ↔ g ≤ s.n ∧ stT s g = "lost" := by
  unfold lostL
  rw [List.mem_filter, List.mem_range]
  constructor
  · exact fun ⟨a, b⟩ => ⟨by omega, of_decide_eq_true b⟩
  · exact fun ⟨a, b⟩ => ⟨by omega, decide_eq_true b⟩
theorem lost_sorted (s : Sd) : (lostL s).Pairwise (· < ·) := by
  unfold lostL
  exact List.Pairwise.filter _ List.pairwise_lt_range
theorem lost_head {s : Sd} {g : Nat} {r : List Nat} (h : lostL s = g :: r) : g ≤ s.n ∧ stT s g = "lost" ∧ ∀ x, x ≤ s.n → stT s x = "lost" → g ≤ x := by
  have m : g ∈ lostL s := by rw [h]; exact List.mem_cons_self
  obtain ⟨a, b⟩ := mem_lost.mp m
  refine ⟨a, b, fun x h1 h2 => ?_⟩
  have mx : x ∈ lostL s := mem_lost.mpr ⟨h1, h2⟩
  have so := lost_sorted s
  rw [h] at mx so
  rcases List.mem_cons.mp mx with rfl | q
  · exact Nat.le_refl _
  · exact Nat.le_of_lt ((List.pairwise_cons.mp so).1 x q)
/-- while nothing is lost, a loss stands at a touched gap -/
theorem ls_step {s : Sd} (w : Wf s) {op : Int} (h : IsOp s.n op) (k : Nat) (e : lostL s = []) :
    lsS s (stepS s op) k (hiN s op) (lsS s (stepS s op) k (lowN s op) none) = ((lostL (stepS s op)).head?.map fun g => (k, g)) := by
  obtain ⟨t1, t2, t3, t4, t5⟩ := touch_bd w h
  have no : ∀ x, x ≤ s.n → stT s x ≠ "lost" := fun x h1 h2 => by
    have := mem_lost.mpr ⟨h1, h2⟩
    rw [e] at this
    cases this
  have nl := no (lowN s op) (by have := h.2; omega)
  have nh := no (hiN s op) t3
  have key : ∀ g, g ≤ s.n → ∀ l0, lsS s (stepS s op) k g l0 = if l0 = none ∧ stT (stepS s op) g = "lost" then some (k, g) else l0 := by
    intro g hg l0
    unfold lsS
    by_cases c1 : l0 = none
    · by_cases c2 : stT (stepS s op) g = "lost"
      · rw [if_pos ⟨c1, by rw [c2]; exact no g hg, c2⟩, if_pos ⟨c1, c2⟩]
      · rw [if_neg (fun z => c2 z.2.2), if_neg (fun z => c2 z.2)]
    · rw [if_neg (fun z => c1 z.1), if_neg (fun z => c1 z.1)]
  have kl := key (lowN s op) (by have := h.2; omega) none
  have only : ∀ x, x ≤ s.n → stT (stepS s op) x = "lost" → x = lowN s op ∨ x = hiN s op := by
    intro x hx hl
    by_cases c1 : x = lowN s op
    · exact .inl c1
    · by_cases c2 : x = hiN s op
      · exact .inr c2
      · rw [step_st w h c1 c2] at hl
        exact absurd hl (no x hx)
  cases hL : lostL (stepS s op) with
  | nil =>
    have n1 : stT (stepS s op) (lowN s op) ≠ "lost" := fun z => by
      have := mem_lost.mpr ⟨show lowN s op ≤ (stepS s op).n by rw [stepS_n]; have := h.2; omega, z⟩
      rw [hL] at this
      cases this
    have n2 : stT (stepS s op) (hiN s op) ≠ "lost" := fun z => by
      have := mem_lost.mpr ⟨show hiN s op ≤ (stepS s op).n by rw [stepS_n]; exact t3, z⟩
      rw [hL] at this
      cases this
    rw [kl, if_neg (fun z => n1 z.2), key _ t3, if_neg (fun z => n2 z.2)] <;> rfl
  | cons g r =>
    obtain ⟨g1, g2, g3⟩ := lost_head hL
    rw [stepS_n] at g1 g3
    show _ = some (k, g)
    by_cases c : stT (stepS s op) (lowN s op) = "lost"
    · have := g3 _ (by have := h.2; omega) c
      have eg : g = lowN s op := by
        rcases only g g1 g2 with q | q
        · exact q
        · omega
      rw [kl, if_pos ⟨rfl, c⟩, key _ t3, if_neg (fun z => by cases z.1), eg]
    · have eg : g = hiN s op := by
        rcases only g g1 g2 with q | q
        · exact absurd (q ▸ g2) c
        · exact q
      rw [kl, if_neg (fun z => c z.2), key _ t3, if_pos ⟨rfl, eg ▸ g2⟩, eg]
/-- the last change of a gap, when one more operation comes -/
theorem de_step {s : Sd} (w : Wf s) {op : Int} (h : IsOp s.n op) (k : Nat) {de : List Int} (hl : de.length = s.n + 1) {g : Nat} (hg : g ≤ s.n) :
    gI (deS s (stepS s op) k (deS s (stepS s op) k de (lowN s op)) (hiN s op)) g = if stT s g = stT (stepS s op) g then gI de g else (k : Int) := by
  obtain ⟨t1, t2, t3, t4, t5⟩ := touch_bd w h
  have key : ∀ de' : List Int, de'.length = s.n + 1 → ∀ x, x ≤ s.n → gI (deS s (stepS s op) k de' x) g = if g = x ∧ ¬ stT s g = stT (stepS s op) g then (k : Int) else gI de' g := by
    intro de' hl' x hx
    unfold deS
    by_cases c : stT s x = stT (stepS s op) x
    · rw [if_pos c, if_neg]
      rintro ⟨rfl, n⟩
      exact n c
    · rw [if_neg c, gI_set (by omega)]
      by_cases e : g = x
      · rw [if_pos e, if_pos ⟨e, by rw [e]; exact c⟩]
      · rw [if_neg e, if_neg (fun z => e z.1)]
  rw [key _ (by rw [deS_len, hl]) _ t3, key _ hl _ (by have := h.2; omega)]
  by_cases c : stT s g = stT (stepS s op) g
  · rw [if_pos c, if_neg (fun z => z.2 c), if_neg (fun z => z.2 c)]
  · rw [if_neg c]
    by_cases e2 : g = hiN s op
    · rw [if_pos ⟨e2, c⟩]
    · rw [if_neg (fun z => e2 z.1)]
      by_cases e1 : g = lowN s op
      · rw [if_pos ⟨e1, c⟩]
      · exact absurd (step_st w h e1 e2).symm c

/-! ### promises -/
section
variable (K : PySem.W.Frag)
/-- the errors of a log from the whole list -/
structure RepE (H : Hp) (size : Int) (log : List Int) (E : XK) : Prop where
  op : SizeOk size → LogE K (wholeS size.toNat) log E H
  sz : ¬ SizeOk size → ∀ H', Kp [] H H' → Ex K "BadSize" [("size", .int size)] E H'
theorem RepE.kp {K : PySem.W.Frag} {H H1 : Hp} {size : Int} {log : List Int} {E : XK} (r : RepE K H size log E) (k : Kp [] H H1) : RepE K H1 size log E :=
  ⟨fun ok i op h l b H' k' => r.op ok i op h l b H' (k.trans k'), fun b H' k' => r.sz b H' (k.trans k')⟩
def TouchAt (H : Hp) (n : Nat) (log : List Int) (xs : List V) : Prop := xs.length = log.length ∧ ∀ (i : Nat) (op : Int), log[i]? = some op → ∃ t, xs[i]? = some (.ref t) ∧ H t = some (.tup [.int (op.natAbs : Int), .int (gI (runS (wholeS n) (log.take i)).L op.natAbs), .int (gI (runS (wholeS n) (log.take i)).R op.natAbs)])
def sp__links_of_operations : Sp := fun vs H Q E => ∃ (a : Addr) (size : Int) (log : List Int), vs = [.int size, .ref a] ∧ SqL K H a (log.map V.int) ∧ log.length ≤ 1000 ∧ RepE K H size log E ∧
  (SizeOk size → Leg (wholeS size.toNat) log → ∀ q H' xs, H q = none → Kp [] H H' → H' q = some (.lst xs) → TouchAt H' size.toNat log xs → Q (.ref q) H')
def sp_writers : Sp := fun vs H Q E => ∃ (a : Addr) (size : Int) (log : List Int), vs = [.int size, .ref a] ∧ SqL K H a (log.map V.int) ∧ log.length ≤ 1000 ∧ RepE K H size log E ∧
  (SizeOk size → Leg (wholeS size.toNat) log → ∀ t r l H', Kp [] H H' → H' t = some (.tup [.ref r, .ref l]) → H' r = some (.lst ((bkR size.toNat log).wr.map V.int)) → H' l = some (.lst ((bkR size.toNat log).wl.map V.int)) → Q (.ref t) H')
def sp_decided_by : Sp := fun vs H Q E => ∃ (a : Addr) (size g : Int) (log : List Int), vs = [.int size, .ref a, .int g] ∧ SqL K H a (log.map V.int) ∧ RepE K H size log E ∧
  (SizeOk size → Leg (wholeS size.toNat) log → ¬ (0 ≤ g ∧ g ≤ size) → ∀ H', Kp [] H H' → Ex K "BadGap" [("gap", .int g)] E H') ∧
  (SizeOk size → Leg (wholeS size.toNat) log → 0 ≤ g → g ≤ size → ∀ H', Kp [] H H' → Q (.int (gI (bkR size.toNat log).de g.toNat)) H')
/-- None or a pair -/
def OptP (H : Hp) (v : V) : Option (Nat × Nat) → Prop
  | none => v = .non
  | some (k, g) => ∃ t, v = .ref t ∧ H t = some (.tup [.int (k : Int), .int (g : Int)])
def sp_first_loss : Sp := fun vs H Q E => ∃ (a : Addr) (size : Int) (log : List Int), vs = [.int size, .ref a] ∧ SqL K H a (log.map V.int) ∧ RepE K H size log E ∧
  (SizeOk size → Leg (wholeS size.toNat) log → ∀ v H', Kp [] H H' → OptP H' v (bkR size.toNat log).ls → Q v H')
end
end G

set_option Elab.async false
set_option linter.all false
set_option maxRecDepth 100000
set_option maxHeartbeats 4000000
/-! What the law's own defs promise. -/
namespace G
open PySem PySem.Spec PyProof.Rows L2
def Bag (H : Hp) (b : Addr) : Prop := ∃ c m t : Int, H b = some (.lst [.int c, .int m, .int t])
/-- the law's own standing: a list of a size and three lists -/
structure LW (H : Hp) (w r l o : Addr) (s : Sd) : Prop where
  ob : H w = some (.lst [.int s.n, .ref r, .ref l, .ref o])
  hr : H r = some (.lst (s.R.map V.int))
  hl : ∃ L' : List Int, H l = some (.lst (L'.map V.int)) ∧ L'.length = s.n + 2 ∧ ∀ v, 1 ≤ v → gI L' v = gI s.L v
  ho : H o = some (.lst (s.O.map V.bl))
  ne : r ≠ l ∧ r ≠ o ∧ l ≠ o ∧ w ≠ r ∧ w ≠ l ∧ w ≠ o
  wf : Wf s
theorem LW.kp {H H' : Hp} {w r l o : Addr} {s : Sd} {S : List Addr} (a : LW H w r l o s) (k : Kp S H H') (h1 : w ∉ S) (h2 : r ∉ S) (h3 : l ∉ S) (h4 : o ∉ S) : LW H' w r l o s := by
  obtain ⟨L', e1, e2⟩ := a.hl
  exact ⟨k _ _ h1 a.ob, k _ _ h2 a.hr, ⟨L', k _ _ h3 e1, e2⟩, k _ _ h4 a.ho, a.ne, a.wf⟩
theorem LW.k0 {H H' : Hp} {w r l o : Addr} {s : Sd} (a : LW H w r l o s) (k : Kp [] H H') : LW H' w r l o s := a.kp k (by simp) (by simp) (by simp) (by simp)
/-- out, by the last operation of the node -/
def outF (log : List Int) (v : Nat) : Bool := match log.reverse.find? (fun x => decide (x.natAbs = v)) with
  | some x => decide (x < 0)
  | none => false
theorem outF_snoc (log : List Int) (op : Int) (v : Nat) : outF (log ++ [op]) v = if op.natAbs = v then decide (op < 0) else outF log v := by
  unfold outF
  rw [List.reverse_append, List.reverse_singleton, List.singleton_append, List.find?_cons]
  by_cases h : op.natAbs = v
  · rw [decide_eq_true h, if_pos h]
  · rw [decide_eq_false h, if_neg h]
theorem run_out {n : Nat} (hn : n ≤ 60) : ∀ log : List Int, (∀ x ∈ log, IsOp n x) → ∀ v, gB (runS (wholeS n) log).O v = outF log v := by
  intro log
  induction log using snoc_ind with
  | h0 =>
    intro _ v
    show gB (List.replicate (n + 2) false) v = false
    unfold gB
    rw [List.getD_eq_getElem?_getD]
    by_cases h : v < n + 2
    · rw [List.getElem?_replicate_of_lt h] <;> rfl
    · rw [List.getElem?_eq_none (by rw [List.length_replicate]; omega)] <;> rfl
  | h1 l x ih =>
    intro h v
    have hx := h x (by simp)
    have lo : (runS (wholeS n) l).O.length = n + 2 := by
      clear ih h hx
      induction l using snoc_ind with
      | h0 => exact List.length_replicate
      | h1 l y ih =>
        rw [runS_snoc]
        show (List.set _ _ _).length = _
        rw [List.length_set, ih]
    rw [runS_snoc, outF_snoc]
    show gB ((runS (wholeS n) l).O.set x.natAbs (decide (x < 0))) v = _
    rw [gB_set (by rw [lo]; have := hx.2; omega), ih (fun y hy => h y (by simp [hy]))]
    by_cases e : x.natAbs = v
    · rw [if_pos e.symm, if_pos e]
    · rw [if_neg (fun z => e z.symm), if_neg e]
/-- each operation turns its node -/
def Alt (log : List Int) : Prop := ∀ i op, log[i]? = some op → outF (log.take i) op.natAbs = decide (0 < op)
theorem leg_of {n : Nat} (hn : n ≤ 60) {log : List Int} (h : ∀ x ∈ log, IsOp n x) (a : Alt log) : Leg (wholeS n) log := by
  intro i op hi
  refine ⟨by rw [runS_n]; exact h op (List.mem_of_getElem? hi), ?_⟩
  rw [run_out hn _ (fun x hx => h x (List.mem_of_mem_take hx))]
  exact a i op hi
theorem Leg.isop {n : Nat} {log : List Int} (h : Leg (wholeS n) log) : ∀ x ∈ log, IsOp n x := by
  intro x hx
  obtain ⟨i, hi⟩ := List.getElem?_of_mem hx
  have := (h i x hi).1
  rwa [runS_n] at this
theorem ok_out {n : Nat} (hn : n ≤ 60) {log : List Int} (h : Leg (wholeS n) log) {op : Int} : OkOp (runS (wholeS n) log) op ↔ IsOp n op ∧ outF log op.natAbs = decide (0 < op) := by
  unfold OkOp
  rw [run_out hn log h.isop, runS_n] <;> rfl

/-- what is due for a size, a log and a gap -/
def FltV (size : Int) (log : List Int) (g : Int) (xs : List V) : Prop :=
  (¬ SizeOk size ∧ xs = [.str "size", .int size]) ∨
  (SizeOk size ∧ ∃ (i : Nat) (op : Int), log[i]? = some op ∧ Leg (wholeS size.toNat) (log.take i) ∧ ¬ OkOp (runS (wholeS size.toNat) (log.take i)) op ∧ xs = [.str (if IsOp size.toNat op then "illegal" else "operation"), .int op, .int (i : Int)]) ∨
  (SizeOk size ∧ Leg (wholeS size.toNat) log ∧ ¬ (0 ≤ g ∧ g ≤ size) ∧ xs = [.str "gap", .int g]) ∨
  (SizeOk size ∧ Leg (wholeS size.toNat) log ∧ (0 ≤ g ∧ g ≤ size) ∧ xs = [.str "done"])
theorem bad_uniq {s : Sd} {log : List Int} {i j : Nat} {a b : Int} (hi : log[i]? = some a) (hj : log[j]? = some b) (li : Leg s (log.take i)) (lj : Leg s (log.take j)) (ni : ¬ OkOp (runS s (log.take i)) a) (nj : ¬ OkOp (runS s (log.take j)) b) : i = j ∧ a = b := by
  have lt : ∀ {i j : Nat} {a : Int}, log[i]? = some a → Leg s (log.take j) → ¬ OkOp (runS s (log.take i)) a → ¬ i < j := by
    intro i j a hi lj ni h
    have := lj i a (by rw [List.getElem?_take_of_lt h]; exact hi)
    rw [List.take_take, Nat.min_eq_left (by omega)] at this
    exact ni this
  have e : i = j := by
    have := lt hi lj ni
    have := lt hj li nj
    omega
  subst e
  exact ⟨rfl, by rw [hi] at hj; injection hj⟩
theorem bad_leg {s : Sd} {log : List Int} {i : Nat} {a : Int} (hi : log[i]? = some a) (ni : ¬ OkOp (runS s (log.take i)) a) (l : Leg s log) : False := ni (l i a hi)
theorem FltV.uniq {size : Int} {log : List Int} {g : Int} {xs ys : List V} (a : FltV size log g xs) (b : FltV size log g ys) : xs = ys := by
  rcases a with ⟨a1, rfl⟩ | ⟨a1, i, op, a2, a3, a4, rfl⟩ | ⟨a1, a2, a3, rfl⟩ | ⟨a1, a2, a3, rfl⟩ <;> rcases b with ⟨b1, rfl⟩ | ⟨b1, j, oq, b2, b3, b4, rfl⟩ | ⟨b1, b2, b3, rfl⟩ | ⟨b1, b2, b3, rfl⟩
  all_goals first
    | rfl
    | exact absurd b1 a1
    | exact absurd a1 b1
    | exact absurd b3 a3
    | exact absurd a3 b3
    | exact (bad_leg a2 a4 b2).elim
    | exact (bad_leg b2 b4 a2).elim
    | (obtain ⟨rfl, rfl⟩ := bad_uniq a2 b2 a3 b3 a4 b4; rfl)
section
def sp__law_bag (K : PySem.W.Frag) : Sp := fun vs H Q E => ∃ (a : Addr) (lane : Int) (ns : List Int), vs = [.ref a, .int lane] ∧ 0 ≤ lane ∧ lane ≤ 1 ∧ SqL K H a (ns.map V.int) ∧ ns.length ≤ 63 ∧ ∀ b H', H b = none → Kp [] H H' → Bag H' b → Q (.ref b) H'
def sp__law_draw (K : PySem.W.Frag) : Sp := fun vs H Q E => ∃ (b : Addr) (many : Int), vs = [.ref b, .int many] ∧ 0 < many ∧ many < 2 ^ 30 ∧ Bag H b ∧ ∀ (d : Int) H', 0 ≤ d → d < many → Kp [b] H H' → Bag H' b → Q (.int d) H'
def sp__law_size (K : PySem.W.Frag) : Sp := fun vs H Q E => ∃ b : Addr, vs = [.ref b] ∧ Bag H b ∧ ∀ (n : Nat) H', n ≤ 60 → Kp [b] H H' → Bag H' b → Q (.int (n : Int)) H'
def sp__law_whole (K : PySem.W.Frag) : Sp := fun vs H Q E => ∃ n : Nat, vs = [.int (n : Int)] ∧ n ≤ 60 ∧ ∀ w r l o H', H w = none → H r = none → H l = none → H o = none → Kp [] H H' → LW H' w r l o (wholeS n) → Q (.ref w) H'
def sp__law_planted (K : PySem.W.Frag) : Sp := fun vs H Q E => ∃ (b : Addr) (n : Nat), vs = [.ref b, .int (n : Int)] ∧ n ≤ 60 ∧ Bag H b ∧ ∀ (ds : List Int) (q : Addr) H', H q = none → (∀ x ∈ ds, IsOp n x) → Alt ds → ds.length ≤ 9 → Kp [b] H H' → Bag H' b → H' q = some (.lst (ds.map V.int)) → Q (.ref q) H'
def sp__law_log (K : PySem.W.Frag) : Sp := fun vs H Q E => ∃ (b : Addr) (n : Nat), vs = [.ref b, .int (n : Int)] ∧ n ≤ 60 ∧ Bag H b ∧ ∀ (ds : List Int) (q : Addr) H', H q = none → (∀ x ∈ ds, IsOp n x) → Alt ds → ds.length ≤ 200 → Kp [b] H H' → Bag H' b → H' q = some (.lst (ds.map V.int)) → Q (.ref q) H'
def sp__law_state (K : PySem.W.Frag) : Sp := fun vs H Q E => ∃ (w r l o : Addr) (s : Sd) (g : Nat), vs = [.ref w, .int (g : Int)] ∧ LW H w r l o s ∧ g ≤ s.n ∧ Q (.str (stT s g)) H
def sp__law_step (K : PySem.W.Frag) : Sp := fun vs H Q E => ∃ (w r l o : Addr) (s : Sd) (op : Int), vs = [.ref w, .int op] ∧ LW H w r l o s ∧ IsOp s.n op ∧ ∀ H', Kp [r, l, o] H H' → LW H' w r l o (stepS s op) → Q .non H'
def sp__law_whole_number (K : PySem.W.Frag) : Sp := fun vs H Q E => ∃ i : Int, vs = [.int i] ∧ Q (.bl true) H
def sp__law_numbers (K : PySem.W.Frag) : Sp := fun vs H Q E => ∃ (a b : Addr) (xs : List Int), vs = [.ref a, .ref b] ∧ xs.length ≤ 1000 ∧ H a = some (.lst (xs.map V.int)) ∧ H b = some (.lst (xs.map V.int)) ∧ Q (.bl true) H
def sp__law_pair (K : PySem.W.Frag) : Sp := fun vs H Q E => ∃ (x y : V) (p : Option (Nat × Nat)), vs = [x, y] ∧ OptP H x p ∧ OptP H y p ∧ Q (.bl true) H
def sp__law_book (K : PySem.W.Frag) : Sp := fun vs H Q E => ∃ (n : Nat) (a : Addr) (log : List Int), vs = [.int (n : Int), .ref a] ∧ n ≤ 60 ∧ SqL K H a (log.map V.int) ∧ log.length ≤ 1000 ∧ Leg (wholeS n) log ∧
  ∀ q r l d v H', Kp [] H H' → H' q = some (.lst [.ref r, .ref l, .ref d, v]) → H' r = some (.lst ((bkR n log).wr.map V.int)) → H' l = some (.lst ((bkR n log).wl.map V.int)) → H' d = some (.lst ((bkR n log).de.map V.int)) → OptP H' v (bkR n log).ls → Q (.ref q) H'
def sp__law_agrees (K : PySem.W.Frag) : Sp := fun vs H Q E => ∃ (n : Nat) (a c : Addr) (log gs : List Int), vs = [.int (n : Int), .ref a, .ref c] ∧ n ≤ 60 ∧ H a = some (.lst (log.map V.int)) ∧ log.length ≤ 1000 ∧ Leg (wholeS n) log ∧ SqL K H c (gs.map V.int) ∧ (∀ g ∈ gs, 0 ≤ g ∧ g ≤ n) ∧ gs.length ≤ 1000 ∧ ∀ H', Kp [] H H' → Q (.bl true) H'
def sp__law_fault (K : PySem.W.Frag) : Sp := fun vs H Q E => ∃ (size g : Int) (a : Addr) (log : List Int), vs = [.int size, .ref a, .int g] ∧ SqL K H a (log.map V.int) ∧ log.length ≤ 1000 ∧ ∀ xs t H', FltV size log g xs → Kp [] H H' → H' t = some (.tup xs) → Q (.ref t) H'
def sp__law_answer (K : PySem.W.Frag) : Sp := fun vs H Q E => ∃ (way size g : Int) (a : Addr) (log : List Int), vs = [.int way, .int size, .ref a, .int g] ∧ (way = 0 ∨ g = 0) ∧ 0 ≤ way ∧ way ≤ 2 ∧ SqL K H a (log.map V.int) ∧ log.length ≤ 1000 ∧ ∀ xs t H', FltV size log g xs → Kp [] H H' → H' t = some (.tup xs) → Q (.ref t) H'
def sp__law_spoilt (K : PySem.W.Frag) : Sp := fun vs H Q E => ∃ (b a : Addr) (n : Nat) (log : List Int), vs = [.ref b, .int (n : Int), .ref a] ∧ n ≤ 60 ∧ Bag H b ∧ a ≠ b ∧ H a = some (.lst (log.map V.int)) ∧ log.length ≤ 400 ∧ ∀ (ds : List Int) (q : Addr) H', H q = none → ds.length ≤ 2 * log.length + 2 → Kp [b] H H' → Bag H' b → H' q = some (.lst (ds.map V.int)) → Q (.ref q) H'
/-- a trial: a size, a log, a gap -/
def Trial (H : Hp) (x : V) : Prop := ∃ (t a : Addr) (size g : Int) (log : List Int), x = .ref t ∧ H t = some (.tup [.int size, .ref a, .int g]) ∧ H a = some (.lst (log.map V.int)) ∧ log.length ≤ 1000
def sp__law_trials (K : PySem.W.Frag) : Sp := fun vs H Q E => ∃ (b a : Addr) (n : Nat) (log : List Int), vs = [.ref b, .int (n : Int), .ref a] ∧ n ≤ 60 ∧ Bag H b ∧ a ≠ b ∧ H a = some (.lst (log.map V.int)) ∧ log.length ≤ 400 ∧ ∀ (xs : List V) (q : Addr) H', Kp [b] H H' → Bag H' b → H' q = some (.lst xs) → xs.length ≤ 100 → (∀ x ∈ xs, Trial H' x) → Q (.ref q) H'
def sp__law_places (K : PySem.W.Frag) : Sp := fun vs H Q E => ∃ (b a : Addr) (n : Nat) (log : List Int), vs = [.ref b, .int (n : Int), .ref a] ∧ n ≤ 60 ∧ Bag H b ∧ a ≠ b ∧ H a = some (.lst (log.map V.int)) ∧ log.length ≤ 500 ∧ (∀ x ∈ log, IsOp n x) ∧ ∀ (gs : List Int) (q : Addr) H', gs.length ≤ 100 → (∀ g ∈ gs, 0 ≤ g ∧ g ≤ n) → Kp [b] H H' → Bag H' b → H' q = some (.lst (gs.map V.int)) → Q (.ref q) H'
def sp__law_refuses (K : PySem.W.Frag) : Sp := fun vs H Q E => ∃ (q : Addr) (xs : List V), vs = [.ref q] ∧ H q = some (.lst xs) ∧ xs.length ≤ 100 ∧ (∀ x ∈ xs, Trial H x) ∧ ∀ H', Kp [] H H' → Q (.bl true) H'
def sp_law (K : PySem.W.Frag) : Sp := fun vs H Q E => ∃ (a : Addr) (ns : List Int), vs = [.ref a] ∧ SqL K H a (ns.map V.int) ∧ ns.length ≤ 63 ∧ ∀ H', Q (.bl true) H'
end
end G

set_option Elab.async false
set_option linter.all false
set_option maxRecDepth 100000
set_option maxHeartbeats 4000000
/-! == by an own __eq__, any answer. -/
namespace G
open PySem PySem.Spec PyProof.Rows L2
section
variable {X : Cx} {j k : Nat} {ps : List Str} {sp : Sp} {E : XK} {C f : Addr} {fd : FuncData}
def rOwn (C : Addr) (sp : Sp) (E : XK) : R2 := fun x y H Q => ∃ a b dx dy fs gs, x = .ref a ∧ y = .ref b ∧ H a = some (.ins C dx fs) ∧ H b = some (.ins C dy gs) ∧ sp [.ref a, .ref b] H (fun v H' => (∃ k, v = .bl k) ∧ Q v H') E
theorem op_own (F : FnOk X.prog X.w X.K X.mg X.base (L2N.CX X.prog X.w) k f fd ps sp) (hb : Binds X.K fd ps []) (hr : Room j X.A) (hk : k ≤ j) (hx : PAt X (fun _ => E))
    (hs : PySem.W.findIn X.K (.ref C) "__eq__" = some (some (.ref f))) (hf : PySem.W.isFn X.K (.ref f) = true) : OpR X (compareOp .Eq) (rOwn C sp E) := by
  intro pins s σ H x y u v Q I rx ry hq
  obtain ⟨a, b, dx, dy, fs, gs, rfl, rfl, ha, hb', q⟩ := hq
  cases rx
  cases ry
  obtain ⟨mA, J, _⟩ := ins_get I.hok ha
  obtain ⟨mB, J', _⟩ := ins_get I.hok hb'
  obtain ⟨od, J, _⟩ := J.look
  obtain ⟨od', J', _⟩ := J'.look
  obtain ⟨m, hF⟩ := I.fr
  show wpAny (model X.prog X.w) X.A (richCompare .Eq (.ref a) (.ref b)) (EP X pins σ Q) X.xe s
  refine PySem.W.cmp_K (op := .Eq) (tb := .ref C) hr.units0 hF I.ok.mod.kin J J'.type (by simp [PySem.W.notFirst]) hs hf ?_
  refine wpAny_mono (run_fnS (E := fun _ => E) (us := [.ref a, .ref b]) (vs := [.ref a, .ref b]) F (hr.mono hk) hb (hx σ) I (.cons rfl (.cons rfl .nil)) q) (fun r s' z => ?_) fun _ _ x => x
  obtain ⟨w, H', I', rw_, ⟨kk, rfl⟩, qq⟩ := z
  cases rw_
  exact ⟨.bl kk, H', I', rfl, qq⟩
end
end G
namespace G
open PySem PySem.Spec PyProof.Rows L2
section
variable {X : Cx} {j k : Nat} {ps : List Str} {sp : Sp} {E : XK} {C : Addr}
/-- == of data, or by the own __eq__ of the class at C -/
def rEqO (K : PySem.W.Frag) (C : Addr) (sp : Sp) (E : XK) : R2 := fun x y H Q => rEqA K x y H Q ∨ rOwn C sp E x y H Q
theorem op_eqO {i : Nat} (c : Met X.prog X.w X.K X.mg X.base k C "__eq__" ps sp) (hr : Room j X.A) (hk : k ≤ j) (hx : PAt X (fun _ => E)) : OpR X (compareOp .Eq) (rEqO X.K C sp E) := by
  obtain ⟨f, fd, F, hm, hb⟩ := c.ex
  exact OpR.or (op_eqA hr) (op_own F hb hr hk hx hm.at_ hm.fn)
end
end G
namespace G
open PySem PySem.Spec PyProof.Rows L2
/-- isinstance of an instance of an own class -/
def tyB (x : Str) (K : PySem.W.Frag) : Bool := He.eqO (PySem.W.findIn K (.ref (He.ga K x)) "__class__") (some (some (.builtin "object.__class__"))) && eqT (PySem.W.mroIn K (He.ga K x) (.type "object")) (some true)
theorem tyB_ok {x : Str} {K : PySem.W.Frag} (q : tyB x K = true) : PySem.W.findIn K (.ref (He.ga K x)) "__class__" = some (some (.builtin "object.__class__")) ∧ PySem.W.mroIn K (He.ga K x) (.type "object") = some true := by
  obtain ⟨q1, q2⟩ := He.ba q
  exact ⟨He.eqO_ok q1, of_decide_eq_true q2⟩
end G

set_option Elab.async false
set_option linter.all false
set_option maxRecDepth 100000
set_option maxHeartbeats 4000000
/-! More built-ins: str, tuple, is True, pop, insert, extend. -/
namespace G
open PySem PySem.Spec PyProof.Rows L2
def rStrA : List V → Hp → VK → Prop := fun xs H Q => ∃ i, xs = [.int i] ∧ i.natAbs.log2 < 1920 ∧ Q (.str (toString i)) H
def rTupA (K : PySem.W.Frag) : List V → Hp → VK → Prop := fun xs H Q => ∃ p ys, xs = [.ref p] ∧ ((SqL K H p ys ∧ ∀ l, H l = none → Q (.ref l) (upd H l (.tup ys))) ∨ (SqT K H p ys ∧ Q (.ref p) H))
/-- x is True, x is False, of a truth value -/
def rIsB (neg : Bool) : R2 := fun x y H Q => ∃ b c, x = .bl b ∧ y = .bl c ∧ Q (.bl (neg != decide (b = c))) H
section
variable {X : Cx}
theorem call_strA : CallR X (.type "str") rStrA := call_str_int
theorem call_tupA : CallR X (.type "tuple") (rTupA X.K) := call_tuple_of
theorem op_isB : OpR X (compareOp .Is) (rIsB false) := by
  intro pins s σ H x y v u Q I rx ry h
  obtain ⟨b, c, rfl, rfl, q⟩ := h
  cases rx
  cases ry
  show wpAny _ _ ((isSame (Value.bool b) (Value.bool c)) >>= fun z => pure (Value.bool z)) _ _ s
  refine wpAny_bind (wpAny_isSame_plain rfl (wpAny_pure (fin_bl I q ?_)))
  cases b <;> cases c <;> rfl
theorem op_isnotB : OpR X (compareOp .IsNot) (rIsB true) := by
  intro pins s σ H x y v u Q I rx ry h
  obtain ⟨b, c, rfl, rfl, q⟩ := h
  cases rx
  cases ry
  show wpAny _ _ ((isSame (Value.bool b) (Value.bool c)) >>= fun z => pure (Value.bool (!z))) _ _ s
  refine wpAny_bind (wpAny_isSame_plain rfl (wpAny_pure (fin_bl I q ?_)))
  cases b <;> cases c <;> rfl
end
section
variable {K : PySem.W.Frag} {σ : L2.St} {H : Hp} {Q : VK} {ta tb tc te : TE} {x y v : V} {i j : Int} {n m : Nat} {p q : Addr} {xs ys : List V} {b c : Bool}
theorem w_str (h : i.natAbs.log2 < 1920) (g : Q (.str (toString i)) H) : rStrA [.int i] H Q := ⟨i, rfl, h, g⟩
theorem w_tuA (h : SqL K H p xs) (g : ∀ l H', H l = none → Kp [] H H' → H' l = some (.tup xs) → Q (.ref l) H') : rTupA K [.ref p] H Q := ⟨p, xs, rfl, .inl ⟨h, nw g⟩⟩
theorem w_isB (g : Q (.bl (decide (b = c))) H) : rIsB false (.bl b) (.bl c) H Q := ⟨b, c, rfl, rfl, by
  have e : (false != decide (b = c)) = decide (b = c) := by cases decide (b = c) <;> rfl
  rw [e]; exact g⟩
theorem w_isnB (g : Q (.bl (!decide (b = c))) H) : rIsB true (.bl b) (.bl c) H Q := ⟨b, c, rfl, rfl, by
  have e : (true != decide (b = c)) = !decide (b = c) := by cases decide (b = c) <;> rfl
  rw [e]; exact g⟩
theorem w_pop (h : H p = some (.lst xs)) (hy : xs[xs.length - 1]? = some y) (g : ∀ H', Kp [p] H H' → H' p = some (.lst xs.dropLast) → Q y H') : rPop (.ref p) [] H Q := ⟨p, xs, y, rfl, rfl, h, hy, g _ (Kp.put (by simp)) upd_same⟩
theorem w_popAt {k : Nat} (h : H p = some (.lst xs)) (h1 : -(2 ^ 63) ≤ i) (h2 : i < 2 ^ 63) (hk : seqIndex? i xs.length = some k) (hy : xs[k]? = some y) (g : ∀ H', Kp [p] H H' → H' p = some (.lst (xs.eraseIdx k)) → Q y H') : rPopAt (.ref p) [.int i] H Q :=
  ⟨p, xs, i, k, y, rfl, rfl, h, h1, h2, hk, hy, g _ (Kp.put (by simp)) upd_same⟩
theorem w_inL {neg : Bool} (h : SqL K H p xs) (hx : flatV x = true) (ha : xs.all flatV = true) (g : Q (.bl (if neg then !inV x xs else inV x xs)) H) : rIn K neg x (.ref p) H Q := ⟨p, xs, rfl, .inl h, hx, ha, g⟩
theorem w_inT {neg : Bool} (h : SqT K H p xs) (hx : flatV x = true) (ha : xs.all flatV = true) (g : Q (.bl (if neg then !inV x xs else inV x xs)) H) : rIn K neg x (.ref p) H Q := ⟨p, xs, rfl, .inr h, hx, ha, g⟩
theorem flatI : ∀ l : List Int, (l.map V.int).all flatV = true
  | [] => rfl
  | a :: l => by rw [List.map_cons, List.all_cons, flatI l]; rfl
end
theorem strOk_of (s : String) : PyData.strOk (Str.ofString s) = true := by
  rw [Str.ofString_eq_toList]
  unfold PyData.strOk
  rw [Array.all_eq_true]
  intro i h
  have h' : i < s.toList.length := by simpa using h
  simp only [List.getElem_toArray, List.getElem_map, decide_eq_true_eq]
  have v := (s.toList[i]'h').valid
  rcases v with v | v
  · show (s.toList[i]'h').val.toNat < _
    have : (s.toList[i]'h').val.toNat < 0xd800 := v
    omega
  · exact v.2
end G

set_option Elab.async false
set_option linter.all false
set_option maxRecDepth 100000
set_option maxHeartbeats 4000000
/-! k10: verdicts, certificates, values of many kinds. -/
namespace G
open PySem PySem.Spec PyProof.Rows L2
/-- a comprehension whose turns change the heap -/
theorem cp_mut {σ : L2.St} {H : Hp} {Q : VK} {te : TE} {tt : TT} {g : TG} {vs : List Nat} {lo : Int} {n : Nat} (Pv : Addr → Nat → List V → Hp → Prop) (hn : n < sizeLine)
    (h0 : ∀ D H', H D = none → Kp [] H H' → H' D = some (.lst []) → Pv D 0 [] H')
    (hs : ∀ (D : Addr) (i : Nat) (acc : List V) (H' : Hp) (S : V → Hp → Prop) (N : Hp → Prop), H D = none → i < n → H' D = some (.lst acc) → Pv D i acc H' →
      (∀ y H4, H4 D = some (.lst acc) → (∀ H5, Kp [D] H4 H5 → H5 D = some (.lst (acc ++ [y])) → Pv D (i + 1) (acc ++ [y]) H5) → S y H4) → (∀ H4, H4 D = some (.lst acc) → Pv D (i + 1) acc H4 → N H4) →
      g (.int (lo + (i : Int))) (wipe σ vs) H' fun σ2 H2 => wipe σ2 vs = wipe σ vs ∧ tt σ2 H2 fun b H3 => if b = true then te σ2 H3 S else N H3)
    (hd : ∀ D acc H', H D = none → H' D = some (.lst acc) → acc.length ≤ n → Pv D n acc H' → Q (.ref D) H') : CompG (Itr lo n) g tt te vs σ Q H := by
  intro D nD
  refine ⟨fun i m H' => m = n - i ∧ i ≤ n ∧ ∃ acc, acc.length ≤ i ∧ H' D = some (.lst acc) ∧ Pv D i acc H', ⟨n, by simp, Nat.zero_le _, [], Nat.le_refl _, upd_same, h0 D _ nD (Kp.new nD) upd_same⟩, ?_⟩
  rintro i m H' ⟨rfl, hi, acc, la, e, p⟩
  by_cases lt : i < n
  · refine .inr ⟨lt, fun H'' => ∃ acc, acc.length ≤ i + 1 ∧ H'' D = some (.lst acc) ∧ Pv D (i + 1) acc H'', fun H'' p => ⟨n - (i + 1), by omega, rfl, lt, p⟩, fun x H'' y => ?_⟩
    obtain ⟨rfl, rfl⟩ := y
    refine hs D i acc _ _ _ nD lt e p (fun y H4 h4 k4 => ⟨acc, h4, by omega, acc ++ [y], by rw [List.length_append]; show acc.length + 1 ≤ _; omega, upd_same, k4 _ (Kp.put (by simp)) upd_same⟩) (fun H4 h4 k4 => ⟨acc, by omega, h4, k4⟩)
  · have ei : i = n := by omega
    subst ei
    exact .inl ⟨Nat.le_refl _, hd D acc H' nD e la p⟩
/-- .. over a list -/
theorem cp_mutL {K : PySem.W.Frag} {σ : L2.St} {H : Hp} {Q : VK} {te : TE} {tt : TT} {g : TG} {vs : List Nat} {a : Addr} {xs : List V} (Pv : Addr → Nat → List V → Hp → Prop) (hn : xs.length < sizeLine)
    (h0 : ∀ D H', H D = none → Kp [] H H' → H' D = some (.lst []) → Pv D 0 [] H')
    (hl : ∀ D i acc H', H D = none → Pv D i acc H' → SqL K H' a xs)
    (hs : ∀ (D : Addr) (i : Nat) (x : V) (acc : List V) (H' : Hp) (S : V → Hp → Prop) (N : Hp → Prop), H D = none → xs[i]? = some x → H' D = some (.lst acc) → Pv D i acc H' →
      (∀ y H4, H4 D = some (.lst acc) → (∀ H5, Kp [D] H4 H5 → H5 D = some (.lst (acc ++ [y])) → Pv D (i + 1) (acc ++ [y]) H5) → S y H4) → (∀ H4, H4 D = some (.lst acc) → Pv D (i + 1) acc H4 → N H4) →
      g x (wipe σ vs) H' fun σ2 H2 => wipe σ2 vs = wipe σ vs ∧ tt σ2 H2 fun b H3 => if b = true then te σ2 H3 S else N H3)
    (hd : ∀ D acc H', H D = none → H' D = some (.lst acc) → acc.length ≤ xs.length → Pv D xs.length acc H' → Q (.ref D) H') : CompG (Itl K a) g tt te vs σ Q H := by
  intro D nD
  refine ⟨fun i m H' => m = xs.length - i ∧ i ≤ xs.length ∧ ∃ acc, acc.length ≤ i ∧ H' D = some (.lst acc) ∧ Pv D i acc H', ⟨xs.length, by simp, Nat.zero_le _, [], Nat.le_refl _, upd_same, h0 D _ nD (Kp.new nD) upd_same⟩, ?_⟩
  rintro i m H' ⟨rfl, hi, acc, la, e, p⟩
  have q := hl D i acc H' nD p
  by_cases lt : i < xs.length
  · refine .inr ⟨⟨xs, xs[i], q, by simp [lt]⟩, fun H'' => ∃ acc, acc.length ≤ i + 1 ∧ H'' D = some (.lst acc) ∧ Pv D (i + 1) acc H'', fun H'' p => ⟨xs.length - (i + 1), by omega, rfl, lt, p⟩, fun x H'' y => ?_⟩
    obtain ⟨rfl, hx⟩ := y
    refine hs D i x acc _ _ _ nD (hx xs q) e p (fun y H4 h4 k4 => ⟨acc, h4, by omega, acc ++ [y], by rw [List.length_append]; show acc.length + 1 ≤ _; omega, upd_same, k4 _ (Kp.put (by simp)) upd_same⟩) (fun H4 h4 k4 => ⟨acc, by omega, h4, k4⟩)
  · have ei : i = xs.length := by omega
    subst ei
    exact .inl ⟨⟨xs, q, Nat.le_refl _⟩, hd D acc H' nD e la p⟩
/-- the nodes that are out, from the least on -/
def outN (n : Nat) (O : List Bool) : List Int := (((List.range n).map fun (v : Nat) => v + 1).filter fun v => gB O v).map fun (v : Nat) => (v : Int)
theorem outN_len (n : Nat) (O : List Bool) : (outN n O).length ≤ n := by
  unfold outN
  rw [List.length_map]
  refine Nat.le_trans (List.length_filter_le _ _) ?_
  rw [List.length_map, List.length_range]
  exact Nat.le_refl _
/-- None or a whole number -/
def Isn (v : V) : Prop := v = .non ∨ ∃ i : Int, v = .int i
/-! a verdict in the heap -/
def vfl (g a b w : V) : List (Str × V) := putF "whole" w (putF "index" b (putF "gap" a (putF "out_nodes" g [])))
theorem m1 : ¬ (("out_nodes" : Str) = "gap") := by decide +kernel
theorem m2 : ¬ (("out_nodes" : Str) = "index") := by decide +kernel
theorem m3 : ¬ (("out_nodes" : Str) = "whole") := by decide +kernel
theorem m4 : ¬ (("gap" : Str) = "index") := by decide +kernel
theorem m5 : ¬ (("gap" : Str) = "whole") := by decide +kernel
theorem m6 : ¬ (("index" : Str) = "whole") := by decide +kernel
theorem vfl_g (g a b w : V) : (vfl g a b w).lookup ("out_nodes" : Str) = some g := by
  unfold vfl
  rw [lookup_putF, if_neg m3, lookup_putF, if_neg m2, lookup_putF, if_neg m1, lookup_putF, if_pos rfl]
theorem vfl_a (g a b w : V) : (vfl g a b w).lookup ("gap" : Str) = some a := by
  unfold vfl
  rw [lookup_putF, if_neg m5, lookup_putF, if_neg m4, lookup_putF, if_pos rfl]
theorem vfl_b (g a b w : V) : (vfl g a b w).lookup ("index" : Str) = some b := by
  unfold vfl
  rw [lookup_putF, if_neg m6, lookup_putF, if_pos rfl]
theorem vfl_w (g a b w : V) : (vfl g a b w).lookup ("whole" : Str) = some w := by
  unfold vfl
  rw [lookup_putF, if_pos rfl]
def whB (a : V) (gone : List Int) : Bool := match a with
  | .non => decide ((gone.length : Int) = 0)
  | _ => false
structure VdAt (K : PySem.W.Frag) (H : Hp) (x g : Addr) (gone : List Int) (a b : V) : Prop where
  ob : ∃ dx, H x = some (.ins (He.ga K "Verdict") dx (vfl (.ref g) a b (.bl (whB a gone))))
  hg : H g = some (.lst (gone.map V.int))
theorem VdAt.kp {K : PySem.W.Frag} {H H' : Hp} {x g : Addr} {gone : List Int} {a b : V} {S : List Addr} (v : VdAt K H x g gone a b) (k : Kp S H H') (h1 : x ∉ S) (h2 : g ∉ S) : VdAt K H' x g gone a b := by
  obtain ⟨dx, h⟩ := v.ob
  exact ⟨⟨dx, k _ _ h1 h⟩, k _ _ h2 v.hg⟩
theorem VdAt.k0 {K : PySem.W.Frag} {H H' : Hp} {x g : Addr} {gone : List Int} {a b : V} (v : VdAt K H x g gone a b) (k : Kp [] H H') : VdAt K H' x g gone a b := v.kp k (by simp) (by simp)
/-- what the verdict of a log is due to tell -/
def VF (n : Nat) (log : List Int) (v w : V) : Prop :=
  (∃ i : Nat, i ≤ n ∧ (∀ j, j < i → stT (runS (wholeS n) log) j = "joined") ∧ stT (runS (wholeS n) log) i ≠ "joined" ∧ v = .int (i : Int) ∧ w = .int (gI (bkR n log).de i)) ∨
  ((∀ j, j ≤ n → stT (runS (wholeS n) log) j = "joined") ∧ v = .non ∧ w = .non)
theorem VF.isn {n : Nat} {log : List Int} {v w : V} (h : VF n log v w) : Isn v ∧ Isn w := by
  rcases h with ⟨i, _, _, _, rfl, rfl⟩ | ⟨_, rfl, rfl⟩
  · exact ⟨.inr ⟨_, rfl⟩, .inr ⟨_, rfl⟩⟩
  · exact ⟨.inl rfl, .inl rfl⟩
/-- the certificate of a gap -/
def paper (n : Nat) (log : List Int) (i : Nat) : List V := [.str (stT (runS (wholeS n) log) i), .int (gI (bkR n log).wr i), .int (gI (bkR n log).wl i)]
def PapersAt (H : Hp) (p : Addr) (n : Nat) (log : List Int) : Prop := ∃ ps : List V, H p = some (.lst ps) ∧ ps.length = n + 1 ∧ ∀ i, i ≤ n → ∃ t, ps[i]? = some (.ref t) ∧ H t = some (.tup (paper n log i))
def outS (n : Nat) (log : List Int) : List Int := outN n (runS (wholeS n) log).O
def BookAt (H : Hp) (q : Addr) (n : Nat) (log : List Int) : Prop := ∃ p d g, H q = some (.lst [.ref p, .ref d, .ref g]) ∧ PapersAt H p n log ∧ H d = some (.lst ((bkR n log).de.map V.int)) ∧ H g = some (.lst ((outS n log).map V.int))
theorem PapersAt.k0 {H H' : Hp} {p : Addr} {n : Nat} {log : List Int} (a : PapersAt H p n log) (k : Kp [] H H') : PapersAt H' p n log := by
  obtain ⟨ps, h1, h2, h3⟩ := a
  refine ⟨ps, k.at0 h1, h2, fun i hi => ?_⟩
  obtain ⟨t, h4, h5⟩ := h3 i hi
  exact ⟨t, h4, k.at0 h5⟩
theorem PapersAt.k1 {H H' : Hp} {p b : Addr} {n : Nat} {log : List Int} (a : PapersAt H p n log) (hb : Bag H b) (ne : p ≠ b) (k : Kp [b] H H') : PapersAt H' p n log := by
  obtain ⟨ps, h1, h2, h3⟩ := a
  refine ⟨ps, k.at1 ne h1, h2, fun i hi => ?_⟩
  obtain ⟨t, h4, h5⟩ := h3 i hi
  obtain ⟨c, m, t', hb⟩ := hb
  exact ⟨t, h4, k.at1 (ne_of h5 hb (by intro z; cases z)) h5⟩
/-! values of many kinds, apart from b -/
mutual
inductive Vl (b : Addr) (H : Hp) : V → PyData → Prop
  | non : Vl b H .non .none
  | bl (k : Bool) : Vl b H (.bl k) (.bool k)
  | int (i : Int) : Vl b H (.int i) (.int i)
  | str (x : Str) : Vl b H (.str x) (.str x)
  | lst {a : Addr} {xs : List V} {ds : List PyData} : a ≠ b → H a = some (.lst xs) → VlA b H xs ds → Vl b H (.ref a) (.list ds)
  | tup {a : Addr} {xs : List V} {ds : List PyData} : a ≠ b → H a = some (.tup xs) → VlA b H xs ds → Vl b H (.ref a) (.tuple ds)
inductive VlA (b : Addr) (H : Hp) : List V → List PyData → Prop
  | nil : VlA b H [] []
  | cons {v : V} {vs : List V} {d : PyData} {ds : List PyData} : Vl b H v d → VlA b H vs ds → VlA b H (v :: vs) (d :: ds)
end
mutual
theorem Vl.dp {K : PySem.W.Frag} {b : Addr} {H : Hp} : ∀ (d : PyData) (v : V), Vl b H v d → Dp K H v d
  | .none, _, h => by cases h; exact .non
  | .bool b, _, h => by cases h; exact .bl b
  | .int i, _, h => by cases h; exact .int i
  | .str x, _, h => by cases h; exact .str x
  | .list ds, _, h => by
    cases h with
    | lst ne hs ha => exact .lst (SqL.of hs) (VlA.dp ds _ ha)
  | .tuple ds, _, h => by
    cases h with
    | tup ne hs ha => exact .tup (SqT.of hs) (VlA.dp ds _ ha)
  | .dict _, _, h => by cases h
theorem VlA.dp {K : PySem.W.Frag} {b : Addr} {H : Hp} : ∀ (ds : List PyData) (vs : List V), VlA b H vs ds → DpAll K H vs ds
  | [], _, h => by cases h; exact .nil
  | d :: ds, _, h => by
    cases h with
    | cons h1 h2 => exact .cons (Vl.dp d _ h1) (VlA.dp ds _ h2)
end
mutual
theorem Vl.kp {b : Addr} {H H' : Hp} (k : Kp [b] H H') : ∀ (d : PyData) (v : V), Vl b H v d → Vl b H' v d
  | .none, _, h => by cases h; exact .non
  | .bool b, _, h => by cases h; exact .bl b
  | .int i, _, h => by cases h; exact .int i
  | .str x, _, h => by cases h; exact .str x
  | .list ds, _, h => by
    cases h with
    | lst ne hs ha => exact .lst ne (k.at1 ne hs) (VlA.kp k ds _ ha)
  | .tuple ds, _, h => by
    cases h with
    | tup ne hs ha => exact .tup ne (k.at1 ne hs) (VlA.kp k ds _ ha)
  | .dict _, _, h => by cases h
theorem VlA.kp {b : Addr} {H H' : Hp} (k : Kp [b] H H') : ∀ (ds : List PyData) (vs : List V), VlA b H vs ds → VlA b H' vs ds
  | [], _, h => by cases h; exact .nil
  | d :: ds, _, h => by
    cases h with
    | cons h1 h2 => exact .cons (Vl.kp k d _ h1) (VlA.kp k ds _ h2)
end
theorem Vl.k0 {b : Addr} {H H' : Hp} {v : V} {d : PyData} (h : Vl b H v d) (k : Kp [] H H') : Vl b H' v d := Vl.kp k.all d v h
/-- no truth value stands where a whole number should -/
def okv : PyData → Bool
  | .tuple [_, .bool _, _] => false
  | .tuple [_, _, .bool _] => false
  | _ => true
structure Val (b : Addr) (H : Hp) (v : V) : Prop where
  ex : ∃ d, Vl b H v d ∧ SeqAt.shaped d = true ∧ okv d = true
theorem Val.k1 {b : Addr} {H H' : Hp} {v : V} (h : Val b H v) (k : Kp [b] H H') : Val b H' v := by
  obtain ⟨d, h1, h2⟩ := h.ex
  exact ⟨d, Vl.kp k d v h1, h2⟩
/-- the value is the certificate -/
def cerB (d : PyData) (s : Str) (i j : Int) : Bool := match d with
  | .tuple [.str t, .int k, .int l] => decide (t = s) && (decide (k = i) && decide (l = j))
  | _ => false
def isS : PyData → Bool
  | .str _ => true
  | _ => false
def isI : PyData → Bool
  | .int _ => true
  | _ => false
def isTu : PyData → Bool
  | .tuple _ => true
  | _ => false
theorem cer_of (a b c : PyData) (s : Str) (i j : Int) : cerB (.tuple [a, b, c]) s i j = (isS a && ((isI b && isI c) && PyData.eqv (.tuple [a, b, c]) (.tuple [.str s, .int i, .int j]))) := by
  cases a <;> cases b <;> cases c <;> simp [cerB, isS, isI, PyData.eqv, PyData.eqvAll, Bool.beq_eq_decide_eq]
theorem cer_okv {d : PyData} (h : okv d = true) (s : Str) (i j : Int) : cerB d s i j = PyData.eqv d (.tuple [.str s, .int i, .int j]) := by
  cases d with
  | tuple ds =>
    match ds with
    | [] => simp [cerB, PyData.eqv, PyData.eqvAll]
    | [a] => simp [cerB, PyData.eqv, PyData.eqvAll]
    | [a, b] => simp [cerB, PyData.eqv, PyData.eqvAll]
    | [a, b, c] =>
      rw [cer_of]
      cases a <;> cases b <;> cases c <;> simp_all [isS, isI, okv, PyData.eqv, PyData.eqvAll]
    | a :: b :: c :: d :: e => simp [cerB, PyData.eqv, PyData.eqvAll]
  | _ => simp [cerB, PyData.eqv]
theorem cer_len {ds : List PyData} (h : ds.length ≠ 3) (s : Str) (i j : Int) : cerB (.tuple ds) s i j = false := by
  match ds with
  | [] => rfl
  | [a] => simp [cerB]
  | [a, b] => simp [cerB]
  | [a, b, c] => exact absurd rfl h
  | a :: b :: c :: d :: e => simp [cerB]
theorem cer_tu {d : PyData} (h : isTu d = false) (s : Str) (i j : Int) : cerB d s i j = false := by
  cases d <;> simp_all [isTu, cerB]
/-! promises -/
section
def sp_Links_outs (K : PySem.W.Frag) : Sp := fun vs H Q E => ∃ (p r l o : Addr) (s : Sd), vs = [.ref p] ∧ LinksAt K H p r l o s ∧ ∀ q H', H q = none → Kp [] H H' → H' q = some (.lst ((outN s.n s.O).map V.int)) → Q (.ref q) H'
def sp_Verdict___init__ (K : PySem.W.Frag) : Sp := fun vs H Q E => ∃ (p l dx : Addr) (a b : V) (gone : List Int), vs = [.ref p, .ref l, a, b] ∧ H p = some (.ins (He.ga K "Verdict") dx []) ∧ p ≠ l ∧ SqL K H l (gone.map V.int) ∧ gone.length ≤ 1000 ∧ Isn a ∧
  ∀ g H', H g = none → Kp [p] H H' → VdAt K H' p g gone a b → Q .non H'
def sp_verdict (K : PySem.W.Frag) : Sp := fun vs H Q E => ∃ (a : Addr) (size : Int) (log : List Int), vs = [.int size, .ref a] ∧ SqL K H a (log.map V.int) ∧ log.length ≤ 1000 ∧ RepE K H size log E ∧
  (SizeOk size → Leg (wholeS size.toNat) log → ∀ x g v w H', Kp [] H H' → VdAt K H' x g (outS size.toNat log) v w → VF size.toNat log v w → Q (.ref x) H')
def sp__law_number_or_none (K : PySem.W.Frag) : Sp := fun vs H Q E => ∃ v : V, vs = [v, v] ∧ Isn v ∧ Q (.bl true) H
def sp__law_bears (K : PySem.W.Frag) : Sp := fun vs H Q E => ∃ (x g c : Addr) (gone : List Int) (v w : V), vs = [.ref x, .ref c, v, w] ∧ VdAt K H x g gone v w ∧ H c = some (.lst (gone.map V.int)) ∧ gone.length ≤ 1000 ∧ Isn v ∧ Isn w ∧ Q (.bl true) H
def sp10__law_book (K : PySem.W.Frag) : Sp := fun vs H Q E => ∃ (n : Nat) (a : Addr) (log : List Int), vs = [.int (n : Int), .ref a] ∧ n ≤ 60 ∧ SqL K H a (log.map V.int) ∧ log.length ≤ 1000 ∧ Leg (wholeS n) log ∧ ∀ q H', Kp [] H H' → BookAt H' q n log → Q (.ref q) H'
def sp__law_verdict_fits (K : PySem.W.Frag) : Sp := fun vs H Q E => ∃ (x g q : Addr) (n : Nat) (log : List Int) (v w : V), vs = [.ref x, .ref q] ∧ n ≤ 60 ∧ VdAt K H x g (outS n log) v w ∧ VF n log v w ∧ BookAt H q n log ∧ Q (.bl true) H
def sp__law_made (K : PySem.W.Frag) : Sp := fun vs H Q E => ∃ (c : Addr) (gone : List Int) (v w : V), vs = [.ref c, v, w] ∧ H c = some (.lst (gone.map V.int)) ∧ gone.length ≤ 10 ∧ Isn v ∧ Isn w ∧ ∀ H', Kp [] H H' → Q (.bl true) H'
def sp__law_is_paper (K : PySem.W.Frag) : Sp := fun vs H Q E => ∃ (t u : Addr) (s : Str) (i j : Int), vs = [.ref t, .ref u] ∧ H t = some (.tup [.str s, .int i, .int j]) ∧ H u = some (.tup [.str s, .int i, .int j]) ∧ Q (.bl true) H
def sp__law_bents (K : PySem.W.Frag) : Sp := fun vs H Q E => ∃ (b u o : Addr) (by_ i j i' j' : Int) (s s' : Str), vs = [.ref u, .ref o, .int by_] ∧ H u = some (.tup [.str s, .int i, .int j]) ∧ H o = some (.tup [.str s', .int i', .int j']) ∧ PyData.strOk s = true ∧ PyData.strOk s' = true ∧
  -2000 ≤ i ∧ i ≤ 2000 ∧ u ≠ b ∧ o ≠ b ∧ H b ≠ none ∧ ∀ q xs H', H q = none → Kp [] H H' → H' q = some (.lst xs) → 1 ≤ xs.length → xs.length ≤ 100 → (∀ x ∈ xs, Val b H' x) → Q (.ref q) H'
def sp_is_plain_integer (K : PySem.W.Frag) : Sp := fun vs H Q E => ∃ (b : Addr) (x : V) (d : PyData), vs = [x] ∧ Vl b H x d ∧ Q (.bl (isI d)) H
def sp_gap_certificate (K : PySem.W.Frag) : Sp := fun vs H Q E => ∃ (a : Addr) (size g : Int) (log : List Int), vs = [.int size, .ref a, .int g] ∧ SqL K H a (log.map V.int) ∧ log.length ≤ 1000 ∧ RepE K H size log E ∧
  (SizeOk size → Leg (wholeS size.toNat) log → ¬ (0 ≤ g ∧ g ≤ size) → ∀ H', Kp [] H H' → Ex K "BadGap" [("gap", .int g)] E H') ∧
  (SizeOk size → Leg (wholeS size.toNat) log → 0 ≤ g → g ≤ size → ∀ t H', Kp [] H H' → H' t = some (.tup (paper size.toNat log g.toNat)) → Q (.ref t) H')
def sp_is_gap_certificate (K : PySem.W.Frag) : Sp := fun vs H Q E => ∃ (a b : Addr) (size g : Int) (log : List Int) (x : V) (d : PyData), vs = [.int size, .ref a, .int g, x] ∧ SqL K H a (log.map V.int) ∧ log.length ≤ 1000 ∧ Vl b H x d ∧ SeqAt.shaped d = true ∧ RepE K H size log E ∧
  (SizeOk size → Leg (wholeS size.toNat) log → ¬ (0 ≤ g ∧ g ≤ size) → ∀ H', Kp [] H H' → Ex K "BadGap" [("gap", .int g)] E H') ∧
  (SizeOk size → Leg (wholeS size.toNat) log → 0 ≤ g → g ≤ size → ∀ H', Kp [] H H' → Q (.bl (cerB d (stT (runS (wholeS size.toNat) log) g.toNat) (gI (bkR size.toNat log).wr g.toNat) (gI (bkR size.toNat log).wl g.toNat))) H')
def sp__law_judged (K : PySem.W.Frag) : Sp := fun vs H Q E => ∃ (n g : Nat) (a b u : Addr) (log : List Int) (x : V) (d : PyData), vs = [.int (n : Int), .ref a, .int (g : Int), x, .ref u] ∧ n ≤ 60 ∧ g ≤ n ∧ SqL K H a (log.map V.int) ∧ log.length ≤ 1000 ∧ Leg (wholeS n) log ∧
  Vl b H x d ∧ SeqAt.shaped d = true ∧ okv d = true ∧ H u = some (.tup (paper n log g)) ∧ ∀ H', Kp [] H H' → Q (.bl true) H'
def sp__law_papers_fit (K : PySem.W.Frag) : Sp := fun vs H Q E => ∃ (n : Nat) (a c p b : Addr) (log gs : List Int), vs = [.int (n : Int), .ref a, .ref c, .ref p, .ref b] ∧ n ≤ 60 ∧ H a = some (.lst (log.map V.int)) ∧ log.length ≤ 1000 ∧ Leg (wholeS n) log ∧ H c = some (.lst (gs.map V.int)) ∧ gs ≠ [] ∧
  (∀ g ∈ gs, 0 ≤ g ∧ g ≤ n) ∧ gs.length ≤ 1000 ∧ PapersAt H p n log ∧ Bag H b ∧ a ≠ b ∧ c ≠ b ∧ p ≠ b ∧ ∀ H', Kp [b] H H' → Bag H' b → Q (.bl true) H'
def sp10__law_agrees (K : PySem.W.Frag) : Sp := fun vs H Q E => ∃ (n : Nat) (a c b : Addr) (log gs : List Int), vs = [.int (n : Int), .ref a, .ref c, .ref b] ∧ n ≤ 60 ∧ H a = some (.lst (log.map V.int)) ∧ log.length ≤ 1000 ∧ Leg (wholeS n) log ∧ H c = some (.lst (gs.map V.int)) ∧ gs ≠ [] ∧
  (∀ g ∈ gs, 0 ≤ g ∧ g ≤ n) ∧ gs.length ≤ 1000 ∧ Bag H b ∧ a ≠ b ∧ c ≠ b ∧ ∀ H', Kp [b] H H' → Bag H' b → Q (.bl true) H'
def sp10__law_answer (K : PySem.W.Frag) : Sp := fun vs H Q E => ∃ (way size g : Int) (a : Addr) (log : List Int), vs = [.int way, .int size, .ref a, .int g] ∧ (way ≤ 1 ∨ g = 0) ∧ 0 ≤ way ∧ way ≤ 2 ∧ SqL K H a (log.map V.int) ∧ log.length ≤ 1000 ∧ ∀ xs t H', FltV size log g xs → Kp [] H H' → H' t = some (.tup xs) → Q (.ref t) H'
def sp10__law_places (K : PySem.W.Frag) : Sp := fun vs H Q E => ∃ (b a : Addr) (n : Nat) (log : List Int), vs = [.ref b, .int (n : Int), .ref a] ∧ n ≤ 60 ∧ Bag H b ∧ a ≠ b ∧ H a = some (.lst (log.map V.int)) ∧ log.length ≤ 500 ∧ (∀ x ∈ log, IsOp n x) ∧ ∀ (gs : List Int) (q : Addr) H', H q = none → gs ≠ [] → gs.length ≤ 100 → (∀ g ∈ gs, 0 ≤ g ∧ g ≤ n) → Kp [b] H H' → Bag H' b → H' q = some (.lst (gs.map V.int)) → Q (.ref q) H'
end
end G

set_option Elab.async false
set_option linter.all false
set_option maxRecDepth 100000
set_option maxHeartbeats 4000000

namespace G
open PySem PySem.Spec PyProof.Rows L2
def top (i : Nat) : Stmt := PySem.Challenge.pw_latelink_k10_whole_verdicts_of_logs.main.body.getD i (.Pass ⟨0, 0, 0, 0⟩)
abbrev s__law_state : Stmt := top 47
abbrev s__law_step : Stmt := top 48
abbrev s__law_whole : Stmt := top 44
abbrev s__law_book : Stmt := top 52
abbrev s__law_bents : Stmt := top 57
abbrev s__law_draw : Stmt := top 42
abbrev s__law_whole_number : Stmt := top 49
abbrev s__law_is_paper : Stmt := top 56
abbrev s_Links_left : Stmt := inClass (top 13) 7
abbrev s_Links_right : Stmt := inClass (top 13) 8
abbrev s_check_gap : Stmt := top 29
abbrev s_gap_state : Stmt := top 27
abbrev s_check_size : Stmt := top 14
abbrev s_Links___init__ : Stmt := inClass (top 13) 1
abbrev s_Links_is_legal : Stmt := inClass (top 13) 11
abbrev s_check_operation : Stmt := top 15
abbrev s_Links_check : Stmt := inClass (top 13) 12
abbrev s_Links_apply_at : Stmt := inClass (top 13) 14
abbrev s_Links_copy : Stmt := inClass (top 13) 19
abbrev s_play : Stmt := top 25
abbrev s_replay : Stmt := top 24
abbrev s__links_of_operations : Stmt := top 33
abbrev s_writers : Stmt := top 31
abbrev s_gap_certificate : Stmt := top 37
abbrev s_is_plain_integer : Stmt := top 39
abbrev s_is_gap_certificate : Stmt := top 38
abbrev s__law_judged : Stmt := top 58
abbrev s__law_papers_fit : Stmt := top 59
abbrev s__law_number_or_none : Stmt := top 51
abbrev s__law_numbers : Stmt := top 50
abbrev s__law_bears : Stmt := top 53
abbrev s__law_verdict_fits : Stmt := top 54
abbrev s_Links_outs : Stmt := inClass (top 13) 10
abbrev s_Verdict___init__ : Stmt := inClass (top 35) 0
abbrev s_Links_apply : Stmt := inClass (top 13) 13
abbrev s_decided_by : Stmt := top 32
abbrev s_gap_states : Stmt := top 28
abbrev s_verdict : Stmt := top 36
abbrev s__law_agrees : Stmt := top 60
abbrev s__law_bag : Stmt := top 41
abbrev s__law_planted : Stmt := top 45
abbrev s__law_log : Stmt := top 46
abbrev s__law_made : Stmt := top 55
abbrev s__law_places : Stmt := top 64
abbrev s__law_answer : Stmt := top 65
abbrev s__law_fault : Stmt := top 61
abbrev s__law_refuses : Stmt := top 66
abbrev s__law_size : Stmt := top 43
abbrev s__law_spoilt : Stmt := top 62
abbrev s__law_trials : Stmt := top 63
abbrev s_law : Stmt := top 67
abbrev s_BadGap___init__ : Stmt := inClass (top 8) 0
abbrev s_BadNode___init__ : Stmt := inClass (top 7) 0
abbrev s_BadSize___init__ : Stmt := inClass (top 6) 0
abbrev s_LogError___init__ : Stmt := inClass (top 3) 0
theorem sc__law_state : FnScope ["world", "place", "from_left", "from_right"] ["world", "place"] (defScope s__law_state) := ⟨rfl, rfl, rfl, by decide +kernel, rfl, by decide +kernel, by decide +kernel⟩
theorem sc__law_step : FnScope ["world", "deed", "node", "low", "high", "rights", "lefts", "flags"] ["world", "deed"] (defScope s__law_step) := ⟨rfl, rfl, rfl, by decide +kernel, rfl, by decide +kernel, by decide +kernel⟩
theorem sc__law_whole : FnScope ["size", "rights", "lefts", "node"] ["size"] (defScope s__law_whole) := ⟨rfl, rfl, rfl, by decide +kernel, rfl, by decide +kernel, by decide +kernel⟩
theorem sc__law_book : FnScope ["size", "deeds", "world", "by_right", "by_left", "settled", "k", "node", "low", "high", "before", "papers", "gone", "place"] ["size", "deeds"] (defScope s__law_book) := ⟨rfl, rfl, rfl, by decide +kernel, rfl, by decide +kernel, by decide +kernel⟩
theorem sc__law_bents : FnScope ["due", "other", "by", "state", "one", "two", "bents", "word"] ["due", "other", "by"] (defScope s__law_bents) := ⟨rfl, rfl, rfl, by decide +kernel, rfl, by decide +kernel, by decide +kernel⟩
theorem sc__law_draw : FnScope ["bag", "many", "digit"] ["bag", "many"] (defScope s__law_draw) := ⟨rfl, rfl, rfl, by decide +kernel, rfl, by decide +kernel, by decide +kernel⟩
theorem sc__law_whole_number : FnScope ["told"] ["told"] (defScope s__law_whole_number) := ⟨rfl, rfl, rfl, by decide +kernel, rfl, by decide +kernel, by decide +kernel⟩
theorem sc__law_is_paper : FnScope ["told", "due"] ["told", "due"] (defScope s__law_is_paper) := ⟨rfl, rfl, rfl, by decide +kernel, rfl, by decide +kernel, by decide +kernel⟩
theorem sc_Links_left : FnScope ["self", "node"] ["self", "node"] (defScope s_Links_left) := ⟨rfl, rfl, rfl, by decide +kernel, rfl, by decide +kernel, by decide +kernel⟩
theorem sc_Links_right : FnScope ["self", "node"] ["self", "node"] (defScope s_Links_right) := ⟨rfl, rfl, rfl, by decide +kernel, rfl, by decide +kernel, by decide +kernel⟩
theorem sc_check_gap : FnScope ["size", "gap"] ["size", "gap"] (defScope s_check_gap) := ⟨rfl, rfl, rfl, by decide +kernel, rfl, by decide +kernel, by decide +kernel⟩
theorem sc_gap_state : FnScope ["links", "gap", "is_held_left", "is_held_right"] ["links", "gap"] (defScope s_gap_state) := ⟨rfl, rfl, rfl, by decide +kernel, rfl, by decide +kernel, by decide +kernel⟩
theorem sc_check_size : FnScope ["size"] ["size"] (defScope s_check_size) := ⟨rfl, rfl, rfl, by decide +kernel, rfl, by decide +kernel, by decide +kernel⟩
theorem sc_Links___init__ : FnScope ["self", "size"] ["self", "size"] (defScope s_Links___init__) := ⟨rfl, rfl, rfl, by decide +kernel, rfl, by decide +kernel, by decide +kernel⟩
theorem sc_Links_is_legal : FnScope ["self", "operation"] ["self", "operation"] (defScope s_Links_is_legal) := ⟨rfl, rfl, rfl, by decide +kernel, rfl, by decide +kernel, by decide +kernel⟩
theorem sc_check_operation : FnScope ["size", "operation", "index"] ["size", "operation", "index"] (defScope s_check_operation) := ⟨rfl, rfl, rfl, by decide +kernel, rfl, by decide +kernel, by decide +kernel⟩
theorem sc_Links_check : FnScope ["self", "operation", "index"] ["self", "operation", "index"] (defScope s_Links_check) := ⟨rfl, rfl, rfl, by decide +kernel, rfl, by decide +kernel, by decide +kernel⟩
theorem sc_Links_apply_at : FnScope ["self", "operation", "index", "node", "low", "high", "is_unlink"] ["self", "operation", "index"] (defScope s_Links_apply_at) := ⟨rfl, rfl, rfl, by decide +kernel, rfl, by decide +kernel, by decide +kernel⟩
theorem sc_Links_copy : FnScope ["self", "twin"] ["self"] (defScope s_Links_copy) := ⟨rfl, rfl, rfl, by decide +kernel, rfl, by decide +kernel, by decide +kernel⟩
theorem sc_play : FnScope ["links", "log", "after", "index", "operation"] ["links", "log"] (defScope s_play) := ⟨rfl, rfl, rfl, by decide +kernel, rfl, by decide +kernel, by decide +kernel⟩
theorem sc_replay : FnScope ["size", "log"] ["size", "log"] (defScope s_replay) := ⟨rfl, rfl, rfl, by decide +kernel, rfl, by decide +kernel, by decide +kernel⟩
theorem sc__links_of_operations : FnScope ["size", "log", "links", "touched", "index", "operation", "node"] ["size", "log"] (defScope s__links_of_operations) := ⟨rfl, rfl, rfl, by decide +kernel, rfl, by decide +kernel, by decide +kernel⟩
theorem sc_writers : FnScope ["size", "log", "touched", "right_writes", "left_writes", "index", "_", "low", "high"] ["size", "log"] (defScope s_writers) := ⟨rfl, rfl, rfl, by decide +kernel, rfl, by decide +kernel, by decide +kernel⟩
theorem sc_gap_certificate : FnScope ["size", "log", "gap", "right_writes", "left_writes", "state"] ["size", "log", "gap"] (defScope s_gap_certificate) := ⟨rfl, rfl, rfl, by decide +kernel, rfl, by decide +kernel, by decide +kernel⟩
theorem sc_is_plain_integer : FnScope ["value"] ["value"] (defScope s_is_plain_integer) := ⟨rfl, rfl, rfl, by decide +kernel, rfl, by decide +kernel, by decide +kernel⟩
theorem sc_is_gap_certificate : FnScope ["size", "log", "gap", "value", "certificate", "state", "right_write", "left_write", "are_integers"] ["size", "log", "gap", "value"] (defScope s_is_gap_certificate) := ⟨rfl, rfl, rfl, by decide +kernel, rfl, by decide +kernel, by decide +kernel⟩
theorem sc__law_judged : FnScope ["size", "deeds", "place", "value", "due", "told"] ["size", "deeds", "place", "value", "due"] (defScope s__law_judged) := ⟨rfl, rfl, rfl, by decide +kernel, rfl, by decide +kernel, by decide +kernel⟩
theorem sc__law_papers_fit : FnScope ["size", "deeds", "places", "papers", "bag", "far", "place", "due", "bents", "picked", "value", "at", "bent", "turn"] ["size", "deeds", "places", "papers", "bag"] (defScope s__law_papers_fit) := ⟨rfl, rfl, rfl, by decide +kernel, rfl, by decide +kernel, by decide +kernel⟩
theorem sc__law_number_or_none : FnScope ["told", "due"] ["told", "due"] (defScope s__law_number_or_none) := ⟨rfl, rfl, rfl, by decide +kernel, rfl, by decide +kernel, by decide +kernel⟩
theorem sc__law_numbers : FnScope ["told", "due", "k"] ["told", "due"] (defScope s__law_numbers) := ⟨rfl, rfl, rfl, by decide +kernel, rfl, by decide +kernel, by decide +kernel⟩
theorem sc__law_bears : FnScope ["told", "gone", "place", "k"] ["told", "gone", "place", "k"] (defScope s__law_bears) := ⟨rfl, rfl, rfl, by decide +kernel, rfl, by decide +kernel, by decide +kernel⟩
theorem sc__law_verdict_fits : FnScope ["told", "book", "place"] ["told", "book"] (defScope s__law_verdict_fits) := ⟨rfl, rfl, rfl, by decide +kernel, rfl, by decide +kernel, by decide +kernel⟩
theorem sc_Links_outs : FnScope ["self", "node"] ["self"] (defScope s_Links_outs) := ⟨rfl, rfl, rfl, by decide +kernel, rfl, by decide +kernel, by decide +kernel⟩
theorem sc_Verdict___init__ : FnScope ["self", "out_nodes", "gap", "index"] ["self", "out_nodes", "gap", "index"] (defScope s_Verdict___init__) := ⟨rfl, rfl, rfl, by decide +kernel, rfl, by decide +kernel, by decide +kernel⟩
theorem sc_Links_apply : FnScope ["self", "operation"] ["self", "operation"] (defScope s_Links_apply) := ⟨rfl, rfl, rfl, by decide +kernel, rfl, by decide +kernel, by decide +kernel⟩
theorem sc_decided_by : FnScope ["size", "log", "gap", "links", "state", "decided", "index", "operation", "before"] ["size", "log", "gap"] (defScope s_decided_by) := ⟨rfl, rfl, rfl, by decide +kernel, rfl, by decide +kernel, by decide +kernel⟩
theorem sc_gap_states : FnScope ["links", "gap"] ["links"] (defScope s_gap_states) := ⟨rfl, rfl, rfl, by decide +kernel, rfl, by decide +kernel, by decide +kernel⟩
theorem sc_verdict : FnScope ["size", "log", "links", "gap", "state"] ["size", "log"] (defScope s_verdict) := ⟨rfl, rfl, rfl, by decide +kernel, rfl, by decide +kernel, by decide +kernel⟩
theorem sc__law_agrees : FnScope ["size", "deeds", "places", "bag", "book", "given"] ["size", "deeds", "places", "bag"] (defScope s__law_agrees) := ⟨rfl, rfl, rfl, by decide +kernel, rfl, by decide +kernel, by decide +kernel⟩
theorem sc__law_bag : FnScope ["script", "lane", "mixed", "k", "cell"] ["script", "lane"] (defScope s__law_bag) := ⟨rfl, rfl, rfl, by decide +kernel, rfl, by decide +kernel, by decide +kernel⟩
theorem sc__law_planted : FnScope ["bag", "size", "way", "turned", "rows", "span", "row", "low", "deed"] ["bag", "size"] (defScope s__law_planted) := ⟨rfl, rfl, rfl, by decide +kernel, rfl, by decide +kernel, by decide +kernel⟩
theorem sc__law_log : FnScope ["bag", "size", "deeds", "gone", "deed", "width", "low", "count", "turn", "node", "rest"] ["bag", "size"] (defScope s__law_log) := ⟨rfl, rfl, rfl, by decide +kernel, rfl, by decide +kernel, by decide +kernel⟩
theorem sc__law_made : FnScope ["gone", "place", "k", "given", "made"] ["gone", "place", "k"] (defScope s__law_made) := ⟨rfl, rfl, rfl, by decide +kernel, rfl, by decide +kernel, by decide +kernel⟩
theorem sc__law_places : FnScope ["bag", "size", "deeds", "places", "turn", "node", "place"] ["bag", "size", "deeds"] (defScope s__law_places) := ⟨rfl, rfl, rfl, by decide +kernel, rfl, by decide +kernel, by decide +kernel⟩
theorem sc__law_answer : FnScope ["way", "size", "deeds", "place", "raised"] ["way", "size", "deeds", "place"] (defScope s__law_answer) := ⟨rfl, rfl, rfl, by decide +kernel, rfl, by decide +kernel, by decide +kernel⟩
theorem sc__law_fault : FnScope ["size", "deeds", "place", "gone", "k", "node"] ["size", "deeds", "place"] (defScope s__law_fault) := ⟨rfl, rfl, rfl, by decide +kernel, rfl, by decide +kernel, by decide +kernel⟩
theorem sc__law_refuses : FnScope ["trials", "trial", "due", "way"] ["trials"] (defScope s__law_refuses) := ⟨rfl, rfl, rfl, by decide +kernel, rfl, by decide +kernel, by decide +kernel⟩
theorem sc__law_size : FnScope ["bag", "way"] ["bag"] (defScope s__law_size) := ⟨rfl, rfl, rfl, by decide +kernel, rfl, by decide +kernel, by decide +kernel⟩
theorem sc__law_spoilt : FnScope ["bag", "size", "deeds", "at", "way", "far", "wrong", "node", "past", "bent", "deed"] ["bag", "size", "deeds"] (defScope s__law_spoilt) := ⟨rfl, rfl, rfl, by decide +kernel, rfl, by decide +kernel, by decide +kernel⟩
theorem sc__law_trials : FnScope ["bag", "size", "deeds", "bent", "far", "trials"] ["bag", "size", "deeds"] (defScope s__law_trials) := ⟨rfl, rfl, rfl, by decide +kernel, rfl, by decide +kernel, by decide +kernel⟩
theorem sc_law : FnScope ["script", "bag", "more", "size", "deeds", "cut", "places", "few", "node", "k"] ["script"] (defScope s_law) := ⟨rfl, rfl, rfl, by decide +kernel, rfl, by decide +kernel, by decide +kernel⟩
theorem sc_BadGap___init__ : FnScope ["self", "gap"] ["self", "gap"] (defScope s_BadGap___init__) := ⟨rfl, rfl, rfl, by decide +kernel, rfl, by decide +kernel, by decide +kernel⟩
theorem sc_BadNode___init__ : FnScope ["self", "node"] ["self", "node"] (defScope s_BadNode___init__) := ⟨rfl, rfl, rfl, by decide +kernel, rfl, by decide +kernel, by decide +kernel⟩
theorem sc_BadSize___init__ : FnScope ["self", "size"] ["self", "size"] (defScope s_BadSize___init__) := ⟨rfl, rfl, rfl, by decide +kernel, rfl, by decide +kernel, by decide +kernel⟩
theorem sc_LogError___init__ : FnScope ["self", "operation", "index"] ["self", "operation", "index"] (defScope s_LogError___init__) := ⟨rfl, rfl, rfl, by decide +kernel, rfl, by decide +kernel, by decide +kernel⟩
def d__law_state : He.DefD := ⟨("_law_state", none), "_law_state", "_law_state", defArgs s__law_state, defBody s__law_state, defScope s__law_state, [], []⟩
def d__law_step : He.DefD := ⟨("_law_step", none), "_law_step", "_law_step", defArgs s__law_step, defBody s__law_step, defScope s__law_step, [], []⟩
def d__law_whole : He.DefD := ⟨("_law_whole", none), "_law_whole", "_law_whole", defArgs s__law_whole, defBody s__law_whole, defScope s__law_whole, [], []⟩
def d__law_book : He.DefD := ⟨("_law_book", none), "_law_book", "_law_book", defArgs s__law_book, defBody s__law_book, defScope s__law_book, [], []⟩
def d__law_bents : He.DefD := ⟨("_law_bents", none), "_law_bents", "_law_bents", defArgs s__law_bents, defBody s__law_bents, defScope s__law_bents, [], []⟩
def d__law_draw : He.DefD := ⟨("_law_draw", none), "_law_draw", "_law_draw", defArgs s__law_draw, defBody s__law_draw, defScope s__law_draw, [], []⟩
def d__law_whole_number : He.DefD := ⟨("_law_whole_number", none), "_law_whole_number", "_law_whole_number", defArgs s__law_whole_number, defBody s__law_whole_number, defScope s__law_whole_number, [], []⟩
def d__law_is_paper : He.DefD := ⟨("_law_is_paper", none), "_law_is_paper", "_law_is_paper", defArgs s__law_is_paper, defBody s__law_is_paper, defScope s__law_is_paper, [], []⟩
def d_Links_left : He.DefD := ⟨("Links", some "left"), "left", "Links.left", defArgs s_Links_left, defBody s_Links_left, defScope s_Links_left, [], []⟩
def d_Links_right : He.DefD := ⟨("Links", some "right"), "right", "Links.right", defArgs s_Links_right, defBody s_Links_right, defScope s_Links_right, [], []⟩
def d_check_gap : He.DefD := ⟨("check_gap", none), "check_gap", "check_gap", defArgs s_check_gap, defBody s_check_gap, defScope s_check_gap, [], []⟩
def d_gap_state : He.DefD := ⟨("gap_state", none), "gap_state", "gap_state", defArgs s_gap_state, defBody s_gap_state, defScope s_gap_state, [], []⟩
def d_check_size : He.DefD := ⟨("check_size", none), "check_size", "check_size", defArgs s_check_size, defBody s_check_size, defScope s_check_size, [], []⟩
def d_Links___init__ : He.DefD := ⟨("Links", some "__init__"), "__init__", "Links.__init__", defArgs s_Links___init__, defBody s_Links___init__, defScope s_Links___init__, [], []⟩
def d_Links_is_legal : He.DefD := ⟨("Links", some "is_legal"), "is_legal", "Links.is_legal", defArgs s_Links_is_legal, defBody s_Links_is_legal, defScope s_Links_is_legal, [], []⟩
def d_check_operation : He.DefD := ⟨("check_operation", none), "check_operation", "check_operation", defArgs s_check_operation, defBody s_check_operation, defScope s_check_operation, [], []⟩
def d_Links_check : He.DefD := ⟨("Links", some "check"), "check", "Links.check", defArgs s_Links_check, defBody s_Links_check, defScope s_Links_check, [], []⟩
def d_Links_apply_at : He.DefD := ⟨("Links", some "apply_at"), "apply_at", "Links.apply_at", defArgs s_Links_apply_at, defBody s_Links_apply_at, defScope s_Links_apply_at, [], []⟩
def d_Links_copy : He.DefD := ⟨("Links", some "copy"), "copy", "Links.copy", defArgs s_Links_copy, defBody s_Links_copy, defScope s_Links_copy, [], []⟩
def d_play : He.DefD := ⟨("play", none), "play", "play", defArgs s_play, defBody s_play, defScope s_play, [], []⟩
def d_replay : He.DefD := ⟨("replay", none), "replay", "replay", defArgs s_replay, defBody s_replay, defScope s_replay, [], []⟩
def d__links_of_operations : He.DefD := ⟨("_links_of_operations", none), "_links_of_operations", "_links_of_operations", defArgs s__links_of_operations, defBody s__links_of_operations, defScope s__links_of_operations, [], []⟩
def d_writers : He.DefD := ⟨("writers", none), "writers", "writers", defArgs s_writers, defBody s_writers, defScope s_writers, [], []⟩
def d_gap_certificate : He.DefD := ⟨("gap_certificate", none), "gap_certificate", "gap_certificate", defArgs s_gap_certificate, defBody s_gap_certificate, defScope s_gap_certificate, [], []⟩
def d_is_plain_integer : He.DefD := ⟨("is_plain_integer", none), "is_plain_integer", "is_plain_integer", defArgs s_is_plain_integer, defBody s_is_plain_integer, defScope s_is_plain_integer, [], []⟩
def d_is_gap_certificate : He.DefD := ⟨("is_gap_certificate", none), "is_gap_certificate", "is_gap_certificate", defArgs s_is_gap_certificate, defBody s_is_gap_certificate, defScope s_is_gap_certificate, [], []⟩
def d__law_judged : He.DefD := ⟨("_law_judged", none), "_law_judged", "_law_judged", defArgs s__law_judged, defBody s__law_judged, defScope s__law_judged, [], []⟩
def d__law_papers_fit : He.DefD := ⟨("_law_papers_fit", none), "_law_papers_fit", "_law_papers_fit", defArgs s__law_papers_fit, defBody s__law_papers_fit, defScope s__law_papers_fit, [], []⟩
def d__law_number_or_none : He.DefD := ⟨("_law_number_or_none", none), "_law_number_or_none", "_law_number_or_none", defArgs s__law_number_or_none, defBody s__law_number_or_none, defScope s__law_number_or_none, [], []⟩
def d__law_numbers : He.DefD := ⟨("_law_numbers", none), "_law_numbers", "_law_numbers", defArgs s__law_numbers, defBody s__law_numbers, defScope s__law_numbers, [], []⟩
def d__law_bears : He.DefD := ⟨("_law_bears", none), "_law_bears", "_law_bears", defArgs s__law_bears, defBody s__law_bears, defScope s__law_bears, [], []⟩
def d__law_verdict_fits : He.DefD := ⟨("_law_verdict_fits", none), "_law_verdict_fits", "_law_verdict_fits", defArgs s__law_verdict_fits, defBody s__law_verdict_fits, defScope s__law_verdict_fits, [], []⟩
def d_Links_outs : He.DefD := ⟨("Links", some "outs"), "outs", "Links.outs", defArgs s_Links_outs, defBody s_Links_outs, defScope s_Links_outs, [], []⟩
def d_Verdict___init__ : He.DefD := ⟨("Verdict", some "__init__"), "__init__", "Verdict.__init__", defArgs s_Verdict___init__, defBody s_Verdict___init__, defScope s_Verdict___init__, [], []⟩
def d_Links_apply : He.DefD := ⟨("Links", some "apply"), "apply", "Links.apply", defArgs s_Links_apply, defBody s_Links_apply, defScope s_Links_apply, [], []⟩
def d_decided_by : He.DefD := ⟨("decided_by", none), "decided_by", "decided_by", defArgs s_decided_by, defBody s_decided_by, defScope s_decided_by, [], []⟩
def d_gap_states : He.DefD := ⟨("gap_states", none), "gap_states", "gap_states", defArgs s_gap_states, defBody s_gap_states, defScope s_gap_states, [], []⟩
def d_verdict : He.DefD := ⟨("verdict", none), "verdict", "verdict", defArgs s_verdict, defBody s_verdict, defScope s_verdict, [], []⟩
def d__law_agrees : He.DefD := ⟨("_law_agrees", none), "_law_agrees", "_law_agrees", defArgs s__law_agrees, defBody s__law_agrees, defScope s__law_agrees, [], []⟩
def d__law_bag : He.DefD := ⟨("_law_bag", none), "_law_bag", "_law_bag", defArgs s__law_bag, defBody s__law_bag, defScope s__law_bag, [], []⟩
def d__law_planted : He.DefD := ⟨("_law_planted", none), "_law_planted", "_law_planted", defArgs s__law_planted, defBody s__law_planted, defScope s__law_planted, [], []⟩
def d__law_log : He.DefD := ⟨("_law_log", none), "_law_log", "_law_log", defArgs s__law_log, defBody s__law_log, defScope s__law_log, [], []⟩
def d__law_made : He.DefD := ⟨("_law_made", none), "_law_made", "_law_made", defArgs s__law_made, defBody s__law_made, defScope s__law_made, [], []⟩
def d__law_places : He.DefD := ⟨("_law_places", none), "_law_places", "_law_places", defArgs s__law_places, defBody s__law_places, defScope s__law_places, [], []⟩
def d__law_answer : He.DefD := ⟨("_law_answer", none), "_law_answer", "_law_answer", defArgs s__law_answer, defBody s__law_answer, defScope s__law_answer, [], []⟩
def d__law_fault : He.DefD := ⟨("_law_fault", none), "_law_fault", "_law_fault", defArgs s__law_fault, defBody s__law_fault, defScope s__law_fault, [], []⟩
def d__law_refuses : He.DefD := ⟨("_law_refuses", none), "_law_refuses", "_law_refuses", defArgs s__law_refuses, defBody s__law_refuses, defScope s__law_refuses, [], []⟩
def d__law_size : He.DefD := ⟨("_law_size", none), "_law_size", "_law_size", defArgs s__law_size, defBody s__law_size, defScope s__law_size, [], []⟩
def d__law_spoilt : He.DefD := ⟨("_law_spoilt", none), "_law_spoilt", "_law_spoilt", defArgs s__law_spoilt, defBody s__law_spoilt, defScope s__law_spoilt, [], []⟩
def d__law_trials : He.DefD := ⟨("_law_trials", none), "_law_trials", "_law_trials", defArgs s__law_trials, defBody s__law_trials, defScope s__law_trials, [], []⟩
def d_law : He.DefD := ⟨("law", none), "law", "law", defArgs s_law, defBody s_law, defScope s_law, [], []⟩
def d_BadGap___init__ : He.DefD := ⟨("BadGap", some "__init__"), "__init__", "BadGap.__init__", defArgs s_BadGap___init__, defBody s_BadGap___init__, defScope s_BadGap___init__, [], []⟩
def d_BadNode___init__ : He.DefD := ⟨("BadNode", some "__init__"), "__init__", "BadNode.__init__", defArgs s_BadNode___init__, defBody s_BadNode___init__, defScope s_BadNode___init__, [], []⟩
def d_BadSize___init__ : He.DefD := ⟨("BadSize", some "__init__"), "__init__", "BadSize.__init__", defArgs s_BadSize___init__, defBody s_BadSize___init__, defScope s_BadSize___init__, [], []⟩
def d_LogError___init__ : He.DefD := ⟨("LogError", some "__init__"), "__init__", "LogError.__init__", defArgs s_LogError___init__, defBody s_LogError___init__, defScope s_LogError___init__, [], []⟩
def fnL : List He.DefD := [d__law_state, d__law_step, d__law_whole, d__law_book, d__law_bents, d__law_draw, d__law_whole_number, d__law_is_paper, d_Links_left, d_Links_right, d_check_gap, d_gap_state, d_check_size, d_Links___init__, d_Links_is_legal, d_check_operation, d_Links_check, d_Links_apply_at, d_Links_copy, d_play, d_replay, d__links_of_operations, d_writers, d_gap_certificate, d_is_plain_integer, d_is_gap_certificate, d__law_judged, d__law_papers_fit, d__law_number_or_none, d__law_numbers, d__law_bears, d__law_verdict_fits, d_Links_outs, d_Verdict___init__, d_Links_apply, d_decided_by, d_gap_states, d_verdict, d__law_agrees, d__law_bag, d__law_planted, d__law_log, d__law_made, d__law_places, d__law_answer, d__law_fault, d__law_refuses, d__law_size, d__law_spoilt, d__law_trials, d_law, d_BadGap___init__, d_BadNode___init__, d_BadSize___init__, d_LogError___init__]
def chkL : List Chk := [fa_ (.glo "LinkError"),
  fa_ (.glo "LogError"),
  fa_ (.glo "BadOperation"),
  fa_ (.glo "Illegal"),
  fa_ (.glo "BadSize"),
  fa_ (.glo "BadNode"),
  fa_ (.glo "BadGap"),
  fa_ (.glo "BadDump"),
  fa_ (.glo "Links"),
  fa_ (.glo "Verdict"),
  fa_ (.glo "_law_state"),
  fa_ (.glo "_law_step"),
  fa_ (.glo "_law_whole"),
  fa_ (.glo "_law_book"),
  fa_ (.glo "_law_bents"),
  fa_ (.glo "_law_draw"),
  fa_ (.glo "_law_whole_number"),
  fa_ (.glo "_law_is_paper"),
  fa_ (.glo "check_gap"),
  fa_ (.glo "gap_state"),
  fa_ (.glo "check_size"),
  fa_ (.glo "check_operation"),
  fa_ (.glo "play"),
  fa_ (.glo "replay"),
  fa_ (.glo "_links_of_operations"),
  fa_ (.glo "writers"),
  fa_ (.glo "gap_certificate"),
  fa_ (.glo "is_plain_integer"),
  fa_ (.glo "is_gap_certificate"),
  fa_ (.glo "_law_judged"),
  fa_ (.glo "_law_papers_fit"),
  fa_ (.glo "_law_number_or_none"),
  fa_ (.glo "_law_numbers"),
  fa_ (.glo "_law_bears"),
  fa_ (.glo "_law_verdict_fits"),
  fa_ (.glo "decided_by"),
  fa_ (.glo "gap_states"),
  fa_ (.glo "verdict"),
  fa_ (.glo "_law_agrees"),
  fa_ (.glo "_law_bag"),
  fa_ (.glo "_law_planted"),
  fa_ (.glo "_law_log"),
  fa_ (.glo "_law_made"),
  fa_ (.glo "_law_places"),
  fa_ (.glo "_law_answer"),
  fa_ (.glo "_law_fault"),
  fa_ (.glo "_law_refuses"),
  fa_ (.glo "_law_size"),
  fa_ (.glo "_law_spoilt"),
  fa_ (.glo "_law_trials"),
  fa_ (.glo "law"),
  fa_ (.free "ValueError"),
  fa_ (.free "abs"),
  fa_ (.free "bool"),
  fa_ (.free "enumerate"),
  fa_ (.free "int"),
  fa_ (.free "isinstance"),
  fa_ (.free "len"),
  fa_ (.free "list"),
  fa_ (.free "min"),
  fa_ (.free "range"),
  fa_ (.free "str"),
  fa_ (.free "tuple"),
  fa_ (.str "DIGITS" "0123456789"),
  fa_ (.int "MOST_DIGITS" 9),
  ccB "Links" "MOST" 60,
  fa_ (.cls "Links"),
  tyB "Links",
  fa_ (.noat "Links" "_lefts"),
  fa_ (.noat "Links" "_out"),
  fa_ (.noat "Links" "_rights"),
  fa_ (.noat "Links" "size"),
  fa_ (.meth "Links" "left"),
  fa_ (.meth "Links" "right"),
  fa_ (.mkr "Links"),
  fa_ (.meth "Links" "is_legal"),
  fa_ (.meth "Links" "check"),
  fa_ (.meth "Links" "apply_at"),
  fa_ (.meth "Links" "copy"),
  fa_ (.meth "Links" "outs"),
  fa_ (.meth "Links" "apply"),
  fa_ (.cls "Verdict"),
  tyB "Verdict",
  fa_ (.noat "Verdict" "gap"),
  fa_ (.noat "Verdict" "index"),
  fa_ (.noat "Verdict" "out_nodes"),
  fa_ (.noat "Verdict" "whole"),
  fa_ (.mkr "Verdict"),
  askB "BadDump",
  askB "BadGap",
  askB "BadNode",
  askB "BadOperation",
  askB "BadSize",
  askB "Illegal",
  askB "LinkError",
  askB "LogError",
  excB "BadGap" ["gap"],
  iniB "BadGap",
  kitB2 "BadGap" "BadDump" false,
  kitB2 "BadGap" "BadGap" true,
  kitB2 "BadGap" "BadNode" false,
  kitB2 "BadGap" "BadOperation" false,
  kitB2 "BadGap" "BadSize" false,
  kitB2 "BadGap" "Illegal" false,
  kitB2 "BadGap" "LinkError" true,
  exmB "BadGap" "LinkError" true,
  kitB2 "BadGap" "LogError" false,
  kitT2 "BadGap" "ValueError" true,
  excB "BadNode" ["node"],
  iniB "BadNode",
  kitB2 "BadNode" "BadDump" false,
  kitB2 "BadNode" "BadGap" false,
  kitB2 "BadNode" "BadNode" true,
  kitB2 "BadNode" "BadOperation" false,
  kitB2 "BadNode" "BadSize" false,
  kitB2 "BadNode" "Illegal" false,
  kitB2 "BadNode" "LinkError" true,
  exmB "BadNode" "LinkError" true,
  kitB2 "BadNode" "LogError" false,
  kitT2 "BadNode" "ValueError" true,
  excB "BadOperation" ["operation", "index"],
  iniB "BadOperation",
  (fun K => decide (He.ma K (He.ga K "BadOperation") "__init__" = He.ma K (He.ga K "LogError") "__init__")),
  kitB2 "BadOperation" "BadDump" false,
  kitB2 "BadOperation" "BadGap" false,
  kitB2 "BadOperation" "BadNode" false,
  kitB2 "BadOperation" "BadOperation" true,
  kitB2 "BadOperation" "BadSize" false,
  kitB2 "BadOperation" "Illegal" false,
  kitB2 "BadOperation" "LinkError" true,
  exmB "BadOperation" "LinkError" true,
  kitB2 "BadOperation" "LogError" true,
  kitT2 "BadOperation" "ValueError" true,
  excB "BadSize" ["size"],
  iniB "BadSize",
  kitB2 "BadSize" "BadDump" false,
  kitB2 "BadSize" "BadGap" false,
  kitB2 "BadSize" "BadNode" false,
  kitB2 "BadSize" "BadOperation" false,
  kitB2 "BadSize" "BadSize" true,
  kitB2 "BadSize" "Illegal" false,
  kitB2 "BadSize" "LinkError" true,
  exmB "BadSize" "LinkError" true,
  kitB2 "BadSize" "LogError" false,
  kitT2 "BadSize" "ValueError" true,
  excB "Illegal" ["operation", "index"],
  iniB "Illegal",
  (fun K => decide (He.ma K (He.ga K "Illegal") "__init__" = He.ma K (He.ga K "LogError") "__init__")),
  kitB2 "Illegal" "BadDump" false,
  kitB2 "Illegal" "BadGap" false,
  kitB2 "Illegal" "BadNode" false,
  kitB2 "Illegal" "BadOperation" false,
  kitB2 "Illegal" "BadSize" false,
  kitB2 "Illegal" "Illegal" true,
  kitB2 "Illegal" "LinkError" true,
  exmB "Illegal" "LinkError" true,
  kitB2 "Illegal" "LogError" true,
  kitT2 "Illegal" "ValueError" true]
abbrev R : PySem.W.OpenRow := PySem.W.OpenLaw.row PySem.Challenge.rw_latelink_k10_whole_verdicts_of_logs
abbrev hk : PySem.W.Hook := hookX 4 chkL fnL
def ob (s : PySem.W.SharedT) : He.AlD := obsXG 4 chkL fnL (HandSHeadRun.getT s)
theorem ob_eq (s : PySem.W.SharedT) : ob s = hk.obs s.abs := obsXG_eq (HandSHeadRun.getT_eq s)
def loose0 : List Str := ["_wall", "__name__", "LinkError", "LogError", "BadOperation", "Illegal", "BadSize", "BadNode", "BadGap", "BadDump", "DIGITS", "MOST_DIGITS", "Links", "check_size", "check_operation", "is_positive", "dump_of", "_joined", "_read_numbers", "_read_rights"]
def loose1 : List Str := ["_read_lefts", "_read_outs", "replay", "play", "gap_state", "gap_states", "check_gap", "writers", "decided_by", "_links_of_operations", "Verdict", "verdict", "gap_certificate", "is_gap_certificate", "is_plain_integer", "_law_bag", "_law_draw", "_law_size", "_law_whole", "_law_planted"]
def loose2 : List Str := ["_law_log", "_law_state", "_law_step", "_law_whole_number", "_law_numbers", "_law_number_or_none", "_law_book", "_law_bears", "_law_verdict_fits", "_law_made", "_law_is_paper", "_law_bents", "_law_judged", "_law_papers_fit", "_law_agrees", "_law_fault", "_law_spoilt", "_law_trials", "_law_places", "_law_answer"]
def loose3 : List Str := ["_law_refuses"]
def loose : List Str := loose0 ++ loose1 ++ loose2 ++ loose3
set_option maxHeartbeats 0 in
theorem run (w : World) : HandSHeadRun.RunEq R (PySem.W.view R.prog [67]) hk ob 8000 loose w := by
  intro os
  kernel_rfl
/-- what the top has written -/
structure Txt (K : PySem.W.Frag) (mg : Str → Option Value) : Prop where
  g_LinkError : mg "LinkError" = some (.ref (He.ga K "LinkError"))
  g_LogError : mg "LogError" = some (.ref (He.ga K "LogError"))
  g_BadOperation : mg "BadOperation" = some (.ref (He.ga K "BadOperation"))
  g_Illegal : mg "Illegal" = some (.ref (He.ga K "Illegal"))
  g_BadSize : mg "BadSize" = some (.ref (He.ga K "BadSize"))
  g_BadNode : mg "BadNode" = some (.ref (He.ga K "BadNode"))
  g_BadGap : mg "BadGap" = some (.ref (He.ga K "BadGap"))
  g_BadDump : mg "BadDump" = some (.ref (He.ga K "BadDump"))
  g_Links : mg "Links" = some (.ref (He.ga K "Links"))
  g_Verdict : mg "Verdict" = some (.ref (He.ga K "Verdict"))
  gf__law_state : mg "_law_state" = some (.ref (He.ga K "_law_state"))
  gf__law_step : mg "_law_step" = some (.ref (He.ga K "_law_step"))
  gf__law_whole : mg "_law_whole" = some (.ref (He.ga K "_law_whole"))
  gf__law_book : mg "_law_book" = some (.ref (He.ga K "_law_book"))
  gf__law_bents : mg "_law_bents" = some (.ref (He.ga K "_law_bents"))
  gf__law_draw : mg "_law_draw" = some (.ref (He.ga K "_law_draw"))
  gf__law_whole_number : mg "_law_whole_number" = some (.ref (He.ga K "_law_whole_number"))
  gf__law_is_paper : mg "_law_is_paper" = some (.ref (He.ga K "_law_is_paper"))
  gf_check_gap : mg "check_gap" = some (.ref (He.ga K "check_gap"))
  gf_gap_state : mg "gap_state" = some (.ref (He.ga K "gap_state"))
  gf_check_size : mg "check_size" = some (.ref (He.ga K "check_size"))
  gf_check_operation : mg "check_operation" = some (.ref (He.ga K "check_operation"))
  gf_play : mg "play" = some (.ref (He.ga K "play"))
  gf_replay : mg "replay" = some (.ref (He.ga K "replay"))
  gf__links_of_operations : mg "_links_of_operations" = some (.ref (He.ga K "_links_of_operations"))
  gf_writers : mg "writers" = some (.ref (He.ga K "writers"))
  gf_gap_certificate : mg "gap_certificate" = some (.ref (He.ga K "gap_certificate"))
  gf_is_plain_integer : mg "is_plain_integer" = some (.ref (He.ga K "is_plain_integer"))
  gf_is_gap_certificate : mg "is_gap_certificate" = some (.ref (He.ga K "is_gap_certificate"))
  gf__law_judged : mg "_law_judged" = some (.ref (He.ga K "_law_judged"))
  gf__law_papers_fit : mg "_law_papers_fit" = some (.ref (He.ga K "_law_papers_fit"))
  gf__law_number_or_none : mg "_law_number_or_none" = some (.ref (He.ga K "_law_number_or_none"))
  gf__law_numbers : mg "_law_numbers" = some (.ref (He.ga K "_law_numbers"))
  gf__law_bears : mg "_law_bears" = some (.ref (He.ga K "_law_bears"))
  gf__law_verdict_fits : mg "_law_verdict_fits" = some (.ref (He.ga K "_law_verdict_fits"))
  gf_decided_by : mg "decided_by" = some (.ref (He.ga K "decided_by"))
  gf_gap_states : mg "gap_states" = some (.ref (He.ga K "gap_states"))
  gf_verdict : mg "verdict" = some (.ref (He.ga K "verdict"))
  gf__law_agrees : mg "_law_agrees" = some (.ref (He.ga K "_law_agrees"))
  gf__law_bag : mg "_law_bag" = some (.ref (He.ga K "_law_bag"))
  gf__law_planted : mg "_law_planted" = some (.ref (He.ga K "_law_planted"))
  gf__law_log : mg "_law_log" = some (.ref (He.ga K "_law_log"))
  gf__law_made : mg "_law_made" = some (.ref (He.ga K "_law_made"))
  gf__law_places : mg "_law_places" = some (.ref (He.ga K "_law_places"))
  gf__law_answer : mg "_law_answer" = some (.ref (He.ga K "_law_answer"))
  gf__law_fault : mg "_law_fault" = some (.ref (He.ga K "_law_fault"))
  gf__law_refuses : mg "_law_refuses" = some (.ref (He.ga K "_law_refuses"))
  gf__law_size : mg "_law_size" = some (.ref (He.ga K "_law_size"))
  gf__law_spoilt : mg "_law_spoilt" = some (.ref (He.ga K "_law_spoilt"))
  gf__law_trials : mg "_law_trials" = some (.ref (He.ga K "_law_trials"))
  gf_law : mg "law" = some (.ref (He.ga K "law"))
  b_ValueError : mg "ValueError" = none
  b_abs : mg "abs" = none
  b_bool : mg "bool" = none
  b_enumerate : mg "enumerate" = none
  b_int : mg "int" = none
  b_isinstance : mg "isinstance" = none
  b_len : mg "len" = none
  b_list : mg "list" = none
  b_min : mg "min" = none
  b_range : mg "range" = none
  b_str : mg "str" = none
  b_tuple : mg "tuple" = none
  k_DIGITS : ∃ t, mg "DIGITS" = some (.str "0123456789" t)
  k_MOST_DIGITS : ∃ t, mg "MOST_DIGITS" = some (.int 9 t)
  cc_Links_MOST : ∃ mc u, ClX.CRead K (He.ga K "Links") mc ∧ ClX.CVal K (He.ga K "Links") mc "MOST" (.int 60) u
  cl_Links : Cls K (He.ga K "Links")
  ty_Links : PySem.W.findIn K (.ref (He.ga K "Links")) "__class__" = some (some (.builtin "object.__class__")) ∧ PySem.W.mroIn K (He.ga K "Links") (.type "object") = some true
  na_Links__lefts : NoAttr K (He.ga K "Links") "_lefts"
  na_Links__out : NoAttr K (He.ga K "Links") "_out"
  na_Links__rights : NoAttr K (He.ga K "Links") "_rights"
  na_Links_size : NoAttr K (He.ga K "Links") "size"
  me_Links_left : Meth K (He.ga K "Links") "left" (He.ma K (He.ga K "Links") "left")
  me_Links_right : Meth K (He.ga K "Links") "right" (He.ma K (He.ga K "Links") "right")
  mk_Links : Mk K (He.ga K "Links") (He.ma K (He.ga K "Links") "__init__")
  me_Links_is_legal : Meth K (He.ga K "Links") "is_legal" (He.ma K (He.ga K "Links") "is_legal")
  me_Links_check : Meth K (He.ga K "Links") "check" (He.ma K (He.ga K "Links") "check")
  me_Links_apply_at : Meth K (He.ga K "Links") "apply_at" (He.ma K (He.ga K "Links") "apply_at")
  me_Links_copy : Meth K (He.ga K "Links") "copy" (He.ma K (He.ga K "Links") "copy")
  me_Links_outs : Meth K (He.ga K "Links") "outs" (He.ma K (He.ga K "Links") "outs")
  me_Links_apply : Meth K (He.ga K "Links") "apply" (He.ma K (He.ga K "Links") "apply")
  cl_Verdict : Cls K (He.ga K "Verdict")
  ty_Verdict : PySem.W.findIn K (.ref (He.ga K "Verdict")) "__class__" = some (some (.builtin "object.__class__")) ∧ PySem.W.mroIn K (He.ga K "Verdict") (.type "object") = some true
  na_Verdict_gap : NoAttr K (He.ga K "Verdict") "gap"
  na_Verdict_index : NoAttr K (He.ga K "Verdict") "index"
  na_Verdict_out_nodes : NoAttr K (He.ga K "Verdict") "out_nodes"
  na_Verdict_whole : NoAttr K (He.ga K "Verdict") "whole"
  mk_Verdict : Mk K (He.ga K "Verdict") (He.ma K (He.ga K "Verdict") "__init__")
  ex_BadDump : ExK K (He.ga K "BadDump")
  ex_BadGap : ExK K (He.ga K "BadGap")
  ex_BadNode : ExK K (He.ga K "BadNode")
  ex_BadOperation : ExK K (He.ga K "BadOperation")
  ex_BadSize : ExK K (He.ga K "BadSize")
  ex_Illegal : ExK K (He.ga K "Illegal")
  ex_LinkError : ExK K (He.ga K "LinkError")
  ex_LogError : ExK K (He.ga K "LogError")
  oe_BadGap : OexC K (He.ga K "BadGap") ∧ ∀ f ∈ (["gap"] : List Str), PySem.W.findIn K (.ref (He.ga K "BadGap")) f = some none
  in_BadGap : PySem.W.findIn K (.ref (He.ga K "BadGap")) "__init__" = some (some (.ref (He.ma K (He.ga K "BadGap") "__init__"))) ∧ PySem.W.typeIn K (.ref (He.ma K (He.ga K "BadGap") "__init__")) = some (.type "function")
  kit_BadGap_BadDump : PySem.W.kitOne K (.ref (He.ga K "BadGap")) (.ref (He.ga K "BadDump")) = some false
  kit_BadGap_BadGap : PySem.W.kitOne K (.ref (He.ga K "BadGap")) (.ref (He.ga K "BadGap")) = some true
  kit_BadGap_BadNode : PySem.W.kitOne K (.ref (He.ga K "BadGap")) (.ref (He.ga K "BadNode")) = some false
  kit_BadGap_BadOperation : PySem.W.kitOne K (.ref (He.ga K "BadGap")) (.ref (He.ga K "BadOperation")) = some false
  kit_BadGap_BadSize : PySem.W.kitOne K (.ref (He.ga K "BadGap")) (.ref (He.ga K "BadSize")) = some false
  kit_BadGap_Illegal : PySem.W.kitOne K (.ref (He.ga K "BadGap")) (.ref (He.ga K "Illegal")) = some false
  kit_BadGap_LinkError : PySem.W.kitOne K (.ref (He.ga K "BadGap")) (.ref (He.ga K "LinkError")) = some true
  exm_BadGap_LinkError : PySem.W.exmOne K (.ref (He.ga K "BadGap")) (.ref (He.ga K "LinkError")) = some true
  kit_BadGap_LogError : PySem.W.kitOne K (.ref (He.ga K "BadGap")) (.ref (He.ga K "LogError")) = some false
  kit_BadGap_ValueError : PySem.W.kitOne K (.ref (He.ga K "BadGap")) (.type "ValueError") = some true
  oe_BadNode : OexC K (He.ga K "BadNode") ∧ ∀ f ∈ (["node"] : List Str), PySem.W.findIn K (.ref (He.ga K "BadNode")) f = some none
  in_BadNode : PySem.W.findIn K (.ref (He.ga K "BadNode")) "__init__" = some (some (.ref (He.ma K (He.ga K "BadNode") "__init__"))) ∧ PySem.W.typeIn K (.ref (He.ma K (He.ga K "BadNode") "__init__")) = some (.type "function")
  kit_BadNode_BadDump : PySem.W.kitOne K (.ref (He.ga K "BadNode")) (.ref (He.ga K "BadDump")) = some false
  kit_BadNode_BadGap : PySem.W.kitOne K (.ref (He.ga K "BadNode")) (.ref (He.ga K "BadGap")) = some false
  kit_BadNode_BadNode : PySem.W.kitOne K (.ref (He.ga K "BadNode")) (.ref (He.ga K "BadNode")) = some true
  kit_BadNode_BadOperation : PySem.W.kitOne K (.ref (He.ga K "BadNode")) (.ref (He.ga K "BadOperation")) = some false
  kit_BadNode_BadSize : PySem.W.kitOne K (.ref (He.ga K "BadNode")) (.ref (He.ga K "BadSize")) = some false
  kit_BadNode_Illegal : PySem.W.kitOne K (.ref (He.ga K "BadNode")) (.ref (He.ga K "Illegal")) = some false
  kit_BadNode_LinkError : PySem.W.kitOne K (.ref (He.ga K "BadNode")) (.ref (He.ga K "LinkError")) = some true
  exm_BadNode_LinkError : PySem.W.exmOne K (.ref (He.ga K "BadNode")) (.ref (He.ga K "LinkError")) = some true
  kit_BadNode_LogError : PySem.W.kitOne K (.ref (He.ga K "BadNode")) (.ref (He.ga K "LogError")) = some false
  kit_BadNode_ValueError : PySem.W.kitOne K (.ref (He.ga K "BadNode")) (.type "ValueError") = some true
  oe_BadOperation : OexC K (He.ga K "BadOperation") ∧ ∀ f ∈ (["operation", "index"] : List Str), PySem.W.findIn K (.ref (He.ga K "BadOperation")) f = some none
  in_BadOperation : PySem.W.findIn K (.ref (He.ga K "BadOperation")) "__init__" = some (some (.ref (He.ma K (He.ga K "BadOperation") "__init__"))) ∧ PySem.W.typeIn K (.ref (He.ma K (He.ga K "BadOperation") "__init__")) = some (.type "function")
  sm_BadOperation : He.ma K (He.ga K "BadOperation") "__init__" = He.ma K (He.ga K "LogError") "__init__"
  kit_BadOperation_BadDump : PySem.W.kitOne K (.ref (He.ga K "BadOperation")) (.ref (He.ga K "BadDump")) = some false
  kit_BadOperation_BadGap : PySem.W.kitOne K (.ref (He.ga K "BadOperation")) (.ref (He.ga K "BadGap")) = some false
  kit_BadOperation_BadNode : PySem.W.kitOne K (.ref (He.ga K "BadOperation")) (.ref (He.ga K "BadNode")) = some false
  kit_BadOperation_BadOperation : PySem.W.kitOne K (.ref (He.ga K "BadOperation")) (.ref (He.ga K "BadOperation")) = some true
  kit_BadOperation_BadSize : PySem.W.kitOne K (.ref (He.ga K "BadOperation")) (.ref (He.ga K "BadSize")) = some false
  kit_BadOperation_Illegal : PySem.W.kitOne K (.ref (He.ga K "BadOperation")) (.ref (He.ga K "Illegal")) = some false
  kit_BadOperation_LinkError : PySem.W.kitOne K (.ref (He.ga K "BadOperation")) (.ref (He.ga K "LinkError")) = some true
  exm_BadOperation_LinkError : PySem.W.exmOne K (.ref (He.ga K "BadOperation")) (.ref (He.ga K "LinkError")) = some true
  kit_BadOperation_LogError : PySem.W.kitOne K (.ref (He.ga K "BadOperation")) (.ref (He.ga K "LogError")) = some true
  kit_BadOperation_ValueError : PySem.W.kitOne K (.ref (He.ga K "BadOperation")) (.type "ValueError") = some true
  oe_BadSize : OexC K (He.ga K "BadSize") ∧ ∀ f ∈ (["size"] : List Str), PySem.W.findIn K (.ref (He.ga K "BadSize")) f = some none
  in_BadSize : PySem.W.findIn K (.ref (He.ga K "BadSize")) "__init__" = some (some (.ref (He.ma K (He.ga K "BadSize") "__init__"))) ∧ PySem.W.typeIn K (.ref (He.ma K (He.ga K "BadSize") "__init__")) = some (.type "function")
  kit_BadSize_BadDump : PySem.W.kitOne K (.ref (He.ga K "BadSize")) (.ref (He.ga K "BadDump")) = some false
  kit_BadSize_BadGap : PySem.W.kitOne K (.ref (He.ga K "BadSize")) (.ref (He.ga K "BadGap")) = some false
  kit_BadSize_BadNode : PySem.W.kitOne K (.ref (He.ga K "BadSize")) (.ref (He.ga K "BadNode")) = some false
  kit_BadSize_BadOperation : PySem.W.kitOne K (.ref (He.ga K "BadSize")) (.ref (He.ga K "BadOperation")) = some false
  kit_BadSize_BadSize : PySem.W.kitOne K (.ref (He.ga K "BadSize")) (.ref (He.ga K "BadSize")) = some true
  kit_BadSize_Illegal : PySem.W.kitOne K (.ref (He.ga K "BadSize")) (.ref (He.ga K "Illegal")) = some false
  kit_BadSize_LinkError : PySem.W.kitOne K (.ref (He.ga K "BadSize")) (.ref (He.ga K "LinkError")) = some true
  exm_BadSize_LinkError : PySem.W.exmOne K (.ref (He.ga K "BadSize")) (.ref (He.ga K "LinkError")) = some true
  kit_BadSize_LogError : PySem.W.kitOne K (.ref (He.ga K "BadSize")) (.ref (He.ga K "LogError")) = some false
  kit_BadSize_ValueError : PySem.W.kitOne K (.ref (He.ga K "BadSize")) (.type "ValueError") = some true
  oe_Illegal : OexC K (He.ga K "Illegal") ∧ ∀ f ∈ (["operation", "index"] : List Str), PySem.W.findIn K (.ref (He.ga K "Illegal")) f = some none
  in_Illegal : PySem.W.findIn K (.ref (He.ga K "Illegal")) "__init__" = some (some (.ref (He.ma K (He.ga K "Illegal") "__init__"))) ∧ PySem.W.typeIn K (.ref (He.ma K (He.ga K "Illegal") "__init__")) = some (.type "function")
  sm_Illegal : He.ma K (He.ga K "Illegal") "__init__" = He.ma K (He.ga K "LogError") "__init__"
  kit_Illegal_BadDump : PySem.W.kitOne K (.ref (He.ga K "Illegal")) (.ref (He.ga K "BadDump")) = some false
  kit_Illegal_BadGap : PySem.W.kitOne K (.ref (He.ga K "Illegal")) (.ref (He.ga K "BadGap")) = some false
  kit_Illegal_BadNode : PySem.W.kitOne K (.ref (He.ga K "Illegal")) (.ref (He.ga K "BadNode")) = some false
  kit_Illegal_BadOperation : PySem.W.kitOne K (.ref (He.ga K "Illegal")) (.ref (He.ga K "BadOperation")) = some false
  kit_Illegal_BadSize : PySem.W.kitOne K (.ref (He.ga K "Illegal")) (.ref (He.ga K "BadSize")) = some false
  kit_Illegal_Illegal : PySem.W.kitOne K (.ref (He.ga K "Illegal")) (.ref (He.ga K "Illegal")) = some true
  kit_Illegal_LinkError : PySem.W.kitOne K (.ref (He.ga K "Illegal")) (.ref (He.ga K "LinkError")) = some true
  exm_Illegal_LinkError : PySem.W.exmOne K (.ref (He.ga K "Illegal")) (.ref (He.ga K "LinkError")) = some true
  kit_Illegal_LogError : PySem.W.kitOne K (.ref (He.ga K "Illegal")) (.ref (He.ga K "LogError")) = some true
  kit_Illegal_ValueError : PySem.W.kitOne K (.ref (He.ga K "Illegal")) (.type "ValueError") = some true
theorem txt_of {K : PySem.W.Frag} {h : Heap} {mg : Str → Option Value} (X : K.In h) (G : h.Ns mainGlobals mg) (c : SaysX chkL fnL K) : Txt K mg where
  g_LinkError := He.glo_ok X G (c.fact 0 (f := fa_ (.glo "LinkError")) rfl)
  g_LogError := He.glo_ok X G (c.fact 1 (f := fa_ (.glo "LogError")) rfl)
  g_BadOperation := He.glo_ok X G (c.fact 2 (f := fa_ (.glo "BadOperation")) rfl)
  g_Illegal := He.glo_ok X G (c.fact 3 (f := fa_ (.glo "Illegal")) rfl)
  g_BadSize := He.glo_ok X G (c.fact 4 (f := fa_ (.glo "BadSize")) rfl)
  g_BadNode := He.glo_ok X G (c.fact 5 (f := fa_ (.glo "BadNode")) rfl)
  g_BadGap := He.glo_ok X G (c.fact 6 (f := fa_ (.glo "BadGap")) rfl)
  g_BadDump := He.glo_ok X G (c.fact 7 (f := fa_ (.glo "BadDump")) rfl)
  g_Links := He.glo_ok X G (c.fact 8 (f := fa_ (.glo "Links")) rfl)
  g_Verdict := He.glo_ok X G (c.fact 9 (f := fa_ (.glo "Verdict")) rfl)
  gf__law_state := He.glo_ok X G (c.fact 10 (f := fa_ (.glo "_law_state")) rfl)
  gf__law_step := He.glo_ok X G (c.fact 11 (f := fa_ (.glo "_law_step")) rfl)
  gf__law_whole := He.glo_ok X G (c.fact 12 (f := fa_ (.glo "_law_whole")) rfl)
  gf__law_book := He.glo_ok X G (c.fact 13 (f := fa_ (.glo "_law_book")) rfl)
  gf__law_bents := He.glo_ok X G (c.fact 14 (f := fa_ (.glo "_law_bents")) rfl)
  gf__law_draw := He.glo_ok X G (c.fact 15 (f := fa_ (.glo "_law_draw")) rfl)
  gf__law_whole_number := He.glo_ok X G (c.fact 16 (f := fa_ (.glo "_law_whole_number")) rfl)
  gf__law_is_paper := He.glo_ok X G (c.fact 17 (f := fa_ (.glo "_law_is_paper")) rfl)
  gf_check_gap := He.glo_ok X G (c.fact 18 (f := fa_ (.glo "check_gap")) rfl)
  gf_gap_state := He.glo_ok X G (c.fact 19 (f := fa_ (.glo "gap_state")) rfl)
  gf_check_size := He.glo_ok X G (c.fact 20 (f := fa_ (.glo "check_size")) rfl)
  gf_check_operation := He.glo_ok X G (c.fact 21 (f := fa_ (.glo "check_operation")) rfl)
  gf_play := He.glo_ok X G (c.fact 22 (f := fa_ (.glo "play")) rfl)
  gf_replay := He.glo_ok X G (c.fact 23 (f := fa_ (.glo "replay")) rfl)
  gf__links_of_operations := He.glo_ok X G (c.fact 24 (f := fa_ (.glo "_links_of_operations")) rfl)
  gf_writers := He.glo_ok X G (c.fact 25 (f := fa_ (.glo "writers")) rfl)
  gf_gap_certificate := He.glo_ok X G (c.fact 26 (f := fa_ (.glo "gap_certificate")) rfl)
  gf_is_plain_integer := He.glo_ok X G (c.fact 27 (f := fa_ (.glo "is_plain_integer")) rfl)
  gf_is_gap_certificate := He.glo_ok X G (c.fact 28 (f := fa_ (.glo "is_gap_certificate")) rfl)
  gf__law_judged := He.glo_ok X G (c.fact 29 (f := fa_ (.glo "_law_judged")) rfl)
  gf__law_papers_fit := He.glo_ok X G (c.fact 30 (f := fa_ (.glo "_law_papers_fit")) rfl)
  gf__law_number_or_none := He.glo_ok X G (c.fact 31 (f := fa_ (.glo "_law_number_or_none")) rfl)
  gf__law_numbers := He.glo_ok X G (c.fact 32 (f := fa_ (.glo "_law_numbers")) rfl)
  gf__law_bears := He.glo_ok X G (c.fact 33 (f := fa_ (.glo "_law_bears")) rfl)
  gf__law_verdict_fits := He.glo_ok X G (c.fact 34 (f := fa_ (.glo "_law_verdict_fits")) rfl)
  gf_decided_by := He.glo_ok X G (c.fact 35 (f := fa_ (.glo "decided_by")) rfl)
  gf_gap_states := He.glo_ok X G (c.fact 36 (f := fa_ (.glo "gap_states")) rfl)
  gf_verdict := He.glo_ok X G (c.fact 37 (f := fa_ (.glo "verdict")) rfl)
  gf__law_agrees := He.glo_ok X G (c.fact 38 (f := fa_ (.glo "_law_agrees")) rfl)
  gf__law_bag := He.glo_ok X G (c.fact 39 (f := fa_ (.glo "_law_bag")) rfl)
  gf__law_planted := He.glo_ok X G (c.fact 40 (f := fa_ (.glo "_law_planted")) rfl)
  gf__law_log := He.glo_ok X G (c.fact 41 (f := fa_ (.glo "_law_log")) rfl)
  gf__law_made := He.glo_ok X G (c.fact 42 (f := fa_ (.glo "_law_made")) rfl)
  gf__law_places := He.glo_ok X G (c.fact 43 (f := fa_ (.glo "_law_places")) rfl)
  gf__law_answer := He.glo_ok X G (c.fact 44 (f := fa_ (.glo "_law_answer")) rfl)
  gf__law_fault := He.glo_ok X G (c.fact 45 (f := fa_ (.glo "_law_fault")) rfl)
  gf__law_refuses := He.glo_ok X G (c.fact 46 (f := fa_ (.glo "_law_refuses")) rfl)
  gf__law_size := He.glo_ok X G (c.fact 47 (f := fa_ (.glo "_law_size")) rfl)
  gf__law_spoilt := He.glo_ok X G (c.fact 48 (f := fa_ (.glo "_law_spoilt")) rfl)
  gf__law_trials := He.glo_ok X G (c.fact 49 (f := fa_ (.glo "_law_trials")) rfl)
  gf_law := He.glo_ok X G (c.fact 50 (f := fa_ (.glo "law")) rfl)
  b_ValueError := He.free_ok X G (c.fact 51 (f := fa_ (.free "ValueError")) rfl)
  b_abs := He.free_ok X G (c.fact 52 (f := fa_ (.free "abs")) rfl)
  b_bool := He.free_ok X G (c.fact 53 (f := fa_ (.free "bool")) rfl)
  b_enumerate := He.free_ok X G (c.fact 54 (f := fa_ (.free "enumerate")) rfl)
  b_int := He.free_ok X G (c.fact 55 (f := fa_ (.free "int")) rfl)
  b_isinstance := He.free_ok X G (c.fact 56 (f := fa_ (.free "isinstance")) rfl)
  b_len := He.free_ok X G (c.fact 57 (f := fa_ (.free "len")) rfl)
  b_list := He.free_ok X G (c.fact 58 (f := fa_ (.free "list")) rfl)
  b_min := He.free_ok X G (c.fact 59 (f := fa_ (.free "min")) rfl)
  b_range := He.free_ok X G (c.fact 60 (f := fa_ (.free "range")) rfl)
  b_str := He.free_ok X G (c.fact 61 (f := fa_ (.free "str")) rfl)
  b_tuple := He.free_ok X G (c.fact 62 (f := fa_ (.free "tuple")) rfl)
  k_DIGITS := He.str_ok X G (c.fact 63 (f := fa_ (.str "DIGITS" "0123456789")) rfl)
  k_MOST_DIGITS := He.int_ok X G (c.fact 64 (f := fa_ (.int "MOST_DIGITS" 9)) rfl)
  cc_Links_MOST := ccB_ok (c.fact 65 (f := ccB "Links" "MOST" 60) rfl)
  cl_Links := He.cls_ok (c.fact 66 (f := fa_ (.cls "Links")) rfl)
  ty_Links := tyB_ok (c.fact 67 (f := tyB "Links") rfl)
  na_Links__lefts := He.noat_ok (c.fact 68 (f := fa_ (.noat "Links" "_lefts")) rfl)
  na_Links__out := He.noat_ok (c.fact 69 (f := fa_ (.noat "Links" "_out")) rfl)
  na_Links__rights := He.noat_ok (c.fact 70 (f := fa_ (.noat "Links" "_rights")) rfl)
  na_Links_size := He.noat_ok (c.fact 71 (f := fa_ (.noat "Links" "size")) rfl)
  me_Links_left := He.meth_ok (c.fact 72 (f := fa_ (.meth "Links" "left")) rfl)
  me_Links_right := He.meth_ok (c.fact 73 (f := fa_ (.meth "Links" "right")) rfl)
  mk_Links := He.mkr_ok (c.fact 74 (f := fa_ (.mkr "Links")) rfl)
  me_Links_is_legal := He.meth_ok (c.fact 75 (f := fa_ (.meth "Links" "is_legal")) rfl)
  me_Links_check := He.meth_ok (c.fact 76 (f := fa_ (.meth "Links" "check")) rfl)
  me_Links_apply_at := He.meth_ok (c.fact 77 (f := fa_ (.meth "Links" "apply_at")) rfl)
  me_Links_copy := He.meth_ok (c.fact 78 (f := fa_ (.meth "Links" "copy")) rfl)
  me_Links_outs := He.meth_ok (c.fact 79 (f := fa_ (.meth "Links" "outs")) rfl)
  me_Links_apply := He.meth_ok (c.fact 80 (f := fa_ (.meth "Links" "apply")) rfl)
  cl_Verdict := He.cls_ok (c.fact 81 (f := fa_ (.cls "Verdict")) rfl)
  ty_Verdict := tyB_ok (c.fact 82 (f := tyB "Verdict") rfl)
  na_Verdict_gap := He.noat_ok (c.fact 83 (f := fa_ (.noat "Verdict" "gap")) rfl)
  na_Verdict_index := He.noat_ok (c.fact 84 (f := fa_ (.noat "Verdict" "index")) rfl)
  na_Verdict_out_nodes := He.noat_ok (c.fact 85 (f := fa_ (.noat "Verdict" "out_nodes")) rfl)
  na_Verdict_whole := He.noat_ok (c.fact 86 (f := fa_ (.noat "Verdict" "whole")) rfl)
  mk_Verdict := He.mkr_ok (c.fact 87 (f := fa_ (.mkr "Verdict")) rfl)
  ex_BadDump := askB_ok (c.fact 88 (f := askB "BadDump") rfl)
  ex_BadGap := askB_ok (c.fact 89 (f := askB "BadGap") rfl)
  ex_BadNode := askB_ok (c.fact 90 (f := askB "BadNode") rfl)
  ex_BadOperation := askB_ok (c.fact 91 (f := askB "BadOperation") rfl)
  ex_BadSize := askB_ok (c.fact 92 (f := askB "BadSize") rfl)
  ex_Illegal := askB_ok (c.fact 93 (f := askB "Illegal") rfl)
  ex_LinkError := askB_ok (c.fact 94 (f := askB "LinkError") rfl)
  ex_LogError := askB_ok (c.fact 95 (f := askB "LogError") rfl)
  oe_BadGap := excB_ok (c.fact 96 (f := excB "BadGap" ["gap"]) rfl)
  in_BadGap := iniB_ok (c.fact 97 (f := iniB "BadGap") rfl)
  kit_BadGap_BadDump := of_decide_eq_true (c.fact 98 (f := kitB2 "BadGap" "BadDump" false) rfl)
  kit_BadGap_BadGap := of_decide_eq_true (c.fact 99 (f := kitB2 "BadGap" "BadGap" true) rfl)
  kit_BadGap_BadNode := of_decide_eq_true (c.fact 100 (f := kitB2 "BadGap" "BadNode" false) rfl)
  kit_BadGap_BadOperation := of_decide_eq_true (c.fact 101 (f := kitB2 "BadGap" "BadOperation" false) rfl)
  kit_BadGap_BadSize := of_decide_eq_true (c.fact 102 (f := kitB2 "BadGap" "BadSize" false) rfl)
  kit_BadGap_Illegal := of_decide_eq_true (c.fact 103 (f := kitB2 "BadGap" "Illegal" false) rfl)
  kit_BadGap_LinkError := of_decide_eq_true (c.fact 104 (f := kitB2 "BadGap" "LinkError" true) rfl)
  exm_BadGap_LinkError := of_decide_eq_true (c.fact 105 (f := exmB "BadGap" "LinkError" true) rfl)
  kit_BadGap_LogError := of_decide_eq_true (c.fact 106 (f := kitB2 "BadGap" "LogError" false) rfl)
  kit_BadGap_ValueError := of_decide_eq_true (c.fact 107 (f := kitT2 "BadGap" "ValueError" true) rfl)
  oe_BadNode := excB_ok (c.fact 108 (f := excB "BadNode" ["node"]) rfl)
  in_BadNode := iniB_ok (c.fact 109 (f := iniB "BadNode") rfl)
  kit_BadNode_BadDump := of_decide_eq_true (c.fact 110 (f := kitB2 "BadNode" "BadDump" false) rfl)
  kit_BadNode_BadGap := of_decide_eq_true (c.fact 111 (f := kitB2 "BadNode" "BadGap" false) rfl)
  kit_BadNode_BadNode := of_decide_eq_true (c.fact 112 (f := kitB2 "BadNode" "BadNode" true) rfl)
  kit_BadNode_BadOperation := of_decide_eq_true (c.fact 113 (f := kitB2 "BadNode" "BadOperation" false) rfl)
  kit_BadNode_BadSize := of_decide_eq_true (c.fact 114 (f := kitB2 "BadNode" "BadSize" false) rfl)
  kit_BadNode_Illegal := of_decide_eq_true (c.fact 115 (f := kitB2 "BadNode" "Illegal" false) rfl)
  kit_BadNode_LinkError := of_decide_eq_true (c.fact 116 (f := kitB2 "BadNode" "LinkError" true) rfl)
  exm_BadNode_LinkError := of_decide_eq_true (c.fact 117 (f := exmB "BadNode" "LinkError" true) rfl)
  kit_BadNode_LogError := of_decide_eq_true (c.fact 118 (f := kitB2 "BadNode" "LogError" false) rfl)
  kit_BadNode_ValueError := of_decide_eq_true (c.fact 119 (f := kitT2 "BadNode" "ValueError" true) rfl)
  oe_BadOperation := excB_ok (c.fact 120 (f := excB "BadOperation" ["operation", "index"]) rfl)
  in_BadOperation := iniB_ok (c.fact 121 (f := iniB "BadOperation") rfl)
  sm_BadOperation := of_decide_eq_true (c.fact 122 (f := (fun K => decide (He.ma K (He.ga K "BadOperation") "__init__" = He.ma K (He.ga K "LogError") "__init__"))) rfl)
  kit_BadOperation_BadDump := of_decide_eq_true (c.fact 123 (f := kitB2 "BadOperation" "BadDump" false) rfl)
  kit_BadOperation_BadGap := of_decide_eq_true (c.fact 124 (f := kitB2 "BadOperation" "BadGap" false) rfl)
  kit_BadOperation_BadNode := of_decide_eq_true (c.fact 125 (f := kitB2 "BadOperation" "BadNode" false) rfl)
  kit_BadOperation_BadOperation := of_decide_eq_true (c.fact 126 (f := kitB2 "BadOperation" "BadOperation" true) rfl)
  kit_BadOperation_BadSize := of_decide_eq_true (c.fact 127 (f := kitB2 "BadOperation" "BadSize" false) rfl)
  kit_BadOperation_Illegal := of_decide_eq_true (c.fact 128 (f := kitB2 "BadOperation" "Illegal" false) rfl)
  kit_BadOperation_LinkError := of_decide_eq_true (c.fact 129 (f := kitB2 "BadOperation" "LinkError" true) rfl)
  exm_BadOperation_LinkError := of_decide_eq_true (c.fact 130 (f := exmB "BadOperation" "LinkError" true) rfl)
  kit_BadOperation_LogError := of_decide_eq_true (c.fact 131 (f := kitB2 "BadOperation" "LogError" true) rfl)
  kit_BadOperation_ValueError := of_decide_eq_true (c.fact 132 (f := kitT2 "BadOperation" "ValueError" true) rfl)
  oe_BadSize := excB_ok (c.fact 133 (f := excB "BadSize" ["size"]) rfl)
  in_BadSize := iniB_ok (c.fact 134 (f := iniB "BadSize") rfl)
  kit_BadSize_BadDump := of_decide_eq_true (c.fact 135 (f := kitB2 "BadSize" "BadDump" false) rfl)
  kit_BadSize_BadGap := of_decide_eq_true (c.fact 136 (f := kitB2 "BadSize" "BadGap" false) rfl)
  kit_BadSize_BadNode := of_decide_eq_true (c.fact 137 (f := kitB2 "BadSize" "BadNode" false) rfl)
  kit_BadSize_BadOperation := of_decide_eq_true (c.fact 138 (f := kitB2 "BadSize" "BadOperation" false) rfl)
  kit_BadSize_BadSize := of_decide_eq_true (c.fact 139 (f := kitB2 "BadSize" "BadSize" true) rfl)
  kit_BadSize_Illegal := of_decide_eq_true (c.fact 140 (f := kitB2 "BadSize" "Illegal" false) rfl)
  kit_BadSize_LinkError := of_decide_eq_true (c.fact 141 (f := kitB2 "BadSize" "LinkError" true) rfl)
  exm_BadSize_LinkError := of_decide_eq_true (c.fact 142 (f := exmB "BadSize" "LinkError" true) rfl)
  kit_BadSize_LogError := of_decide_eq_true (c.fact 143 (f := kitB2 "BadSize" "LogError" false) rfl)
  kit_BadSize_ValueError := of_decide_eq_true (c.fact 144 (f := kitT2 "BadSize" "ValueError" true) rfl)
  oe_Illegal := excB_ok (c.fact 145 (f := excB "Illegal" ["operation", "index"]) rfl)
  in_Illegal := iniB_ok (c.fact 146 (f := iniB "Illegal") rfl)
  sm_Illegal := of_decide_eq_true (c.fact 147 (f := (fun K => decide (He.ma K (He.ga K "Illegal") "__init__" = He.ma K (He.ga K "LogError") "__init__"))) rfl)
  kit_Illegal_BadDump := of_decide_eq_true (c.fact 148 (f := kitB2 "Illegal" "BadDump" false) rfl)
  kit_Illegal_BadGap := of_decide_eq_true (c.fact 149 (f := kitB2 "Illegal" "BadGap" false) rfl)
  kit_Illegal_BadNode := of_decide_eq_true (c.fact 150 (f := kitB2 "Illegal" "BadNode" false) rfl)
  kit_Illegal_BadOperation := of_decide_eq_true (c.fact 151 (f := kitB2 "Illegal" "BadOperation" false) rfl)
  kit_Illegal_BadSize := of_decide_eq_true (c.fact 152 (f := kitB2 "Illegal" "BadSize" false) rfl)
  kit_Illegal_Illegal := of_decide_eq_true (c.fact 153 (f := kitB2 "Illegal" "Illegal" true) rfl)
  kit_Illegal_LinkError := of_decide_eq_true (c.fact 154 (f := kitB2 "Illegal" "LinkError" true) rfl)
  exm_Illegal_LinkError := of_decide_eq_true (c.fact 155 (f := exmB "Illegal" "LinkError" true) rfl)
  kit_Illegal_LogError := of_decide_eq_true (c.fact 156 (f := kitB2 "Illegal" "LogError" true) rfl)
  kit_Illegal_ValueError := of_decide_eq_true (c.fact 157 (f := kitT2 "Illegal" "ValueError" true) rfl)
end G

set_option Elab.async false
set_option linter.all false
set_option maxRecDepth 100000
set_option maxHeartbeats 4000000

namespace G
open PySem PySem.Spec PyProof.Rows L2
def t__law_state (K : PySem.W.Frag) (E : XK) : TS :=
  tSeq (tAsg (tOp (rEqA K) (tOp (rIx K) (tOp (rIx K) (tVar 0) (tC (.int 1))) (tVar 1)) (tOp rAddA (tVar 1) (tC (.int 1)))) (gName 2)) (tSeq (tAsg (tOp (rEqA K) (tOp (rIx K) (tOp (rIx K) (tVar 0) (tC (.int 2))) (tOp rAddA (tVar 1) (tC (.int 1)))) (tVar 1)) (gName 3)) (tSeq (tIfS (tAnd (tB (tVar 2)) (tB (tVar 3))) (tRet (tC (.str "joined"))) (tNext)) (tSeq (tIfS (tB (tVar 2)) (tRet (tC (.str "left"))) (tNext)) (tSeq (tIfS (tB (tVar 3)) (tRet (tC (.str "right"))) (tNext)) (tRet (tC (.str "lost")))))))
def t__law_step (K : PySem.W.Frag) (E : XK) : TS :=
  tSeq (tAsg (tCB rAbsA (tCons (tVar 1) (tNil))) (gName 2)) (tSeq (tAsg (tOp (rIx K) (tOp (rIx K) (tVar 0) (tC (.int 2))) (tVar 2)) (gName 3)) (tSeq (tAsg (tOp (rIx K) (tOp (rIx K) (tVar 0) (tC (.int 1))) (tVar 2)) (gName 4)) (tSeq (tAsg (tOp (rIx K) (tVar 0) (tC (.int 1))) (gName 5)) (tSeq (tAsg (tOp (rIx K) (tVar 0) (tC (.int 2))) (gName 6)) (tSeq (tAsg (tOp (rIx K) (tVar 0) (tC (.int 3))) (gName 7)) (tSeq (tIfS (tTest (tOp rLtA (tVar 1) (tC (.int 0)))) (tSeq (tAsg (tVar 4) (gSub (tVar 5) (tVar 3) rSetL)) (tAsg (tVar 3) (gSub (tVar 6) (tVar 4) rSetL))) (tSeq (tAsg (tVar 2) (gSub (tVar 5) (tVar 3) rSetL)) (tAsg (tVar 2) (gSub (tVar 6) (tVar 4) rSetL)))) (tAsg (tOp rLtA (tVar 1) (tC (.int 0))) (gSub (tVar 7) (tVar 2) rSetL))))))))
def t__law_whole (K : PySem.W.Frag) (E : XK) : TS :=
  tSeq (tAsg (tLc (iRng1 (tCons (tOp rAddA (tVar 0) (tC (.int 1))) (tNil))) (gName 3) (tYes) (tOp rAddA (tVar 3) (tC (.int 1))) [3]) (gName 1)) (tSeq (tAsg (tLc (iRng1 (tCons (tOp rAddA (tVar 0) (tC (.int 2))) (tNil))) (gName 3) (tYes) (tOp rSubA (tVar 3) (tC (.int 1))) [3]) (gName 2)) (tRet (tLst (tCons (tVar 0) (tCons (tVar 1) (tCons (tVar 2) (tCons (tLc (iRng1 (tCons (tOp rAddA (tVar 0) (tC (.int 2))) (tNil))) (gName 3) (tYes) (tC (.bl false)) [3]) (tNil))))))))
def t__law_book (K : PySem.W.Frag) (E : XK) : TS :=
  tSeq (tAsg (tCl (sp__law_whole K) (fun _ => E) (tCons (tVar 0) (tNil))) (gName 2)) (tSeq (tAsg (tLc (iRng1 (tCons (tOp rAddA (tVar 0) (tC (.int 1))) (tNil))) (gName 7) (tYes) (tUn rNegA (tC (.int 1))) [7]) (gName 3)) (tSeq (tAsg (tLc (iRng1 (tCons (tOp rAddA (tVar 0) (tC (.int 1))) (tNil))) (gName 7) (tYes) (tUn rNegA (tC (.int 1))) [7]) (gName 4)) (tSeq (tAsg (tLc (iRng1 (tCons (tOp rAddA (tVar 0) (tC (.int 1))) (tNil))) (gName 7) (tYes) (tUn rNegA (tC (.int 1))) [7]) (gName 5)) (tSeq (tFor (iRng1 (tCons (tCB (rLenA K) (tCons (tVar 1) (tNil))) (tNil))) (gName 6) (tSeq (tAsg (tCB rAbsA (tCons (tOp (rIx K) (tVar 1) (tVar 6)) (tNil))) (gName 7)) (tSeq (tAsg (tOp (rIx K) (tOp (rIx K) (tVar 2) (tC (.int 2))) (tVar 7)) (gName 8)) (tSeq (tAsg (tOp rSubA (tOp (rIx K) (tOp (rIx K) (tVar 2) (tC (.int 1))) (tVar 7)) (tC (.int 1))) (gName 9)) (tSeq (tAsg (tLst (tCons (tCl (sp__law_state K) (fun _ => E) (tCons (tVar 2) (tCons (tVar 8) (tNil)))) (tCons (tCl (sp__law_state K) (fun _ => E) (tCons (tVar 2) (tCons (tVar 9) (tNil)))) (tNil)))) (gName 10)) (tSeq (tDrop (tCl (sp__law_step K) (fun _ => E) (tCons (tVar 2) (tCons (tOp (rIx K) (tVar 1) (tVar 6)) (tNil))))) (tSeq (tAsg (tVar 6) (gSub (tVar 3) (tVar 8) rSetL)) (tSeq (tAsg (tVar 6) (gSub (tVar 4) (tVar 9) rSetL)) (tSeq (tIfS (tTest (tOp (rNeA K) (tOp (rIx K) (tVar 10) (tC (.int 0))) (tCl (sp__law_state K) (fun _ => E) (tCons (tVar 2) (tCons (tVar 8) (tNil)))))) (tAsg (tVar 6) (gSub (tVar 5) (tVar 8) rSetL)) (tNext)) (tIfS (tTest (tOp (rNeA K) (tOp (rIx K) (tVar 10) (tC (.int 1))) (tCl (sp__law_state K) (fun _ => E) (tCons (tVar 2) (tCons (tVar 9) (tNil)))))) (tAsg (tVar 6) (gSub (tVar 5) (tVar 9) rSetL)) (tNext))))))))))) (tSeq (tAsg (tLc (iRng1 (tCons (tOp rAddA (tVar 0) (tC (.int 1))) (tNil))) (gName 13) (tYes) (tTup (tCons (tCl (sp__law_state K) (fun _ => E0) (tCons (tVar 2) (tCons (tVar 13) (tNil)))) (tCons (tOp (rIx K) (tVar 3) (tVar 13)) (tCons (tOp (rIx K) (tVar 4) (tVar 13)) (tNil))))) [13]) (gName 11)) (tSeq (tAsg (tLc (iRng2 (tCons (tC (.int 1)) (tCons (tOp rAddA (tVar 0) (tC (.int 1))) (tNil)))) (gName 7) (tB (tOp (rIx K) (tOp (rIx K) (tVar 2) (tC (.int 3))) (tVar 7))) (tVar 7) [7]) (gName 12)) (tRet (tLst (tCons (tVar 11) (tCons (tVar 5) (tCons (tVar 12) (tNil))))))))))))
def t__law_bents (K : PySem.W.Frag) (E : XK) : TS :=
  tSeq (tAsg (tOp (rIx K) (tVar 0) (tC (.int 0))) (gName 3)) (tSeq (tAsg (tOp (rIx K) (tVar 0) (tC (.int 1))) (gName 4)) (tSeq (tAsg (tOp (rIx K) (tVar 0) (tC (.int 2))) (gName 5)) (tSeq (tAsg (tLc (iList K (tLst (tCons (tC (.str "joined")) (tCons (tC (.str "left")) (tCons (tC (.str "right")) (tCons (tC (.str "lost")) (tCons (tC (.str "")) (tCons (tC (.str "open")) (tNil))))))))) (gName 7) (tYes) (tTup (tCons (tVar 7) (tCons (tVar 4) (tCons (tVar 5) (tNil))))) [7]) (gName 6)) (tSeq (tAsg (tOp rAddA (tVar 6) (tLst (tCons (tTup (tCons (tVar 3) (tCons (tOp rAddA (tVar 4) (tVar 2)) (tCons (tVar 5) (tNil))))) (tCons (tTup (tCons (tVar 3) (tCons (tVar 4) (tCons (tOp rAddA (tVar 5) (tVar 2)) (tNil))))) (tCons (tTup (tCons (tVar 3) (tCons (tOp rSubA (tVar 4) (tVar 2)) (tCons (tVar 5) (tNil))))) (tNil)))))) (gName 6)) (tSeq (tAsg (tOp rAddA (tVar 6) (tLst (tCons (tTup (tCons (tVar 3) (tCons (tVar 4) (tCons (tOp rSubA (tVar 5) (tVar 2)) (tNil))))) (tCons (tTup (tCons (tVar 3) (tCons (tVar 5) (tCons (tVar 4) (tNil))))) (tCons (tVar 1) (tCons (tLst (tCons (tVar 3) (tCons (tVar 4) (tCons (tVar 5) (tNil))))) (tCons (tTup (tCons (tVar 3) (tCons (tVar 4) (tNil)))) (tNil)))))))) (gName 6)) (tSeq (tAsg (tOp rAddA (tVar 6) (tLst (tCons (tTup (tCons (tVar 3) (tCons (tVar 4) (tCons (tVar 5) (tCons (tVar 5) (tNil)))))) (tCons (tTup (tCons (tVar 4) (tCons (tVar 3) (tCons (tVar 5) (tNil))))) (tCons (tTup (tCons (tVar 3) (tCons (tCB rStrA (tCons (tVar 4) (tNil))) (tCons (tVar 5) (tNil))))) (tCons (tTup (tCons (tVar 3) (tCons (tVar 4) (tCons (tC .non) (tNil))))) (tNil))))))) (gName 6)) (tRet (tOp rAddA (tVar 6) (tLst (tCons (tTup (tCons (tTup (tCons (tVar 3) (tCons (tVar 4) (tCons (tVar 5) (tNil))))) (tNil))) (tCons (tTup (tCons (tVar 3) (tCons (tTup (tCons (tVar 4) (tCons (tVar 5) (tNil)))) (tNil)))) (tCons (tC .non) (tCons (tVar 3) (tCons (tVar 4) (tCons (tTup (tNil)) (tCons (tC (.str "")) (tCons (tLst (tCons (tVar 1) (tNil))) (tNil))))))))))))))))))
def t__law_draw (K : PySem.W.Frag) (E : XK) : TS :=
  tSeq (tIfS (tTest (tOp rGtA (tOp (rIx K) (tVar 0) (tC (.int 0))) (tC (.int 0)))) (tSeq (tAsg (tOp rModA (tCB rIntA (tCons (tOp (rIx K) (tVar 0) (tC (.int 0))) (tNil))) (tVar 1)) (gName 2)) (tSeq (tAsg (tOp rDivA (tOp (rIx K) (tVar 0) (tC (.int 0))) (tVar 1)) (gSub (tVar 0) (tC (.int 0)) rSetL)) (tRet (tVar 2)))) (tNext)) (tSeq (tAsg (tOp rAddA (tOp (rIx K) (tVar 0) (tC (.int 2))) (tC (.int 1))) (gSub (tVar 0) (tC (.int 2)) rSetL)) (tSeq (tAsg (tOp rModA (tCB rIntA (tCons (tOp rAddA (tOp rAddA (tOp rMulA (tOp (rIx K) (tVar 0) (tC (.int 1))) (tC (.int 69621))) (tOp rMulA (tOp (rIx K) (tVar 0) (tC (.int 2))) (tC (.int 40692)))) (tC (.int 11))) (tNil))) (tC (.int 2147483647))) (gSub (tVar 0) (tC (.int 1)) rSetL)) (tRet (tOp rModA (tCB rIntA (tCons (tOp rDivA (tOp rModA (tCB rIntA (tCons (tOp rAddA (tOp rMulA (tOp (rIx K) (tVar 0) (tC (.int 1))) (tC (.int 16807))) (tOp rMulA (tOp (rIx K) (tVar 0) (tC (.int 2))) (tC (.int 7919)))) (tNil))) (tC (.int 2147483629))) (tC (.int 64))) (tNil))) (tVar 1)))))
def t__law_whole_number (K : PySem.W.Frag) (E : XK) : TS :=
  tRet (tAndV (tCB (rIsi K) (tCons (tVar 0) (tCons (tC (.ty "int")) (tNil)))) (tNotV (tCB (rIsi K) (tCons (tVar 0) (tCons (tC (.ty "bool")) (tNil))))))
def t__law_is_paper (K : PySem.W.Frag) (E : XK) : TS :=
  tSeq (tIfS (tOr (tNot (tB (tCB (rIsi K) (tCons (tVar 0) (tCons (tC (.ty "tuple")) (tNil)))))) (tOr (tTest (tOp (rNeA K) (tCB (rLenA K) (tCons (tVar 0) (tNil))) (tC (.int 3)))) (tNot (tB (tCB (rIsi K) (tCons (tOp (rIx K) (tVar 0) (tC (.int 0))) (tCons (tC (.ty "str")) (tNil)))))))) (tRet (tC (.bl false))) (tNext)) (tSeq (tIfS (tOr (tNot (tB (tCl (sp__law_whole_number K) (fun _ => E) (tCons (tOp (rIx K) (tVar 0) (tC (.int 1))) (tNil))))) (tNot (tB (tCl (sp__law_whole_number K) (fun _ => E) (tCons (tOp (rIx K) (tVar 0) (tC (.int 2))) (tNil)))))) (tRet (tC (.bl false))) (tNext)) (tRet (tAndV (tOp (rEqA K) (tOp (rIx K) (tVar 0) (tC (.int 0))) (tOp (rIx K) (tVar 1) (tC (.int 0)))) (tAndV (tOp (rEqA K) (tOp (rIx K) (tVar 0) (tC (.int 1))) (tOp (rIx K) (tVar 1) (tC (.int 1)))) (tOp (rEqA K) (tOp (rIx K) (tVar 0) (tC (.int 2))) (tOp (rIx K) (tVar 1) (tC (.int 2))))))))
def t_Links_left (K : PySem.W.Frag) (E : XK) : TS :=
  tSeq (tIfS (tNot (tTest (tChain rLeA rLeA (tC (.int 1)) (tVar 1) (tOp rAddA (tFld K (tVar 0) "size") (tC (.int 1)))))) (tRz (He.ga K "BadNode") ["node"] (fun cls d _ H => E cls d H) (tCons (tVar 1) (tNil))) (tNext)) (tRet (tOp (rIx K) (tFld K (tVar 0) "_lefts") (tVar 1)))
def t_Links_right (K : PySem.W.Frag) (E : XK) : TS :=
  tSeq (tIfS (tNot (tTest (tChain rLeA rLeA (tC (.int 0)) (tVar 1) (tFld K (tVar 0) "size")))) (tRz (He.ga K "BadNode") ["node"] (fun cls d _ H => E cls d H) (tCons (tVar 1) (tNil))) (tNext)) (tRet (tOp (rIx K) (tFld K (tVar 0) "_rights") (tVar 1)))
def t_check_gap (K : PySem.W.Frag) (E : XK) : TS :=
  tIfS (tNot (tTest (tChain rLeA rLeA (tC (.int 0)) (tVar 1) (tVar 0)))) (tRz (He.ga K "BadGap") ["gap"] (fun cls d _ H => E cls d H) (tCons (tVar 1) (tNil))) (tNext)
def t_gap_state (K : PySem.W.Frag) (E : XK) : TS :=
  tSeq (tDrop (tCl (sp_check_gap K) (fun _ => E) (tCons (tFld K (tVar 0) "size") (tCons (tVar 1) (tNil))))) (tSeq (tAsg (tOp (rEqA K) (tMt (He.ga K "Links") "right" (sp_Links_right K) (fun _ => E) (tVar 0) (tCons (tVar 1) (tNil))) (tOp rAddA (tVar 1) (tC (.int 1)))) (gName 2)) (tSeq (tAsg (tOp (rEqA K) (tMt (He.ga K "Links") "left" (sp_Links_left K) (fun _ => E) (tVar 0) (tCons (tOp rAddA (tVar 1) (tC (.int 1))) (tNil))) (tVar 1)) (gName 3)) (tSeq (tIfS (tB (tVar 2)) (tRet (tIf (tB (tVar 3)) (tC (.str "joined")) (tC (.str "left")))) (tNext)) (tRet (tIf (tB (tVar 3)) (tC (.str "right")) (tC (.str "lost")))))))
def t_check_size (K : PySem.W.Frag) (E : XK) : TS :=
  tIfS (tNot (tTest (tChain rLeA rLeA (tC (.int 0)) (tVar 0) (tC (.int 60))))) (tRz (He.ga K "BadSize") ["size"] (fun cls d _ H => E cls d H) (tCons (tVar 0) (tNil))) (tNext)
def t_Links___init__ (K : PySem.W.Frag) (E : XK) : TS :=
  tSeq (tDrop (tCl (sp_check_size K) (fun _ => E) (tCons (tVar 1) (tNil)))) (tSeq (sFld K (tVar 0) (tVar 1) "size") (tSeq (sFld K (tVar 0) (tLstRg (tRg2 (tC (.int 1)) (tOp rAddA (tVar 1) (tC (.int 2))))) "_rights") (tSeq (sFld K (tVar 0) (tOp rAddA (tLst (tCons (tC (.int 0)) (tNil))) (tLstRg (tRg1 (tOp rAddA (tVar 1) (tC (.int 1)))))) "_lefts") (sFld K (tVar 0) (tOp rMulA (tLst (tCons (tC (.bl false)) (tNil))) (tOp rAddA (tVar 1) (tC (.int 2)))) "_out"))))
def t_Links_is_legal (K : PySem.W.Frag) (E : XK) : TS :=
  tRet (tOp (rEqA K) (tOp (rIx K) (tFld K (tVar 0) "_out") (tCB rAbsA (tCons (tVar 1) (tNil)))) (tOp rGtA (tVar 1) (tC (.int 0))))
def t_check_operation (K : PySem.W.Frag) (E : XK) : TS :=
  tIfS (tNot (tTest (tChain rLeA rLeA (tC (.int 1)) (tCB rAbsA (tCons (tVar 1) (tNil))) (tVar 0)))) (tRz (He.ga K "BadOperation") ["operation", "index"] (fun cls d _ H => E cls d H) (tCons (tVar 1) (tCons (tVar 2) (tNil)))) (tNext)
def t_Links_check (K : PySem.W.Frag) (E : XK) : TS :=
  tSeq (tDrop (tCl (sp_check_operation K) (fun _ => E) (tCons (tFld K (tVar 0) "size") (tCons (tVar 1) (tCons (tVar 2) (tNil)))))) (tIfS (tNot (tB (tMt (He.ga K "Links") "is_legal" (sp_Links_is_legal K) (fun _ => E) (tVar 0) (tCons (tVar 1) (tNil))))) (tRz (He.ga K "Illegal") ["operation", "index"] (fun cls d _ H => E cls d H) (tCons (tVar 1) (tCons (tVar 2) (tNil)))) (tNext))
def t_Links_apply_at (K : PySem.W.Frag) (E : XK) : TS :=
  tSeq (tDrop (tMt (He.ga K "Links") "check" (sp_Links_check K) (fun _ => E) (tVar 0) (tCons (tVar 1) (tCons (tVar 2) (tNil))))) (tSeq (tAsg (tCB rAbsA (tCons (tVar 1) (tNil))) (gName 3)) (tSeq (tAsg (tOp (rIx K) (tFld K (tVar 0) "_lefts") (tVar 3)) (gName 4)) (tSeq (tAsg (tOp (rIx K) (tFld K (tVar 0) "_rights") (tVar 3)) (gName 5)) (tSeq (tAsg (tOp rLtA (tVar 1) (tC (.int 0))) (gName 6)) (tSeq (tAsg (tIf (tB (tVar 6)) (tVar 5) (tVar 3)) (gSub (tFld K (tVar 0) "_rights") (tVar 4) rSetL)) (tSeq (tAsg (tIf (tB (tVar 6)) (tVar 4) (tVar 3)) (gSub (tFld K (tVar 0) "_lefts") (tVar 5) rSetL)) (tAsg (tVar 6) (gSub (tFld K (tVar 0) "_out") (tVar 3) rSetL))))))))
def t_Links_copy (K : PySem.W.Frag) (E : XK) : TS :=
  tSeq (tAsg (tMk (He.ga K "Links") (sp_Links___init__ K) (fun _ => E) (tCons (tFld K (tVar 0) "size") (tNil))) (gName 1)) (tSeq (sFld K (tVar 1) (tCB (rListA K) (tCons (tFld K (tVar 0) "_rights") (tNil))) "_rights") (tSeq (sFld K (tVar 1) (tCB (rListA K) (tCons (tFld K (tVar 0) "_lefts") (tNil))) "_lefts") (tSeq (sFld K (tVar 1) (tCB (rListA K) (tCons (tFld K (tVar 0) "_out") (tNil))) "_out") (tRet (tVar 1)))))
def t_play (K : PySem.W.Frag) (E : XK) : TS :=
  tSeq (tAsg (tMt (He.ga K "Links") "copy" (sp_Links_copy K) (fun _ => E) (tVar 0) tNil) (gName 2)) (tSeq (tFor (iEnum K (tCons (tVar 1) (tNil))) (gTup K 2 (gCons (gName 3) (gCons (gName 4) (gNil)))) (tDrop (tMt (He.ga K "Links") "apply_at" (sp_Links_apply_at K) (fun _ => E) (tVar 2) (tCons (tVar 4) (tCons (tVar 3) (tNil)))))) (tRet (tVar 2)))
def t_replay (K : PySem.W.Frag) (E : XK) : TS :=
  tRet (tCl (sp_play K) (fun _ => E) (tCons (tMk (He.ga K "Links") (sp_Links___init__ K) (fun _ => E) (tCons (tVar 0) (tNil))) (tCons (tVar 1) (tNil))))
def t__links_of_operations (K : PySem.W.Frag) (E : XK) : TS :=
  tSeq (tAsg (tMk (He.ga K "Links") (sp_Links___init__ K) (fun _ => E) (tCons (tVar 0) (tNil))) (gName 2)) (tSeq (tAsg (tLst (tNil)) (gName 3)) (tSeq (tFor (iEnum K (tCons (tVar 1) (tNil))) (gTup K 2 (gCons (gName 4) (gCons (gName 5) (gNil)))) (tSeq (tDrop (tMt (He.ga K "Links") "apply_at" (sp_Links_apply_at K) (fun _ => E) (tVar 2) (tCons (tVar 5) (tCons (tVar 4) (tNil))))) (tSeq (tAsg (tCB rAbsA (tCons (tVar 5) (tNil))) (gName 6)) (tDrop (tBM K "list" rAppend (tVar 3) (tCons (tTup (tCons (tVar 6) (tCons (tMt (He.ga K "Links") "left" (sp_Links_left K) (fun _ => E) (tVar 2) (tCons (tVar 6) (tNil))) (tCons (tMt (He.ga K "Links") "right" (sp_Links_right K) (fun _ => E) (tVar 2) (tCons (tVar 6) (tNil))) (tNil))))) (tNil))))))) (tRet (tVar 3))))
def t_writers (K : PySem.W.Frag) (E : XK) : TS :=
  tSeq (tAsg (tCl (sp__links_of_operations K) (fun _ => E) (tCons (tVar 0) (tCons (tVar 1) (tNil)))) (gName 2)) (tSeq (tAsg (tOp rMulA (tLst (tCons (tUn rNegA (tC (.int 1))) (tNil))) (tOp rAddA (tVar 0) (tC (.int 1)))) (gName 3)) (tSeq (tAsg (tOp rMulA (tLst (tCons (tUn rNegA (tC (.int 1))) (tNil))) (tOp rAddA (tVar 0) (tC (.int 1)))) (gName 4)) (tSeq (tFor (iEnum K (tCons (tVar 2) (tNil))) (gTup K 2 (gCons (gName 5) (gCons (gTup K 3 (gCons (gName 6) (gCons (gName 7) (gCons (gName 8) (gNil))))) (gNil)))) (tSeq (tAsg (tVar 5) (gSub (tVar 3) (tVar 7) rSetL)) (tAsg (tVar 5) (gSub (tVar 4) (tOp rSubA (tVar 8) (tC (.int 1))) rSetL)))) (tRet (tTup (tCons (tVar 3) (tCons (tVar 4) (tNil))))))))
def t_gap_certificate (K : PySem.W.Frag) (E : XK) : TS :=
  tSeq (tAsg (tCl (sp_writers K) (fun _ => E) (tCons (tVar 0) (tCons (tVar 1) (tNil)))) (gTup K 2 (gCons (gName 3) (gCons (gName 4) (gNil))))) (tSeq (tAsg (tCl (sp_gap_state K) (fun _ => E) (tCons (tCl (sp_replay K) (fun _ => E) (tCons (tVar 0) (tCons (tVar 1) (tNil)))) (tCons (tVar 2) (tNil)))) (gName 5)) (tRet (tTup (tCons (tVar 5) (tCons (tOp (rIx K) (tVar 3) (tVar 2)) (tCons (tOp (rIx K) (tVar 4) (tVar 2)) (tNil)))))))
def t_is_plain_integer (K : PySem.W.Frag) (E : XK) : TS :=
  tRet (tAndV (tCB (rIsi K) (tCons (tVar 0) (tCons (tC (.ty "int")) (tNil)))) (tNotV (tCB (rIsi K) (tCons (tVar 0) (tCons (tC (.ty "bool")) (tNil))))))
def t_is_gap_certificate (K : PySem.W.Frag) (E : XK) : TS :=
  tSeq (tAsg (tCl (sp_gap_certificate K) (fun _ => E) (tCons (tVar 0) (tCons (tVar 1) (tCons (tVar 2) (tNil))))) (gName 4)) (tSeq (tIfS (tOr (tNot (tB (tCB (rIsi K) (tCons (tVar 3) (tCons (tC (.ty "tuple")) (tNil)))))) (tTest (tOp (rNeA K) (tCB (rLenA K) (tCons (tVar 3) (tNil))) (tC (.int 3))))) (tRet (tC (.bl false))) (tNext)) (tSeq (tAsg (tVar 3) (gTup K 3 (gCons (gName 5) (gCons (gName 6) (gCons (gName 7) (gNil)))))) (tSeq (tAsg (tAndV (tCl (sp_is_plain_integer K) (fun _ => E) (tCons (tVar 6) (tNil))) (tCl (sp_is_plain_integer K) (fun _ => E) (tCons (tVar 7) (tNil)))) (gName 8)) (tRet (tAndV (tCB (rIsi K) (tCons (tVar 5) (tCons (tC (.ty "str")) (tNil)))) (tAndV (tVar 8) (tOp (rEqA K) (tVar 3) (tVar 4))))))))
def t__law_judged (K : PySem.W.Frag) (E : XK) : TS :=
  tSeq (tAsg (tCl (sp_is_gap_certificate K) (fun _ => E) (tCons (tVar 0) (tCons (tVar 1) (tCons (tVar 2) (tCons (tVar 3) (tNil)))))) (gName 5)) (tRet (tAndV (tCB (rIsi K) (tCons (tVar 5) (tCons (tC (.ty "bool")) (tNil)))) (tOp (rEqA K) (tVar 5) (tOp (rEqA K) (tVar 3) (tVar 4)))))
def t__law_papers_fit (K : PySem.W.Frag) (E : XK) : TS :=
  tSeq (tAsg (tOp (rIx K) (tVar 2) (tCl (sp__law_draw K) (fun _ => E) (tCons (tVar 4) (tCons (tCB (rLenA K) (tCons (tVar 2) (tNil))) (tNil))))) (gName 5)) (tSeq (tFor (iList K (tVar 2)) (gName 6) (tSeq (tAsg (tOp (rIx K) (tVar 3) (tVar 6)) (gName 7)) (tSeq (tIfS (tNot (tB (tCl (sp__law_is_paper K) (fun _ => E) (tCons (tCl (sp_gap_certificate K) (fun _ => E) (tCons (tVar 0) (tCons (tVar 1) (tCons (tVar 6) (tNil))))) (tCons (tVar 7) (tNil)))))) (tRet (tC (.bl false))) (tNext)) (tSeq (tIfS (tNot (tB (tCl (sp__law_judged K) (fun _ => E) (tCons (tVar 0) (tCons (tVar 1) (tCons (tVar 6) (tCons (tVar 7) (tCons (tVar 7) (tNil))))))))) (tRet (tC (.bl false))) (tNext)) (tSeq (tAsg (tCl (sp__law_bents K) (fun _ => E) (tCons (tVar 7) (tCons (tOp (rIx K) (tVar 3) (tVar 5)) (tCons (tOp rAddA (tC (.int 1)) (tCl (sp__law_draw K) (fun _ => E) (tCons (tVar 4) (tCons (tC (.int 4)) (tNil))))) (tNil))))) (gName 8)) (tSeq (tAsg (tLc (iRng1 (tCons (tC (.int 2)) (tNil))) (gName 13) (tYes) (tOp (rIx K) (tVar 8) (tCl (sp__law_draw K) (fun _ => E0) (tCons (tVar 4) (tCons (tCB (rLenA K) (tCons (tVar 8) (tNil))) (tNil))))) [13]) (gName 9)) (tSeq (tIfS (tTest (tOp (rEqA K) (tVar 6) (tVar 5))) (tAsg (tCl (sp__law_bents K) (fun _ => E) (tCons (tVar 7) (tCons (tOp (rIx K) (tVar 3) (tOp rSubA (tVar 0) (tVar 5))) (tCons (tC (.int 1)) (tNil))))) (gName 9)) (tNext)) (tSeq (tFor (iList K (tVar 9)) (gName 10) (tIfS (tNot (tB (tCl (sp__law_judged K) (fun _ => E) (tCons (tVar 0) (tCons (tVar 1) (tCons (tVar 6) (tCons (tVar 10) (tCons (tVar 7) (tNil))))))))) (tRet (tC (.bl false))) (tNext))) (tFor (iRng2 (tCons (tC (.int 1)) (tCons (tC (.int 3)) (tNil)))) (gName 11) (tSeq (tAsg (tCB (rListA K) (tCons (tVar 7) (tNil))) (gName 12)) (tSeq (tAsg (tOp (rEqA K) (tOp (rIx K) (tVar 7) (tVar 11)) (tC (.int 1))) (gSub (tVar 12) (tVar 11) rSetL)) (tIfS (tAnd (tTest (tOp (rIn K false) (tOp (rIx K) (tVar 7) (tVar 11)) (tLst (tCons (tC (.int 0)) (tCons (tC (.int 1)) (tNil)))))) (tTest (tOp (rIsB true) (tCl (sp_is_gap_certificate K) (fun _ => E) (tCons (tVar 0) (tCons (tCB (rListA K) (tCons (tVar 1) (tNil))) (tCons (tVar 6) (tCons (tCB (rTupA K) (tCons (tVar 12) (tNil))) (tNil)))))) (tC (.bl false))))) (tRet (tC (.bl false))) (tNext))))))))))))) (tRet (tC (.bl true))))
def t__law_number_or_none (K : PySem.W.Frag) (E : XK) : TS :=
  tSeq (tIfS (tOr (tTest (tOp rIsNA (tVar 0) (tC .non))) (tTest (tOp rIsNA (tVar 1) (tC .non)))) (tRet (tAndV (tOp rIsNA (tVar 0) (tC .non)) (tOp rIsNA (tVar 1) (tC .non)))) (tNext)) (tRet (tAndV (tCl (sp__law_whole_number K) (fun _ => E) (tCons (tVar 0) (tNil))) (tOp (rEqA K) (tVar 0) (tVar 1))))
def t__law_numbers (K : PySem.W.Frag) (E : XK) : TS :=
  tSeq (tIfS (tOr (tNot (tB (tCB (rIsi K) (tCons (tVar 0) (tCons (tC (.ty "list")) (tNil)))))) (tTest (tOp (rNeA K) (tCB (rLenA K) (tCons (tVar 0) (tNil))) (tCB (rLenA K) (tCons (tVar 1) (tNil)))))) (tRet (tC (.bl false))) (tNext)) (tSeq (tFor (iRng1 (tCons (tCB (rLenA K) (tCons (tVar 1) (tNil))) (tNil))) (gName 2) (tIfS (tOr (tNot (tB (tCl (sp__law_whole_number K) (fun _ => E) (tCons (tOp (rIx K) (tVar 0) (tVar 2)) (tNil))))) (tTest (tOp (rNeA K) (tOp (rIx K) (tVar 0) (tVar 2)) (tOp (rIx K) (tVar 1) (tVar 2))))) (tRet (tC (.bl false))) (tNext))) (tRet (tC (.bl true))))
def t__law_bears (K : PySem.W.Frag) (E : XK) : TS :=
  tSeq (tIfS (tOr (tNot (tB (tCB (rIsi K) (tCons (tVar 0) (tCons (tC (.ref (He.ga K "Verdict"))) (tNil)))))) (tNot (tB (tCl (sp__law_numbers K) (fun _ => E) (tCons (tFld K (tVar 0) "out_nodes") (tCons (tVar 1) (tNil))))))) (tRet (tC (.bl false))) (tNext)) (tSeq (tIfS (tOr (tNot (tB (tCl (sp__law_number_or_none K) (fun _ => E) (tCons (tFld K (tVar 0) "gap") (tCons (tVar 2) (tNil)))))) (tNot (tB (tCl (sp__law_number_or_none K) (fun _ => E) (tCons (tFld K (tVar 0) "index") (tCons (tVar 3) (tNil))))))) (tRet (tC (.bl false))) (tNext)) (tRet (tAndV (tCB (rIsi K) (tCons (tFld K (tVar 0) "whole") (tCons (tC (.ty "bool")) (tNil)))) (tOp (rEqA K) (tFld K (tVar 0) "whole") (tAndV (tOp rIsNA (tVar 2) (tC .non)) (tOp (rEqA K) (tCB (rLenA K) (tCons (tVar 1) (tNil))) (tC (.int 0))))))))
def t__law_verdict_fits (K : PySem.W.Frag) (E : XK) : TS :=
  tSeq (tFor (iRng1 (tCons (tCB (rLenA K) (tCons (tOp (rIx K) (tVar 1) (tC (.int 0))) (tNil))) (tNil))) (gName 2) (tIfS (tTest (tOp (rNeA K) (tOp (rIx K) (tOp (rIx K) (tOp (rIx K) (tVar 1) (tC (.int 0))) (tVar 2)) (tC (.int 0))) (tC (.str "joined")))) (tRet (tCl (sp__law_bears K) (fun _ => E) (tCons (tVar 0) (tCons (tOp (rIx K) (tVar 1) (tC (.int 2))) (tCons (tVar 2) (tCons (tOp (rIx K) (tOp (rIx K) (tVar 1) (tC (.int 1))) (tVar 2)) (tNil))))))) (tNext))) (tRet (tCl (sp__law_bears K) (fun _ => E) (tCons (tVar 0) (tCons (tOp (rIx K) (tVar 1) (tC (.int 2))) (tCons (tC .non) (tCons (tC .non) (tNil)))))))
def t_Links_outs (K : PySem.W.Frag) (E : XK) : TS :=
  tRet (tLc (iRng2 (tCons (tC (.int 1)) (tCons (tOp rAddA (tFld K (tVar 0) "size") (tC (.int 1))) (tNil)))) (gName 1) (tB (tOp (rIx K) (tFld K (tVar 0) "_out") (tVar 1))) (tVar 1) [1])
def t_Verdict___init__ (K : PySem.W.Frag) (E : XK) : TS :=
  tSeq (sFld K (tVar 0) (tCB (rListA K) (tCons (tVar 1) (tNil))) "out_nodes") (tSeq (sFld K (tVar 0) (tVar 2) "gap") (tSeq (sFld K (tVar 0) (tVar 3) "index") (sFld K (tVar 0) (tAndV (tOp rIsNA (tVar 2) (tC .non)) (tOp (rEqA K) (tCB (rLenA K) (tCons (tFld K (tVar 0) "out_nodes") (tNil))) (tC (.int 0)))) "whole")))
def t_Links_apply (K : PySem.W.Frag) (E : XK) : TS :=
  tDrop (tMt (He.ga K "Links") "apply_at" (sp_Links_apply_at K) (fun _ => E) (tVar 0) (tCons (tVar 1) (tCons (tC (.int 0)) (tNil))))
def t_decided_by (K : PySem.W.Frag) (E : XK) : TS :=
  tSeq (tDrop (tCl (sp_replay K) (fun _ => E) (tCons (tVar 0) (tCons (tVar 1) (tNil))))) (tSeq (tAsg (tMk (He.ga K "Links") (sp_Links___init__ K) (fun _ => E) (tCons (tVar 0) (tNil))) (gName 3)) (tSeq (tAsg (tCl (sp_gap_state K) (fun _ => E) (tCons (tVar 3) (tCons (tVar 2) (tNil)))) (gName 4)) (tSeq (tAsg (tUn rNegA (tC (.int 1))) (gName 5)) (tSeq (tFor (iEnum K (tCons (tVar 1) (tNil))) (gTup K 2 (gCons (gName 6) (gCons (gName 7) (gNil)))) (tSeq (tDrop (tMt (He.ga K "Links") "apply" (sp_Links_apply K) (fun _ => E) (tVar 3) (tCons (tVar 7) (tNil)))) (tSeq (tAsg (tVar 4) (gName 8)) (tSeq (tAsg (tCl (sp_gap_state K) (fun _ => E) (tCons (tVar 3) (tCons (tVar 2) (tNil)))) (gName 4)) (tIfS (tTest (tOp (rNeA K) (tVar 4) (tVar 8))) (tAsg (tVar 6) (gName 5)) (tNext)))))) (tRet (tVar 5))))))
def t_gap_states (K : PySem.W.Frag) (E : XK) : TS :=
  tRet (tLc (iRng1 (tCons (tOp rAddA (tFld K (tVar 0) "size") (tC (.int 1))) (tNil))) (gName 1) (tYes) (tCl (sp_gap_state K) (fun _ => E0) (tCons (tVar 0) (tCons (tVar 1) (tNil)))) [1])
def t_verdict (K : PySem.W.Frag) (E : XK) : TS :=
  tSeq (tAsg (tCl (sp_replay K) (fun _ => E) (tCons (tVar 0) (tCons (tVar 1) (tNil)))) (gName 2)) (tSeq (tFor (iEnum K (tCons (tCl (sp_gap_states K) (fun _ => E) (tCons (tVar 2) (tNil))) (tNil))) (gTup K 2 (gCons (gName 3) (gCons (gName 4) (gNil)))) (tIfS (tTest (tOp (rNeA K) (tVar 4) (tC (.str "joined")))) (tRet (tMk (He.ga K "Verdict") (sp_Verdict___init__ K) (fun _ => E) (tCons (tMt (He.ga K "Links") "outs" (sp_Links_outs K) (fun _ => E) (tVar 2) tNil) (tCons (tVar 3) (tCons (tCl (sp_decided_by K) (fun _ => E) (tCons (tVar 0) (tCons (tVar 1) (tCons (tVar 3) (tNil))))) (tNil)))))) (tNext))) (tRet (tMk (He.ga K "Verdict") (sp_Verdict___init__ K) (fun _ => E) (tCons (tMt (He.ga K "Links") "outs" (sp_Links_outs K) (fun _ => E) (tVar 2) tNil) (tCons (tC .non) (tCons (tC .non) (tNil)))))))
def t__law_agrees (K : PySem.W.Frag) (E : XK) : TS :=
  tSeq (tAsg (tCl (sp10__law_book K) (fun _ => E) (tCons (tVar 0) (tCons (tVar 1) (tNil)))) (gName 4)) (tSeq (tAsg (tCB (rListA K) (tCons (tVar 1) (tNil))) (gName 5)) (tSeq (tIfS (tNot (tB (tCl (sp__law_verdict_fits K) (fun _ => E) (tCons (tCl (sp_verdict K) (fun _ => E) (tCons (tVar 0) (tCons (tVar 5) (tNil)))) (tCons (tVar 4) (tNil)))))) (tRet (tC (.bl false))) (tNext)) (tSeq (tIfS (tNot (tB (tCl (sp__law_papers_fit K) (fun _ => E) (tCons (tVar 0) (tCons (tVar 5) (tCons (tVar 2) (tCons (tOp (rIx K) (tVar 4) (tC (.int 0))) (tCons (tVar 3) (tNil))))))))) (tRet (tC (.bl false))) (tNext)) (tRet (tOp (rEqA K) (tVar 5) (tVar 1))))))
def t__law_bag (K : PySem.W.Frag) (E : XK) : TS :=
  tSeq (tAsg (tOp rAddA (tOp rMulA (tC (.int 1009)) (tVar 1)) (tC (.int 1365))) (gName 2)) (tSeq (tFor (iRng1 (tCons (tCB rMin2A (tCons (tC (.int 63)) (tCons (tCB (rLenA K) (tCons (tVar 0) (tNil))) (tNil)))) (tNil))) (gName 3) (tAsg (tOp rModA (tCB rIntA (tCons (tOp rAddA (tOp rAddA (tOp rMulA (tVar 2) (tC (.int 48271))) (tOp rModA (tCB rIntA (tCons (tOp (rIx K) (tVar 0) (tVar 3)) (tNil))) (tC (.int 2147483629)))) (tOp rMulA (tC (.int 7919)) (tVar 3))) (tNil))) (tC (.int 2147483647))) (gName 2))) (tSeq (tAsg (tC (.int 0)) (gName 4)) (tSeq (tIfS (tAnd (tTest (tOp rLtA (tVar 1) (tCB (rLenA K) (tCons (tVar 0) (tNil))))) (tTest (tOp rGeA (tCB rAbsA (tCons (tOp (rIx K) (tVar 0) (tVar 1)) (tNil))) (tOp rPowA (tC (.int 10)) (tC (.int 18)))))) (tAsg (tCB rAbsA (tCons (tOp (rIx K) (tVar 0) (tVar 1)) (tNil))) (gName 4)) (tNext)) (tRet (tLst (tCons (tVar 4) (tCons (tVar 2) (tCons (tC (.int 0)) (tNil)))))))))
def t__law_planted (K : PySem.W.Frag) (E : XK) : TS :=
  tSeq (tAsg (tCl (sp__law_draw K) (fun _ => E) (tCons (tVar 0) (tCons (tC (.int 7)) (tNil)))) (gName 2)) (tSeq (tAsg (tCl (sp__law_draw K) (fun _ => E) (tCons (tVar 0) (tCons (tC (.int 2)) (tNil)))) (gName 3)) (tSeq (tAsg (tLst (tCons (tLst (tCons (tUn rNegA (tC (.int 2))) (tCons (tUn rNegA (tC (.int 3))) (tCons (tC (.int 2)) (tCons (tUn rNegA (tC (.int 1))) (tCons (tUn rNegA (tC (.int 4))) (tNil))))))) (tCons (tLst (tCons (tUn rNegA (tC (.int 1))) (tCons (tUn rNegA (tC (.int 3))) (tCons (tUn rNegA (tC (.int 2))) (tCons (tC (.int 1)) (tCons (tC (.int 3)) (tNil))))))) (tCons (tLst (tCons (tUn rNegA (tC (.int 1))) (tCons (tUn rNegA (tC (.int 2))) (tCons (tC (.int 1)) (tCons (tUn rNegA (tC (.int 3))) (tCons (tC (.int 2)) (tCons (tC (.int 3)) (tNil)))))))) (tNil))))) (gName 4)) (tSeq (tDrop (tBM K "list" rAppend (tVar 4) (tCons (tLst (tCons (tUn rNegA (tC (.int 2))) (tCons (tUn rNegA (tC (.int 3))) (tCons (tC (.int 2)) (tCons (tUn rNegA (tC (.int 1))) (tCons (tUn rNegA (tC (.int 6))) (tCons (tUn rNegA (tC (.int 5))) (tCons (tC (.int 6)) (tCons (tUn rNegA (tC (.int 7))) (tCons (tUn rNegA (tC (.int 4))) (tNil))))))))))) (tNil)))) (tSeq (tAsg (tOp rAddA (tC (.int 4)) (tOp rMulA (tC (.int 3)) (tOp rDivA (tVar 2) (tC (.int 3))))) (gName 5)) (tSeq (tIfS (tOr (tTest (tOp rGtA (tVar 2) (tC (.int 3)))) (tTest (tOp rLtA (tVar 1) (tVar 5)))) (tRet (tLst (tNil))) (tNext)) (tSeq (tAsg (tOp (rIx K) (tVar 4) (tVar 2)) (gName 6)) (tSeq (tIfS (tTest (tOp (rEqA K) (tVar 3) (tC (.int 1)))) (tAsg (tLc (iList K (tVar 6)) (gName 8) (tYes) (tIf (tTest (tOp rGtA (tVar 8) (tC (.int 0)))) (tOp rSubA (tOp rAddA (tVar 5) (tC (.int 1))) (tVar 8)) (tOp rSubA (tOp rSubA (tUn rNegA (tVar 5)) (tC (.int 1))) (tVar 8))) [8]) (gName 6)) (tNext)) (tSeq (tAsg (tCl (sp__law_draw K) (fun _ => E) (tCons (tVar 0) (tCons (tOp rAddA (tOp rSubA (tVar 1) (tVar 5)) (tC (.int 1))) (tNil)))) (gName 7)) (tRet (tLc (iList K (tVar 6)) (gName 8) (tYes) (tIf (tTest (tOp rGtA (tVar 8) (tC (.int 0)))) (tOp rAddA (tVar 8) (tVar 7)) (tOp rSubA (tVar 8) (tVar 7))) [8]))))))))))
def t__law_log (K : PySem.W.Frag) (E : XK) : TS :=
  tSeq (tAsg (tCl (sp__law_planted K) (fun _ => E) (tCons (tVar 0) (tCons (tVar 1) (tNil)))) (gName 2)) (tSeq (tIfS (tTest (tOp (rEqA K) (tVar 1) (tC (.int 0)))) (tRet (tVar 2)) (tNext)) (tSeq (tIfS (tAnd (tTest (tOp rGtA (tCB (rLenA K) (tCons (tVar 2) (tNil))) (tC (.int 0)))) (tTest (tOp (rEqA K) (tCl (sp__law_draw K) (fun _ => E) (tCons (tVar 0) (tCons (tC (.int 3)) (tNil)))) (tC (.int 0))))) (tRet (tVar 2)) (tNext)) (tSeq (tAsg (tLc (iRng1 (tCons (tOp rAddA (tVar 1) (tC (.int 1))) (tNil))) (gName 9) (tYes) (tC (.bl false)) [9]) (gName 3)) (tSeq (tFor (iList K (tVar 2)) (gName 4) (tAsg (tOp rLtA (tVar 4) (tC (.int 0))) (gSub (tVar 3) (tCB rAbsA (tCons (tVar 4) (tNil))) rSetL))) (tSeq (tAsg (tOp rAddA (tC (.int 1)) (tCl (sp__law_draw K) (fun _ => E) (tCons (tVar 0) (tCons (tCB rMin2A (tCons (tVar 1) (tCons (tC (.int 6)) (tNil)))) (tNil))))) (gName 5)) (tSeq (tAsg (tCl (sp__law_draw K) (fun _ => E) (tCons (tVar 0) (tCons (tOp rAddA (tOp rSubA (tVar 1) (tVar 5)) (tC (.int 1))) (tNil)))) (gName 6)) (tSeq (tAsg (tCl (sp__law_draw K) (fun _ => E) (tCons (tVar 0) (tCons (tC (.int 13)) (tNil)))) (gName 7)) (tSeq (tIfS (tTest (tOp (rEqA K) (tCl (sp__law_draw K) (fun _ => E) (tCons (tVar 0) (tCons (tC (.int 8)) (tNil)))) (tC (.int 0)))) (tAsg (tOp rAddA (tVar 7) (tCl (sp__law_draw K) (fun _ => E) (tCons (tVar 0) (tCons (tC (.int 27)) (tNil))))) (gName 7)) (tNext)) (tSeq (tFor (iRng1 (tCons (tVar 7) (tNil))) (gName 8) (tSeq (tAsg (tOp rAddA (tOp rAddA (tVar 6) (tC (.int 1))) (tCl (sp__law_draw K) (fun _ => E) (tCons (tVar 0) (tCons (tVar 5) (tNil))))) (gName 9)) (tSeq (tIfS (tTest (tOp (rEqA K) (tCl (sp__law_draw K) (fun _ => E) (tCons (tVar 0) (tCons (tC (.int 6)) (tNil)))) (tC (.int 0)))) (tAsg (tOp rAddA (tC (.int 1)) (tCl (sp__law_draw K) (fun _ => E) (tCons (tVar 0) (tCons (tVar 1) (tNil))))) (gName 9)) (tNext)) (tSeq (tAsg (tUn rNegA (tVar 9)) (gName 4)) (tSeq (tIfS (tB (tOp (rIx K) (tVar 3) (tVar 9))) (tAsg (tVar 9) (gName 4)) (tNext)) (tSeq (tDrop (tBM K "list" rAppend (tVar 2) (tCons (tVar 4) (tNil)))) (tAsg (tOp rLtA (tVar 4) (tC (.int 0))) (gSub (tVar 3) (tVar 9) rSetL)))))))) (tSeq (tIfS (tTest (tOp (rEqA K) (tCl (sp__law_draw K) (fun _ => E) (tCons (tVar 0) (tCons (tC (.int 2)) (tNil)))) (tC (.int 0)))) (tRet (tVar 2)) (tNext)) (tSeq (tFor (iRng1 (tCons (tVar 1) (tNil))) (gName 8) (tSeq (tAsg (tLc (iRng2 (tCons (tC (.int 1)) (tCons (tOp rAddA (tVar 1) (tC (.int 1))) (tNil)))) (gName 9) (tB (tOp (rIx K) (tVar 3) (tVar 9))) (tVar 9) [9]) (gName 10)) (tIfS (tTest (tOp rGtA (tCB (rLenA K) (tCons (tVar 10) (tNil))) (tC (.int 0)))) (tSeq (tAsg (tOp (rIx K) (tVar 10) (tCl (sp__law_draw K) (fun _ => E) (tCons (tVar 0) (tCons (tCB (rLenA K) (tCons (tVar 10) (tNil))) (tNil))))) (gName 9)) (tSeq (tDrop (tBM K "list" rAppend (tVar 2) (tCons (tVar 9) (tNil)))) (tAsg (tC (.bl false)) (gSub (tVar 3) (tVar 9) rSetL)))) (tNext)))) (tRet (tVar 2)))))))))))))
def t__law_made (K : PySem.W.Frag) (E : XK) : TS :=
  tSeq (tAsg (tCB (rListA K) (tCons (tVar 0) (tNil))) (gName 3)) (tSeq (tAsg (tMk (He.ga K "Verdict") (sp_Verdict___init__ K) (fun _ => E) (tCons (tVar 3) (tCons (tVar 1) (tCons (tVar 2) (tNil))))) (gName 4)) (tSeq (tDrop (tBM K "list" rAppend (tVar 3) (tCons (tC (.int 1)) (tNil)))) (tRet (tCl (sp__law_bears K) (fun _ => E) (tCons (tVar 4) (tCons (tVar 0) (tCons (tVar 1) (tCons (tVar 2) (tNil)))))))))
def t__law_places (K : PySem.W.Frag) (E : XK) : TS :=
  tSeq (tIfS (tTest (tOp rLeA (tVar 1) (tC (.int 12)))) (tRet (tLc (iRng1 (tCons (tOp rAddA (tVar 1) (tC (.int 1))) (tNil))) (gName 6) (tYes) (tVar 6) [6])) (tNext)) (tSeq (tAsg (tLst (tCons (tC (.int 0)) (tCons (tVar 1) (tCons (tCl (sp__law_draw K) (fun _ => E) (tCons (tVar 0) (tCons (tOp rAddA (tVar 1) (tC (.int 1))) (tNil)))) (tNil))))) (gName 3)) (tSeq (tFor (iRng1 (tCons (tC (.int 6)) (tNil))) (gName 4) (tIfS (tTest (tOp rGtA (tCB (rLenA K) (tCons (tVar 2) (tNil))) (tC (.int 0)))) (tSeq (tAsg (tCB rAbsA (tCons (tOp (rIx K) (tVar 2) (tCl (sp__law_draw K) (fun _ => E) (tCons (tVar 0) (tCons (tCB (rLenA K) (tCons (tVar 2) (tNil))) (tNil))))) (tNil))) (gName 5)) (tDrop (tBM K "list" rAppend (tVar 3) (tCons (tOp rSubA (tVar 5) (tCl (sp__law_draw K) (fun _ => E) (tCons (tVar 0) (tCons (tC (.int 2)) (tNil))))) (tNil))))) (tNext))) (tRet (tVar 3))))
def t__law_answer (K : PySem.W.Frag) (E : XK) : TS :=
  tSeq ((fun D σ H => (fun (W : WX) => tIfS (tTest (tOp (rEqA K) (tVar 0) (tC (.int 0)))) (tDrop (tCl (sp_gap_certificate K) (WE W) (tCons (tVar 1) (tCons (tCB (rListA K) (tCons (tVar 2) (tNil))) (tCons (tVar 3) (tNil)))))) (tIfS (tTest (tOp (rEqA K) (tVar 0) (tC (.int 1)))) (tDrop (tCl (sp_is_gap_certificate K) (WE W) (tCons (tVar 1) (tCons (tCB (rListA K) (tCons (tVar 2) (tNil))) (tCons (tVar 3) (tCons (tTup (tCons (tC (.str "joined")) (tCons (tUn rNegA (tC (.int 1))) (tCons (tUn rNegA (tC (.int 1))) (tNil))))) (tNil))))))) (tDrop (tCl (sp_verdict K) (WE W) (tCons (tVar 1) (tCons (tCB (rListA K) (tCons (tVar 2) (tNil))) (tNil))))))) (wAs K (.ref (He.ga K "LinkError")) 4 (fun a cls d => tSeq (tIfS (tNot (tB (tCB (rIsX K cls d a) (tCons (tVar 4) (tCons (tC (.ty "ValueError")) (tNil)))))) (tRet (tTup (tCons (tC (.str "other")) (tNil)))) (tNext)) (tSeq (tIfS (tAnd (tB (tCB (rIsX K cls d a) (tCons (tVar 4) (tCons (tC (.ref (He.ga K "BadOperation"))) (tNil))))) (tNot (tB (tCB (rIsX K cls d a) (tCons (tVar 4) (tCons (tC (.ref (He.ga K "Illegal"))) (tNil))))))) (tSeq (tIfS (tOr (tNot (tB (tCB (rIsX K cls d a) (tCons (tVar 4) (tCons (tC (.ref (He.ga K "LogError"))) (tNil)))))) (tNot (tB (tCl (sp__law_whole_number K) (fun _ => E0) (tCons (tXat K a cls d "index" (tVar 4)) (tNil)))))) (tRet (tTup (tCons (tC (.str "other")) (tNil)))) (tNext)) (tRet (tTup (tCons (tC (.str "operation")) (tCons (tXat K a cls d "operation" (tVar 4)) (tCons (tXat K a cls d "index" (tVar 4)) (tNil))))))) (tNext)) (tSeq (tIfS (tAnd (tB (tCB (rIsX K cls d a) (tCons (tVar 4) (tCons (tC (.ref (He.ga K "Illegal"))) (tNil))))) (tNot (tB (tCB (rIsX K cls d a) (tCons (tVar 4) (tCons (tC (.ref (He.ga K "BadOperation"))) (tNil))))))) (tSeq (tIfS (tOr (tNot (tB (tCB (rIsX K cls d a) (tCons (tVar 4) (tCons (tC (.ref (He.ga K "LogError"))) (tNil)))))) (tNot (tB (tCl (sp__law_whole_number K) (fun _ => E0) (tCons (tXat K a cls d "index" (tVar 4)) (tNil)))))) (tRet (tTup (tCons (tC (.str "other")) (tNil)))) (tNext)) (tRet (tTup (tCons (tC (.str "illegal")) (tCons (tXat K a cls d "operation" (tVar 4)) (tCons (tXat K a cls d "index" (tVar 4)) (tNil))))))) (tNext)) (tSeq (tIfS (tB (tCB (rIsX K cls d a) (tCons (tVar 4) (tCons (tC (.ref (He.ga K "LogError"))) (tNil))))) (tRet (tTup (tCons (tC (.str "other")) (tNil)))) (tNext)) (tSeq (tIfS (tAnd (tB (tCB (rIsX K cls d a) (tCons (tVar 4) (tCons (tC (.ref (He.ga K "BadSize"))) (tNil))))) (tNot (tB (tCB (rIsX K cls d a) (tCons (tVar 4) (tCons (tC (.ref (He.ga K "BadGap"))) (tNil))))))) (tRet (tTup (tCons (tC (.str "size")) (tCons (tXat K a cls d "size" (tVar 4)) (tNil))))) (tNext)) (tSeq (tIfS (tAnd (tB (tCB (rIsX K cls d a) (tCons (tVar 4) (tCons (tC (.ref (He.ga K "BadGap"))) (tNil))))) (tNot (tB (tCB (rIsX K cls d a) (tCons (tVar 4) (tCons (tC (.ref (He.ga K "BadSize"))) (tNil))))))) (tRet (tTup (tCons (tC (.str "gap")) (tCons (tXat K a cls d "gap" (tVar 4)) (tNil))))) (tNext)) (tRet (tTup (tCons (tC (.str "other")) (tNil)))))))))) (fun cls d _ H => E cls d H) D) D σ H)) (tRet (tTup (tCons (tC (.str "done")) (tNil))))
def t__law_fault (K : PySem.W.Frag) (E : XK) : TS :=
  tSeq (tIfS (tOr (tTest (tOp rLtA (tVar 0) (tC (.int 0)))) (tTest (tOp rGtA (tVar 0) (tC (.int 60))))) (tRet (tTup (tCons (tC (.str "size")) (tCons (tVar 0) (tNil))))) (tNext)) (tSeq (tAsg (tLc (iRng1 (tCons (tOp rAddA (tVar 0) (tC (.int 1))) (tNil))) (gName 5) (tYes) (tC (.bl false)) [5]) (gName 3)) (tSeq (tFor (iRng1 (tCons (tCB (rLenA K) (tCons (tVar 1) (tNil))) (tNil))) (gName 4) (tSeq (tAsg (tCB rAbsA (tCons (tOp (rIx K) (tVar 1) (tVar 4)) (tNil))) (gName 5)) (tSeq (tIfS (tOr (tTest (tOp (rEqA K) (tVar 5) (tC (.int 0)))) (tTest (tOp rGtA (tVar 5) (tVar 0)))) (tRet (tTup (tCons (tC (.str "operation")) (tCons (tOp (rIx K) (tVar 1) (tVar 4)) (tCons (tVar 4) (tNil)))))) (tNext)) (tSeq (tIfS (tTest (tOp (rEqA K) (tOp (rIx K) (tVar 3) (tVar 5)) (tOp rLtA (tOp (rIx K) (tVar 1) (tVar 4)) (tC (.int 0))))) (tRet (tTup (tCons (tC (.str "illegal")) (tCons (tOp (rIx K) (tVar 1) (tVar 4)) (tCons (tVar 4) (tNil)))))) (tNext)) (tAsg (tOp rLtA (tOp (rIx K) (tVar 1) (tVar 4)) (tC (.int 0))) (gSub (tVar 3) (tVar 5) rSetL)))))) (tSeq (tIfS (tOr (tTest (tOp rLtA (tVar 2) (tC (.int 0)))) (tTest (tOp rGtA (tVar 2) (tVar 0)))) (tRet (tTup (tCons (tC (.str "gap")) (tCons (tVar 2) (tNil))))) (tNext)) (tRet (tTup (tCons (tC (.str "done")) (tNil)))))))
def t__law_refuses (K : PySem.W.Frag) (E : XK) : TS :=
  tSeq (tFor (iList K (tVar 0)) (gName 1) (tSeq (tAsg (tCl (sp__law_fault K) (fun _ => E) (tCons (tOp (rIx K) (tVar 1) (tC (.int 0))) (tCons (tOp (rIx K) (tVar 1) (tC (.int 1))) (tCons (tOp (rIx K) (tVar 1) (tC (.int 2))) (tNil))))) (gName 2)) (tSeq (tFor (iRng1 (tCons (tC (.int 2)) (tNil))) (gName 3) (tIfS (tTest (tOp (rNeA K) (tCl (sp10__law_answer K) (fun _ => E) (tCons (tVar 3) (tCons (tOp (rIx K) (tVar 1) (tC (.int 0))) (tCons (tOp (rIx K) (tVar 1) (tC (.int 1))) (tCons (tOp (rIx K) (tVar 1) (tC (.int 2))) (tNil)))))) (tVar 2))) (tRet (tC (.bl false))) (tNext))) (tIfS (tTest (tOp (rNeA K) (tCl (sp10__law_answer K) (fun _ => E) (tCons (tC (.int 2)) (tCons (tOp (rIx K) (tVar 1) (tC (.int 0))) (tCons (tOp (rIx K) (tVar 1) (tC (.int 1))) (tCons (tC (.int 0)) (tNil)))))) (tCl (sp__law_fault K) (fun _ => E) (tCons (tOp (rIx K) (tVar 1) (tC (.int 0))) (tCons (tOp (rIx K) (tVar 1) (tC (.int 1))) (tCons (tC (.int 0)) (tNil))))))) (tRet (tC (.bl false))) (tNext))))) (tRet (tC (.bl true)))
def t__law_size (K : PySem.W.Frag) (E : XK) : TS :=
  tSeq (tAsg (tCl (sp__law_draw K) (fun _ => E) (tCons (tVar 0) (tCons (tC (.int 8)) (tNil)))) (gName 1)) (tSeq (tIfS (tTest (tOp (rEqA K) (tVar 1) (tC (.int 0)))) (tRet (tCl (sp__law_draw K) (fun _ => E) (tCons (tVar 0) (tCons (tC (.int 61)) (tNil))))) (tNext)) (tSeq (tIfS (tTest (tOp rLtA (tVar 1) (tC (.int 3)))) (tRet (tCl (sp__law_draw K) (fun _ => E) (tCons (tVar 0) (tCons (tC (.int 13)) (tNil))))) (tNext)) (tRet (tCl (sp__law_draw K) (fun _ => E) (tCons (tVar 0) (tCons (tC (.int 7)) (tNil)))))))
def t__law_spoilt (K : PySem.W.Frag) (E : XK) : TS :=
  tSeq (tAsg (tCl (sp__law_draw K) (fun _ => E) (tCons (tVar 0) (tCons (tOp rAddA (tCB (rLenA K) (tCons (tVar 2) (tNil))) (tC (.int 1))) (tNil)))) (gName 3)) (tSeq (tAsg (tCl (sp__law_draw K) (fun _ => E) (tCons (tVar 0) (tCons (tC (.int 4)) (tNil)))) (gName 4)) (tSeq (tAsg (tOp rMulA (tCl (sp__law_draw K) (fun _ => E) (tCons (tVar 0) (tCons (tC (.int 3)) (tNil)))) (tCl (sp__law_draw K) (fun _ => E) (tCons (tVar 0) (tCons (tC (.int 500)) (tNil))))) (gName 5)) (tSeq (tAsg (tC (.int 0)) (gName 6)) (tSeq (tIfS (tTest (tOp (rEqA K) (tVar 4) (tC (.int 1)))) (tAsg (tOp rAddA (tOp rAddA (tVar 1) (tC (.int 1))) (tVar 5)) (gName 6)) (tNext)) (tSeq (tIfS (tTest (tOp (rEqA K) (tVar 4) (tC (.int 2)))) (tAsg (tOp rSubA (tOp rSubA (tUn rNegA (tC (.int 1))) (tVar 1)) (tVar 5)) (gName 6)) (tNext)) (tSeq (tIfS (tAnd (tTest (tOp (rEqA K) (tVar 4) (tC (.int 3)))) (tTest (tOp rGtA (tVar 1) (tC (.int 0))))) (tSeq (tAsg (tOp rAddA (tC (.int 1)) (tCl (sp__law_draw K) (fun _ => E) (tCons (tVar 0) (tCons (tVar 1) (tNil))))) (gName 7)) (tSeq (tAsg (tLc (iList K (tSl (rSlL K) (tVar 2) (tNoPart) (tPart (tVar 3)))) (gName 10) (tTest (tOp (rEqA K) (tCB rAbsA (tCons (tVar 10) (tNil))) (tVar 7))) (tVar 10) [10]) (gName 8)) (tSeq (tAsg (tVar 7) (gName 6)) (tIfS (tTest (tOp rGtA (tCB (rLenA K) (tCons (tVar 8) (tNil))) (tC (.int 0)))) (tAsg (tOp (rIx K) (tVar 8) (tUn rNegA (tC (.int 1)))) (gName 6)) (tNext))))) (tNext)) (tSeq (tAsg (tOp rAddA (tOp rAddA (tSl (rSlL K) (tVar 2) (tNoPart) (tPart (tVar 3))) (tLst (tCons (tVar 6) (tNil)))) (tSl (rSlL K) (tVar 2) (tPart (tVar 3)) (tNoPart))) (gName 9)) (tSeq (tIfS (tTest (tOp (rEqA K) (tCl (sp__law_draw K) (fun _ => E) (tCons (tVar 0) (tCons (tC (.int 2)) (tNil)))) (tC (.int 1)))) (tDrop (tBM K "list" rAppend (tVar 9) (tCons (tC (.int 0)) (tNil)))) (tNext)) (tRet (tVar 9))))))))))
def t__law_trials (K : PySem.W.Frag) (E : XK) : TS :=
  tSeq (tAsg (tCl (sp__law_spoilt K) (fun _ => E) (tCons (tVar 0) (tCons (tVar 1) (tCons (tVar 2) (tNil))))) (gName 3)) (tSeq (tAsg (tCl (sp__law_draw K) (fun _ => E) (tCons (tVar 0) (tCons (tC (.int 1000)) (tNil)))) (gName 4)) (tSeq (tAsg (tLst (tCons (tTup (tCons (tVar 1) (tCons (tVar 3) (tCons (tC (.int 0)) (tNil))))) (tCons (tTup (tCons (tVar 1) (tCons (tVar 3) (tCons (tOp rAddA (tOp rAddA (tVar 1) (tC (.int 1))) (tVar 4)) (tNil))))) (tCons (tTup (tCons (tVar 1) (tCons (tOp rAddA (tVar 2) (tLst (tCons (tC (.int 0)) (tNil)))) (tCons (tUn rNegA (tC (.int 1))) (tNil))))) (tNil))))) (gName 5)) (tSeq (tAsg (tOp rAddA (tVar 5) (tLst (tCons (tTup (tCons (tOp rSubA (tUn rNegA (tC (.int 1))) (tVar 4)) (tCons (tVar 3) (tCons (tUn rNegA (tC (.int 1))) (tNil))))) (tCons (tTup (tCons (tUn rNegA (tC (.int 1))) (tCons (tVar 2) (tCons (tC (.int 0)) (tNil))))) (tCons (tTup (tCons (tC (.int 61)) (tCons (tVar 3) (tCons (tC (.int 0)) (tNil))))) (tCons (tTup (tCons (tOp rAddA (tC (.int 61)) (tVar 4)) (tCons (tVar 2) (tCons (tC (.int 0)) (tNil))))) (tNil))))))) (gName 5)) (tSeq (tAsg (tOp rAddA (tVar 5) (tLst (tCons (tTup (tCons (tVar 1) (tCons (tVar 2) (tCons (tC (.int 0)) (tNil))))) (tCons (tTup (tCons (tVar 1) (tCons (tVar 2) (tCons (tVar 1) (tNil))))) (tCons (tTup (tCons (tVar 1) (tCons (tVar 2) (tCons (tUn rNegA (tC (.int 1))) (tNil))))) (tCons (tTup (tCons (tVar 1) (tCons (tVar 2) (tCons (tOp rSubA (tUn rNegA (tC (.int 2))) (tVar 4)) (tNil))))) (tNil))))))) (gName 5)) (tSeq (tAsg (tOp rAddA (tVar 5) (tLst (tCons (tTup (tCons (tVar 1) (tCons (tVar 2) (tCons (tOp rAddA (tVar 1) (tC (.int 1))) (tNil))))) (tCons (tTup (tCons (tVar 1) (tCons (tVar 2) (tCons (tOp rAddA (tOp rAddA (tVar 1) (tC (.int 2))) (tVar 4)) (tNil))))) (tNil))))) (gName 5)) (tSeq (tIfS (tTest (tOp rGtA (tCB (rLenA K) (tCons (tVar 2) (tNil))) (tC (.int 0)))) (tDrop (tBM K "list" rAppend (tVar 5) (tCons (tTup (tCons (tVar 1) (tCons (tOp rAddA (tVar 2) (tLst (tCons (tOp (rIx K) (tVar 2) (tUn rNegA (tC (.int 1)))) (tNil)))) (tCons (tC (.int 0)) (tNil))))) (tNil)))) (tNext)) (tRet (tVar 5))))))))
def t_law (K : PySem.W.Frag) (E : XK) : TS :=
  tSeq (tAsg (tCl (sp__law_bag K) (fun _ => E) (tCons (tVar 0) (tCons (tC (.int 0)) (tNil)))) (gName 1)) (tSeq (tAsg (tCl (sp__law_bag K) (fun _ => E) (tCons (tVar 0) (tCons (tC (.int 1)) (tNil)))) (gName 2)) (tSeq (tAsg (tCl (sp__law_size K) (fun _ => E) (tCons (tVar 1) (tNil))) (gName 3)) (tSeq (tAsg (tCl (sp__law_log K) (fun _ => E) (tCons (tVar 1) (tCons (tVar 3) (tNil)))) (gName 4)) (tSeq (tAsg (tCl (sp__law_draw K) (fun _ => E) (tCons (tVar 2) (tCons (tOp rAddA (tCB (rLenA K) (tCons (tVar 4) (tNil))) (tC (.int 1))) (tNil)))) (gName 5)) (tSeq (tAsg (tCl (sp10__law_places K) (fun _ => E) (tCons (tVar 2) (tCons (tVar 3) (tCons (tVar 4) (tNil))))) (gName 6)) (tSeq (tAsg (tLst (tCons (tOp (rIx K) (tVar 6) (tC (.int 0))) (tCons (tOp (rIx K) (tVar 6) (tCl (sp__law_draw K) (fun _ => E) (tCons (tVar 2) (tCons (tCB (rLenA K) (tCons (tVar 6) (tNil))) (tNil))))) (tNil)))) (gName 7)) (tSeq (tIfS (tOr (tNot (tB (tCl (sp10__law_agrees K) (fun _ => E) (tCons (tVar 3) (tCons (tVar 4) (tCons (tVar 6) (tCons (tVar 2) (tNil)))))))) (tNot (tB (tCl (sp10__law_agrees K) (fun _ => E) (tCons (tVar 3) (tCons (tSl (rSlL K) (tVar 4) (tNoPart) (tPart (tVar 5))) (tCons (tVar 7) (tCons (tVar 2) (tNil))))))))) (tRet (tC (.bl false))) (tNext)) (tSeq (tAsg (tOp rAddA (tC (.int 1)) (tCl (sp__law_draw K) (fun _ => E) (tCons (tVar 2) (tCons (tC (.int 59)) (tNil))))) (gName 8)) (tSeq (tAsg (tCl (sp__law_draw K) (fun _ => E) (tCons (tVar 2) (tCons (tC (.int 90)) (tNil)))) (gName 9)) (tSeq (tIfS (tOr (tNot (tB (tCl (sp__law_made K) (fun _ => E) (tCons (tLst (tNil)) (tCons (tC .non) (tCons (tC .non) (tNil))))))) (tOr (tNot (tB (tCl (sp__law_made K) (fun _ => E) (tCons (tLst (tNil)) (tCons (tC (.int 0)) (tCons (tVar 9) (tNil))))))) (tNot (tB (tCl (sp__law_made K) (fun _ => E) (tCons (tLst (tNil)) (tCons (tVar 8) (tCons (tC (.int 0)) (tNil))))))))) (tRet (tC (.bl false))) (tNext)) (tSeq (tIfS (tOr (tNot (tB (tCl (sp__law_made K) (fun _ => E) (tCons (tLst (tCons (tVar 8) (tNil))) (tCons (tC .non) (tCons (tC .non) (tNil))))))) (tNot (tB (tCl (sp__law_made K) (fun _ => E) (tCons (tLst (tCons (tVar 8) (tCons (tOp rAddA (tVar 8) (tC (.int 1))) (tNil)))) (tCons (tVar 8) (tCons (tVar 9) (tNil)))))))) (tRet (tC (.bl false))) (tNext)) (tRet (tCl (sp__law_refuses K) (fun _ => E) (tCons (tCl (sp__law_trials K) (fun _ => E) (tCons (tVar 2) (tCons (tVar 3) (tCons (tVar 4) (tNil))))) (tNil)))))))))))))))
end G

set_option Elab.async false
set_option linter.all false
set_option maxRecDepth 100000
set_option maxHeartbeats 1000000
namespace G
--#FAM KA
open PySem PySem.Spec PyProof.Rows L2
local macro_rules
  | `(tactic| walk_at "1") => `(tactic| first
    | with_reducible refine w_seq ?_
    | with_reducible refine w_asg ?_
    | with_reducible refine w_asgS ?_
    | with_reducible refine w_asf ?_
    | with_reducible refine w_drop ?_
    | with_reducible refine w_ret ?_
    | with_reducible refine w_if ?_
    | with_reducible refine w_not ?_
    | with_reducible refine w_and ?_
    | with_reducible refine w_or ?_
    | with_reducible refine w_test ?_
    | with_reducible refine w_tb ?_
    | with_reducible refine w_chain ?_
    | with_reducible refine w_op ?_
    | with_reducible refine w_un ?_
    | with_reducible refine w_andV ?_
    | with_reducible refine w_orV ?_
    | with_reducible refine w_notV ?_
    | with_reducible refine w_ifE ?_
    | with_reducible refine w_cons ?_
    | with_reducible refine w_nil ?_
    | with_reducible refine w_cb ?_
    | with_reducible refine w_cl ?_
    | with_reducible refine w_mt ?_
    | with_reducible refine w_fld ?_
    | with_reducible refine w_tupN ?_
    | with_reducible refine w_lstN ?_
    | with_reducible refine w_bm ?_
    | with_reducible refine w_bm0 ?_
    | with_reducible refine w_for ?_
    | with_reducible refine w_lc ?_
    | with_reducible refine w_iR1 ?_
    | with_reducible refine w_iR2 ?_
    | with_reducible refine w_iL ?_
    | with_reducible refine w_iT ?_
    | with_reducible refine w_iE ?_
    | with_reducible refine w_iZ ?_
    | with_reducible refine w_var (by with_unfolding_all rfl) ?_
    | with_reducible refine w_c ?_
    | with_reducible refine w_next ?_
    | with_reducible refine w_i0 ?_
    | with_reducible refine w_u1 ?_
    | with_reducible refine w_addI ?_
    | with_reducible refine w_eqI ?_
    | with_reducible refine w_eqS ?_
    | with_reducible refine w_eqB ?_
    | with_reducible refine w_neI ?_
    | with_reducible refine w_neS ?_
    | with_reducible refine w_neB ?_
    | with_reducible refine w_abs ?_
    | with_reducible refine w_intI ?_
    | with_reducible refine w_min2 ?_
    | with_reducible refine w_max2 ?_
    | with_reducible refine w_isN0 ?_
    | with_reducible refine w_isN1 ref_ne ?_
    | with_reducible refine w_isN1 int_ne ?_
    | with_reducible refine w_notN0 ?_
    | with_reducible refine w_notN1 ref_ne ?_
    | with_reducible refine w_notN1 int_ne ?_
    | with_reducible refine w_ex1 ?_
    | with_reducible refine w_n1 ?_
    | with_reducible refine w_n2 ?_
    | with_reducible refine w_tT ?_
    | with_reducible refine w_tF ?_
    | with_reducible refine w_nT ?_
    | with_reducible refine w_nF ?_
    | with_reducible refine w_rz ?_
    | with_reducible refine w_mkN ?_
    | with_reducible refine w_lrgN ?_
    | with_reducible refine w_rg1 ?_
    | with_reducible refine w_rg2 ?_
    | with_reducible refine w_sl ?_
    | with_reducible refine w_np ?_
    | with_reducible refine w_pt ?_
    | with_reducible refine w_tr ?_
    | with_reducible refine w_gn ?_
    | with_reducible refine w_yes ?_
    | with_reducible refine w_g1 ?_
    | with_reducible refine w_gc ?_
    | with_reducible refine w_gt (SqT.of upd_same) rfl ?_)
local macro_rules
  | `(tactic| walk_at "g") => `(tactic| repeat walk_at "1")
section
variable {K : PySem.W.Frag} {mg : Str → Option Value}
theorem len_check_size (K : PySem.W.Frag) : ∀ vs H Q E, sp_check_size K vs H Q E → vs.length = (["size"] : List Str).length := by
  rintro vs H Q E ⟨_, rfl, _⟩
  rfl
theorem rd_check_size (T : Txt K mg) (vs : List V) (H : Hp) (Q : VK) (E : XK) (h : sp_check_size K vs H Q E) : t_check_size K E { nx := fun _ H' => Q .non H', rt := Q } (start ["size"] vs) H := by
  obtain ⟨size, rfl, h1, h2⟩ := h
  unfold t_check_size
  walk_at "g"
  refine w_iteD (fun c1 => ?_) (fun c1 => ?_)
  · walk_at "g"
    refine w_iteN (fun c2 => ?_) (fun c2 => ?_)
    · walk_at "g"
      exact ⟨rfl, Nat.le_of_ble_eq_true rfl, h2 fun z => c2 z.2⟩
    · walk_at "g"
      exact h1 ⟨c1, c2⟩
  · walk_at "g"
    exact ⟨rfl, Nat.le_of_ble_eq_true rfl, h2 fun z => c1 z.1⟩
theorem len_check_operation (K : PySem.W.Frag) : ∀ vs H Q E, sp_check_operation K vs H Q E → vs.length = (["size", "operation", "index"] : List Str).length := by
  rintro vs H Q E ⟨_, _, _, rfl, _⟩
  rfl
theorem rd_check_operation (T : Txt K mg) (vs : List V) (H : Hp) (Q : VK) (E : XK) (h : sp_check_operation K vs H Q E) : t_check_operation K E { nx := fun _ H' => Q .non H', rt := Q } (start ["size", "operation", "index"] vs) H := by
  obtain ⟨n, op, i, rfl, h1, h2⟩ := h
  unfold t_check_operation
  walk_at "g"
  rw [natAbs_if]
  refine w_iteD (fun c1 => ?_) (fun c1 => ?_)
  · walk_at "g"
    refine w_iteN (fun c2 => ?_) (fun c2 => ?_)
    · walk_at "g"
      exact ⟨rfl, Nat.le_of_ble_eq_true rfl, h2 fun z => c2 (by have := z.2; omega)⟩
    · walk_at "g"
      exact h1 ⟨by omega, by omega⟩
  · walk_at "g"
    exact ⟨rfl, Nat.le_of_ble_eq_true rfl, h2 fun z => c1 (by have := z.1; omega)⟩
theorem len_check_gap (K : PySem.W.Frag) : ∀ vs H Q E, sp_check_gap K vs H Q E → vs.length = (["size", "gap"] : List Str).length := by
  rintro vs H Q E ⟨_, _, rfl, _⟩
  rfl
theorem rd_check_gap (T : Txt K mg) (vs : List V) (H : Hp) (Q : VK) (E : XK) (h : sp_check_gap K vs H Q E) : t_check_gap K E { nx := fun _ H' => Q .non H', rt := Q } (start ["size", "gap"] vs) H := by
  obtain ⟨n, g, rfl, h1, h2⟩ := h
  unfold t_check_gap
  walk_at "g"
  refine w_iteD (fun c1 => ?_) (fun c1 => ?_)
  · walk_at "g"
    refine w_iteN (fun c2 => ?_) (fun c2 => ?_)
    · walk_at "g"
      exact ⟨rfl, Nat.le_of_ble_eq_true rfl, h2 fun z => c2 z.2⟩
    · walk_at "g"
      exact h1 ⟨c1, c2⟩
  · walk_at "g"
    exact ⟨rfl, Nat.le_of_ble_eq_true rfl, h2 fun z => c1 z.1⟩
theorem len_Links_is_legal (K : PySem.W.Frag) : ∀ vs H Q E, sp_Links_is_legal K vs H Q E → vs.length = (["self", "operation"] : List Str).length := by
  rintro vs H Q E ⟨_, _, _, _, _, _, rfl, _⟩
  rfl
theorem rd_Links_is_legal (T : Txt K mg) (vs : List V) (H : Hp) (Q : VK) (E : XK) (h : sp_Links_is_legal K vs H Q E) : t_Links_is_legal K E { nx := fun _ H' => Q .non H', rt := Q } (start ["self", "operation"] vs) H := by
  obtain ⟨p, r, l, o, s, op, rfl, a, hi, k⟩ := h
  unfold t_Links_is_legal
  walk_at "g"
  refine w_fO T.cl_Links T.na_Links__out a ?_
  walk_at "g"
  rw [natAbs_if]
  have hlt : (op.natAbs : Int) < (s.O.length : Int) := by
    rw [a.wf.lO]
    have := hi.2
    omega
  refine w_ixL (SqL.of a.ho) (at_B (by omega) hlt) ?_
  walk_at "g"
  exact k
theorem len_Links_check (K : PySem.W.Frag) : ∀ vs H Q E, sp_Links_check K vs H Q E → vs.length = (["self", "operation", "index"] : List Str).length := by
  rintro vs H Q E ⟨_, _, _, _, _, _, _, rfl, _⟩
  rfl
theorem rd_Links_check (T : Txt K mg) (vs : List V) (H : Hp) (Q : VK) (E : XK) (h : sp_Links_check K vs H Q E) : t_Links_check K E { nx := fun _ H' => Q .non H', rt := Q } (start ["self", "operation", "index"] vs) H := by
  obtain ⟨p, r, l, o, s, op, i, rfl, a, h1, h2⟩ := h
  unfold t_Links_check
  walk_at "g"
  refine w_fS T.cl_Links T.na_Links_size a ?_
  walk_at "g"
  refine ⟨s.n, op, i, rfl, fun hi => ?_, fun hi => ?_⟩
  · walk_at "g"
    refine w_me a no_m ?_
    walk_at "g"
    refine ⟨p, r, l, o, s, op, rfl, a, hi, ?_⟩
    walk_at "g"
    refine w_iteN (fun c => ?_) (fun c => ?_)
    · walk_at "g"
      refine ⟨rfl, Nat.le_of_ble_eq_true rfl, ?_⟩
      have e := h2 fun z => c z.2
      unfold OpE at e
      rw [if_pos hi] at e
      exact e
    · walk_at "g"
      exact h1 ⟨hi, c⟩
  · have e := h2 fun z => hi z.1
    unfold OpE at e
    rw [if_neg hi] at e
    exact e
end
end G

set_option Elab.async false
set_option linter.all false
set_option maxRecDepth 100000
set_option maxHeartbeats 1000000
namespace G
--#FAM KA
open PySem PySem.Spec PyProof.Rows L2
local macro_rules
  | `(tactic| walk_at "1") => `(tactic| first
    | with_reducible refine w_seq ?_
    | with_reducible refine w_asg ?_
    | with_reducible refine w_asgS ?_
    | with_reducible refine w_asf ?_
    | with_reducible refine w_drop ?_
    | with_reducible refine w_ret ?_
    | with_reducible refine w_if ?_
    | with_reducible refine w_not ?_
    | with_reducible refine w_and ?_
    | with_reducible refine w_or ?_
    | with_reducible refine w_test ?_
    | with_reducible refine w_tb ?_
    | with_reducible refine w_chain ?_
    | with_reducible refine w_op ?_
    | with_reducible refine w_un ?_
    | with_reducible refine w_andV ?_
    | with_reducible refine w_orV ?_
    | with_reducible refine w_notV ?_
    | with_reducible refine w_ifE ?_
    | with_reducible refine w_cons ?_
    | with_reducible refine w_nil ?_
    | with_reducible refine w_cb ?_
    | with_reducible refine w_cl ?_
    | with_reducible refine w_mt ?_
    | with_reducible refine w_fld ?_
    | with_reducible refine w_tupN ?_
    | with_reducible refine w_lstN ?_
    | with_reducible refine w_bm ?_
    | with_reducible refine w_bm0 ?_
    | with_reducible refine w_for ?_
    | with_reducible refine w_lc ?_
    | with_reducible refine w_iR1 ?_
    | with_reducible refine w_iR2 ?_
    | with_reducible refine w_iL ?_
    | with_reducible refine w_iT ?_
    | with_reducible refine w_iE ?_
    | with_reducible refine w_iZ ?_
    | with_reducible refine w_var (by with_unfolding_all rfl) ?_
    | with_reducible refine w_c ?_
    | with_reducible refine w_next ?_
    | with_reducible refine w_i0 ?_
    | with_reducible refine w_u1 ?_
    | with_reducible refine w_addI ?_
    | with_reducible refine w_eqI ?_
    | with_reducible refine w_eqS ?_
    | with_reducible refine w_eqB ?_
    | with_reducible refine w_neI ?_
    | with_reducible refine w_neS ?_
    | with_reducible refine w_neB ?_
    | with_reducible refine w_abs ?_
    | with_reducible refine w_intI ?_
    | with_reducible refine w_min2 ?_
    | with_reducible refine w_max2 ?_
    | with_reducible refine w_isN0 ?_
    | with_reducible refine w_isN1 ref_ne ?_
    | with_reducible refine w_isN1 int_ne ?_
    | with_reducible refine w_notN0 ?_
    | with_reducible refine w_notN1 ref_ne ?_
    | with_reducible refine w_notN1 int_ne ?_
    | with_reducible refine w_ex1 ?_
    | with_reducible refine w_n1 ?_
    | with_reducible refine w_n2 ?_
    | with_reducible refine w_tT ?_
    | with_reducible refine w_tF ?_
    | with_reducible refine w_nT ?_
    | with_reducible refine w_nF ?_
    | with_reducible refine w_rz ?_
    | with_reducible refine w_mkN ?_
    | with_reducible refine w_lrgN ?_
    | with_reducible refine w_rg1 ?_
    | with_reducible refine w_rg2 ?_
    | with_reducible refine w_sl ?_
    | with_reducible refine w_np ?_
    | with_reducible refine w_pt ?_
    | with_reducible refine w_tr ?_
    | with_reducible refine w_gn ?_
    | with_reducible refine w_yes ?_
    | with_reducible refine w_g1 ?_
    | with_reducible refine w_gc ?_
    | with_reducible refine w_gt (SqT.of upd_same) rfl ?_)
local macro_rules
  | `(tactic| walk_at "g") => `(tactic| repeat walk_at "1")
section
variable {K : PySem.W.Frag} {mg : Str → Option Value}
theorem len_Links_apply_at (K : PySem.W.Frag) : ∀ vs H Q E, sp_Links_apply_at K vs H Q E → vs.length = (["self", "operation", "index"] : List Str).length := by
  rintro vs H Q E ⟨_, _, _, _, _, _, _, rfl, _⟩
  rfl
theorem rd_Links_apply_at (T : Txt K mg) (vs : List V) (H : Hp) (Q : VK) (E : XK) (h : sp_Links_apply_at K vs H Q E) : t_Links_apply_at K E { nx := fun _ H' => Q .non H', rt := Q } (start ["self", "operation", "index", "node", "low", "high", "is_unlink"] vs) H := by
  obtain ⟨p, r, l, o, s, op, i, rfl, a, h1, h2⟩ := h
  unfold t_Links_apply_at
  walk_at "g"
  refine w_me a no_m ?_
  walk_at "g"
  refine ⟨p, r, l, o, s, op, i, rfl, a, fun ok => ?_, h2⟩
  have hi := ok.1
  obtain ⟨i1, i2⟩ := hi
  have w := a.wf
  obtain ⟨r1, r2⟩ := w.rb op.natAbs (by omega)
  obtain ⟨l1, l2⟩ := w.lb op.natAbs i1 (by omega)
  obtain ⟨pr, pl, po⟩ := a.pr
  walk_at "g"
  rw [natAbs_if]
  refine w_fL T.cl_Links T.na_Links__lefts a ?_
  walk_at "g"
  refine w_ixL (SqL.of a.hl) (at_I (by omega) (by rw [w.lL]; omega)) ?_
  walk_at "g"
  refine w_fR T.cl_Links T.na_Links__rights a ?_
  walk_at "g"
  refine w_ixL (SqL.of a.hr) (at_I (by omega) (by rw [w.lR]; omega)) ?_
  walk_at "g"
  have fin : ∀ x y : Int, x = (if op < 0 then gI s.R op.natAbs else (op.natAbs : Int)) → y = (if op < 0 then gI s.L op.natAbs else (op.natAbs : Int)) →
      Q .non (upd (upd (upd H r (.lst ((s.R.map V.int).set (gI s.L op.natAbs).toNat (.int x)))) l (.lst ((s.L.map V.int).set (gI s.R op.natAbs).toNat (.int y)))) o (.lst ((s.O.map V.bl).set op.natAbs (.bl (decide (op < 0)))))) := by
    intro x y ex ey
    refine h1 ok _ ((((Kp.refl _ H).trans (Kp.put (by simp))).trans (Kp.put (by simp))).trans (Kp.put (by simp))) ?_
    obtain ⟨dx, ob⟩ := a.ob
    rw [set_I, set_I, set_B]
    refine ⟨⟨dx, ?_⟩, ?_, ?_, ?_, a.rl, a.ro, a.lo, w.step ok.1⟩
    · rw [upd_ne po, upd_ne pl, upd_ne pr]
      exact ob
    · rw [upd_ne a.ro, upd_ne a.rl, upd_same, ex] <;> rfl
    · rw [upd_ne a.lo, upd_same, ey] <;> rfl
    · rw [upd_same] <;> rfl
  obtain ⟨dx, ob⟩ := a.ob
  have e1 : (op.natAbs : Int).toNat = op.natAbs := Int.toNat_natCast _
  have il : ixN (List.map V.int s.R).length (gI s.L op.natAbs) = some (gI s.L op.natAbs).toNat := ixN_pos (by omega) (by rw [List.length_map, w.lR]; omega)
  have ir : ixN (List.map V.int s.L).length (gI s.R op.natAbs) = some (gI s.R op.natAbs).toNat := ixN_pos (by omega) (by rw [List.length_map, w.lL]; omega)
  have io : ixN (List.map V.bl s.O).length (op.natAbs : Int) = some op.natAbs := by
    rw [ixN_pos (by omega) (by rw [List.length_map, w.lO]; omega), e1]
  rw [e1]
  refine w_iteD (fun c => ?_) (fun c => ?_)
  all_goals
    walk_at "g"
    refine w_oR T.cl_Links T.na_Links__rights ob ?_
    walk_at "g"
    refine w_setL a.hr il ?_
    walk_at "g"
    first
      | refine w_iteD (fun _ => ?_) (fun z => absurd c z)
      | refine w_iteD (fun z => absurd z c) (fun _ => ?_)
    walk_at "g"
    refine w_oL T.cl_Links T.na_Links__lefts (H := upd H r _) (by rw [upd_ne pr]; exact ob) ?_
    walk_at "g"
    refine w_setL (H := upd H r _) (by rw [upd_ne (Ne.symm a.rl)]; exact a.hl) ir ?_
    walk_at "g"
    refine w_oO T.cl_Links T.na_Links__out (H := upd (upd H r _) l _) (by rw [upd_ne pl, upd_ne pr]; exact ob) ?_
    walk_at "g"
    refine w_setL (H := upd (upd H r _) l _) (by rw [upd_ne (Ne.symm a.lo), upd_ne (Ne.symm a.ro)]; exact a.ho) io ?_
    walk_at "g"
  · exact fin _ _ (if_pos c).symm (if_pos c).symm
  · exact fin _ _ (if_neg c).symm (if_neg c).symm
theorem len_Links_apply (K : PySem.W.Frag) : ∀ vs H Q E, sp_Links_apply K vs H Q E → vs.length = (["self", "operation"] : List Str).length := by
  rintro vs H Q E ⟨_, _, _, _, _, _, rfl, _⟩
  rfl
theorem rd_Links_apply (T : Txt K mg) (vs : List V) (H : Hp) (Q : VK) (E : XK) (h : sp_Links_apply K vs H Q E) : t_Links_apply K E { nx := fun _ H' => Q .non H', rt := Q } (start ["self", "operation"] vs) H := by
  obtain ⟨p, r, l, o, s, op, rfl, a, h1, h2⟩ := h
  unfold t_Links_apply
  walk_at "g"
  refine w_me a no_m ?_
  walk_at "g"
  exact ⟨p, r, l, o, s, op, 0, rfl, a, h1, h2⟩
theorem len_Links_left (K : PySem.W.Frag) : ∀ vs H Q E, sp_Links_left K vs H Q E → vs.length = (["self", "node"] : List Str).length := by
  rintro vs H Q E ⟨_, _, _, _, _, _, rfl, _⟩
  rfl
theorem rd_Links_left (T : Txt K mg) (vs : List V) (H : Hp) (Q : VK) (E : XK) (h : sp_Links_left K vs H Q E) : t_Links_left K E { nx := fun _ H' => Q .non H', rt := Q } (start ["self", "node"] vs) H := by
  obtain ⟨p, r, l, o, s, v, rfl, a, h1, h2, h3⟩ := h
  unfold t_Links_left
  walk_at "g"
  refine w_iteD (fun c1 => ?_) (fun c1 => absurd (by omega) c1)
  walk_at "g"
  refine w_fS T.cl_Links T.na_Links_size a ?_
  walk_at "g"
  refine w_iteN (fun c1 => absurd (by omega) c1) (fun c1 => ?_)
  walk_at "g"
  refine w_fL T.cl_Links T.na_Links__lefts a ?_
  walk_at "g"
  refine w_ixL (SqL.of a.hl) (at_I (by omega) (by rw [a.wf.lL]; omega)) ?_
  exact h3
theorem len_Links_right (K : PySem.W.Frag) : ∀ vs H Q E, sp_Links_right K vs H Q E → vs.length = (["self", "node"] : List Str).length := by
  rintro vs H Q E ⟨_, _, _, _, _, _, rfl, _⟩
  rfl
theorem rd_Links_right (T : Txt K mg) (vs : List V) (H : Hp) (Q : VK) (E : XK) (h : sp_Links_right K vs H Q E) : t_Links_right K E { nx := fun _ H' => Q .non H', rt := Q } (start ["self", "node"] vs) H := by
  obtain ⟨p, r, l, o, s, v, rfl, a, h2, h3⟩ := h
  unfold t_Links_right
  walk_at "g"
  refine w_iteD (fun c1 => ?_) (fun c1 => absurd (by omega) c1)
  walk_at "g"
  refine w_fS T.cl_Links T.na_Links_size a ?_
  walk_at "g"
  refine w_iteN (fun c1 => absurd (by omega) c1) (fun c1 => ?_)
  walk_at "g"
  refine w_fR T.cl_Links T.na_Links__rights a ?_
  walk_at "g"
  refine w_ixL (SqL.of a.hr) (at_I (by omega) (by rw [a.wf.lR]; omega)) ?_
  exact h3
theorem len_gap_state (K : PySem.W.Frag) : ∀ vs H Q E, sp_gap_state K vs H Q E → vs.length = (["links", "gap"] : List Str).length := by
  rintro vs H Q E ⟨_, _, _, _, _, _, rfl, _⟩
  rfl
theorem rd_gap_state (T : Txt K mg) (vs : List V) (H : Hp) (Q : VK) (E : XK) (h : sp_gap_state K vs H Q E) : t_gap_state K E { nx := fun _ H' => Q .non H', rt := Q } (start ["links", "gap", "is_held_left", "is_held_right"] vs) H := by
  obtain ⟨p, r, l, o, s, g, rfl, a, h1, h2⟩ := h
  unfold t_gap_state
  walk_at "g"
  refine w_fS T.cl_Links T.na_Links_size a ?_
  walk_at "g"
  refine ⟨s.n, g, rfl, fun c => ?_, h2⟩
  obtain ⟨v, rfl⟩ : ∃ v : Nat, g = (v : Int) := ⟨g.toNat, by omega⟩
  walk_at "g"
  refine w_me a no_m ?_
  walk_at "g"
  refine ⟨p, r, l, o, s, v, rfl, a, by omega, ?_⟩
  walk_at "g"
  refine w_me a no_m ?_
  walk_at "g"
  refine ⟨p, r, l, o, s, v + 1, rfl, a, by omega, by omega, ?_⟩
  walk_at "g"
  have k := h1 c
  rw [Int.toNat_natCast] at k
  unfold stT at k
  refine w_iteD (fun c1 => ?_) (fun c1 => ?_)
  · rw [if_pos c1] at k
    walk_at "g"
    refine w_iteD (fun c2 => ?_) (fun c2 => ?_)
    · rw [if_pos c2] at k
      walk_at "g"
      exact k
    · rw [if_neg c2] at k
      walk_at "g"
      exact k
  · rw [if_neg c1] at k
    walk_at "g"
    refine w_iteD (fun c2 => ?_) (fun c2 => ?_)
    · rw [if_pos c2] at k
      walk_at "g"
      exact k
    · rw [if_neg c2] at k
      walk_at "g"
      exact k
end
end G

set_option Elab.async false
set_option linter.all false
set_option maxRecDepth 100000
set_option maxHeartbeats 1000000
namespace G
--#FAM KA
open PySem PySem.Spec PyProof.Rows L2
local macro_rules
  | `(tactic| walk_at "1") => `(tactic| first
    | with_reducible refine w_seq ?_
    | with_reducible refine w_asg ?_
    | with_reducible refine w_asgS ?_
    | with_reducible refine w_asf ?_
    | with_reducible refine w_drop ?_
    | with_reducible refine w_ret ?_
    | with_reducible refine w_if ?_
    | with_reducible refine w_not ?_
    | with_reducible refine w_and ?_
    | with_reducible refine w_or ?_
    | with_reducible refine w_test ?_
    | with_reducible refine w_tb ?_
    | with_reducible refine w_chain ?_
    | with_reducible refine w_op ?_
    | with_reducible refine w_un ?_
    | with_reducible refine w_andV ?_
    | with_reducible refine w_orV ?_
    | with_reducible refine w_notV ?_
    | with_reducible refine w_ifE ?_
    | with_reducible refine w_cons ?_
    | with_reducible refine w_nil ?_
    | with_reducible refine w_cb ?_
    | with_reducible refine w_cl ?_
    | with_reducible refine w_mt ?_
    | with_reducible refine w_fld ?_
    | with_reducible refine w_tupN ?_
    | with_reducible refine w_lstN ?_
    | with_reducible refine w_bm ?_
    | with_reducible refine w_bm0 ?_
    | with_reducible refine w_for ?_
    | with_reducible refine w_lc ?_
    | with_reducible refine w_iR1 ?_
    | with_reducible refine w_iR2 ?_
    | with_reducible refine w_iL ?_
    | with_reducible refine w_iT ?_
    | with_reducible refine w_iE ?_
    | with_reducible refine w_iZ ?_
    | with_reducible refine w_var (by with_unfolding_all rfl) ?_
    | with_reducible refine w_c ?_
    | with_reducible refine w_next ?_
    | with_reducible refine w_i0 ?_
    | with_reducible refine w_u1 ?_
    | with_reducible refine w_addI ?_
    | with_reducible refine w_eqI ?_
    | with_reducible refine w_eqS ?_
    | with_reducible refine w_eqB ?_
    | with_reducible refine w_neI ?_
    | with_reducible refine w_neS ?_
    | with_reducible refine w_neB ?_
    | with_reducible refine w_abs ?_
    | with_reducible refine w_intI ?_
    | with_reducible refine w_min2 ?_
    | with_reducible refine w_max2 ?_
    | with_reducible refine w_isN0 ?_
    | with_reducible refine w_isN1 ref_ne ?_
    | with_reducible refine w_isN1 int_ne ?_
    | with_reducible refine w_notN0 ?_
    | with_reducible refine w_notN1 ref_ne ?_
    | with_reducible refine w_notN1 int_ne ?_
    | with_reducible refine w_ex1 ?_
    | with_reducible refine w_n1 ?_
    | with_reducible refine w_n2 ?_
    | with_reducible refine w_tT ?_
    | with_reducible refine w_tF ?_
    | with_reducible refine w_nT ?_
    | with_reducible refine w_nF ?_
    | with_reducible refine w_rz ?_
    | with_reducible refine w_mkN ?_
    | with_reducible refine w_lrgN ?_
    | with_reducible refine w_rg1 ?_
    | with_reducible refine w_rg2 ?_
    | with_reducible refine w_sl ?_
    | with_reducible refine w_np ?_
    | with_reducible refine w_pt ?_
    | with_reducible refine w_tr ?_
    | with_reducible refine w_gn ?_
    | with_reducible refine w_yes ?_
    | with_reducible refine w_g1 ?_
    | with_reducible refine w_gc ?_
    | with_reducible refine w_gt (SqT.of upd_same) rfl ?_)
local macro_rules
  | `(tactic| walk_at "g") => `(tactic| repeat walk_at "1")
section
variable {K : PySem.W.Frag} {mg : Str → Option Value}
theorem rg_nat (n : Nat) : rgV 0 (n : Int) = (rgI 0 n).map V.int := by
  unfold rgV rgI
  rw [show ((n : Int) - 0).toNat = n by omega, List.map_map] <;> rfl
theorem rg_one (n : Nat) : rgV 1 ((n : Int) + 1) = (rgI 1 n).map V.int := by
  unfold rgV rgI
  rw [show ((n : Int) + 1 - 1).toNat = n by omega, List.map_map] <;> rfl
theorem rg_one' (n : Nat) : rgV 1 ((n : Int) + 2) = (rgI 1 (n + 1)).map V.int := by
  rw [← rg_one (n + 1)]
  congr 1
theorem rg_nat' (n : Nat) : rgV 0 ((n : Int) + 1) = (rgI 0 (n + 1)).map V.int := by
  rw [← rg_nat (n + 1)] <;> rfl
theorem rep_flat {α : Type} (n : Nat) (x : α) : (List.replicate n [x]).flatten = List.replicate n x := by
  induction n with
  | zero => rfl
  | succ n ih => rw [List.replicate_succ, List.flatten_cons, ih, List.replicate_succ] <;> rfl
theorem rep_mapB (n : Nat) (x : Bool) : (List.replicate n x).map V.bl = List.replicate n (V.bl x) := by rw [List.map_replicate]
theorem putF_len (f : Str) (v : V) : ∀ fs : List (Str × V), (putF f v fs).length ≤ fs.length + 1
  | [] => Nat.le_refl _
  | (g, w) :: fs => by
    have ih := putF_len f v fs
    unfold putF
    split
    · exact Nat.le_succ _
    · exact Nat.succ_le_succ ih
theorem pl1 (a : Str) (x : V) : (putF a x []).length < 1000 := Nat.lt_of_le_of_lt (putF_len _ _ _) (Nat.le_of_ble_eq_true rfl)
theorem pl2 (a b : Str) (x y : V) : (putF b y (putF a x [])).length < 1000 := Nat.lt_of_le_of_lt (putF_len _ _ _) (by
  have := putF_len a x []
  show (putF a x []).length + 1 < 1000
  have e : ([] : List (Str × V)).length = 0 := rfl
  omega)
theorem pl3 (a b c : Str) (x y z : V) : (putF c z (putF b y (putF a x []))).length < 1000 := Nat.lt_of_le_of_lt (putF_len _ _ _) (by
  have h1 := putF_len b y (putF a x [])
  have h2 := putF_len a x []
  have e : ([] : List (Str × V)).length = 0 := rfl
  omega)
theorem len_Links___init__ (K : PySem.W.Frag) : ∀ vs H Q E, sp_Links___init__ K vs H Q E → vs.length = (["self", "size"] : List Str).length := by
  rintro vs H Q E ⟨_, _, _, rfl, _⟩
  rfl
theorem rd_Links___init__ (T : Txt K mg) (vs : List V) (H : Hp) (Q : VK) (E : XK) (h : sp_Links___init__ K vs H Q E) : t_Links___init__ K E { nx := fun _ H' => Q .non H', rt := Q } (start ["self", "size"] vs) H := by
  obtain ⟨p, dx, size, rfl, hp, h1, h2⟩ := h
  unfold t_Links___init__
  walk_at "g"
  refine ⟨size, rfl, fun ok => ?_, h2⟩
  have h1 := h1 ok
  obtain ⟨ok1, ok2⟩ := ok
  obtain ⟨n, rfl⟩ : ∃ n : Nat, size = (n : Int) := ⟨size.toNat, by omega⟩
  rw [Int.toNat_natCast] at h1
  walk_at "g"
  refine w_sT T.cl_Links T.na_Links_size hp (by decide) fun H1 k1 p1 => ?_
  walk_at "g"
  refine ⟨.of_le (by omega) (by omega) (by omega) (by omega), nw fun r H2 nr k2 hr => ?_⟩
  walk_at "g"
  have pr : p ≠ r := ne_of_none p1 nr
  refine w_sT T.cl_Links T.na_Links__rights (k2.at0 p1) (pl1 _ _) fun H3 k3 p3 => ?_
  have hr3 := k3.at1 (Ne.symm pr) hr
  walk_at "g"
  refine ⟨sz_ok (by show 1 ≤ 1000000; omega), nw fun z H4 nz k4 hz => ?_⟩
  walk_at "g"
  refine ⟨.of_le (by omega) (by omega) (by omega) (by omega), nw fun l0 H5 nl0 k5 hl0 => ?_⟩
  walk_at "g"
  refine w_addLN (k5.at0 hz) hl0 (by rw [rgV_length]; exact sz_ok (by show 1 + _ ≤ _; omega)) fun l H6 nl k6 hl => ?_
  have k46 := (k4.trans k5).trans k6
  walk_at "g"
  have pl : p ≠ l := ne_of_none (k5.at0 (k4.at0 p3)) nl
  have rl : r ≠ l := ne_of_none (k5.at0 (k4.at0 hr3)) nl
  refine w_sT T.cl_Links T.na_Links__lefts (k46.at0 p3) (pl2 _ _ _ _) fun H7 k7 p7 => ?_
  have hr7 := k7.at1 (Ne.symm pr) (k46.at0 hr3)
  have hl7 := k7.at1 (Ne.symm pl) hl
  walk_at "g"
  refine ⟨sz_ok (by show 1 ≤ 1000000; omega), nw fun z2 H8 nz2 k8 hz2 => ?_⟩
  walk_at "g"
  refine w_mulLN hz2 (by omega) (by omega) (sz_ok (by show 1 * _ ≤ _; omega)) fun o H9 no k9 ho => ?_
  walk_at "g"
  have po : p ≠ o := ne_of_none (k8.at0 p7) no
  have ro : r ≠ o := ne_of_none (k8.at0 hr7) no
  have lo : l ≠ o := ne_of_none (k8.at0 hl7) no
  have k89 := k8.trans k9
  refine w_sT T.cl_Links T.na_Links__out (k89.at0 p7) (pl3 _ _ _ _ _ _) fun Hx kx px => ?_
  have k03 : Kp [p] H H3 := k1.trans (k2.all.trans k3)
  have k07 : Kp [p] H H7 := k03.trans (k46.all.trans k7)
  have k0x : Kp [p] H Hx := k07.trans (k89.all.trans kx)
  have mp : ∀ b, H b = none → H3 b = none → True := fun _ _ _ => trivial
  refine h1 r l o Hx (k1.free (by simpa using Ne.symm pr) nr) ?_ ?_ k0x ⟨⟨dx, px⟩, ?_, ?_, ?_, rl, ro, lo, .whole (by omega)⟩
  · exact (k03.trans (k4.trans k5).all).free (by simpa using Ne.symm pl) nl
  · exact (k07.trans k8.all).free (by simpa using Ne.symm po) no
  · rw [kx.at1 (Ne.symm pr) (k89.at0 hr7), rg_one'] <;> rfl
  · rw [kx.at1 (Ne.symm pl) (k89.at0 hl7), rg_nat'] <;> rfl
  · rw [kx.at1 (Ne.symm po) ho, show ((n : Int) + 2).toNat = n + 2 by omega, rep_flat, ← rep_mapB] <;> rfl
end
end G

set_option Elab.async false
set_option linter.all false
set_option maxRecDepth 100000
set_option maxHeartbeats 1000000
namespace G
--#FAM KA
open PySem PySem.Spec PyProof.Rows L2
local macro_rules
  | `(tactic| walk_at "1") => `(tactic| first
    | with_reducible refine w_seq ?_
    | with_reducible refine w_asg ?_
    | with_reducible refine w_asgS ?_
    | with_reducible refine w_asf ?_
    | with_reducible refine w_drop ?_
    | with_reducible refine w_ret ?_
    | with_reducible refine w_if ?_
    | with_reducible refine w_not ?_
    | with_reducible refine w_and ?_
    | with_reducible refine w_or ?_
    | with_reducible refine w_test ?_
    | with_reducible refine w_tb ?_
    | with_reducible refine w_chain ?_
    | with_reducible refine w_op ?_
    | with_reducible refine w_un ?_
    | with_reducible refine w_andV ?_
    | with_reducible refine w_orV ?_
    | with_reducible refine w_notV ?_
    | with_reducible refine w_ifE ?_
    | with_reducible refine w_cons ?_
    | with_reducible refine w_nil ?_
    | with_reducible refine w_cb ?_
    | with_reducible refine w_cl ?_
    | with_reducible refine w_mt ?_
    | with_reducible refine w_fld ?_
    | with_reducible refine w_tupN ?_
    | with_reducible refine w_lstN ?_
    | with_reducible refine w_bm ?_
    | with_reducible refine w_bm0 ?_
    | with_reducible refine w_for ?_
    | with_reducible refine w_lc ?_
    | with_reducible refine w_iR1 ?_
    | with_reducible refine w_iR2 ?_
    | with_reducible refine w_iL ?_
    | with_reducible refine w_iT ?_
    | with_reducible refine w_iE ?_
    | with_reducible refine w_iZ ?_
    | with_reducible refine w_var (by with_unfolding_all rfl) ?_
    | with_reducible refine w_c ?_
    | with_reducible refine w_next ?_
    | with_reducible refine w_i0 ?_
    | with_reducible refine w_u1 ?_
    | with_reducible refine w_addI ?_
    | with_reducible refine w_eqI ?_
    | with_reducible refine w_eqS ?_
    | with_reducible refine w_eqB ?_
    | with_reducible refine w_neI ?_
    | with_reducible refine w_neS ?_
    | with_reducible refine w_neB ?_
    | with_reducible refine w_abs ?_
    | with_reducible refine w_intI ?_
    | with_reducible refine w_min2 ?_
    | with_reducible refine w_max2 ?_
    | with_reducible refine w_isN0 ?_
    | with_reducible refine w_isN1 ref_ne ?_
    | with_reducible refine w_isN1 int_ne ?_
    | with_reducible refine w_notN0 ?_
    | with_reducible refine w_notN1 ref_ne ?_
    | with_reducible refine w_notN1 int_ne ?_
    | with_reducible refine w_ex1 ?_
    | with_reducible refine w_n1 ?_
    | with_reducible refine w_n2 ?_
    | with_reducible refine w_tT ?_
    | with_reducible refine w_tF ?_
    | with_reducible refine w_nT ?_
    | with_reducible refine w_nF ?_
    | with_reducible refine w_rz ?_
    | with_reducible refine w_mkN ?_
    | with_reducible refine w_lrgN ?_
    | with_reducible refine w_rg1 ?_
    | with_reducible refine w_rg2 ?_
    | with_reducible refine w_sl ?_
    | with_reducible refine w_np ?_
    | with_reducible refine w_pt ?_
    | with_reducible refine w_tr ?_
    | with_reducible refine w_gn ?_
    | with_reducible refine w_yes ?_
    | with_reducible refine w_g1 ?_
    | with_reducible refine w_gc ?_
    | with_reducible refine w_gt (SqT.of upd_same) rfl ?_)
local macro_rules
  | `(tactic| walk_at "g") => `(tactic| repeat walk_at "1")
section
variable {K : PySem.W.Frag} {mg : Str → Option Value}
theorem Kp.cut {S S' : List Addr} {H H' : Hp} (k : Kp S H H') (h : ∀ b ∈ S, b ∈ S' ∨ H b = none) : Kp S' H H' := fun b o n e => k b o (fun z => by
  rcases h b z with q | q
  · exact n q
  · rw [q] at e
    cases e) e
theorem Kp.cut1 {H H' : Hp} {p : Addr} (k : Kp [p] H H') (h : H p = none) : Kp [] H H' := k.cut (by simp [h])
theorem at_map {α : Type} {f : α → V} {l : List α} {i : Nat} {x : V} (h : (l.map f)[i]? = some x) : ∃ y, l[i]? = some y ∧ f y = x := by
  rw [List.getElem?_map] at h
  cases e : l[i]? with
  | none => rw [e] at h; cases h
  | some y => rw [e] at h; exact ⟨y, rfl, by injection h⟩
theorem take_snoc {α : Type} {l : List α} {i : Nat} {x : α} (h : l[i]? = some x) : l.take (i + 1) = l.take i ++ [x] := by
  rw [List.take_succ, h] <;> rfl
theorem len_Links_copy (K : PySem.W.Frag) : ∀ vs H Q E, sp_Links_copy K vs H Q E → vs.length = (["self"] : List Str).length := by
  rintro vs H Q E ⟨_, _, _, _, _, rfl, _⟩
  rfl
theorem rd_Links_copy (T : Txt K mg) (vs : List V) (H : Hp) (Q : VK) (E : XK) (h : sp_Links_copy K vs H Q E) : t_Links_copy K E { nx := fun _ H' => Q .non H', rt := Q } (start ["self", "twin"] vs) H := by
  obtain ⟨p, r, l, o, s, rfl, a, g⟩ := h
  unfold t_Links_copy
  walk_at "g"
  refine w_fS T.cl_Links T.na_Links_size a ?_
  walk_at "g"
  refine mk fun q dx H1 nq hq k1 => ?_
  refine ⟨q, dx, s.n, rfl, hq, fun ok r1 l1 o1 H2 nr1 nl1 no1 k2 b => ⟨rfl, ?_⟩, fun z => absurd ⟨by omega, by have := a.wf.n60; omega⟩ z⟩
  have a1 := a.k0 k1
  obtain ⟨dx1, ob1⟩ := a1.ob
  have qp : p ≠ q := by
    obtain ⟨dx0, ob⟩ := a.ob
    exact ne_of_none ob nq
  have qr : r ≠ q := ne_of_none a.hr nq
  have ql : l ≠ q := ne_of_none a.hl nq
  have qo : o ≠ q := ne_of_none a.ho nq
  have a2 := a1.kp k2 (by simpa using qp) (by simpa using qr) (by simpa using ql) (by simpa using qo)
  walk_at "g"
  refine w_fR T.cl_Links T.na_Links__rights a2 ?_
  walk_at "g"
  refine w_listLN (SqL.of a2.hr) fun r3 H3 nr3 k3 hr3 => ?_
  walk_at "g"
  have b3 := b.k0 k3
  obtain ⟨dx3, ob3⟩ := b3.ob
  refine w_sT T.cl_Links T.na_Links__rights ob3 (fl_len _ _ _ _) fun H4 k4 p4 => ?_
  rw [fl_putR] at p4
  have a4 := (a2.k0 k3).kp k4 (by simpa using qp) (by simpa using qr) (by simpa using ql) (by simpa using qo)
  walk_at "g"
  refine w_fL T.cl_Links T.na_Links__lefts a4 ?_
  walk_at "g"
  refine w_listLN (SqL.of a4.hl) fun l5 H5 nl5 k5 hl5 => ?_
  walk_at "g"
  refine w_sT T.cl_Links T.na_Links__lefts (k5.at0 p4) (fl_len _ _ _ _) fun H6 k6 p6 => ?_
  rw [fl_putL] at p6
  have a6 := (a4.k0 k5).kp k6 (by simpa using qp) (by simpa using qr) (by simpa using ql) (by simpa using qo)
  walk_at "g"
  refine w_fO T.cl_Links T.na_Links__out a6 ?_
  walk_at "g"
  refine w_listLN (SqL.of a6.ho) fun o7 H7 no7 k7 ho7 => ?_
  walk_at "g"
  refine w_sT T.cl_Links T.na_Links__out (k7.at0 p6) (fl_len _ _ _ _) fun H8 k8 p8 => ?_
  rw [fl_putO] at p8
  walk_at "g"
  have rq : r3 ≠ q := (ne_of_none b.ob.choose_spec nr3).symm
  have lq : l5 ≠ q := (ne_of_none p4 nl5).symm
  have oq : o7 ≠ q := (ne_of_none p6 no7).symm
  have hr4 := k4.at1 rq hr3
  have hr6 := k6.at1 rq (k5.at0 hr4)
  have hl6 := k6.at1 lq hl5
  have k02 : Kp [q] H H2 := k1.all.trans k2
  have k04 : Kp [q] H H4 := k02.trans (k3.all.trans k4)
  have k06 : Kp [q] H H6 := k04.trans (k5.all.trans k6)
  have k08 : Kp [q] H H8 := k06.trans (k7.all.trans k8)
  refine g q r3 l5 o7 H8 nq (k02.free (by simpa using rq) nr3) (k04.free (by simpa using lq) nl5) (k06.free (by simpa using oq) no7) (k08.cut1 nq) ⟨⟨dx3, p8⟩, k8.at1 rq (k7.at0 hr6), k8.at1 lq (k7.at0 hl6), k8.at1 oq ho7, ?_, ?_, ?_, a.wf⟩
  · exact ne_of_none hr4 nl5
  · exact ne_of_none hr6 no7
  · exact ne_of_none hl6 no7
theorem len_play (K : PySem.W.Frag) : ∀ vs H Q E, sp_play K vs H Q E → vs.length = (["links", "log"] : List Str).length := by
  rintro vs H Q E ⟨_, _, _, _, _, _, _, rfl, _⟩
  rfl
theorem rd_play (T : Txt K mg) (vs : List V) (H : Hp) (Q : VK) (E : XK) (h : sp_play K vs H Q E) : t_play K E { nx := fun _ H' => Q .non H', rt := Q } (start ["links", "log", "after", "index", "operation"] vs) H := by
  obtain ⟨p, r, l, o, c, s, log, rfl, a, hs, g1, g2⟩ := h
  unfold t_play
  walk_at "g"
  refine w_me a no_m ?_
  walk_at "g"
  refine ⟨p, r, l, o, s, rfl, a, fun q r1 l1 o1 H1 nq nr nl no k1 b => ?_⟩
  walk_at "g"
  have hs1 := k1.sql (by simp) hs
  refine ⟨c, _, rfl, hs1, lp_enum (xs := log.map V.int) (fun i σ H' => (∃ u v, σ = [some (.ref p), some (.ref c), some (.ref q), u, v]) ∧ Leg s (log.take i) ∧ Kp [] H H' ∧ LinksAt K H' q r1 l1 o1 (runS s (log.take i))) ⟨⟨_, _, rfl⟩, ?_, k1, b⟩ ?_ ?_ ?_⟩
  · intro i op h
    simp at h
  · rintro i σ' H' hi ⟨_, _, k, _⟩
    exact k.sql (by simp) hs
  · rintro i x T σ' H' hx ⟨⟨u, v, rfl⟩, le, k, ls⟩ nT
    obtain ⟨op, hop, rfl⟩ := at_map hx
    have kT : Kp [] H' (upd H' T (.tup [.int (i : Int), .int op])) := Kp.new nT
    walk_at "g"
    have ls1 := ls.k0 kT
    refine w_me ls1 no_m ?_
    walk_at "g"
    refine ⟨q, r1, l1, o1, _, op, i, rfl, ls1, fun ok H2 k2 ls2 => ?_, fun bad => ?_⟩
    · walk_at "g"
      have e : log.take (i + 1) = log.take i ++ [op] := take_snoc hop
      refine ⟨⟨_, _, rfl⟩, ?_, ?_, ?_⟩
      · rw [e]
        exact le.snoc ok
      · exact ((k.trans kT).all.trans k2).cut (by simp [nr, nl, no])
      · rw [e, runS_snoc]
        exact ls2
    · rw [runS_n]
      exact g2 i op hop le bad _ (k.trans kT)
  · rintro σ' H' ⟨⟨u, v, rfl⟩, le, k, ls⟩
    rw [List.length_map, List.take_length] at le ls
    walk_at "g"
    exact g1 le q r1 l1 o1 H' nq nr nl no k ls
theorem len_replay (K : PySem.W.Frag) : ∀ vs H Q E, sp_replay K vs H Q E → vs.length = (["size", "log"] : List Str).length := by
  rintro vs H Q E ⟨_, _, _, rfl, _⟩
  rfl
theorem rd_replay (T : Txt K mg) (vs : List V) (H : Hp) (Q : VK) (E : XK) (h : sp_replay K vs H Q E) : t_replay K E { nx := fun _ H' => Q .non H', rt := Q } (start ["size", "log"] vs) H := by
  obtain ⟨c, size, log, rfl, hs, g1, g2, g3⟩ := h
  unfold t_replay
  walk_at "g"
  refine mk fun q dx H1 nq hq k1 => ?_
  refine ⟨q, dx, size, rfl, hq, fun ok r l o H2 nr nl no k2 b => ⟨rfl, ?_⟩, fun bad => g3 bad _ k1⟩
  have k02 : Kp [] H H2 := (k1.all.trans k2).cut1 nq
  walk_at "g"
  refine ⟨q, r, l, o, c, _, log, rfl, b, k02.sql (by simp) hs, fun le => ?_, ?_⟩
  · intro p' r' l' o' H3 n1 n2 n3 n4 k3 b3
    exact g1 ok le p' r' l' o' H3 (k02.free0 n1) (k02.free0 n2) (k02.free0 n3) (k02.free0 n4) (k02.trans k3) b3
  · intro i op hi le bad H3 k3
    exact g2 ok i op hi le bad H3 (k02.trans k3)
theorem len_gap_states (K : PySem.W.Frag) : ∀ vs H Q E, sp_gap_states K vs H Q E → vs.length = (["links"] : List Str).length := by
  rintro vs H Q E ⟨_, _, _, _, _, rfl, _⟩
  rfl
theorem rd_gap_states (T : Txt K mg) (vs : List V) (H : Hp) (Q : VK) (E : XK) (h : sp_gap_states K vs H Q E) : t_gap_states K E { nx := fun _ H' => Q .non H', rt := Q } (start ["links", "gap"] vs) H := by
  obtain ⟨p, r, l, o, s, rfl, a, g⟩ := h
  unfold t_gap_states
  walk_at "g"
  refine w_fS T.cl_Links T.na_Links_size a ?_
  walk_at "g"
  have n60 := a.wf.n60
  refine w_r1 (by omega) ?_
  rw [show ((s.n : Int) + 1).toNat = s.n + 1 by omega]
  refine cp_rng (fun i => (List.range i).map fun (v : Nat) => V.str (stT s v)) (fun i hi => sz_lt (by rw [List.length_map, List.length_range]; omega)) rfl ?_ (fun D H' n k h => g D H' n k h)
  intro i H' S N hi k y nn
  walk_at "g"
  refine ⟨rfl, ?_⟩
  walk_at "g"
  rw [Int.zero_add]
  refine ⟨p, r, l, o, s, (i : Int), rfl, a.k0 k, fun _ => ?_, fun bad => absurd ⟨by omega, by omega⟩ bad⟩
  refine y _ _ (Kp.refl _ _) ?_
  rw [List.range_succ, List.map_append, Int.toNat_natCast] <;> rfl
end
end G

set_option Elab.async false
set_option linter.all false
set_option maxRecDepth 100000
set_option maxHeartbeats 1000000
namespace G
--#FAM KA
open PySem PySem.Spec PyProof.Rows L2
local macro_rules
  | `(tactic| walk_at "1") => `(tactic| first
    | with_reducible refine w_seq ?_
    | with_reducible refine w_asg ?_
    | with_reducible refine w_asgS ?_
    | with_reducible refine w_asf ?_
    | with_reducible refine w_drop ?_
    | with_reducible refine w_ret ?_
    | with_reducible refine w_if ?_
    | with_reducible refine w_not ?_
    | with_reducible refine w_and ?_
    | with_reducible refine w_or ?_
    | with_reducible refine w_test ?_
    | with_reducible refine w_tb ?_
    | with_reducible refine w_chain ?_
    | with_reducible refine w_op ?_
    | with_reducible refine w_un ?_
    | with_reducible refine w_andV ?_
    | with_reducible refine w_orV ?_
    | with_reducible refine w_notV ?_
    | with_reducible refine w_ifE ?_
    | with_reducible refine w_cons ?_
    | with_reducible refine w_nil ?_
    | with_reducible refine w_cb ?_
    | with_reducible refine w_cl ?_
    | with_reducible refine w_mt ?_
    | with_reducible refine w_fld ?_
    | with_reducible refine w_tupN ?_
    | with_reducible refine w_lstN ?_
    | with_reducible refine w_bm ?_
    | with_reducible refine w_bm0 ?_
    | with_reducible refine w_for ?_
    | with_reducible refine w_lc ?_
    | with_reducible refine w_iR1 ?_
    | with_reducible refine w_iR2 ?_
    | with_reducible refine w_iL ?_
    | with_reducible refine w_iT ?_
    | with_reducible refine w_iE ?_
    | with_reducible refine w_iZ ?_
    | with_reducible refine w_var (by with_unfolding_all rfl) ?_
    | with_reducible refine w_c ?_
    | with_reducible refine w_next ?_
    | with_reducible refine w_i0 ?_
    | with_reducible refine w_u1 ?_
    | with_reducible refine w_addI ?_
    | with_reducible refine w_eqI ?_
    | with_reducible refine w_eqS ?_
    | with_reducible refine w_eqB ?_
    | with_reducible refine w_neI ?_
    | with_reducible refine w_neS ?_
    | with_reducible refine w_neB ?_
    | with_reducible refine w_abs ?_
    | with_reducible refine w_intI ?_
    | with_reducible refine w_min2 ?_
    | with_reducible refine w_max2 ?_
    | with_reducible refine w_isN0 ?_
    | with_reducible refine w_isN1 ref_ne ?_
    | with_reducible refine w_isN1 int_ne ?_
    | with_reducible refine w_notN0 ?_
    | with_reducible refine w_notN1 ref_ne ?_
    | with_reducible refine w_notN1 int_ne ?_
    | with_reducible refine w_ex1 ?_
    | with_reducible refine w_n1 ?_
    | with_reducible refine w_n2 ?_
    | with_reducible refine w_tT ?_
    | with_reducible refine w_tF ?_
    | with_reducible refine w_nT ?_
    | with_reducible refine w_nF ?_
    | with_reducible refine w_rz ?_
    | with_reducible refine w_mkN ?_
    | with_reducible refine w_lrgN ?_
    | with_reducible refine w_rg1 ?_
    | with_reducible refine w_rg2 ?_
    | with_reducible refine w_sl ?_
    | with_reducible refine w_np ?_
    | with_reducible refine w_pt ?_
    | with_reducible refine w_tr ?_
    | with_reducible refine w_gn ?_
    | with_reducible refine w_yes ?_
    | with_reducible refine w_g1 ?_
    | with_reducible refine w_gc ?_
    | with_reducible refine w_gt (SqT.of upd_same) rfl ?_)
local macro_rules
  | `(tactic| walk_at "g") => `(tactic| repeat walk_at "1")
section
variable {K : PySem.W.Frag} {mg : Str → Option Value}
theorem ok_nat {size : Int} (h : SizeOk size) : ∃ n : Nat, size = (n : Int) ∧ n ≤ 60 := ⟨size.toNat, by obtain ⟨a, b⟩ := h; omega, by obtain ⟨a, b⟩ := h; omega⟩
theorem len__links_of_operations (K : PySem.W.Frag) : ∀ vs H Q E, sp__links_of_operations K vs H Q E → vs.length = (["size", "log"] : List Str).length := by
  rintro vs H Q E ⟨_, _, _, rfl, _⟩
  rfl
theorem rd__links_of_operations (T : Txt K mg) (vs : List V) (H : Hp) (Q : VK) (E : XK) (h : sp__links_of_operations K vs H Q E) : t__links_of_operations K E { nx := fun _ H' => Q .non H', rt := Q } (start ["size", "log", "links", "touched", "index", "operation", "node"] vs) H := by
  obtain ⟨c, size, log, rfl, hs, hlen, re, g⟩ := h
  unfold t__links_of_operations
  walk_at "g"
  refine mk fun q dx H1 nq hq k1 => ?_
  refine ⟨q, dx, size, rfl, hq, fun ok r l o H2 nr nl no k2 b => ⟨rfl, ?_⟩, fun bad => re.sz bad _ k1⟩
  have k02 : Kp [] H H2 := (k1.all.trans k2).cut1 nq
  obtain ⟨n, rfl, n60⟩ := ok_nat ok
  rw [Int.toNat_natCast] at b g
  walk_at "g"
  refine ⟨sz_ok (Nat.zero_le _), nw fun u H3 nu k3 hu => ?_⟩
  walk_at "g"
  have fin := g ok
  have hs3 := (k02.trans k3).sql (by simp) hs
  obtain ⟨dxq, obq⟩ := b.ob
  have nqu : q ≠ u := ne_of_none obq nu
  have nru : r ≠ u := ne_of_none b.hr nu
  have nlu : l ≠ u := ne_of_none b.hl nu
  have nou : o ≠ u := ne_of_none b.ho nu
  have fu := k02.free0 nu
  refine ⟨c, _, rfl, hs3, lp_enum (xs := log.map V.int) (fun i σ H' => (∃ x4 x5 x6, σ = [some (.int n), some (.ref c), some (.ref q), some (.ref u), x4, x5, x6]) ∧ Leg (wholeS n) (log.take i) ∧ Kp [] H H' ∧ LinksAt K H' q r l o (runS (wholeS n) (log.take i)) ∧
    ∃ xs, H' u = some (.lst xs) ∧ TouchAt H' n (log.take i) xs ∧ ∀ t, V.ref t ∈ xs → t ≠ q ∧ t ≠ r ∧ t ≠ l ∧ t ≠ o ∧ t ≠ u) ⟨⟨_, _, _, rfl⟩, ?_, k02.trans k3, b.k0 k3, [], hu, ?_, ?_⟩ ?_ ?_ ?_⟩
  · intro i op h
    simp at h
  · refine ⟨rfl, fun i op h => ?_⟩
    simp at h
  · intro t ht
    cases ht
  · rintro i σ' H' hi ⟨_, _, k, _⟩
    exact k.sql (by simp) hs
  · rintro i x T1 σ' H' hx ⟨⟨x4, x5, x6, rfl⟩, le, k, ls, xs, hu', ta, di⟩ nT
    obtain ⟨op, hop, rfl⟩ := at_map hx
    have kT : Kp [] H' (upd H' T1 (.tup [.int (i : Int), .int op])) := Kp.new nT
    walk_at "g"
    have ls1 := ls.k0 kT
    refine w_me ls1 no_m ?_
    walk_at "g"
    refine ⟨q, r, l, o, _, op, i, rfl, ls1, fun ok4 H4 k4 ls4 => ?_, fun bad => ?_⟩
    · walk_at "g"
      rw [natAbs_if]
      have w := ls.wf
      have hi := ok4.1
      rw [runS_n] at hi
      have hi' : op.natAbs ≤ n := hi.2
      have hu4 : H4 u = some (.lst xs) := k4 _ _ (by simp [Ne.symm nru, Ne.symm nlu, Ne.symm nou]) (kT.at0 hu')
      have kH4 : Kp [] H H4 := ((k.trans kT).all.trans k4).cut (by simp [k1.free0 nr, k1.free0 nl, k1.free0 no])
      refine ⟨w_ty (SqL.of hu4), ?_⟩
      walk_at "g"
      refine w_me ls4 no_m ?_
      walk_at "g"
      refine ⟨q, r, l, o, _, op.natAbs, rfl, ls4, hi.1, by rw [stepS_n, runS_n]; show op.natAbs ≤ n + 1; omega, ?_⟩
      walk_at "g"
      refine w_me ls4 no_m ?_
      walk_at "g"
      refine ⟨q, r, l, o, _, op.natAbs, rfl, ls4, by rw [stepS_n, runS_n]; exact hi', ?_⟩
      walk_at "g"
      rw [step_L w ok4.1, step_R w ok4.1]
      refine ⟨sz_ok (by show 3 ≤ 1000000; omega), nw fun t H5 nt k5 ht => ?_⟩
      walk_at "g"
      have hu5 := k5.at0 hu4
      have li : i < log.length := (List.getElem?_eq_some_iff.mp hop).1
      have lx : xs.length = i := by rw [ta.1, List.length_take]; omega
      refine w_apT hu5 (sz_lt (by omega)) fun H6 k6 hu6 => ?_
      have e : log.take (i + 1) = log.take i ++ [op] := take_snoc hop
      have tu : t ≠ u := (ne_of_none hu4 nt).symm
      have qu : q ≠ u := nqu
      have ls5 := ls4.k0 k5
      walk_at "g"
      refine ⟨⟨_, _, _, rfl⟩, ?_, ((kH4.trans k5).all.trans k6).cut (by simp [fu]), ?_, _, hu6, ⟨?_, ?_⟩, ?_⟩
      · rw [e]
        exact le.snoc ok4
      · rw [e, runS_snoc]
        exact ls5.kp k6 (by simpa using nqu) (by simpa using nru) (by simpa using nlu) (by simpa using nou)
      · rw [e, List.length_append, List.length_append, ta.1] <;> rfl
      · rintro j oj hj
        have e2 : log.take (i + 1) = log.take i ++ [op] := e
        rw [e] at hj
        have ltk : (log.take i).length = i := by rw [List.length_take]; omega
        by_cases hji : j < i
        · rw [List.getElem?_append_left (by omega)] at hj
          obtain ⟨t', h1, h2⟩ := ta.2 j oj hj
          refine ⟨t', by rw [List.getElem?_append_left (by omega)]; exact h1, ?_⟩
          have m : V.ref t' ∈ xs := List.mem_of_getElem? h1
          obtain ⟨d1, d2, d3, d4, d5⟩ := di t' m
          have h4 := k4 _ _ (by simp [d2, d3, d4]) (kT.at0 h2)
          have h6 := k6.at1 d5 (k5.at0 h4)
          rw [List.take_take, Nat.min_eq_left (by omega)] at h6
          rw [List.take_take, Nat.min_eq_left (by omega)]
          exact h6
        · have ej : j = i := by
            have := (List.getElem?_eq_some_iff.mp hj).1
            rw [List.length_append, ltk] at this
            simp at this
            omega
          subst ej
          rw [List.getElem?_append_right (by omega), ltk, Nat.sub_self] at hj
          have eo : op = oj := by simpa using hj
          subst eo
          refine ⟨t, by rw [List.getElem?_append_right (by omega), lx, Nat.sub_self] <;> rfl, ?_⟩
          have h6 := k6.at1 tu ht
          rw [List.take_take, Nat.min_eq_left (by omega)]
          exact h6
      · intro t' ht'
        rcases List.mem_append.mp ht' with m | m
        · exact di t' m
        · have : t' = t := by simpa using m
          subst this
          obtain ⟨dxx, obx⟩ := ls4.ob
          exact ⟨(ne_of_none obx nt).symm, (ne_of_none ls4.hr nt).symm, (ne_of_none ls4.hl nt).symm, (ne_of_none ls4.ho nt).symm, tu⟩
    · rw [runS_n]
      exact re.op ok i op hop (by rw [Int.toNat_natCast]; exact le) (by rw [Int.toNat_natCast]; exact bad) _ (k.trans kT)
  · rintro σ' H' ⟨⟨x4, x5, x6, rfl⟩, le, k, ls, xs, hu', ta, di⟩
    rw [List.length_map, List.take_length] at le ls ta
    walk_at "g"
    exact fin le u H' xs fu k hu' ta
end
end G

set_option Elab.async false
set_option linter.all false
set_option maxRecDepth 100000
set_option maxHeartbeats 1000000
namespace G
--#FAM KA
open PySem PySem.Spec PyProof.Rows L2
local macro_rules
  | `(tactic| walk_at "1") => `(tactic| first
    | with_reducible refine w_seq ?_
    | with_reducible refine w_asg ?_
    | with_reducible refine w_asgS ?_
    | with_reducible refine w_asf ?_
    | with_reducible refine w_drop ?_
    | with_reducible refine w_ret ?_
    | with_reducible refine w_if ?_
    | with_reducible refine w_not ?_
    | with_reducible refine w_and ?_
    | with_reducible refine w_or ?_
    | with_reducible refine w_test ?_
    | with_reducible refine w_tb ?_
    | with_reducible refine w_chain ?_
    | with_reducible refine w_op ?_
    | with_reducible refine w_un ?_
    | with_reducible refine w_andV ?_
    | with_reducible refine w_orV ?_
    | with_reducible refine w_notV ?_
    | with_reducible refine w_ifE ?_
    | with_reducible refine w_cons ?_
    | with_reducible refine w_nil ?_
    | with_reducible refine w_cb ?_
    | with_reducible refine w_cl ?_
    | with_reducible refine w_mt ?_
    | with_reducible refine w_fld ?_
    | with_reducible refine w_tupN ?_
    | with_reducible refine w_lstN ?_
    | with_reducible refine w_bm ?_
    | with_reducible refine w_bm0 ?_
    | with_reducible refine w_for ?_
    | with_reducible refine w_lc ?_
    | with_reducible refine w_iR1 ?_
    | with_reducible refine w_iR2 ?_
    | with_reducible refine w_iL ?_
    | with_reducible refine w_iT ?_
    | with_reducible refine w_iE ?_
    | with_reducible refine w_iZ ?_
    | with_reducible refine w_var (by with_unfolding_all rfl) ?_
    | with_reducible refine w_c ?_
    | with_reducible refine w_next ?_
    | with_reducible refine w_i0 ?_
    | with_reducible refine w_u1 ?_
    | with_reducible refine w_addI ?_
    | with_reducible refine w_eqI ?_
    | with_reducible refine w_eqS ?_
    | with_reducible refine w_eqB ?_
    | with_reducible refine w_neI ?_
    | with_reducible refine w_neS ?_
    | with_reducible refine w_neB ?_
    | with_reducible refine w_abs ?_
    | with_reducible refine w_intI ?_
    | with_reducible refine w_min2 ?_
    | with_reducible refine w_max2 ?_
    | with_reducible refine w_isN0 ?_
    | with_reducible refine w_isN1 ref_ne ?_
    | with_reducible refine w_isN1 int_ne ?_
    | with_reducible refine w_notN0 ?_
    | with_reducible refine w_notN1 ref_ne ?_
    | with_reducible refine w_notN1 int_ne ?_
    | with_reducible refine w_ex1 ?_
    | with_reducible refine w_n1 ?_
    | with_reducible refine w_n2 ?_
    | with_reducible refine w_tT ?_
    | with_reducible refine w_tF ?_
    | with_reducible refine w_nT ?_
    | with_reducible refine w_nF ?_
    | with_reducible refine w_rz ?_
    | with_reducible refine w_mkN ?_
    | with_reducible refine w_lrgN ?_
    | with_reducible refine w_rg1 ?_
    | with_reducible refine w_rg2 ?_
    | with_reducible refine w_sl ?_
    | with_reducible refine w_np ?_
    | with_reducible refine w_pt ?_
    | with_reducible refine w_tr ?_
    | with_reducible refine w_gn ?_
    | with_reducible refine w_yes ?_
    | with_reducible refine w_g1 ?_
    | with_reducible refine w_gc ?_
    | with_reducible refine w_gt (SqT.of upd_same) rfl ?_)
local macro_rules
  | `(tactic| walk_at "g") => `(tactic| repeat walk_at "1")
section
variable {K : PySem.W.Frag} {mg : Str → Option Value}
theorem rep_mapI (n : Nat) (x : Int) : (List.replicate n x).map V.int = List.replicate n (V.int x) := by rw [List.map_replicate]
theorem at_r {α : Type} {xs : List α} {i : Nat} {x : α} (h : xs[i]? = some x) : i < xs.length := (List.getElem?_eq_some_iff.mp h).1
theorem lsS_some (s s' : Sd) (k g : Nat) (x : Nat × Nat) : lsS s s' k g (some x) = some x := by
  unfold lsS
  rw [if_neg (fun z => by cases z.1)]
theorem lost_whole (n : Nat) : lostL (wholeS n) = [] := by
  cases e : lostL (wholeS n) with
  | nil => rfl
  | cons g r =>
    obtain ⟨g1, g2, _⟩ := lost_head e
    have g1 : g ≤ n := g1
    have r1 : gI (wholeS n).R g = (g : Int) + 1 := by
      show gI (rgI 1 (n + 1)) g = _
      rw [gI_range (by omega)]
      omega
    have l1 : gI (wholeS n).L (g + 1) = (g : Int) := by
      show gI (0 :: rgI 0 (n + 1)) (g + 1) = _
      show gI (rgI 0 (n + 1)) g = _
      rw [gI_range (by omega)]
      omega
    unfold stT at g2
    rw [if_pos r1, if_pos l1] at g2
    exact absurd g2 (by decide +kernel)
theorem Leg.init {s : Sd} {l : List Int} {x : Int} (h : Leg s (l ++ [x])) : Leg s l ∧ OkOp (runS s l) x := by
  constructor
  · have := h.take l.length
    rwa [List.take_left' rfl] at this
  · have := h l.length x (by simp)
    rwa [List.take_left' rfl] at this
theorem ls_none {n : Nat} (hn : n ≤ 60) : ∀ {log : List Int}, Leg (wholeS n) log → (bkR n log).ls = none → lostL (runS (wholeS n) log) = [] := by
  intro log
  induction log using snoc_ind with
  | h0 => exact fun _ _ => lost_whole n
  | h1 l x ih =>
    intro h e
    obtain ⟨hl, ok⟩ := h.init
    have w := hl.wf (.whole hn)
    have wS := w.step ok.1
    rw [bkR_snoc] at e
    have e : lsS (bkR n l).s (stepS (bkR n l).s x) (bkR n l).k (hiN (bkR n l).s x) (lsS (bkR n l).s (stepS (bkR n l).s x) (bkR n l).k (lowN (bkR n l).s x) (bkR n l).ls) = none := e
    cases e0 : (bkR n l).ls with
    | some y =>
      rw [e0, lsS_some, lsS_some] at e
      cases e
    | none =>
      rw [e0, bkR_s, ls_step w ok.1 _ (ih hl e0)] at e
      rw [runS_snoc]
      cases e1 : lostL (stepS (runS (wholeS n) l) x) with
      | nil => rfl
      | cons g r => rw [e1] at e; cases e
theorem ls_snoc {n : Nat} (hn : n ≤ 60) {l : List Int} {x : Int} (h : Leg (wholeS n) l) (ok : OkOp (runS (wholeS n) l) x) : (bkR n (l ++ [x])).ls = match (bkR n l).ls with
    | some y => some y
    | none => (lostL (stepS (runS (wholeS n) l) x)).head?.map fun g => (l.length, g) := by
  have w := h.wf (.whole hn)
  rw [bkR_snoc]
  show lsS (bkR n l).s (stepS (bkR n l).s x) (bkR n l).k (hiN (bkR n l).s x) (lsS (bkR n l).s (stepS (bkR n l).s x) (bkR n l).k (lowN (bkR n l).s x) (bkR n l).ls) = _
  cases e0 : (bkR n l).ls with
  | some y => rw [lsS_some, lsS_some]
  | none => rw [bkR_s, ls_step w ok.1 _ (ls_none hn h e0), bkR_k]
theorem OptP.kp {H H' : Hp} {v : V} {p : Option (Nat × Nat)} (h : OptP H v p) (k : Kp [] H H') : OptP H' v p := by
  cases p with
  | none => exact h
  | some x =>
    obtain ⟨t, e, ht⟩ := h
    exact ⟨t, e, k.at0 ht⟩
theorem len_writers (K : PySem.W.Frag) : ∀ vs H Q E, sp_writers K vs H Q E → vs.length = (["size", "log"] : List Str).length := by
  rintro vs H Q E ⟨_, _, _, rfl, _⟩
  rfl
theorem rd_writers (T : Txt K mg) (vs : List V) (H : Hp) (Q : VK) (E : XK) (h : sp_writers K vs H Q E) : t_writers K E { nx := fun _ H' => Q .non H', rt := Q } (start ["size", "log", "touched", "right_writes", "left_writes", "index", "_", "low", "high"] vs) H := by
  obtain ⟨c, size, log, rfl, hs, hlen, re, g⟩ := h
  unfold t_writers
  walk_at "g"
  refine ⟨c, size, log, rfl, hs, hlen, re, fun ok le q H1 xs nq k1 hq ta => ?_⟩
  have fin := g ok le
  obtain ⟨n, rfl, n60⟩ := ok_nat ok
  rw [Int.toNat_natCast] at fin le ta
  walk_at "g"
  refine ⟨sz_ok (by show 1 ≤ 1000000; omega), nw fun z H2 nz k2 hz => ?_⟩
  walk_at "g"
  refine w_mulLN hz (by omega) (by omega) (sz_ok (by show 1 * _ ≤ _; omega)) fun r H3 nr k3 hr => ?_
  walk_at "g"
  refine ⟨sz_ok (by show 1 ≤ 1000000; omega), nw fun z2 H4 nz2 k4 hz2 => ?_⟩
  walk_at "g"
  refine w_mulLN hz2 (by omega) (by omega) (sz_ok (by show 1 * _ ≤ _; omega)) fun l H5 nl k5 hl => ?_
  rw [show ((n : Int) + 1).toNat = n + 1 by omega, rep_flat] at hr hl
  walk_at "g"
  have hq2 := k2.at0 hq
  have k25 := (k2.trans k3).trans (k4.trans k5)
  have k35 := k4.trans k5
  have hq5 := k25.at0 hq
  have qr : q ≠ r := ne_of_none hq2 nr
  have ql : q ≠ l := ne_of_none (k4.at0 (k3.at0 hq2)) nl
  have rl : r ≠ l := ne_of_none (k4.at0 hr) nl
  have fr : H1 r = none := k2.free0 nr
  have fl : H1 l = none := k2.free0 (k3.free0 (k4.free0 nl))
  refine ⟨q, _, rfl, SqL.of hq5, lp_enum (xs := xs) (fun i σ H' => (∃ x5 x6 x7 x8, σ = [some (.int n), some (.ref c), some (.ref q), some (.ref r), some (.ref l), x5, x6, x7, x8]) ∧ Kp [] H1 H' ∧
    H' r = some (.lst ((bkR n (log.take i)).wr.map V.int)) ∧ H' l = some (.lst ((bkR n (log.take i)).wl.map V.int))) ⟨⟨_, _, _, _, rfl⟩, k25, ?_, ?_⟩ ?_ ?_ ?_⟩
  · rw [k35.at0 hr, List.take_zero]
    show _ = some (HO.lst ((List.replicate (n + 1) (-1)).map V.int))
    rw [rep_mapI]
  · rw [hl, List.take_zero]
    show _ = some (HO.lst ((List.replicate (n + 1) (-1)).map V.int))
    rw [rep_mapI]
  · rintro i σ' H' hi ⟨_, k, _⟩
    exact SqL.of (k.at0 hq)
  · rintro i x T1 σ' H' hx ⟨⟨x5, x6, x7, x8, rfl⟩, k, hr', hl'⟩ nT
    have li : i < log.length := by rw [← ta.1]; exact at_r hx
    have hop : log[i]? = some log[i] := List.getElem?_eq_getElem li
    obtain ⟨t, ht1, ht2⟩ := ta.2 i _ hop
    rw [hx] at ht1
    injection ht1 with ht1
    subst ht1
    generalize log[i] = op at hop ht2
    have io := le i op hop
    have w := (le.take i).wf (.whole n60)
    obtain ⟨i1, i2⟩ := io
    obtain ⟨t1, t2, t3, t4, t5⟩ := touch_bd w i1
    rw [runS_n] at t3
    have t3 : hiN (runS (wholeS n) (log.take i)) op ≤ n := t3
    have i1 : IsOp n op := by rw [runS_n] at i1; exact i1
    have := i1.2
    rw [t4, t5] at ht2
    have kT : Kp [] H' (upd H' T1 (.tup [.int (i : Int), .ref t])) := Kp.new nT
    walk_at "g"
    refine w_gt (SqT.of (kT.at0 (k.at0 ht2))) rfl ?_
    walk_at "g"
    obtain ⟨bl1, bl2, bl3⟩ := bkR_len n (log.take i)
    refine w_seT (kT.at0 hr') (ixN_pos (by omega) (by rw [List.length_map, bl1]; omega)) fun H6 k6 hr6 => ?_
    have hl6 := k6.at1 (Ne.symm rl) (kT.at0 hl')
    walk_at "g"
    refine w_seT hl6 (ixN_pos (by omega) (by rw [List.length_map, bl2]; omega)) fun H7 k7 hl7 => ?_
    have hr7 := k7.at1 rl hr6
    walk_at "g"
    have e : log.take (i + 1) = log.take i ++ [op] := take_snoc hop
    have ek : (bkR n (log.take i)).k = i := by rw [bkR_k, List.length_take]; omega
    refine ⟨⟨_, _, _, _, rfl⟩, ((((k.trans kT).all.trans k6).cut1 fr).all.trans k7).cut1 fl, ?_, ?_⟩
    · rw [hr7, e, bkR_snoc]
      show _ = some (HO.lst ((List.set _ (lowN (bkR n (log.take i)).s op) _).map V.int))
      rw [bkR_s, ek, set_I] <;> rfl
    · rw [hl7, e, bkR_snoc]
      show _ = some (HO.lst ((List.set _ (hiN (bkR n (log.take i)).s op) _).map V.int))
      rw [bkR_s, ek, set_I, show ((hiN (runS (wholeS n) (log.take i)) op : Int) + 1 - 1).toNat = hiN (runS (wholeS n) (log.take i)) op by omega]
  · rintro σ' H' ⟨⟨x5, x6, x7, x8, rfl⟩, k, hr', hl'⟩
    rw [ta.1, List.take_length] at hr' hl'
    walk_at "g"
    refine ⟨sz_ok (by show 2 ≤ 1000000; omega), nw fun t H6 nt k6 ht => ?_⟩
    exact fin t r l H6 (k1.trans (k.trans k6)) ht (k6.at0 hr') (k6.at0 hl')
theorem len_decided_by (K : PySem.W.Frag) : ∀ vs H Q E, sp_decided_by K vs H Q E → vs.length = (["size", "log", "gap"] : List Str).length := by
  rintro vs H Q E ⟨_, _, _, _, rfl, _⟩
  rfl
theorem rd_decided_by (T : Txt K mg) (vs : List V) (H : Hp) (Q : VK) (E : XK) (h : sp_decided_by K vs H Q E) : t_decided_by K E { nx := fun _ H' => Q .non H', rt := Q } (start ["size", "log", "gap", "links", "state", "decided", "index", "operation", "before"] vs) H := by
  obtain ⟨c, size, gp, log, rfl, hs, re, gb, gk⟩ := h
  unfold t_decided_by
  walk_at "g"
  refine ⟨c, size, log, rfl, hs, fun ok le => ?_, re.op, re.sz⟩
  have gb := gb ok le
  have gk := gk ok le
  obtain ⟨n, rfl, n60⟩ := ok_nat ok
  rw [Int.toNat_natCast] at gk le ⊢
  intro p0 r0 l0 o0 H0 np0 nr0 nl0 no0 k0 a0
  walk_at "g"
  refine mk fun q dx H1 nq hq k1 => ?_
  refine ⟨q, dx, n, rfl, hq, fun ok r l o H2 nr nl no k2 b => ⟨rfl, ?_⟩, fun bad => absurd ok bad⟩
  have k02 : Kp [] H0 H2 := (k1.all.trans k2).cut1 nq
  rw [Int.toNat_natCast] at b
  walk_at "g"
  refine ⟨q, r, l, o, wholeS n, gp, rfl, b, fun gok => ?_, fun gbad => gb gbad _ (k0.trans k02)⟩
  obtain ⟨g1, g2⟩ := gok
  have g2 : gp ≤ n := g2
  obtain ⟨v, rfl⟩ : ∃ v : Nat, gp = (v : Int) := ⟨gp.toNat, by omega⟩
  have gk := gk g1 g2
  rw [Int.toNat_natCast] at gk ⊢
  walk_at "g"
  have hs2 := (k0.trans k02).sql (by simp) hs
  have wf : ∀ i, Wf (runS (wholeS n) (log.take i)) := fun i => (le.take i).wf (.whole n60)
  refine ⟨c, _, rfl, hs2, lp_enum (xs := log.map V.int) (fun i σ H' => (∃ y z x6 x7 x8, σ = [some (.int n), some (.ref c), some (.int v), some (.ref q), some (.str y), some (.int z), x6, x7, x8] ∧ y = stT (runS (wholeS n) (log.take i)) v ∧ z = gI (bkR n (log.take i)).de v) ∧ Kp [] H0 H' ∧
    LinksAt K H' q r l o (runS (wholeS n) (log.take i))) ⟨⟨_, _, _, _, _, rfl, rfl, ?_⟩, k02, b⟩ ?_ ?_ ?_⟩
  · symm
    show gI (List.replicate (n + 1) (-1)) v = -1
    refine gI_of ?_
    rw [List.getElem?_replicate_of_lt (by omega)]
  · rintro i σ' H' hi ⟨_, k, _⟩
    exact (k0.trans k).sql (by simp) hs
  · rintro i x T1 σ' H' hx ⟨⟨y, z, x6, x7, x8, rfl, ey, ez⟩, k, ls⟩ nT
    obtain ⟨op, hop, rfl⟩ := at_map hx
    have io := le i op hop
    have w := wf i
    have kT : Kp [] H' (upd H' T1 (.tup [.int (i : Int), .int op])) := Kp.new nT
    have e : log.take (i + 1) = log.take i ++ [op] := take_snoc hop
    walk_at "g"
    have ls1 := ls.k0 kT
    refine w_me ls1 no_m ?_
    walk_at "g"
    refine ⟨q, r, l, o, _, op, rfl, ls1, fun _ H4 k4 ls4 => ?_, fun bad => absurd io bad⟩
    walk_at "g"
    refine ⟨q, r, l, o, _, (v : Int), rfl, ls4, fun _ => ?_, fun bad => absurd ⟨by omega, by rw [stepS_n, runS_n]; exact g2⟩ bad⟩
    rw [Int.toNat_natCast]
    walk_at "g"
    have kk : Kp [] H0 H4 := ((k.trans kT).all.trans k4).cut (by simp [k1.free0 nr, k1.free0 nl, k1.free0 no])
    have ek : (bkR n (log.take i)).k = i := by
      have := at_r hop
      rw [bkR_k, List.length_take]
      omega
    have ed : gI (bkR n (log.take (i + 1))).de v = if stT (runS (wholeS n) (log.take i)) v = stT (stepS (runS (wholeS n) (log.take i)) op) v then gI (bkR n (log.take i)).de v else (i : Int) := by
      have d := de_step w io.1 (bkR n (log.take i)).k (de := (bkR n (log.take i)).de) (by rw [(bkR_len n _).2.2, runS_n] <;> rfl) (g := v) (by rw [runS_n]; show v ≤ n; omega)
      rw [ek] at d
      rw [e, bkR_snoc, ← d]
      unfold bstep
      rw [bkR_s, ek]
    subst ey
    have es : runS (wholeS n) (log.take (i + 1)) = stepS (runS (wholeS n) (log.take i)) op := by rw [e, runS_snoc]
    rw [es]
    refine w_iteN (fun c1 => ?_) (fun c1 => ?_)
    · walk_at "g"
      rw [if_neg (fun z => c1 z.symm)] at ed
      exact ⟨⟨_, _, _, _, _, rfl, rfl, ed.symm⟩, kk, ls4⟩
    · walk_at "g"
      rw [if_pos c1.symm] at ed
      exact ⟨⟨_, _, _, _, _, rfl, rfl, ez.trans ed.symm⟩, kk, ls4⟩
  · rintro σ' H' ⟨⟨y, z, x6, x7, x8, rfl, ey, ez⟩, k, ls⟩
    rw [List.length_map, List.take_length] at ez
    subst ez
    walk_at "g"
    exact gk H' (k0.trans k)
end
end G

set_option Elab.async false
set_option linter.all false
set_option maxRecDepth 100000
set_option maxHeartbeats 1000000
namespace G
--#FAM KA
open PySem PySem.Spec PyProof.Rows L2
local macro_rules
  | `(tactic| walk_at "1") => `(tactic| first
    | with_reducible refine w_seq ?_
    | with_reducible refine w_asg ?_
    | with_reducible refine w_asgS ?_
    | with_reducible refine w_asf ?_
    | with_reducible refine w_drop ?_
    | with_reducible refine w_ret ?_
    | with_reducible refine w_if ?_
    | with_reducible refine w_not ?_
    | with_reducible refine w_and ?_
    | with_reducible refine w_or ?_
    | with_reducible refine w_test ?_
    | with_reducible refine w_tb ?_
    | with_reducible refine w_chain ?_
    | with_reducible refine w_op ?_
    | with_reducible refine w_un ?_
    | with_reducible refine w_andV ?_
    | with_reducible refine w_orV ?_
    | with_reducible refine w_notV ?_
    | with_reducible refine w_ifE ?_
    | with_reducible refine w_cons ?_
    | with_reducible refine w_nil ?_
    | with_reducible refine w_cb ?_
    | with_reducible refine w_cl ?_
    | with_reducible refine w_mt ?_
    | with_reducible refine w_fld ?_
    | with_reducible refine w_tupN ?_
    | with_reducible refine w_lstN ?_
    | with_reducible refine w_bm ?_
    | with_reducible refine w_bm0 ?_
    | with_reducible refine w_for ?_
    | with_reducible refine w_lc ?_
    | with_reducible refine w_iR1 ?_
    | with_reducible refine w_iR2 ?_
    | with_reducible refine w_iL ?_
    | with_reducible refine w_iT ?_
    | with_reducible refine w_iE ?_
    | with_reducible refine w_iZ ?_
    | with_reducible refine w_var (by with_unfolding_all rfl) ?_
    | with_reducible refine w_c ?_
    | with_reducible refine w_next ?_
    | with_reducible refine w_i0 ?_
    | with_reducible refine w_u1 ?_
    | with_reducible refine w_addI ?_
    | with_reducible refine w_eqI ?_
    | with_reducible refine w_eqS ?_
    | with_reducible refine w_eqB ?_
    | with_reducible refine w_neI ?_
    | with_reducible refine w_neS ?_
    | with_reducible refine w_neB ?_
    | with_reducible refine w_abs ?_
    | with_reducible refine w_intI ?_
    | with_reducible refine w_min2 ?_
    | with_reducible refine w_max2 ?_
    | with_reducible refine w_isN0 ?_
    | with_reducible refine w_isN1 ref_ne ?_
    | with_reducible refine w_isN1 int_ne ?_
    | with_reducible refine w_notN0 ?_
    | with_reducible refine w_notN1 ref_ne ?_
    | with_reducible refine w_notN1 int_ne ?_
    | with_reducible refine w_ex1 ?_
    | with_reducible refine w_n1 ?_
    | with_reducible refine w_n2 ?_
    | with_reducible refine w_tT ?_
    | with_reducible refine w_tF ?_
    | with_reducible refine w_nT ?_
    | with_reducible refine w_nF ?_
    | with_reducible refine w_rz ?_
    | with_reducible refine w_mkN ?_
    | with_reducible refine w_lrgN ?_
    | with_reducible refine w_rg1 ?_
    | with_reducible refine w_rg2 ?_
    | with_reducible refine w_sl ?_
    | with_reducible refine w_np ?_
    | with_reducible refine w_pt ?_
    | with_reducible refine w_tr ?_
    | with_reducible refine w_gn ?_
    | with_reducible refine w_yes ?_
    | with_reducible refine w_g1 ?_
    | with_reducible refine w_gc ?_
    | with_reducible refine w_gt (SqT.of upd_same) rfl ?_)
local macro_rules
  | `(tactic| walk_at "g") => `(tactic| repeat walk_at "1")
section
variable {K : PySem.W.Frag} {mg : Str → Option Value}
theorem w_isiI {H : Hp} {Q : VK} {i : Int} {t : String} {r : Bool} (h : kitB "int" t = some r) (g : Q (.bl r) H) : rIsi K [.int i, .ty t] H Q := ⟨_, _, _, _, r, rfl, .ty t, .base (.int i), kit_ty h, g⟩
theorem w_isiL {H : Hp} {Q : VK} {a : Addr} {xs : List V} {t : String} {r : Bool} (e : H a = some (.lst xs)) (h : kitB "list" t = some r) (g : Q (.bl r) H) : rIsi K [.ref a, .ty t] H Q := ⟨_, _, _, _, r, rfl, .ty t, .base (.lst e), kit_ty h, g⟩
theorem w_isiT {H : Hp} {Q : VK} {a : Addr} {xs : List V} {t : String} {r : Bool} (e : H a = some (.tup xs)) (h : kitB "tuple" t = some r) (g : Q (.bl r) H) : rIsi K [.ref a, .ty t] H Q := ⟨_, _, _, _, r, rfl, .ty t, .base (.tup e), kit_ty h, g⟩
theorem len__law_whole_number (K : PySem.W.Frag) : ∀ vs H Q E, sp__law_whole_number K vs H Q E → vs.length = (["told"] : List Str).length := by
  rintro vs H Q E ⟨_, rfl, _⟩
  rfl
theorem rd__law_whole_number (T : Txt K mg) (vs : List V) (H : Hp) (Q : VK) (E : XK) (h : sp__law_whole_number K vs H Q E) : t__law_whole_number K E { nx := fun _ H' => Q .non H', rt := Q } (start ["told"] vs) H := by
  obtain ⟨i, rfl, g⟩ := h
  unfold t__law_whole_number
  walk_at "g"
  refine w_isiI (r := true) (by decide +kernel) ?_
  walk_at "g"
  refine w_isiI (r := false) (by decide +kernel) ?_
  walk_at "g"
  exact g
theorem len__law_numbers (K : PySem.W.Frag) : ∀ vs H Q E, sp__law_numbers K vs H Q E → vs.length = (["told", "due"] : List Str).length := by
  rintro vs H Q E ⟨_, _, _, rfl, _⟩
  rfl
theorem rd__law_numbers (T : Txt K mg) (vs : List V) (H : Hp) (Q : VK) (E : XK) (h : sp__law_numbers K vs H Q E) : t__law_numbers K E { nx := fun _ H' => Q .non H', rt := Q } (start ["told", "due", "k"] vs) H := by
  obtain ⟨a, b, xs, rfl, hl, ha, hb, g⟩ := h
  unfold t__law_numbers
  walk_at "g"
  refine w_isiL (r := true) ha (by decide +kernel) ?_
  walk_at "g"
  refine w_lenL (SqL.of ha) ?_
  walk_at "g"
  refine w_lenL (SqL.of hb) ?_
  walk_at "g"
  rw [decide_eq_true rfl]
  walk_at "g"
  refine w_lenL (SqL.of hb) ?_
  walk_at "g"
  refine w_r1 (by rw [List.length_map]; omega) ?_
  refine lp_rng0 (fun i σ H' => H' = H ∧ ∃ v, σ = [some (.ref a), some (.ref b), v]) ⟨rfl, _, rfl⟩ ?_ ?_
  · rintro i σ' H' hi ⟨rfl, v, rfl⟩
    rw [List.length_map] at hi
    have li : i < xs.length := by omega
    have e1 := at_I (l := xs) (i := (i : Int)) (by omega) (by omega)
    walk_at "g"
    refine w_ixL (SqL.of ha) e1 ?_
    walk_at "g"
    refine ⟨_, rfl, ?_⟩
    walk_at "g"
    refine w_ixL (SqL.of ha) e1 ?_
    walk_at "g"
    refine w_ixL (SqL.of hb) e1 ?_
    walk_at "g"
    rw [decide_eq_true rfl]
    walk_at "g"
    exact ⟨rfl, _, rfl⟩
  · rintro σ' H' ⟨rfl, v, rfl⟩
    walk_at "g"
    exact g
theorem len__law_state (K : PySem.W.Frag) : ∀ vs H Q E, sp__law_state K vs H Q E → vs.length = (["world", "place"] : List Str).length := by
  rintro vs H Q E ⟨_, _, _, _, _, _, rfl, _⟩
  rfl
theorem rd__law_state (T : Txt K mg) (vs : List V) (H : Hp) (Q : VK) (E : XK) (h : sp__law_state K vs H Q E) : t__law_state K E { nx := fun _ H' => Q .non H', rt := Q } (start ["world", "place", "from_left", "from_right"] vs) H := by
  obtain ⟨w, r, l, o, s, v, rfl, a, gs, g⟩ := h
  unfold t__law_state
  obtain ⟨L', hL, lL, eL⟩ := a.hl
  have wf := a.wf
  walk_at "g"
  refine w_ixL (SqL.of a.ob) (i := 1) (v := .ref r) rfl ?_
  walk_at "g"
  refine w_ixL (SqL.of a.hr) (at_I (by omega) (by rw [wf.lR]; omega)) ?_
  walk_at "g"
  refine w_ixL (SqL.of a.ob) (i := 2) (v := .ref l) rfl ?_
  walk_at "g"
  refine w_ixL (SqL.of hL) (at_I (by omega) (by rw [lL]; omega)) ?_
  rw [show ((v : Int) + 1).toNat = v + 1 by omega, Int.toNat_natCast, eL (v + 1) (by omega)]
  unfold stT at g
  walk_at "g"
  refine w_iteD (fun c1 => ?_) (fun c1 => ?_)
  · rw [if_pos c1] at g
    walk_at "g"
    refine w_iteD (fun c2 => ?_) (fun c2 => ?_)
    · rw [if_pos c2] at g
      walk_at "g"
      exact g
    · rw [if_neg c2] at g
      walk_at "g"
      rw [decide_eq_true c1]
      walk_at "g"
      exact g
  · rw [if_neg c1] at g
    walk_at "g"
    rw [decide_eq_false c1]
    walk_at "g"
    refine w_iteD (fun c2 => ?_) (fun c2 => ?_)
    · rw [if_pos c2] at g
      walk_at "g"
      exact g
    · rw [if_neg c2] at g
      walk_at "g"
      exact g
end
end G

set_option Elab.async false
set_option linter.all false
set_option maxRecDepth 100000
set_option maxHeartbeats 1000000
namespace G
--#FAM KA
open PySem PySem.Spec PyProof.Rows L2
local macro_rules
  | `(tactic| walk_at "1") => `(tactic| first
    | with_reducible refine w_seq ?_
    | with_reducible refine w_asg ?_
    | with_reducible refine w_asgS ?_
    | with_reducible refine w_asf ?_
    | with_reducible refine w_drop ?_
    | with_reducible refine w_ret ?_
    | with_reducible refine w_if ?_
    | with_reducible refine w_not ?_
    | with_reducible refine w_and ?_
    | with_reducible refine w_or ?_
    | with_reducible refine w_test ?_
    | with_reducible refine w_tb ?_
    | with_reducible refine w_chain ?_
    | with_reducible refine w_op ?_
    | with_reducible refine w_un ?_
    | with_reducible refine w_andV ?_
    | with_reducible refine w_orV ?_
    | with_reducible refine w_notV ?_
    | with_reducible refine w_ifE ?_
    | with_reducible refine w_cons ?_
    | with_reducible refine w_nil ?_
    | with_reducible refine w_cb ?_
    | with_reducible refine w_cl ?_
    | with_reducible refine w_mt ?_
    | with_reducible refine w_fld ?_
    | with_reducible refine w_tupN ?_
    | with_reducible refine w_lstN ?_
    | with_reducible refine w_bm ?_
    | with_reducible refine w_bm0 ?_
    | with_reducible refine w_for ?_
    | with_reducible refine w_lc ?_
    | with_reducible refine w_iR1 ?_
    | with_reducible refine w_iR2 ?_
    | with_reducible refine w_iL ?_
    | with_reducible refine w_iT ?_
    | with_reducible refine w_iE ?_
    | with_reducible refine w_iZ ?_
    | with_reducible refine w_var (by with_unfolding_all rfl) ?_
    | with_reducible refine w_c ?_
    | with_reducible refine w_next ?_
    | with_reducible refine w_i0 ?_
    | with_reducible refine w_u1 ?_
    | with_reducible refine w_addI ?_
    | with_reducible refine w_eqI ?_
    | with_reducible refine w_eqS ?_
    | with_reducible refine w_eqB ?_
    | with_reducible refine w_neI ?_
    | with_reducible refine w_neS ?_
    | with_reducible refine w_neB ?_
    | with_reducible refine w_abs ?_
    | with_reducible refine w_intI ?_
    | with_reducible refine w_min2 ?_
    | with_reducible refine w_max2 ?_
    | with_reducible refine w_isN0 ?_
    | with_reducible refine w_isN1 ref_ne ?_
    | with_reducible refine w_isN1 int_ne ?_
    | with_reducible refine w_notN0 ?_
    | with_reducible refine w_notN1 ref_ne ?_
    | with_reducible refine w_notN1 int_ne ?_
    | with_reducible refine w_ex1 ?_
    | with_reducible refine w_n1 ?_
    | with_reducible refine w_n2 ?_
    | with_reducible refine w_tT ?_
    | with_reducible refine w_tF ?_
    | with_reducible refine w_nT ?_
    | with_reducible refine w_nF ?_
    | with_reducible refine w_rz ?_
    | with_reducible refine w_mkN ?_
    | with_reducible refine w_lrgN ?_
    | with_reducible refine w_rg1 ?_
    | with_reducible refine w_rg2 ?_
    | with_reducible refine w_sl ?_
    | with_reducible refine w_np ?_
    | with_reducible refine w_pt ?_
    | with_reducible refine w_tr ?_
    | with_reducible refine w_gn ?_
    | with_reducible refine w_yes ?_
    | with_reducible refine w_g1 ?_
    | with_reducible refine w_gc ?_
    | with_reducible refine w_gt (SqT.of upd_same) rfl ?_)
local macro_rules
  | `(tactic| walk_at "g") => `(tactic| repeat walk_at "1")
section
variable {K : PySem.W.Frag} {mg : Str → Option Value}
theorem len__law_step (K : PySem.W.Frag) : ∀ vs H Q E, sp__law_step K vs H Q E → vs.length = (["world", "deed"] : List Str).length := by
  rintro vs H Q E ⟨_, _, _, _, _, _, rfl, _⟩
  rfl
theorem rd__law_step (T : Txt K mg) (vs : List V) (H : Hp) (Q : VK) (E : XK) (h : sp__law_step K vs H Q E) : t__law_step K E { nx := fun _ H' => Q .non H', rt := Q } (start ["world", "deed", "node", "low", "high", "rights", "lefts", "flags"] vs) H := by
  obtain ⟨w, r, l, o, s, op, rfl, a, hi, g⟩ := h
  unfold t__law_step
  obtain ⟨L', hL, lL, eL⟩ := a.hl
  have wf := a.wf
  obtain ⟨i1, i2⟩ := hi
  obtain ⟨t1, t2, t3, t4, t5⟩ := touch_bd wf ⟨i1, i2⟩
  obtain ⟨n1, n2, n3, n4, n5, n6⟩ := a.ne
  have io : ixN (List.map V.bl s.O).length (op.natAbs : Int) = some op.natAbs := by
    rw [ixN_pos (by omega) (by rw [List.length_map, wf.lO]; omega), Int.toNat_natCast]
  have ir : ixN (List.map V.int s.R).length (gI s.L op.natAbs) = some (gI s.L op.natAbs).toNat := ixN_pos (by omega) (by rw [List.length_map, wf.lR]; omega)
  have il : ixN (List.map V.int L').length (gI s.R op.natAbs) = some (gI s.R op.natAbs).toNat := ixN_pos (by omega) (by rw [List.length_map, lL]; omega)
  walk_at "g"
  rw [natAbs_if]
  refine w_ixL (SqL.of a.ob) (i := 2) (v := .ref l) rfl ?_
  walk_at "g"
  refine w_ixL (SqL.of hL) (at_I (by omega) (by rw [lL]; omega)) ?_
  rw [Int.toNat_natCast, eL _ i1]
  walk_at "g"
  refine w_ixL (SqL.of a.ob) (i := 1) (v := .ref r) rfl ?_
  walk_at "g"
  refine w_ixL (SqL.of a.hr) (at_I (by omega) (by rw [wf.lR]; omega)) ?_
  rw [Int.toNat_natCast]
  walk_at "g"
  refine w_ixL (SqL.of a.ob) (i := 1) (v := .ref r) rfl ?_
  walk_at "g"
  refine w_ixL (SqL.of a.ob) (i := 2) (v := .ref l) rfl ?_
  walk_at "g"
  refine w_ixL (SqL.of a.ob) (i := 3) (v := .ref o) rfl ?_
  walk_at "g"
  have fin : ∀ (x y : Int) H1 H2 H3, x = (if op < 0 then gI s.R op.natAbs else (op.natAbs : Int)) → y = (if op < 0 then gI s.L op.natAbs else (op.natAbs : Int)) →
      Kp [r] H H1 → H1 r = some (.lst ((s.R.map V.int).set (gI s.L op.natAbs).toNat (.int x))) → Kp [l] H1 H2 → H2 l = some (.lst ((L'.map V.int).set (gI s.R op.natAbs).toNat (.int y))) →
      Kp [o] H2 H3 → H3 o = some (.lst ((s.O.map V.bl).set op.natAbs (.bl (decide (op < 0))))) → Q .non H3 := by
    intro x y H1 H2 H3 ex ey k1 h1 k2 h2 k3 h3
    have kk : Kp [r, l, o] H H3 := ((k1.mono (by simp)).trans (k2.mono (by simp))).trans (k3.mono (by simp))
    refine g H3 kk ⟨kk _ _ (by simp [n4, n5, n6]) a.ob, ?_, ⟨L'.set (gI s.R op.natAbs).toNat y, ?_, by rw [List.length_set, lL] <;> rfl, fun v hv => ?_⟩, ?_, a.ne, wf.step ⟨i1, i2⟩⟩
    · rw [k3.at1 n2 (k2.at1 n1 h1), set_I, ex] <;> rfl
    · rw [k3.at1 n3 h2, set_I]
    · show _ = gI (s.L.set _ _) v
      rw [gI_set (by rw [lL]; omega), gI_set (by rw [wf.lL]; omega), eL v hv, ey]
    · rw [h3, set_B] <;> rfl
  refine w_iteD (fun c => ?_) (fun c => ?_)
  all_goals
    walk_at "g"
    refine w_seT a.hr ir fun H1 k1 h1 => ?_
    walk_at "g"
    refine w_seT (k1.at1 (Ne.symm n1) hL) il fun H2 k2 h2 => ?_
    walk_at "g"
    refine w_seT (k2.at1 (Ne.symm n3) (k1.at1 (Ne.symm n2) a.ho)) io fun H3 k3 h3 => ?_
    walk_at "g"
  · exact fin _ _ H1 H2 H3 (if_pos c).symm (if_pos c).symm k1 h1 k2 h2 k3 h3
  · exact fin _ _ H1 H2 H3 (if_neg c).symm (if_neg c).symm k1 h1 k2 h2 k3 h3
theorem len__law_whole (K : PySem.W.Frag) : ∀ vs H Q E, sp__law_whole K vs H Q E → vs.length = (["size"] : List Str).length := by
  rintro vs H Q E ⟨_, rfl, _⟩
  rfl
theorem rd__law_whole (T : Txt K mg) (vs : List V) (H : Hp) (Q : VK) (E : XK) (h : sp__law_whole K vs H Q E) : t__law_whole K E { nx := fun _ H' => Q .non H', rt := Q } (start ["size", "rights", "lefts", "node"] vs) H := by
  obtain ⟨n, rfl, hn, g⟩ := h
  unfold t__law_whole
  have rs : ∀ (a : Int) (i : Nat), (rgI a (i + 1)).map V.int = (rgI a i).map V.int ++ [V.int (a + (i : Int))] := by
    intro a i
    unfold rgI
    rw [List.range_succ, List.map_append, List.map_append] <;> rfl
  walk_at "g"
  refine w_r1 (by omega) ?_
  refine cp_rng (fun i => (rgI 1 i).map V.int) (fun i hi => sz_lt (by rw [List.length_map, rgI_len]; omega)) rfl (fun i H' S N hi k y _ => ?_) (fun r H1 nr k1 hr => ?_)
  · walk_at "g"
    refine ⟨rfl, ?_⟩
    walk_at "g"
    refine y _ _ (Kp.refl _ _) ?_
    rw [rs, show (0 : Int) + (i : Int) + 1 = 1 + (i : Int) by omega]
  · rw [show ((n : Int) + 1).toNat = n + 1 by omega] at hr
    walk_at "g"
    refine w_r1 (by omega) ?_
    refine cp_rng (fun i => (rgI (-1) i).map V.int) (fun i hi => sz_lt (by rw [List.length_map, rgI_len]; omega)) rfl (fun i H' S N hi k y _ => ?_) (fun l H2 nl k2 hl => ?_)
    · walk_at "g"
      refine ⟨rfl, ?_⟩
      walk_at "g"
      refine y _ _ (Kp.refl _ _) ?_
      rw [rs, show (0 : Int) + (i : Int) - 1 = -1 + (i : Int) by omega]
    · rw [show ((n : Int) + 2).toNat = n + 2 by omega] at hl
      walk_at "g"
      refine w_r1 (by omega) ?_
      refine cp_rng (fun i => (List.replicate i false).map V.bl) (fun i hi => sz_lt (by rw [List.length_map, List.length_replicate]; omega)) rfl (fun i H' S N hi k y _ => ?_) (fun o H3 no k3 ho => ?_)
      · walk_at "g"
        refine ⟨rfl, ?_⟩
        walk_at "g"
        refine y _ _ (Kp.refl _ _) ?_
        rw [List.replicate_succ', List.map_append] <;> rfl
      · rw [show ((n : Int) + 2).toNat = n + 2 by omega] at ho
        walk_at "g"
        refine ⟨sz_ok (by show 4 ≤ 1000000; omega), nw fun w H4 nw k4 hw => ?_⟩
        have hr3 := k3.at0 (k2.at0 hr)
        have hl3 := k3.at0 hl
        refine g w r l o H4 (k1.free0 (k2.free0 (k3.free0 nw))) nr (k1.free0 nl) (k1.free0 (k2.free0 no)) (((k1.trans k2).trans k3).trans k4) ⟨hw, k4.at0 hr3, ⟨_, k4.at0 hl3, by rw [rgI_len] <;> rfl, fun v hv => ?_⟩, k4.at0 ho, ⟨ne_of_none hr nl, ne_of_none (k2.at0 hr) no, ne_of_none hl no, (ne_of_none hr3 nw).symm, (ne_of_none hl3 nw).symm, (ne_of_none ho nw).symm⟩, .whole hn⟩
        obtain ⟨u, rfl⟩ : ∃ u, v = u + 1 := ⟨v - 1, by omega⟩
        show _ = gI (rgI 0 (n + 1)) u
        by_cases hu : u < n + 1
        · rw [gI_range (by omega), gI_range hu]
          omega
        · unfold gI
          rw [List.getD_eq_getElem?_getD, List.getD_eq_getElem?_getD, List.getElem?_eq_none (by rw [rgI_len]; omega), List.getElem?_eq_none (by rw [rgI_len]; omega)]
end
end G

set_option Elab.async false
set_option linter.all false
set_option maxRecDepth 100000
set_option maxHeartbeats 1000000
namespace G
--#FAM KA
open PySem PySem.Spec PyProof.Rows L2
local macro_rules
  | `(tactic| walk_at "1") => `(tactic| first
    | with_reducible refine w_seq ?_
    | with_reducible refine w_asg ?_
    | with_reducible refine w_asgS ?_
    | with_reducible refine w_asf ?_
    | with_reducible refine w_drop ?_
    | with_reducible refine w_ret ?_
    | with_reducible refine w_if ?_
    | with_reducible refine w_not ?_
    | with_reducible refine w_and ?_
    | with_reducible refine w_or ?_
    | with_reducible refine w_test ?_
    | with_reducible refine w_tb ?_
    | with_reducible refine w_chain ?_
    | with_reducible refine w_op ?_
    | with_reducible refine w_un ?_
    | with_reducible refine w_andV ?_
    | with_reducible refine w_orV ?_
    | with_reducible refine w_notV ?_
    | with_reducible refine w_ifE ?_
    | with_reducible refine w_cons ?_
    | with_reducible refine w_nil ?_
    | with_reducible refine w_cb ?_
    | with_reducible refine w_cl ?_
    | with_reducible refine w_mt ?_
    | with_reducible refine w_fld ?_
    | with_reducible refine w_tupN ?_
    | with_reducible refine w_lstN ?_
    | with_reducible refine w_bm ?_
    | with_reducible refine w_bm0 ?_
    | with_reducible refine w_for ?_
    | with_reducible refine w_lc ?_
    | with_reducible refine w_iR1 ?_
    | with_reducible refine w_iR2 ?_
    | with_reducible refine w_iL ?_
    | with_reducible refine w_iT ?_
    | with_reducible refine w_iE ?_
    | with_reducible refine w_iZ ?_
    | with_reducible refine w_var (by with_unfolding_all rfl) ?_
    | with_reducible refine w_c ?_
    | with_reducible refine w_next ?_
    | with_reducible refine w_i0 ?_
    | with_reducible refine w_u1 ?_
    | with_reducible refine w_addI ?_
    | with_reducible refine w_eqI ?_
    | with_reducible refine w_eqS ?_
    | with_reducible refine w_eqB ?_
    | with_reducible refine w_neI ?_
    | with_reducible refine w_neS ?_
    | with_reducible refine w_neB ?_
    | with_reducible refine w_abs ?_
    | with_reducible refine w_intI ?_
    | with_reducible refine w_min2 ?_
    | with_reducible refine w_max2 ?_
    | with_reducible refine w_isN0 ?_
    | with_reducible refine w_isN1 ref_ne ?_
    | with_reducible refine w_isN1 int_ne ?_
    | with_reducible refine w_notN0 ?_
    | with_reducible refine w_notN1 ref_ne ?_
    | with_reducible refine w_notN1 int_ne ?_
    | with_reducible refine w_ex1 ?_
    | with_reducible refine w_n1 ?_
    | with_reducible refine w_n2 ?_
    | with_reducible refine w_tT ?_
    | with_reducible refine w_tF ?_
    | with_reducible refine w_nT ?_
    | with_reducible refine w_nF ?_
    | with_reducible refine w_rz ?_
    | with_reducible refine w_mkN ?_
    | with_reducible refine w_lrgN ?_
    | with_reducible refine w_rg1 ?_
    | with_reducible refine w_rg2 ?_
    | with_reducible refine w_sl ?_
    | with_reducible refine w_np ?_
    | with_reducible refine w_pt ?_
    | with_reducible refine w_tr ?_
    | with_reducible refine w_gn ?_
    | with_reducible refine w_yes ?_
    | with_reducible refine w_g1 ?_
    | with_reducible refine w_gc ?_
    | with_reducible refine w_gt (SqT.of upd_same) rfl ?_)
local macro_rules
  | `(tactic| walk_at "g") => `(tactic| repeat walk_at "1")
section
variable {K : PySem.W.Frag} {mg : Str → Option Value}
theorem w_seqK {σ : L2.St} {H : Hp} {s1 s2 : TS} {D : Ends} (P : Hp → Prop) (h1 : ∀ N : L2.St → Hp → Prop, (∀ H', P H' → N σ H') → s1 { D with nx := N } σ H) (h2 : ∀ H', P H' → s2 D σ H') : tSeq s1 s2 D σ H := h1 _ h2
theorem w_seqV {σ : L2.St} {H : Hp} {s1 s2 : TS} {D : Ends} (k : Nat) (P : V → Hp → Prop) (h1 : ∀ N : L2.St → Hp → Prop, (∀ x H', P x H' → N (σ.set k (some x)) H') → s1 { D with nx := N } σ H) (h2 : ∀ x H', P x H' → s2 D (σ.set k (some x)) H') : tSeq s1 s2 D σ H := h1 _ h2
theorem deS_ne {s s' : Sd} {k g : Nat} {de : List Int} (h : ¬ stT s g = stT s' g) : deS s s' k de g = de.set g (k : Int) := if_neg h
theorem deS_eq {s s' : Sd} {k g : Nat} {de : List Int} (h : stT s g = stT s' g) : deS s s' k de g = de := if_pos h
theorem lsS_p {s s' : Sd} {k g : Nat} (h1 : ¬ stT s g = stT s' g) (h2 : stT s' g = "lost") : lsS s s' k g none = some (k, g) := if_pos ⟨rfl, h1, h2⟩
theorem lsS_n1 {s s' : Sd} {k g : Nat} (h1 : stT s g = stT s' g) : lsS s s' k g none = none := if_neg fun z => z.2.1 h1
theorem lsS_n2 {s s' : Sd} {k g : Nat} (h2 : ¬ stT s' g = "lost") : lsS s s' k g none = none := if_neg fun z => h2 z.2.2
end
end G

set_option Elab.async false
set_option linter.all false
set_option maxRecDepth 100000
set_option maxHeartbeats 1000000
namespace G
--#FAM KA
open PySem PySem.Spec PyProof.Rows L2
local macro_rules
  | `(tactic| walk_at "1") => `(tactic| first
    | with_reducible refine w_seq ?_
    | with_reducible refine w_asg ?_
    | with_reducible refine w_asgS ?_
    | with_reducible refine w_asf ?_
    | with_reducible refine w_drop ?_
    | with_reducible refine w_ret ?_
    | with_reducible refine w_if ?_
    | with_reducible refine w_not ?_
    | with_reducible refine w_and ?_
    | with_reducible refine w_or ?_
    | with_reducible refine w_test ?_
    | with_reducible refine w_tb ?_
    | with_reducible refine w_chain ?_
    | with_reducible refine w_op ?_
    | with_reducible refine w_un ?_
    | with_reducible refine w_andV ?_
    | with_reducible refine w_orV ?_
    | with_reducible refine w_notV ?_
    | with_reducible refine w_ifE ?_
    | with_reducible refine w_cons ?_
    | with_reducible refine w_nil ?_
    | with_reducible refine w_cb ?_
    | with_reducible refine w_cl ?_
    | with_reducible refine w_mt ?_
    | with_reducible refine w_fld ?_
    | with_reducible refine w_tupN ?_
    | with_reducible refine w_lstN ?_
    | with_reducible refine w_bm ?_
    | with_reducible refine w_bm0 ?_
    | with_reducible refine w_for ?_
    | with_reducible refine w_lc ?_
    | with_reducible refine w_iR1 ?_
    | with_reducible refine w_iR2 ?_
    | with_reducible refine w_iL ?_
    | with_reducible refine w_iT ?_
    | with_reducible refine w_iE ?_
    | with_reducible refine w_iZ ?_
    | with_reducible refine w_var (by with_unfolding_all rfl) ?_
    | with_reducible refine w_c ?_
    | with_reducible refine w_next ?_
    | with_reducible refine w_i0 ?_
    | with_reducible refine w_u1 ?_
    | with_reducible refine w_addI ?_
    | with_reducible refine w_eqI ?_
    | with_reducible refine w_eqS ?_
    | with_reducible refine w_eqB ?_
    | with_reducible refine w_neI ?_
    | with_reducible refine w_neS ?_
    | with_reducible refine w_neB ?_
    | with_reducible refine w_abs ?_
    | with_reducible refine w_intI ?_
    | with_reducible refine w_min2 ?_
    | with_reducible refine w_max2 ?_
    | with_reducible refine w_isN0 ?_
    | with_reducible refine w_isN1 ref_ne ?_
    | with_reducible refine w_isN1 int_ne ?_
    | with_reducible refine w_notN0 ?_
    | with_reducible refine w_notN1 ref_ne ?_
    | with_reducible refine w_notN1 int_ne ?_
    | with_reducible refine w_ex1 ?_
    | with_reducible refine w_n1 ?_
    | with_reducible refine w_n2 ?_
    | with_reducible refine w_tT ?_
    | with_reducible refine w_tF ?_
    | with_reducible refine w_nT ?_
    | with_reducible refine w_nF ?_
    | with_reducible refine w_rz ?_
    | with_reducible refine w_mkN ?_
    | with_reducible refine w_lrgN ?_
    | with_reducible refine w_rg1 ?_
    | with_reducible refine w_rg2 ?_
    | with_reducible refine w_sl ?_
    | with_reducible refine w_np ?_
    | with_reducible refine w_pt ?_
    | with_reducible refine w_tr ?_
    | with_reducible refine w_gn ?_
    | with_reducible refine w_yes ?_
    | with_reducible refine w_g1 ?_
    | with_reducible refine w_gc ?_
    | with_reducible refine w_gt (SqT.of upd_same) rfl ?_)
local macro_rules
  | `(tactic| walk_at "g") => `(tactic| repeat walk_at "1")
section
variable {K : PySem.W.Frag} {mg : Str → Option Value}
theorem cmulR {i j : Int} (h1 : -(2 ^ 64) < j) (h2 : j < 2 ^ 64) : CMul i j := .inr ⟨h1, h2⟩
theorem cmulL {i j : Int} (h1 : -(2 ^ 64) < i) (h2 : i < 2 ^ 64) : CMul i j := .inl ⟨h1, h2⟩
theorem len__law_draw (K : PySem.W.Frag) : ∀ vs H Q E, sp__law_draw K vs H Q E → vs.length = (["bag", "many"] : List Str).length := by
  rintro vs H Q E ⟨_, _, rfl, _⟩
  rfl
theorem rd__law_draw (T : Txt K mg) (vs : List V) (H : Hp) (Q : VK) (E : XK) (h : sp__law_draw K vs H Q E) : t__law_draw K E { nx := fun _ H' => Q .non H', rt := Q } (start ["bag", "many", "digit"] vs) H := by
  obtain ⟨b, many, rfl, hm, hm2, ⟨c, m, t, hb⟩, g⟩ := h
  unfold t__law_draw
  walk_at "g"
  refine w_ixL (SqL.of hb) at_0 ?_
  walk_at "g"
  refine w_iteD (fun cc => ?_) (fun cc => ?_)
  · walk_at "g"
    refine w_ixL (SqL.of hb) at_0 ?_
    walk_at "g"
    refine w_ic hm ?_
    walk_at "g"
    refine w_ixL (SqL.of hb) at_0 ?_
    walk_at "g"
    refine w_ic ⟨hm, by omega⟩ ?_
    walk_at "g"
    refine w_seT hb (n := 0) rfl fun H1 k1 h1 => ?_
    walk_at "g"
    exact g _ H1 (Int.emod_nonneg _ (by omega)) (Int.emod_lt_of_pos _ hm) k1 ⟨_, _, _, h1⟩
  · walk_at "g"
    refine w_ixL (SqL.of hb) (i := 2) (v := .int t) rfl ?_
    walk_at "g"
    refine w_seT hb (n := 2) rfl fun H1 k1 h1 => ?_
    walk_at "g"
    refine w_ixL (SqL.of h1) (i := 1) (v := .int m) rfl ?_
    walk_at "g"
    refine w_mulI (cmulR (by omega) (by omega)) ?_
    walk_at "g"
    refine w_ixL (SqL.of h1) (i := 2) (v := .int (t + 1)) rfl ?_
    walk_at "g"
    refine w_mulI (cmulR (by omega) (by omega)) ?_
    walk_at "g"
    refine w_ic (by omega) ?_
    walk_at "g"
    refine w_seT h1 (n := 1) rfl fun H2 k2 h2 => ?_
    generalize (m * 69621 + (t + 1) * 40692 + 11) % 2147483647 = m2 at h2
    walk_at "g"
    refine w_ixL (SqL.of h2) (i := 1) (v := .int m2) rfl ?_
    walk_at "g"
    refine w_mulI (cmulR (by omega) (by omega)) ?_
    walk_at "g"
    refine w_ixL (SqL.of h2) (i := 2) (v := .int (t + 1)) rfl ?_
    walk_at "g"
    refine w_mulI (cmulR (by omega) (by omega)) ?_
    walk_at "g"
    refine w_ic (by omega) ?_
    walk_at "g"
    refine w_ic ⟨by omega, by omega⟩ ?_
    walk_at "g"
    refine w_ic hm ?_
    exact g _ H2 (Int.emod_nonneg _ (by omega)) (Int.emod_lt_of_pos _ hm) (k1.trans k2) ⟨_, _, _, h2⟩
theorem len__law_size (K : PySem.W.Frag) : ∀ vs H Q E, sp__law_size K vs H Q E → vs.length = (["bag"] : List Str).length := by
  rintro vs H Q E ⟨_, rfl, _⟩
  rfl
theorem rd__law_size (T : Txt K mg) (vs : List V) (H : Hp) (Q : VK) (E : XK) (h : sp__law_size K vs H Q E) : t__law_size K E { nx := fun _ H' => Q .non H', rt := Q } (start ["bag", "way"] vs) H := by
  obtain ⟨b, rfl, hb, g⟩ := h
  unfold t__law_size
  walk_at "g"
  refine ⟨b, 8, rfl, by omega, by omega, hb, fun d H1 d1 d2 k1 b1 => ?_⟩
  walk_at "g"
  refine w_iteD (fun cc => ?_) (fun cc => ?_)
  · walk_at "g"
    refine ⟨b, 61, rfl, by omega, by omega, b1, fun d H2 d1 d2 k2 b2 => ?_⟩
    obtain ⟨v, rfl⟩ : ∃ v : Nat, d = (v : Int) := ⟨d.toNat, by omega⟩
    exact g v H2 (by omega) (k1.trans k2) b2
  · walk_at "g"
    refine w_iteD (fun cc => ?_) (fun cc => ?_)
    · walk_at "g"
      refine ⟨b, 13, rfl, by omega, by omega, b1, fun d H2 d1 d2 k2 b2 => ?_⟩
      obtain ⟨v, rfl⟩ : ∃ v : Nat, d = (v : Int) := ⟨d.toNat, by omega⟩
      exact g v H2 (by omega) (k1.trans k2) b2
    · walk_at "g"
      refine ⟨b, 7, rfl, by omega, by omega, b1, fun d H2 d1 d2 k2 b2 => ?_⟩
      obtain ⟨v, rfl⟩ : ∃ v : Nat, d = (v : Int) := ⟨d.toNat, by omega⟩
      exact g v H2 (by omega) (k1.trans k2) b2
theorem len__law_bag (K : PySem.W.Frag) : ∀ vs H Q E, sp__law_bag K vs H Q E → vs.length = (["script", "lane"] : List Str).length := by
  rintro vs H Q E ⟨_, _, _, rfl, _⟩
  rfl
theorem rd__law_bag (T : Txt K mg) (vs : List V) (H : Hp) (Q : VK) (E : XK) (h : sp__law_bag K vs H Q E) : t__law_bag K E { nx := fun _ H' => Q .non H', rt := Q } (start ["script", "lane", "mixed", "k", "cell"] vs) H := by
  obtain ⟨c, lane, ns, rfl, l1, l2, hs, hlen, g⟩ := h
  unfold t__law_bag
  walk_at "g"
  refine w_mulI (cmulL (by omega) (by omega)) ?_
  walk_at "g"
  refine w_lenL hs ?_
  walk_at "g"
  rw [List.length_map]
  have em : (if (ns.length : Int) < 63 then (ns.length : Int) else 63) = ns.length := by
    split <;> omega
  rw [em]
  refine w_r1 (by omega) ?_
  refine lp_rng0 (fun i σ H' => H' = H ∧ ∃ m x3 x4, σ = [some (.ref c), some (.int lane), some (.int m), x3, x4]) ⟨rfl, _, _, _, rfl⟩ ?_ ?_
  · rintro i σ' H' hi ⟨rfl, m, x3, x4, rfl⟩
    have li : i < ns.length := by omega
    walk_at "g"
    refine w_mulI (cmulR (by omega) (by omega)) ?_
    walk_at "g"
    refine w_ixL hs (at_I (by omega) (by omega)) ?_
    walk_at "g"
    refine w_ic (by omega) ?_
    walk_at "g"
    refine w_mulI (cmulL (by omega) (by omega)) ?_
    walk_at "g"
    refine w_ic (by omega) ?_
    walk_at "g"
    exact ⟨rfl, _, _, _, rfl⟩
  · rintro σ' H' ⟨rfl, m, x3, x4, rfl⟩
    walk_at "g"
    refine w_lenL hs ?_
    walk_at "g"
    rw [List.length_map]
    have fin : ∀ (x y z : Int) q H', H' q = some (.lst [.int x, .int y, .int z]) → Bag H' q := fun x y z q H' h => ⟨x, y, z, h⟩
    refine w_iteD (fun c1 => ?_) (fun c1 => ?_)
    · walk_at "g"
      refine w_ixL hs (at_I (by omega) (by omega)) ?_
      walk_at "g"
      refine w_ic ⟨by omega, by omega, by decide⟩ ?_
      walk_at "g"
      refine w_iteD (fun c2 => ?_) (fun c2 => ?_)
      · walk_at "g"
        refine w_ixL hs (at_I (by omega) (by omega)) ?_
        walk_at "g"
        refine ⟨sz_ok (by show 3 ≤ 1000000; omega), nw fun q H1 nq k1 hq => ?_⟩
        exact g q H1 nq k1 (fin _ _ _ _ _ hq)
      · walk_at "g"
        refine ⟨sz_ok (by show 3 ≤ 1000000; omega), nw fun q H1 nq k1 hq => ?_⟩
        exact g q H1 nq k1 (fin _ _ _ _ _ hq)
    · walk_at "g"
      refine ⟨sz_ok (by show 3 ≤ 1000000; omega), nw fun q H1 nq k1 hq => ?_⟩
      exact g q H1 nq k1 (fin _ _ _ _ _ hq)
end
end G

set_option Elab.async false
set_option linter.all false
set_option maxRecDepth 100000
set_option maxHeartbeats 1000000
namespace G
--#FAM KA
open PySem PySem.Spec PyProof.Rows L2
local macro_rules
  | `(tactic| walk_at "1") => `(tactic| first
    | with_reducible refine w_seq ?_
    | with_reducible refine w_asg ?_
    | with_reducible refine w_asgS ?_
    | with_reducible refine w_asf ?_
    | with_reducible refine w_drop ?_
    | with_reducible refine w_ret ?_
    | with_reducible refine w_if ?_
    | with_reducible refine w_not ?_
    | with_reducible refine w_and ?_
    | with_reducible refine w_or ?_
    | with_reducible refine w_test ?_
    | with_reducible refine w_tb ?_
    | with_reducible refine w_chain ?_
    | with_reducible refine w_op ?_
    | with_reducible refine w_un ?_
    | with_reducible refine w_andV ?_
    | with_reducible refine w_orV ?_
    | with_reducible refine w_notV ?_
    | with_reducible refine w_ifE ?_
    | with_reducible refine w_cons ?_
    | with_reducible refine w_nil ?_
    | with_reducible refine w_cb ?_
    | with_reducible refine w_cl ?_
    | with_reducible refine w_mt ?_
    | with_reducible refine w_fld ?_
    | with_reducible refine w_tupN ?_
    | with_reducible refine w_lstN ?_
    | with_reducible refine w_bm ?_
    | with_reducible refine w_bm0 ?_
    | with_reducible refine w_for ?_
    | with_reducible refine w_lc ?_
    | with_reducible refine w_iR1 ?_
    | with_reducible refine w_iR2 ?_
    | with_reducible refine w_iL ?_
    | with_reducible refine w_iT ?_
    | with_reducible refine w_iE ?_
    | with_reducible refine w_iZ ?_
    | with_reducible refine w_var (by with_unfolding_all rfl) ?_
    | with_reducible refine w_c ?_
    | with_reducible refine w_next ?_
    | with_reducible refine w_i0 ?_
    | with_reducible refine w_u1 ?_
    | with_reducible refine w_addI ?_
    | with_reducible refine w_eqI ?_
    | with_reducible refine w_eqS ?_
    | with_reducible refine w_eqB ?_
    | with_reducible refine w_neI ?_
    | with_reducible refine w_neS ?_
    | with_reducible refine w_neB ?_
    | with_reducible refine w_abs ?_
    | with_reducible refine w_intI ?_
    | with_reducible refine w_min2 ?_
    | with_reducible refine w_max2 ?_
    | with_reducible refine w_isN0 ?_
    | with_reducible refine w_isN1 ref_ne ?_
    | with_reducible refine w_isN1 int_ne ?_
    | with_reducible refine w_notN0 ?_
    | with_reducible refine w_notN1 ref_ne ?_
    | with_reducible refine w_notN1 int_ne ?_
    | with_reducible refine w_ex1 ?_
    | with_reducible refine w_n1 ?_
    | with_reducible refine w_n2 ?_
    | with_reducible refine w_tT ?_
    | with_reducible refine w_tF ?_
    | with_reducible refine w_nT ?_
    | with_reducible refine w_nF ?_
    | with_reducible refine w_rz ?_
    | with_reducible refine w_mkN ?_
    | with_reducible refine w_lrgN ?_
    | with_reducible refine w_rg1 ?_
    | with_reducible refine w_rg2 ?_
    | with_reducible refine w_sl ?_
    | with_reducible refine w_np ?_
    | with_reducible refine w_pt ?_
    | with_reducible refine w_tr ?_
    | with_reducible refine w_gn ?_
    | with_reducible refine w_yes ?_
    | with_reducible refine w_g1 ?_
    | with_reducible refine w_gc ?_
    | with_reducible refine w_gt (SqT.of upd_same) rfl ?_)
local macro_rules
  | `(tactic| walk_at "g") => `(tactic| repeat walk_at "1")
section
variable {K : PySem.W.Frag} {mg : Str → Option Value}
theorem outF_map {f : Int → Int} {h : Nat → Nat} {log : List Int} (hs : ∀ x ∈ log, (f x < 0 ↔ x < 0) ∧ (0 < f x ↔ 0 < x) ∧ (f x).natAbs = h x.natAbs) (hi : ∀ x ∈ log, ∀ y ∈ log, h x.natAbs = h y.natAbs → x.natAbs = y.natAbs) {y : Int} (hy : y ∈ log) :
    ∀ l : List Int, (∀ x ∈ l, x ∈ log) → outF (l.map f) (h y.natAbs) = outF l y.natAbs := by
  intro l
  induction l using snoc_ind with
  | h0 => exact fun _ => rfl
  | h1 l x ih =>
    intro m
    have mx := m x (by simp)
    obtain ⟨s1, s2, s3⟩ := hs x mx
    rw [List.map_append]
    show outF (l.map f ++ [f x]) _ = _
    rw [outF_snoc, outF_snoc, ih (fun z hz => m z (by simp [hz])), s3]
    by_cases e : x.natAbs = y.natAbs
    · rw [if_pos (by rw [e]), if_pos e]
      exact decide_eq_decide.mpr s1
    · rw [if_neg (fun z => e (hi x mx y hy z)), if_neg e]
theorem alt_map {f : Int → Int} {h : Nat → Nat} {log : List Int} (hs : ∀ x ∈ log, (f x < 0 ↔ x < 0) ∧ (0 < f x ↔ 0 < x) ∧ (f x).natAbs = h x.natAbs) (hi : ∀ x ∈ log, ∀ y ∈ log, h x.natAbs = h y.natAbs → x.natAbs = y.natAbs) (a : Alt log) : Alt (log.map f) := by
  intro i op ho
  rw [List.getElem?_map] at ho
  cases e : log[i]? with
  | none => rw [e] at ho; cases ho
  | some y =>
    rw [e] at ho
    have ey : f y = op := by injection ho
    subst ey
    have my := List.mem_of_getElem? e
    obtain ⟨s1, s2, s3⟩ := hs y my
    rw [← List.map_take, s3, outF_map hs hi my _ (fun x hx => List.mem_of_mem_take hx), a i y e]
    exact (decide_eq_decide.mpr s2).symm
def altB (log : List Int) : Bool := (List.range log.length).all fun i => match log[i]? with
  | some op => outF (log.take i) op.natAbs == decide (0 < op)
  | none => true
theorem altB_ok {log : List Int} (h : altB log = true) : Alt log := by
  intro i op hi
  have := List.all_eq_true.mp h i (List.mem_range.mpr (at_r hi))
  rw [hi] at this
  exact eq_of_beq this
theorem items_snoc {α : Type} {f : α → Int} {row : List α} {i : Nat} {x : α} (h : row[i]? = some x) : ((row.take (i + 1)).map f).map V.int = ((row.take i).map f).map V.int ++ [V.int (f x)] := by
  rw [take_snoc h, List.map_append, List.map_append] <;> rfl
/-- a planted row -/
structure Row (row : List Int) (span : Nat) : Prop where
  a : Alt row
  b : ∀ x ∈ row, 1 ≤ x.natAbs ∧ x.natAbs ≤ span
  l : row.length ≤ 9
def tuF (span : Int) (x : Int) : Int := if 0 < x then span + 1 - x else -span - 1 - x
def shF (low : Int) (x : Int) : Int := if 0 < x then x + low else x - low
theorem Row.tu {row : List Int} {span : Nat} (r : Row row span) : Row (row.map (tuF span)) span := by
  have k : ∀ x ∈ row, (tuF span x < 0 ↔ x < 0) ∧ (0 < tuF span x ↔ 0 < x) ∧ (tuF span x).natAbs = span + 1 - x.natAbs := by
    intro x hx
    obtain ⟨b1, b2⟩ := r.b x hx
    unfold tuF
    split <;> refine ⟨by omega, by omega, by omega⟩
  refine ⟨alt_map k (fun x hx y hy e => by have := r.b x hx; have := r.b y hy; omega) r.a, fun x hx => ?_, by rw [List.length_map]; exact r.l⟩
  obtain ⟨y, hy, rfl⟩ := List.mem_map.mp hx
  obtain ⟨b1, b2⟩ := r.b y hy
  rw [(k y hy).2.2]
  omega
theorem Row.sh {row : List Int} {span n : Nat} {low : Int} (r : Row row span) (h0 : 0 ≤ low) (h1 : low + span ≤ n) : (∀ x ∈ row.map (shF low), IsOp n x) ∧ Alt (row.map (shF low)) := by
  have k : ∀ x ∈ row, (shF low x < 0 ↔ x < 0) ∧ (0 < shF low x ↔ 0 < x) ∧ (shF low x).natAbs = x.natAbs + low.toNat := by
    intro x hx
    obtain ⟨b1, b2⟩ := r.b x hx
    unfold shF
    split <;> refine ⟨by omega, by omega, by omega⟩
  refine ⟨fun x hx => ?_, alt_map (h := fun v => v + low.toNat) k (fun x hx y hy e => by
    have e : x.natAbs + low.toNat = y.natAbs + low.toNat := e
    omega) r.a⟩
  obtain ⟨y, hy, rfl⟩ := List.mem_map.mp hx
  obtain ⟨b1, b2⟩ := r.b y hy
  unfold IsOp
  rw [(k y hy).2.2]
  omega
def row0 : List Int := [-2, -3, 2, -1, -4]
def row1 : List Int := [-1, -3, -2, 1, 3]
def row2 : List Int := [-1, -2, 1, -3, 2, 3]
def row3 : List Int := [-2, -3, 2, -1, -6, -5, 6, -7, -4]
theorem row0_ok : Row row0 4 := ⟨altB_ok (by decide +kernel), by decide +kernel, by decide +kernel⟩
theorem row1_ok : Row row1 4 := ⟨altB_ok (by decide +kernel), by decide +kernel, by decide +kernel⟩
theorem row2_ok : Row row2 4 := ⟨altB_ok (by decide +kernel), by decide +kernel, by decide +kernel⟩
theorem row3_ok : Row row3 7 := ⟨altB_ok (by decide +kernel), by decide +kernel, by decide +kernel⟩
theorem alt_nil : Alt [] := fun i op h => by simp at h
theorem len__law_planted (K : PySem.W.Frag) : ∀ vs H Q E, sp__law_planted K vs H Q E → vs.length = (["bag", "size"] : List Str).length := by
  rintro vs H Q E ⟨_, _, rfl, _⟩
  rfl
theorem rd__law_planted (T : Txt K mg) (vs : List V) (H : Hp) (Q : VK) (E : XK) (h : sp__law_planted K vs H Q E) : t__law_planted K E { nx := fun _ H' => Q .non H', rt := Q } (start ["bag", "size", "way", "turned", "rows", "span", "row", "low", "deed"] vs) H := by
  obtain ⟨b, n, rfl, hn, hb, g⟩ := h
  unfold t__law_planted
  walk_at "g"
  refine ⟨b, 7, rfl, by omega, by omega, hb, fun way H1 w1 w2 k1 b1 => ?_⟩
  walk_at "g"
  refine ⟨b, 2, rfl, by omega, by omega, b1, fun tn H2 _ _ k2 b2 => ?_⟩
  walk_at "g"
  have sz : ∀ {n : Nat}, n ≤ 100 → n ≤ sizeLine := fun h => sz_ok (by omega)
  refine ⟨sz (Nat.le_of_ble_eq_true rfl), nw fun q0 H3 n0 k3 h0 => ?_⟩
  walk_at "g"
  refine ⟨sz (Nat.le_of_ble_eq_true rfl), nw fun q1 H4 n1 k4 h1 => ?_⟩
  walk_at "g"
  refine ⟨sz (Nat.le_of_ble_eq_true rfl), nw fun q2 H5 n2 k5 h2 => ?_⟩
  walk_at "g"
  refine ⟨sz (Nat.le_of_ble_eq_true rfl), nw fun rs H6 n6 k6 h6 => ?_⟩
  walk_at "g"
  refine ⟨w_ty (SqL.of h6), ?_⟩
  walk_at "g"
  refine ⟨sz (Nat.le_of_ble_eq_true rfl), nw fun q3 H7 n7 k7 h3 => ?_⟩
  walk_at "g"
  have h67 := k7.at0 h6
  refine w_apT h67 (Nat.lt_of_lt_of_le (by show 3 < 100; omega) (sz (Nat.le_refl _))) fun H8 k8 h8 => ?_
  have r0 : H8 q0 = some (.lst (row0.map V.int)) := k8.at1 (ne_of_none (k5.at0 (k4.at0 h0)) n6) (k7.at0 (k6.at0 (k5.at0 (k4.at0 h0))))
  have r1 : H8 q1 = some (.lst (row1.map V.int)) := k8.at1 (ne_of_none (k5.at0 h1) n6) (k7.at0 (k6.at0 (k5.at0 h1)))
  have r2 : H8 q2 = some (.lst (row2.map V.int)) := k8.at1 (ne_of_none h2 n6) (k7.at0 (k6.at0 h2))
  have r3 : H8 q3 = some (.lst (row3.map V.int)) := k8.at1 (ne_of_none h6 n7).symm h3
  have k26 := ((k3.trans k4).trans k5)
  have fr : H2 rs = none := k26.free0 n6
  have k28 : Kp [] H2 H8 := (((k26.trans k6).trans k7).all.trans k8).cut1 fr
  have k08 : Kp [b] H H8 := (k1.trans k2).trans k28.all
  have b8 : Bag H8 b := by
    obtain ⟨x, y, z, h⟩ := b2
    exact ⟨x, y, z, k28.at0 h⟩
  walk_at "g"
  refine w_ic ⟨by omega, by omega⟩ ?_
  walk_at "g"
  refine w_mulI (cmulL (by omega) (by omega)) ?_
  walk_at "g"
  have no : ∀ H', Kp [] H8 H' → ∀ q, H8 q = none → H' q = some (.lst []) → Q (.ref q) H' := fun H' k q nq hq => g [] q H' (by
    refine k08.free ?_ nq
    obtain ⟨x, y, z, h⟩ := b8
    simpa using (ne_of_none h nq).symm) (fun x h => by cases h) alt_nil (Nat.zero_le _) (k08.trans k.all) (by
      obtain ⟨x, y, z, h⟩ := b8
      exact ⟨x, y, z, k.at0 h⟩) hq
  refine w_iteD (fun c1 => ?_) (fun c1 => ?_)
  · walk_at "g"
    refine ⟨sz (Nat.zero_le _), nw fun q H9 nq k9 hq => ?_⟩
    exact no H9 k9 q nq hq
  walk_at "g"
  refine w_iteD (fun c2 => ?_) (fun c2 => ?_)
  · walk_at "g"
    refine ⟨sz (Nat.zero_le _), nw fun q H9 nq k9 hq => ?_⟩
    exact no H9 k9 q nq hq
  -- the rest, for one row
  have main : ∀ (row : List Int) (span : Nat) (qr : Addr), (4 + 3 * (way / 3)) = (span : Int) → Row row span → H8 qr = some (.lst (row.map V.int)) → atI [V.ref q0, V.ref q1, V.ref q2, V.ref q3] way = some (.ref qr) → True := fun _ _ _ _ _ _ _ => trivial
  have fb : ∀ {q}, H8 q = none → q ≠ b := fun {q} h => by
    obtain ⟨x, y, z, hh⟩ := b8
    exact (ne_of_none hh h).symm
  have fb2 : ∀ {q}, H2 q = none → q ≠ b := fun {q} h => by
    obtain ⟨x, y, z, hh⟩ := b2
    exact (ne_of_none hh h).symm
  obtain ⟨row, span, qr, es, hrow, hqr, nqr, hat⟩ : ∃ (row : List Int) (span : Nat) (qr : Addr), (4 + 3 * (way / 3)) = (span : Int) ∧ Row row span ∧ H8 qr = some (.lst (row.map V.int)) ∧ qr ≠ b ∧ atI [V.ref q0, V.ref q1, V.ref q2, V.ref q3] way = some (.ref qr) := by
    have h4 : way = 0 ∨ way = 1 ∨ way = 2 ∨ way = 3 := by omega
    rcases h4 with rfl | rfl | rfl | rfl
    · exact ⟨row0, 4, q0, rfl, row0_ok, r0, fb2 n0, rfl⟩
    · exact ⟨row1, 4, q1, rfl, row1_ok, r1, fb2 (k3.free0 n1), rfl⟩
    · exact ⟨row2, 4, q2, rfl, row2_ok, r2, fb2 ((k3.trans k4).free0 n2), rfl⟩
    · exact ⟨row3, 7, q3, rfl, row3_ok, r3, fb2 ((k26.trans k6).free0 n7), rfl⟩
  rw [es] at c2 ⊢
  walk_at "g"
  refine w_ixL (SqL.of h8) hat ?_
  clear main
  with_reducible refine w_seqV 6 (fun x H' => ∃ (q : Addr) (row' : List Int), x = .ref q ∧ Kp [] H8 H' ∧ H' q = some (.lst (row'.map V.int)) ∧ Row row' span ∧ q ≠ b) (fun N hN => ?_) (fun x H9 ⟨q, row', ex, k9, hq, hr', nqb⟩ => ?_)
  · walk_at "g"
    refine w_iteD (fun c3 => ?_) (fun c3 => ?_)
    · walk_at "g"
      refine w_l1 (SqL.of hqr) ?_
      refine cp_lst (SqL.of hqr) (fun i => ((row.take i).map (tuF span)).map V.int) (fun i hi => sz_lt (by rw [List.length_map, List.length_map, List.length_take]; have := hrow.l; omega)) rfl (fun i x H' S N hx k y _ => ?_) (fun D H' nD k hD => ?_)
      · obtain ⟨v, hv, rfl⟩ := at_map hx
        walk_at "g"
        refine ⟨rfl, ?_⟩
        walk_at "g"
        have it := items_snoc (f := tuF span) hv
        unfold tuF at it
        refine w_iteD (fun c4 => ?_) (fun c4 => ?_)
        · walk_at "g"
          refine y _ _ (Kp.refl _ _) ?_
          rw [if_pos c4] at it
          exact it
        · walk_at "g"
          refine y _ _ (Kp.refl _ _) ?_
          rw [if_neg c4] at it
          exact it
      · rw [List.length_map, List.take_length] at hD
        walk_at "g"
        exact hN _ _ ⟨D, _, rfl, k, hD, hrow.tu, fb nD⟩
    · walk_at "g"
      exact hN _ _ ⟨qr, _, rfl, Kp.refl _ _, hqr, hrow, nqr⟩
  · subst ex
    have b9 : Bag H9 b := by
      obtain ⟨x, y, z, h⟩ := b8
      exact ⟨x, y, z, k9.at0 h⟩
    walk_at "g"
    refine ⟨b, _, rfl, by omega, by omega, b9, fun low Ha lo1 lo2 ka ba => ?_⟩
    have hqa : Ha q = _ := ka.at1 nqb hq
    walk_at "g"
    refine w_l1 (SqL.of hqa) ?_
    refine cp_lst (SqL.of hqa) (fun i => ((row'.take i).map (shF low)).map V.int) (fun i hi => sz_lt (by rw [List.length_map, List.length_map, List.length_take]; have := hr'.l; omega)) rfl (fun i x H' S N hx k y _ => ?_) (fun D H' nD k hD => ?_)
    · obtain ⟨v, hv, rfl⟩ := at_map hx
      walk_at "g"
      refine ⟨rfl, ?_⟩
      walk_at "g"
      have it := items_snoc (f := shF low) hv
      unfold shF at it
      refine w_iteD (fun c4 => ?_) (fun c4 => ?_)
      · walk_at "g"
        refine y _ _ (Kp.refl _ _) ?_
        rw [if_pos c4] at it
        exact it
      · walk_at "g"
        refine y _ _ (Kp.refl _ _) ?_
        rw [if_neg c4] at it
        exact it
    · rw [List.length_map, List.take_length] at hD
      obtain ⟨s1, s2⟩ := hr'.sh (n := n) lo1 (by omega)
      have k8a : Kp [b] H Ha := (k08.trans k9.all).trans ka
      have kz := k8a.trans k.all
      obtain ⟨x, y, z, h⟩ := ba
      exact g _ D H' (k8a.free (by simpa using (ne_of_none h nD).symm) nD) s1 s2 (by rw [List.length_map]; exact hr'.l) kz ⟨x, y, z, k.at0 h⟩ hD
end
end G

set_option Elab.async false
set_option linter.all false
set_option maxRecDepth 100000
set_option maxHeartbeats 1000000
namespace G
--#FAM KA
open PySem PySem.Spec PyProof.Rows L2
local macro_rules
  | `(tactic| walk_at "1") => `(tactic| first
    | with_reducible refine w_seq ?_
    | with_reducible refine w_asg ?_
    | with_reducible refine w_asgS ?_
    | with_reducible refine w_asf ?_
    | with_reducible refine w_drop ?_
    | with_reducible refine w_ret ?_
    | with_reducible refine w_if ?_
    | with_reducible refine w_not ?_
    | with_reducible refine w_and ?_
    | with_reducible refine w_or ?_
    | with_reducible refine w_test ?_
    | with_reducible refine w_tb ?_
    | with_reducible refine w_chain ?_
    | with_reducible refine w_op ?_
    | with_reducible refine w_un ?_
    | with_reducible refine w_andV ?_
    | with_reducible refine w_orV ?_
    | with_reducible refine w_notV ?_
    | with_reducible refine w_ifE ?_
    | with_reducible refine w_cons ?_
    | with_reducible refine w_nil ?_
    | with_reducible refine w_cb ?_
    | with_reducible refine w_cl ?_
    | with_reducible refine w_mt ?_
    | with_reducible refine w_fld ?_
    | with_reducible refine w_tupN ?_
    | with_reducible refine w_lstN ?_
    | with_reducible refine w_bm ?_
    | with_reducible refine w_bm0 ?_
    | with_reducible refine w_for ?_
    | with_reducible refine w_lc ?_
    | with_reducible refine w_iR1 ?_
    | with_reducible refine w_iR2 ?_
    | with_reducible refine w_iL ?_
    | with_reducible refine w_iT ?_
    | with_reducible refine w_iE ?_
    | with_reducible refine w_iZ ?_
    | with_reducible refine w_var (by with_unfolding_all rfl) ?_
    | with_reducible refine w_c ?_
    | with_reducible refine w_next ?_
    | with_reducible refine w_i0 ?_
    | with_reducible refine w_u1 ?_
    | with_reducible refine w_addI ?_
    | with_reducible refine w_eqI ?_
    | with_reducible refine w_eqS ?_
    | with_reducible refine w_eqB ?_
    | with_reducible refine w_neI ?_
    | with_reducible refine w_neS ?_
    | with_reducible refine w_neB ?_
    | with_reducible refine w_abs ?_
    | with_reducible refine w_intI ?_
    | with_reducible refine w_min2 ?_
    | with_reducible refine w_max2 ?_
    | with_reducible refine w_isN0 ?_
    | with_reducible refine w_isN1 ref_ne ?_
    | with_reducible refine w_isN1 int_ne ?_
    | with_reducible refine w_notN0 ?_
    | with_reducible refine w_notN1 ref_ne ?_
    | with_reducible refine w_notN1 int_ne ?_
    | with_reducible refine w_ex1 ?_
    | with_reducible refine w_n1 ?_
    | with_reducible refine w_n2 ?_
    | with_reducible refine w_tT ?_
    | with_reducible refine w_tF ?_
    | with_reducible refine w_nT ?_
    | with_reducible refine w_nF ?_
    | with_reducible refine w_rz ?_
    | with_reducible refine w_mkN ?_
    | with_reducible refine w_lrgN ?_
    | with_reducible refine w_rg1 ?_
    | with_reducible refine w_rg2 ?_
    | with_reducible refine w_sl ?_
    | with_reducible refine w_np ?_
    | with_reducible refine w_pt ?_
    | with_reducible refine w_tr ?_
    | with_reducible refine w_gn ?_
    | with_reducible refine w_yes ?_
    | with_reducible refine w_g1 ?_
    | with_reducible refine w_gc ?_
    | with_reducible refine w_gt (SqT.of upd_same) rfl ?_)
local macro_rules
  | `(tactic| walk_at "g") => `(tactic| repeat walk_at "1")
section
variable {K : PySem.W.Frag} {mg : Str → Option Value}
/-- a log that grows, and which of its nodes are out -/
structure LG (H : Hp) (b q g : Addr) (n : Nat) (ds : List Int) : Prop where
  bag : Bag H b
  hq : H q = some (.lst (ds.map V.int))
  hg : ∃ fl : List Bool, H g = some (.lst (fl.map V.bl)) ∧ fl.length = n + 1 ∧ ∀ v, 1 ≤ v → v ≤ n → gB fl v = outF ds v
  ops : ∀ x ∈ ds, IsOp n x
  alt : Alt ds
  ne : b ≠ q ∧ b ≠ g ∧ q ≠ g
theorem LG.draw {H H' : Hp} {b q g : Addr} {n : Nat} {ds : List Int} (a : LG H b q g n ds) (k : Kp [b] H H') (hb : Bag H' b) : LG H' b q g n ds := by
  obtain ⟨fl, h1, h2⟩ := a.hg
  exact ⟨hb, k.at1 (Ne.symm a.ne.1) a.hq, ⟨fl, k.at1 (Ne.symm a.ne.2.1) h1, h2⟩, a.ops, a.alt, a.ne⟩
theorem Bag.k0 {H H' : Hp} {b : Addr} (h : Bag H b) (k : Kp [] H H') : Bag H' b := by
  obtain ⟨x, y, z, e⟩ := h
  exact ⟨x, y, z, k.at0 e⟩
theorem Bag.k1 {H H' : Hp} {b q : Addr} (h : Bag H b) (n : b ≠ q) (k : Kp [q] H H') : Bag H' b := by
  obtain ⟨x, y, z, e⟩ := h
  exact ⟨x, y, z, k.at1 n e⟩
theorem Bag.ne {H : Hp} {b q : Addr} (h : Bag H b) (n : H q = none) : b ≠ q := by
  obtain ⟨x, y, z, e⟩ := h
  exact ne_of_none e n
theorem alt_snoc {ds : List Int} {op : Int} (a : Alt ds) (o : outF ds op.natAbs = decide (0 < op)) : Alt (ds ++ [op]) := by
  intro i x hi
  by_cases h : i < ds.length
  · rw [List.getElem?_append_left h] at hi
    rw [List.take_append_of_le_length (by omega)]
    exact a i x hi
  · have e : i = ds.length := by
      have := at_r hi
      rw [List.length_append] at this
      simp at this
      omega
    subst e
    rw [List.getElem?_append_right (by omega), Nat.sub_self] at hi
    have ex : op = x := by simpa using hi
    subst ex
    rw [List.take_left' rfl]
    exact o
theorem LG.push {H H1 H2 : Hp} {b q g : Addr} {n : Nat} {ds : List Int} {op : Int} {fl : List Bool} (a : LG H b q g n ds) (hf : H g = some (.lst (fl.map V.bl))) (hl : fl.length = n + 1) (hfl : ∀ v, 1 ≤ v → v ≤ n → gB fl v = outF ds v) (io : IsOp n op) (o : outF ds op.natAbs = decide (0 < op))
    (k1 : Kp [q] H H1) (h1 : H1 q = some (.lst (ds.map V.int ++ [V.int op]))) (k2 : Kp [g] H1 H2) (h2 : H2 g = some (.lst ((fl.map V.bl).set op.natAbs (.bl (decide (op < 0)))))) : LG H2 b q g n (ds ++ [op]) := by
  obtain ⟨n1, n2, n3⟩ := a.ne
  refine ⟨(a.bag.k1 n1 k1).k1 n2 k2, ?_, ⟨fl.set op.natAbs (decide (op < 0)), ?_, by rw [List.length_set, hl], fun v v1 v2 => ?_⟩, ?_, alt_snoc a.alt o, a.ne⟩
  · rw [k2.at1 n3 h1, List.map_append] <;> rfl
  · rw [h2, set_B]
  · have := io.2
    rw [gB_set (by omega), outF_snoc, hfl v v1 v2]
    by_cases e : v = op.natAbs
    · rw [if_pos e, if_pos e.symm]
    · rw [if_neg e, if_neg (fun z => e z.symm)]
  · intro x hx
    rcases List.mem_append.mp hx with m | m
    · exact a.ops x m
    · have : x = op := by simpa using m
      rw [this]
      exact io
theorem len__law_log (K : PySem.W.Frag) : ∀ vs H Q E, sp__law_log K vs H Q E → vs.length = (["bag", "size"] : List Str).length := by
  rintro vs H Q E ⟨_, _, rfl, _⟩
  rfl
theorem rd__law_log (T : Txt K mg) (vs : List V) (H : Hp) (Q : VK) (E : XK) (h : sp__law_log K vs H Q E) : t__law_log K E { nx := fun _ H' => Q .non H', rt := Q } (start ["bag", "size", "deeds", "gone", "deed", "width", "low", "count", "turn", "node", "rest"] vs) H := by
  obtain ⟨b, n, rfl, hn, hb, gk⟩ := h
  unfold t__law_log
  walk_at "g"
  refine ⟨b, n, rfl, hn, hb, fun ds0 q H1 nq ops0 alt0 len0 k1 b1 hq1 => ?_⟩
  walk_at "g"
  refine w_iteD (fun cz => ?_) (fun cz => ?_)
  · walk_at "g"
    exact gk ds0 q H1 nq ops0 alt0 (by omega) k1 b1 hq1
  have bq : b ≠ q := hb.ne nq
  with_reducible refine w_next ?_
  with_reducible refine w_seqK (fun H' => Kp [b] H1 H' ∧ Bag H' b) (fun N hN => ?_) (fun H2 ⟨k2, b2⟩ => ?_)
  · walk_at "g"
    refine w_lenL (SqL.of hq1) ?_
    walk_at "g"
    refine w_iteD (fun c1 => ?_) (fun c1 => ?_)
    · walk_at "g"
      refine ⟨b, 3, rfl, by omega, by omega, b1, fun d H2 d1 d2 k2 b2 => ?_⟩
      walk_at "g"
      refine w_iteD (fun c2 => ?_) (fun c2 => ?_)
      · walk_at "g"
        exact gk ds0 q H2 nq ops0 alt0 (by omega) (k1.trans k2) b2 (k2.at1 (Ne.symm bq) hq1)
      · walk_at "g"
        exact hN _ ⟨k2, b2⟩
    · walk_at "g"
      exact hN _ ⟨Kp.refl _ _, b1⟩
  have hq2 := k2.at1 (Ne.symm bq) hq1
  walk_at "g"
  refine w_r1 (by omega) ?_
  refine cp_rng (fun i => (List.replicate i false).map V.bl) (fun i hi => sz_lt (by rw [List.length_map, List.length_replicate]; omega)) rfl (fun i H' S N hi k y _ => ?_) (fun g H3 ng k3 hg3 => ?_)
  · walk_at "g"
    refine ⟨rfl, ?_⟩
    walk_at "g"
    refine y _ _ (Kp.refl _ _) ?_
    rw [List.replicate_succ', List.map_append] <;> rfl
  rw [show ((n : Int) + 1).toNat = n + 1 by omega] at hg3
  have bg : b ≠ g := b2.ne ng
  have qg : q ≠ g := ne_of_none hq2 ng
  have k02 := k1.trans k2
  have fg : H g = none := k02.free (by simpa using Ne.symm bg) ng
  walk_at "g"
  refine w_l1 (SqL.of (k3.at0 hq2)) ?_
  refine lp_lst (xs := ds0.map V.int) (fun i σ H' => (∃ x4 x5 x6 x7 x8 x9 x10, σ = [some (.ref b), some (.int n), some (.ref q), some (.ref g), x4, x5, x6, x7, x8, x9, x10]) ∧ Kp [g] H3 H' ∧ ∃ fl : List Bool, H' g = some (.lst (fl.map V.bl)) ∧ fl.length = n + 1 ∧ ∀ v, 1 ≤ v → v ≤ n → gB fl v = outF (ds0.take i) v)
    ⟨⟨_, _, _, _, _, _, _, rfl⟩, Kp.refl _ _, _, hg3, List.length_replicate, fun v _ _ => ?_⟩ ?_ ?_ ?_
  · show gB (List.replicate (n + 1) false) v = false
    refine gB_of ?_
    rw [List.getElem?_replicate_of_lt (by omega)]
  · rintro i σ' H' hi ⟨_, k, _⟩
    exact SqL.of (k.at1 qg (k3.at0 hq2))
  · rintro i x σ' H' hx ⟨⟨x4, x5, x6, x7, x8, x9, x10, rfl⟩, k, fl, hf, hl, hfl⟩
    obtain ⟨op, hop, rfl⟩ := at_map hx
    have io := ops0 op (List.mem_of_getElem? hop)
    obtain ⟨i1, i2⟩ := io
    walk_at "g"
    rw [natAbs_if]
    refine w_seT hf (ixN_pos (by omega) (by rw [List.length_map]; omega)) fun H4 k4 h4 => ?_
    rw [Int.toNat_natCast, set_B] at h4
    walk_at "g"
    refine ⟨⟨_, _, _, _, _, _, _, rfl⟩, k.trans k4, _, h4, by rw [List.length_set, hl], fun v v1 v2 => ?_⟩
    rw [gB_set (by omega), take_snoc hop, outF_snoc, hfl v v1 v2]
    by_cases e : v = op.natAbs
    · rw [if_pos e, if_pos e.symm]
    · rw [if_neg e, if_neg (fun z => e z.symm)]
  rintro σ' H4 ⟨⟨x4, x5, x6, x7, x8, x9, x10, rfl⟩, k4, hfl⟩
  rw [List.length_map, List.take_length] at hfl
  have lg4 : LG H4 b q g n ds0 := ⟨(b2.k0 k3).k1 bg k4, k4.at1 qg (k3.at0 hq2), hfl, ops0, alt0, bq, bg, qg⟩
  have k04 : Kp [b] H H4 := ((k02.mono (by simp)).trans (k3.all.trans (k4.mono (S' := [b, g]) (by simp)))).cut (by simp [fg])
  walk_at "g"
  have em : 1 ≤ (if (6 : Int) < n then (6 : Int) else n) ∧ (if (6 : Int) < n then (6 : Int) else n) ≤ n := by
    split <;> omega
  generalize (if (6 : Int) < n then (6 : Int) else n) = wd at em ⊢
  refine ⟨b, wd, rfl, by omega, by omega, lg4.bag, fun d5 H5 d51 d52 k5 b5 => ?_⟩
  walk_at "g"
  refine ⟨b, _, rfl, by omega, by omega, b5, fun low H6 lo1 lo2 k6 b6 => ?_⟩
  walk_at "g"
  refine ⟨b, 13, rfl, by omega, by omega, b6, fun cnt H7 ct1 ct2 k7 b7 => ?_⟩
  have lg7 := ((lg4.draw k5 b5).draw k6 b6).draw k7 b7
  have k07 := ((k04.trans k5).trans k6).trans k7
  with_reducible refine w_seqV 7 (fun x H' => ∃ ct : Nat, x = .int (ct : Int) ∧ ct ≤ 38 ∧ Kp [b] H7 H' ∧ Bag H' b) (fun N hN => ?_) (fun x8 H8 ⟨ct, ex8, hct, k8, b8⟩ => ?_)
  · walk_at "g"
    refine ⟨b, 8, rfl, by omega, by omega, b7, fun d H8 d1 d2 k8 b8 => ?_⟩
    walk_at "g"
    refine w_iteD (fun c2 => ?_) (fun c2 => ?_)
    · walk_at "g"
      refine ⟨b, 27, rfl, by omega, by omega, b8, fun e H9 e1 e2 k9 b9 => ?_⟩
      walk_at "g"
      exact hN _ _ ⟨(cnt + e).toNat, by rw [Int.toNat_of_nonneg (by omega)], by omega, k8.trans k9, b9⟩
    · walk_at "g"
      exact hN _ _ ⟨cnt.toNat, by rw [Int.toNat_of_nonneg (by omega)], by omega, k8, b8⟩
  subst ex8
  have lg8 := lg7.draw k8 b8
  have k08 := k07.trans k8
  obtain ⟨wn, ewn⟩ : ∃ wn : Int, 1 + d5 = wn := ⟨_, rfl⟩
  rw [ewn] at lo2 ⊢
  walk_at "g"
  refine w_r1 (by omega) ?_
  rw [Int.toNat_natCast]
  have nfq : H q = none := nq
  refine lp_rng0 (fun i σ H' => (∃ x4 x8 x9 x10, σ = [some (.ref b), some (.int n), some (.ref q), some (.ref g), x4, some (.int wn), some (.int low), some (.int (ct : Int)), x8, x9, x10]) ∧ Kp [b] H H' ∧ ∃ ds, LG H' b q g n ds ∧ ds.length ≤ 9 + i)
    ⟨⟨_, _, _, _, rfl⟩, k08, ds0, lg8, by omega⟩ ?_ ?_
  · rintro i σ' H9 hi ⟨⟨x4, x8, x9, x10, rfl⟩, k9, ds, lg, dl⟩
    walk_at "g"
    refine ⟨b, wn, rfl, by omega, by omega, lg.bag, fun da Ha da1 da2 ka ba => ?_⟩
    have lga := lg.draw ka ba
    walk_at "1"
    with_reducible refine w_seqV 9 (fun x H' => ∃ node : Nat, x = .int (node : Int) ∧ 1 ≤ node ∧ node ≤ n ∧ Kp [b] Ha H' ∧ Bag H' b) (fun N hN => ?_) (fun xb Hb ⟨node, exb, nd1, nd2, kb, bb⟩ => ?_)
    · walk_at "g"
      refine ⟨b, 6, rfl, by omega, by omega, ba, fun d Hb d1 d2 kb bb => ?_⟩
      walk_at "g"
      refine w_iteD (fun c2 => ?_) (fun c2 => ?_)
      · walk_at "g"
        refine ⟨b, n, rfl, by omega, by omega, bb, fun e Hc e1 e2 kc bc => ?_⟩
        walk_at "g"
        exact hN _ _ ⟨(1 + e).toNat, by rw [Int.toNat_of_nonneg (by omega)], by omega, by omega, kb.trans kc, bc⟩
      · walk_at "g"
        exact hN _ _ ⟨(low + 1 + da).toNat, by rw [Int.toNat_of_nonneg (by omega)], by omega, by omega, kb, bb⟩
    subst exb
    have lgb := lga.draw kb bb
    obtain ⟨fl, hf, hl, hfl⟩ := lgb.hg
    walk_at "1"
    walk_at "1"
    walk_at "1"
    walk_at "1"
    walk_at "1"
    with_reducible refine w_seqV 4 (fun x H' => H' = Hb ∧ ∃ op : Int, x = .int op ∧ op.natAbs = node ∧ outF ds node = decide (0 < op)) (fun N hN => ?_) (fun xc Hc ⟨eH, op, exc, en, eo⟩ => ?_)
    · walk_at "g"
      refine w_ixL (SqL.of hf) (at_B (by omega) (by omega)) ?_
      rw [Int.toNat_natCast]
      walk_at "g"
      have h := hfl node nd1 nd2
      refine w_iteB (fun c1 => ?_) (fun c1 => ?_)
      · walk_at "g"
        exact hN _ _ ⟨rfl, _, rfl, by omega, by rw [← h, c1]; symm; exact decide_eq_true (by omega)⟩
      · walk_at "g"
        exact hN _ _ ⟨rfl, _, rfl, by omega, by rw [← h, c1]; symm; exact decide_eq_false (by omega)⟩
    subst exc
    subst eH
    walk_at "g"
    refine ⟨w_ty (SqL.of lgb.hq), ?_⟩
    walk_at "g"
    refine w_apT lgb.hq (sz_lt (by rw [List.length_map]; omega)) fun Hd kd hd => ?_
    walk_at "g"
    have hfd := kd.at1 (Ne.symm qg) hf
    refine w_seT hfd (n := op.natAbs) (by rw [en]; exact ixN_pos (by omega) (by rw [List.length_map]; omega)) fun He ke he => ?_
    walk_at "g"
    refine ⟨⟨_, _, _, _, rfl⟩, ?_, _, lgb.push hf hl hfl ⟨by omega, by omega⟩ (by rw [en]; exact eo) kd hd ke he, by rw [List.length_append]; show _ + 1 ≤ _; omega⟩
    exact ((k9.mono (S' := [b, q, g]) (by simp)).trans ((ka.mono (by simp)).trans ((kb.mono (by simp)).trans ((kd.mono (by simp)).trans (ke.mono (by simp)))))).cut (by simp [nfq, fg])
  · rintro σ' H9 ⟨⟨x4, x8, x9, x10, rfl⟩, k9, ds, lg, dl⟩
    with_reducible refine w_seqK (fun H' => Kp [b] H H' ∧ LG H' b q g n ds) (fun N hN => ?_) (fun Ha ⟨ka, lga⟩ => ?_)
    · walk_at "g"
      refine ⟨b, 2, rfl, by omega, by omega, lg.bag, fun d Ha d1 d2 ka ba => ?_⟩
      walk_at "g"
      have lga := lg.draw ka ba
      refine w_iteD (fun c2 => ?_) (fun c2 => ?_)
      · walk_at "g"
        exact gk ds q Ha nq lga.ops lga.alt (by omega) (k9.trans ka) ba lga.hq
      · walk_at "g"
        exact hN _ ⟨k9.trans ka, lga⟩
    walk_at "g"
    refine w_r1 (by omega) ?_
    rw [Int.toNat_natCast]
    refine lp_rng0 (fun i σ H' => (∃ x4 x8 x9 x10, σ = [some (.ref b), some (.int n), some (.ref q), some (.ref g), x4, some (.int wn), some (.int low), some (.int (ct : Int)), x8, x9, x10]) ∧ Kp [b] H H' ∧ ∃ ds, LG H' b q g n ds ∧ ds.length ≤ 47 + i)
      ⟨⟨_, _, _, _, rfl⟩, ka, ds, lga, by omega⟩ ?_ ?_
    · rintro i σ' Hb hi ⟨⟨x4, x8, x9, x10, rfl⟩, kb, ds, lg, dl⟩
      obtain ⟨fl, hf, hl, hfl⟩ := lg.hg
      walk_at "g"
      refine w_r2 (by omega) ?_
      refine cp_rng (fun i => (((List.range i).map fun (v : Nat) => v + 1).filter fun v => gB fl v).map fun (v : Nat) => V.int (v : Int)) (fun i hi => sz_lt (by
        rw [List.length_map]
        have := List.length_filter_le (fun v => gB fl v) ((List.range i).map fun (v : Nat) => v + 1)
        rw [List.length_map, List.length_range] at this
        omega)) rfl (fun i H' S N hi k y no => ?_) (fun D Hc nD kc hD => ?_)
      · walk_at "g"
        refine ⟨rfl, ?_⟩
        walk_at "g"
        refine w_ixL (SqL.of (k.at0 hf)) (at_B (by omega) (by omega)) ?_
        walk_at "g"
        rw [show ((1 : Int) + (i : Int)).toNat = i + 1 by omega]
        refine w_iteB (fun c1 => ?_) (fun c1 => ?_)
        · walk_at "g"
          refine y _ _ (Kp.refl _ _) ?_
          rw [List.range_succ, List.map_append, List.filter_append, List.map_append]
          congr 1
          show ([i + 1].filter fun v => gB fl v).map _ = _
          rw [List.filter_cons_of_pos c1]
          show [V.int ((i + 1 : Nat) : Int)] = [V.int (1 + (i : Int))]
          rw [Int.add_comm] <;> rfl
        · refine no _ (Kp.refl _ _) ?_
          rw [List.range_succ, List.map_append, List.filter_append, List.map_append]
          show _ ++ ([i + 1].filter fun v => gB fl v).map _ = _
          rw [List.filter_cons_of_neg (by rw [c1]; exact Bool.false_ne_true)]
          exact List.append_nil _
      · rw [show ((n : Int) + 1 - 1).toNat = n by omega] at hD
        have lgc : LG Hc b q g n ds := ⟨lg.bag.k0 kc, kc.at0 lg.hq, ⟨fl, kc.at0 hf, hl, hfl⟩, lg.ops, lg.alt, lg.ne⟩
        have bD : b ≠ D := lg.bag.ne nD
        walk_at "g"
        refine w_lenL (SqL.of hD) ?_
        walk_at "g"
        refine w_iteD (fun c1 => ?_) (fun c1 => ?_)
        · walk_at "g"
          refine w_lenL (SqL.of hD) ?_
          walk_at "g"
          have lenD : (((((List.range n).map fun (v : Nat) => v + 1).filter fun v => gB fl v).map fun (v : Nat) => V.int (v : Int)).length : Int) ≤ n := by
            rw [List.length_map]
            have := List.length_filter_le (fun v => gB fl v) ((List.range n).map fun (v : Nat) => v + 1)
            rw [List.length_map, List.length_range] at this
            omega
          refine ⟨b, _, rfl, by omega, by omega, lgc.bag, fun d Hd d1 d2 kd bd => ?_⟩
          have hDd := kd.at1 (Ne.symm bD) hD
          have lgd := lgc.draw kd bd
          rw [List.length_map] at d2
          have dl2 : d.toNat < (((List.range n).map fun (v : Nat) => v + 1).filter fun v => gB fl v).length := by omega
          obtain ⟨node, hnode⟩ : ∃ node, (((List.range n).map fun (v : Nat) => v + 1).filter fun v => gB fl v)[d.toNat]? = some node := ⟨_, List.getElem?_eq_getElem dl2⟩
          have mn := List.mem_of_getElem? hnode
          obtain ⟨m1, m2⟩ := List.mem_filter.mp mn
          obtain ⟨v, hv, rfl⟩ := List.mem_map.mp m1
          have hv := List.mem_range.mp hv
          walk_at "g"
          refine w_ixL (SqL.of hDd) (v := .int ((v + 1 : Nat) : Int)) (by rw [atI_pos d1 (by rw [List.length_map]; exact d2), List.getElem?_map, hnode] <;> rfl) ?_
          walk_at "g"
          refine ⟨w_ty (SqL.of lgd.hq), ?_⟩
          walk_at "g"
          refine w_apT lgd.hq (sz_lt (by rw [List.length_map]; omega)) fun He ke he => ?_
          walk_at "g"
          have hfe : He g = some (.lst (fl.map V.bl)) := ke.at1 (Ne.symm qg) (kd.at1 (Ne.symm bg) (kc.at0 hf))
          have na : (((v + 1 : Nat) : Int)).natAbs = v + 1 := Int.natAbs_natCast _
          refine w_seT hfe (n := v + 1) (by exact ixN_pos (by omega) (by rw [List.length_map]; omega)) fun Hf kf hff => ?_
          walk_at "g"
          have hff' : Hf g = some (.lst ((fl.map V.bl).set (((v + 1 : Nat) : Int)).natAbs (.bl (decide ((((v + 1 : Nat) : Int)) < 0))))) := by
            rw [hff, na, decide_eq_false (by omega)]
          refine ⟨⟨_, _, _, _, rfl⟩, ?_, _, lgd.push (by exact kd.at1 (Ne.symm bg) (kc.at0 hf)) hl hfl (op := ((v + 1 : Nat) : Int)) ⟨by rw [na]; omega, by rw [na]; omega⟩ (by rw [na, ← hfl (v + 1) (by omega) (by omega), m2]; symm; exact decide_eq_true (by omega)) ke he kf hff', by rw [List.length_append]; show _ + 1 ≤ _; omega⟩
          exact ((kb.mono (S' := [b, q, g]) (by simp)).trans (kc.all.trans ((kd.mono (by simp)).trans ((ke.mono (by simp)).trans (kf.mono (by simp)))))).cut (by simp [nfq, fg])
        · walk_at "g"
          exact ⟨⟨_, _, _, _, rfl⟩, kb.trans kc.all, ds, lgc, by omega⟩
    · rintro σ' Hb ⟨⟨x4, x8, x9, x10, rfl⟩, kb, ds, lg, dl⟩
      walk_at "g"
      exact gk ds q Hb nq lg.ops lg.alt (by omega) kb lg.bag lg.hq
end
end G

set_option Elab.async false
set_option linter.all false
set_option maxRecDepth 100000
set_option maxHeartbeats 1000000
namespace G
--#FAM KA
open PySem PySem.Spec PyProof.Rows L2
local macro_rules
  | `(tactic| walk_at "1") => `(tactic| first
    | with_reducible refine w_seq ?_
    | with_reducible refine w_asg ?_
    | with_reducible refine w_asgS ?_
    | with_reducible refine w_asf ?_
    | with_reducible refine w_drop ?_
    | with_reducible refine w_ret ?_
    | with_reducible refine w_if ?_
    | with_reducible refine w_not ?_
    | with_reducible refine w_and ?_
    | with_reducible refine w_or ?_
    | with_reducible refine w_test ?_
    | with_reducible refine w_tb ?_
    | with_reducible refine w_chain ?_
    | with_reducible refine w_op ?_
    | with_reducible refine w_un ?_
    | with_reducible refine w_andV ?_
    | with_reducible refine w_orV ?_
    | with_reducible refine w_notV ?_
    | with_reducible refine w_ifE ?_
    | with_reducible refine w_cons ?_
    | with_reducible refine w_nil ?_
    | with_reducible refine w_cb ?_
    | with_reducible refine w_cl ?_
    | with_reducible refine w_mt ?_
    | with_reducible refine w_fld ?_
    | with_reducible refine w_tupN ?_
    | with_reducible refine w_lstN ?_
    | with_reducible refine w_bm ?_
    | with_reducible refine w_bm0 ?_
    | with_reducible refine w_for ?_
    | with_reducible refine w_lc ?_
    | with_reducible refine w_iR1 ?_
    | with_reducible refine w_iR2 ?_
    | with_reducible refine w_iL ?_
    | with_reducible refine w_iT ?_
    | with_reducible refine w_iE ?_
    | with_reducible refine w_iZ ?_
    | with_reducible refine w_var (by with_unfolding_all rfl) ?_
    | with_reducible refine w_c ?_
    | with_reducible refine w_next ?_
    | with_reducible refine w_i0 ?_
    | with_reducible refine w_u1 ?_
    | with_reducible refine w_addI ?_
    | with_reducible refine w_eqI ?_
    | with_reducible refine w_eqS ?_
    | with_reducible refine w_eqB ?_
    | with_reducible refine w_neI ?_
    | with_reducible refine w_neS ?_
    | with_reducible refine w_neB ?_
    | with_reducible refine w_abs ?_
    | with_reducible refine w_intI ?_
    | with_reducible refine w_min2 ?_
    | with_reducible refine w_max2 ?_
    | with_reducible refine w_isN0 ?_
    | with_reducible refine w_isN1 ref_ne ?_
    | with_reducible refine w_isN1 int_ne ?_
    | with_reducible refine w_notN0 ?_
    | with_reducible refine w_notN1 ref_ne ?_
    | with_reducible refine w_notN1 int_ne ?_
    | with_reducible refine w_ex1 ?_
    | with_reducible refine w_n1 ?_
    | with_reducible refine w_n2 ?_
    | with_reducible refine w_tT ?_
    | with_reducible refine w_tF ?_
    | with_reducible refine w_nT ?_
    | with_reducible refine w_nF ?_
    | with_reducible refine w_rz ?_
    | with_reducible refine w_mkN ?_
    | with_reducible refine w_lrgN ?_
    | with_reducible refine w_rg1 ?_
    | with_reducible refine w_rg2 ?_
    | with_reducible refine w_sl ?_
    | with_reducible refine w_np ?_
    | with_reducible refine w_pt ?_
    | with_reducible refine w_tr ?_
    | with_reducible refine w_gn ?_
    | with_reducible refine w_yes ?_
    | with_reducible refine w_g1 ?_
    | with_reducible refine w_gc ?_
    | with_reducible refine w_gt (SqT.of upd_same) rfl ?_)
local macro_rules
  | `(tactic| walk_at "g") => `(tactic| repeat walk_at "1")
section
variable {K : PySem.W.Frag} {mg : Str → Option Value}
theorem w_slL {H : Hp} {Q : VK} {p : Addr} {xs : List V} {lo hi : Option Int} (h : SqL K H p xs) (g : ∀ q H', H q = none → Kp [] H H' → H' q = some (.lst (cutV xs lo hi)) → Q (.ref q) H') : rSlL K (.ref p) lo hi H Q := ⟨p, xs, rfl, h, nw g⟩
theorem cut_I (xs : List Int) (lo hi : Option Int) : ∃ ys : List Int, cutV (xs.map V.int) lo hi = ys.map V.int ∧ ys.length ≤ xs.length ∧ (∀ x ∈ ys, x ∈ xs) := by
  unfold cutV
  rw [← List.map_drop, ← List.map_take]
  refine ⟨_, rfl, ?_, fun x hx => List.mem_of_mem_drop (List.mem_of_mem_take hx)⟩
  rw [List.length_take, List.length_drop]
  omega
end
end G

set_option Elab.async false
set_option linter.all false
set_option maxRecDepth 100000
set_option maxHeartbeats 1000000
namespace G
--#FAM KA
open PySem PySem.Spec PyProof.Rows L2
local macro_rules
  | `(tactic| walk_at "1") => `(tactic| first
    | with_reducible refine w_seq ?_
    | with_reducible refine w_asg ?_
    | with_reducible refine w_asgS ?_
    | with_reducible refine w_asf ?_
    | with_reducible refine w_drop ?_
    | with_reducible refine w_ret ?_
    | with_reducible refine w_if ?_
    | with_reducible refine w_not ?_
    | with_reducible refine w_and ?_
    | with_reducible refine w_or ?_
    | with_reducible refine w_test ?_
    | with_reducible refine w_tb ?_
    | with_reducible refine w_chain ?_
    | with_reducible refine w_op ?_
    | with_reducible refine w_un ?_
    | with_reducible refine w_andV ?_
    | with_reducible refine w_orV ?_
    | with_reducible refine w_notV ?_
    | with_reducible refine w_ifE ?_
    | with_reducible refine w_cons ?_
    | with_reducible refine w_nil ?_
    | with_reducible refine w_cb ?_
    | with_reducible refine w_cl ?_
    | with_reducible refine w_mt ?_
    | with_reducible refine w_fld ?_
    | with_reducible refine w_tupN ?_
    | with_reducible refine w_lstN ?_
    | with_reducible refine w_bm ?_
    | with_reducible refine w_bm0 ?_
    | with_reducible refine w_for ?_
    | with_reducible refine w_lc ?_
    | with_reducible refine w_iR1 ?_
    | with_reducible refine w_iR2 ?_
    | with_reducible refine w_iL ?_
    | with_reducible refine w_iT ?_
    | with_reducible refine w_iE ?_
    | with_reducible refine w_iZ ?_
    | with_reducible refine w_var (by with_unfolding_all rfl) ?_
    | with_reducible refine w_c ?_
    | with_reducible refine w_next ?_
    | with_reducible refine w_i0 ?_
    | with_reducible refine w_u1 ?_
    | with_reducible refine w_addI ?_
    | with_reducible refine w_eqI ?_
    | with_reducible refine w_eqS ?_
    | with_reducible refine w_eqB ?_
    | with_reducible refine w_neI ?_
    | with_reducible refine w_neS ?_
    | with_reducible refine w_neB ?_
    | with_reducible refine w_abs ?_
    | with_reducible refine w_intI ?_
    | with_reducible refine w_min2 ?_
    | with_reducible refine w_max2 ?_
    | with_reducible refine w_isN0 ?_
    | with_reducible refine w_isN1 ref_ne ?_
    | with_reducible refine w_isN1 int_ne ?_
    | with_reducible refine w_notN0 ?_
    | with_reducible refine w_notN1 ref_ne ?_
    | with_reducible refine w_notN1 int_ne ?_
    | with_reducible refine w_ex1 ?_
    | with_reducible refine w_n1 ?_
    | with_reducible refine w_n2 ?_
    | with_reducible refine w_tT ?_
    | with_reducible refine w_tF ?_
    | with_reducible refine w_nT ?_
    | with_reducible refine w_nF ?_
    | with_reducible refine w_rz ?_
    | with_reducible refine w_mkN ?_
    | with_reducible refine w_lrgN ?_
    | with_reducible refine w_rg1 ?_
    | with_reducible refine w_rg2 ?_
    | with_reducible refine w_sl ?_
    | with_reducible refine w_np ?_
    | with_reducible refine w_pt ?_
    | with_reducible refine w_tr ?_
    | with_reducible refine w_gn ?_
    | with_reducible refine w_yes ?_
    | with_reducible refine w_g1 ?_
    | with_reducible refine w_gc ?_
    | with_reducible refine w_gt (SqT.of upd_same) rfl ?_)
local macro_rules
  | `(tactic| walk_at "g") => `(tactic| repeat walk_at "1")
section
variable {K : PySem.W.Frag} {mg : Str → Option Value}

theorem w_truI {R : Int → Prop} {i : Int} (g : R i) : ∃ k, V.int i = .int k ∧ R k := ⟨i, rfl, g⟩
theorem w_seqJ {σ : L2.St} {H : Hp} {s1 s2 : TS} {D : Ends} (P : L2.St → Hp → Prop) (h1 : ∀ N : L2.St → Hp → Prop, (∀ σ' H', P σ' H' → N σ' H') → s1 { D with nx := N } σ H) (h2 : ∀ σ' H', P σ' H' → s2 D σ' H') : tSeq s1 s2 D σ H := h1 _ h2
theorem len__law_spoilt (K : PySem.W.Frag) : ∀ vs H Q E, sp__law_spoilt K vs H Q E → vs.length = (["bag", "size", "deeds"] : List Str).length := by
  rintro vs H Q E ⟨_, _, _, _, rfl, _⟩
  rfl
theorem rd__law_spoilt (T : Txt K mg) (vs : List V) (H : Hp) (Q : VK) (E : XK) (h : sp__law_spoilt K vs H Q E) : t__law_spoilt K E { nx := fun _ H' => Q .non H', rt := Q } (start ["bag", "size", "deeds", "at", "way", "far", "wrong", "node", "past", "bent", "deed"] vs) H := by
  obtain ⟨b, a, n, log, rfl, hn, hb, nab, ha, hlen, g⟩ := h
  unfold t__law_spoilt
  walk_at "g"
  refine w_lenL (SqL.of ha) ?_
  walk_at "g"
  rw [List.length_map]
  refine ⟨b, _, rfl, by omega, by omega, hb, fun at_ H1 at1 at2 k1 b1 => ?_⟩
  walk_at "g"
  refine ⟨b, 4, rfl, by omega, by omega, b1, fun way H2 _ _ k2 b2 => ?_⟩
  walk_at "g"
  refine ⟨b, 3, rfl, by omega, by omega, b2, fun f1 H3 f11 f12 k3 b3 => ?_⟩
  walk_at "g"
  refine ⟨b, 500, rfl, by omega, by omega, b3, fun f2 H4 f21 f22 k4 b4 => ?_⟩
  walk_at "g"
  refine w_mulI (cmulR (by omega) (by omega)) ?_
  have k04 := ((k1.trans k2).trans k3).trans k4
  generalize f1 * f2 = far
  walk_at "1"
  walk_at "1"
  walk_at "1"
  with_reducible refine w_seqV 6 (fun x H' => H' = H4 ∧ ∃ i, x = .int i) (fun N hN => ?_) (fun x H' ⟨eH, v6, ex⟩ => ?_)
  · walk_at "g"
    refine w_iteD (fun c => ?_) (fun c => ?_)
    all_goals
      walk_at "g"
      exact hN _ _ ⟨rfl, _, rfl⟩
  subst ex
  subst H'
  with_reducible refine w_seqV 6 (fun x H' => H' = H4 ∧ ∃ i, x = .int i) (fun N hN => ?_) (fun x H' ⟨eH, v6', ex⟩ => ?_)
  · walk_at "g"
    refine w_iteD (fun c => ?_) (fun c => ?_)
    all_goals
      walk_at "g"
      exact hN _ _ ⟨rfl, _, rfl⟩
  subst ex
  subst H'
  have ha4 := k04.at1 nab ha
  with_reducible refine w_seqJ (fun σ' H' => (∃ x7 x8 x9 x10 v, σ' = [some (.ref b), some (.int n), some (.ref a), some (.int at_), some (.int way), some (.int far), some (.int v), x7, x8, x9, x10]) ∧ Kp [b] H4 H' ∧ Bag H' b) (fun N hN => ?_) (fun σ' H5 ⟨⟨x7, x8, x9, x10, v, es⟩, k5, b5⟩ => ?_)
  · walk_at "g"
    refine w_iteD (fun c1 => ?_) (fun c1 => ?_)
    · walk_at "g"
      refine w_iteD (fun c2 => ?_) (fun c2 => ?_)
      · walk_at "g"
        refine ⟨b, n, rfl, by omega, by omega, b4, fun e H5 e1 e2 k5 b5 => ?_⟩
        walk_at "g"
        have ha5 := k5.at1 nab ha4
        refine w_slL (SqL.of ha5) fun z H6 nz k6 hz => ?_
        obtain ⟨ys, ey, yl, _⟩ := cut_I log none (some at_)
        rw [ey] at hz
        refine w_l1 (SqL.of hz) ?_
        refine cp_lst (SqL.of hz) (fun i => ((ys.take i).filter fun x => decide ((x.natAbs : Int) = 1 + e)).map V.int) (fun i hi => sz_lt (by
          rw [List.length_map]
          have := List.length_filter_le (fun x : Int => decide ((x.natAbs : Int) = 1 + e)) (ys.take i)
          rw [List.length_take] at this
          omega)) rfl (fun i x H' S N hx k y no => ?_) (fun D H7 nD k7 hD => ?_)
        · obtain ⟨w, hw, rfl⟩ := at_map hx
          walk_at "g"
          refine ⟨rfl, ?_⟩
          walk_at "g"
          rw [natAbs_if]
          refine w_iteD (fun c3 => ?_) (fun c3 => ?_)
          · walk_at "g"
            refine y _ _ (Kp.refl _ _) ?_
            rw [take_snoc hw, List.filter_append, List.map_append, List.filter_cons_of_pos (by rw [decide_eq_true c3])] <;> rfl
          · refine no _ (Kp.refl _ _) ?_
            rw [take_snoc hw, List.filter_append, List.map_append, List.filter_cons_of_neg (by rw [decide_eq_false c3]; exact Bool.false_ne_true), List.filter_nil, List.map_nil, List.append_nil]
        · have b7 := (b5.k0 k6).k0 k7
          have k47 := (k5.trans k6.all).trans k7.all
          walk_at "g"
          refine w_lenL (SqL.of hD) ?_
          walk_at "g"
          refine w_iteD (fun c3 => ?_) (fun c3 => ?_)
          · walk_at "g"
            rw [List.length_map] at c3
            have hne : (ys.take (ys.map V.int).length).filter (fun x => decide ((x.natAbs : Int) = 1 + e)) ≠ [] := by
              intro z
              rw [z] at c3
              exact absurd c3 (by decide)
            refine w_ixL (SqL.of hD) (v := .int (((ys.take (ys.map V.int).length).filter fun x => decide ((x.natAbs : Int) = 1 + e)).getLast hne)) (at_last (by rw [List.getLast?_map, List.getLast?_eq_some_getLast hne] <;> rfl)) ?_
            walk_at "g"
            exact hN _ _ ⟨⟨_, _, _, _, _, rfl⟩, k47, b7⟩
          · walk_at "g"
            exact hN _ _ ⟨⟨_, _, _, _, _, rfl⟩, k47, b7⟩
      · walk_at "g"
        exact hN _ _ ⟨⟨_, _, _, _, _, rfl⟩, Kp.refl _ _, b4⟩
    · walk_at "g"
      exact hN _ _ ⟨⟨_, _, _, _, _, rfl⟩, Kp.refl _ _, b4⟩
  subst es
  have ha5 := k5.at1 nab ha4
  walk_at "g"
  refine w_slL (SqL.of ha5) fun z1 H6 nz1 k6 hz1 => ?_
  obtain ⟨y1, ey1, yl1, _⟩ := cut_I log none (some at_)
  rw [ey1] at hz1
  walk_at "g"
  refine ⟨sz_ok (Nat.le_of_ble_eq_true rfl), nw fun z2 H7 nz2 k7 hz2 => ?_⟩
  walk_at "g"
  refine w_addLN (k7.at0 hz1) hz2 (sz_ok (by rw [List.length_map]; show _ + 1 ≤ _; omega)) fun z3 H8 nz3 k8 hz3 => ?_
  walk_at "g"
  walk_at "g"
  refine w_slL (SqL.of (k8.at0 (k7.at0 (k6.at0 ha5)))) fun z4 H9 nz4 k9 hz4 => ?_
  obtain ⟨y2, ey2, yl2, _⟩ := cut_I log (some at_) none
  rw [ey2] at hz4
  refine w_addLN (k9.at0 hz3) hz4 (sz_ok (by rw [List.length_append, List.length_map, List.length_map]; show _ + 1 + _ ≤ _; omega)) fun q Ha nq ka hq => ?_
  have k05 : Kp [b] H H5 := k04.trans k5
  have k5a : Kp [] H5 Ha := (((k6.trans k7).trans k8).trans k9).trans ka
  have k59 : Kp [] H5 _ := ((k6.trans k7).trans k8).trans k9
  have ba := b5.k0 k5a
  have bq : b ≠ q := (b5.k0 k59).ne nq
  have fq : H q = none := k05.free (by simpa using Ne.symm bq) (k59.free0 nq)
  have eq1 : (y1.map V.int ++ [V.int v]) ++ y2.map V.int = (y1 ++ [v] ++ y2).map V.int := by
    rw [List.map_append, List.map_append] <;> rfl
  rw [eq1] at hq
  walk_at "g"
  refine ⟨b, 2, rfl, by omega, by omega, ba, fun d Hb d1 d2 kb bb => ?_⟩
  have hqb := kb.at1 (Ne.symm bq) hq
  have k0b := (k05.trans k5a.all).trans kb
  have ln : (y1 ++ [v] ++ y2).length ≤ 2 * log.length + 1 := by
    rw [List.length_append, List.length_append]
    show _ + 1 + _ ≤ _
    omega
  clear hq eq1
  generalize y1 ++ [v] ++ y2 = ds at hqb ln
  walk_at "g"
  refine w_iteD (fun c => ?_) (fun c => ?_)
  · walk_at "g"
    refine ⟨w_ty (SqL.of hqb), ?_⟩
    walk_at "g"
    refine w_apT hqb (sz_lt (by rw [List.length_map]; omega)) fun Hc kc hc => ?_
    walk_at "g"
    refine g (ds ++ [0]) q Hc fq (by rw [List.length_append]; show _ + 1 ≤ _; omega) (((k0b.mono (S' := [b, q]) (by simp)).trans (kc.mono (by simp))).cut (by simp [fq])) (bb.k1 bq kc) ?_
    rw [hc, List.map_append] <;> rfl
  · walk_at "g"
    exact g _ q Hb fq (by omega) k0b bb hqb
end
end G

set_option Elab.async false
set_option linter.all false
set_option maxRecDepth 100000
set_option maxHeartbeats 1000000
namespace G
--#FAM KA
open PySem PySem.Spec PyProof.Rows L2
local macro_rules
  | `(tactic| walk_at "1") => `(tactic| first
    | with_reducible refine w_seq ?_
    | with_reducible refine w_asg ?_
    | with_reducible refine w_asgS ?_
    | with_reducible refine w_asf ?_
    | with_reducible refine w_drop ?_
    | with_reducible refine w_ret ?_
    | with_reducible refine w_if ?_
    | with_reducible refine w_not ?_
    | with_reducible refine w_and ?_
    | with_reducible refine w_or ?_
    | with_reducible refine w_test ?_
    | with_reducible refine w_tb ?_
    | with_reducible refine w_chain ?_
    | with_reducible refine w_op ?_
    | with_reducible refine w_un ?_
    | with_reducible refine w_andV ?_
    | with_reducible refine w_orV ?_
    | with_reducible refine w_notV ?_
    | with_reducible refine w_ifE ?_
    | with_reducible refine w_cons ?_
    | with_reducible refine w_nil ?_
    | with_reducible refine w_cb ?_
    | with_reducible refine w_cl ?_
    | with_reducible refine w_mt ?_
    | with_reducible refine w_fld ?_
    | with_reducible refine w_tupN ?_
    | with_reducible refine w_lstN ?_
    | with_reducible refine w_bm ?_
    | with_reducible refine w_bm0 ?_
    | with_reducible refine w_for ?_
    | with_reducible refine w_lc ?_
    | with_reducible refine w_iR1 ?_
    | with_reducible refine w_iR2 ?_
    | with_reducible refine w_iL ?_
    | with_reducible refine w_iT ?_
    | with_reducible refine w_iE ?_
    | with_reducible refine w_iZ ?_
    | with_reducible refine w_var (by with_unfolding_all rfl) ?_
    | with_reducible refine w_c ?_
    | with_reducible refine w_next ?_
    | with_reducible refine w_i0 ?_
    | with_reducible refine w_u1 ?_
    | with_reducible refine w_addI ?_
    | with_reducible refine w_eqI ?_
    | with_reducible refine w_eqS ?_
    | with_reducible refine w_eqB ?_
    | with_reducible refine w_neI ?_
    | with_reducible refine w_neS ?_
    | with_reducible refine w_neB ?_
    | with_reducible refine w_abs ?_
    | with_reducible refine w_intI ?_
    | with_reducible refine w_min2 ?_
    | with_reducible refine w_max2 ?_
    | with_reducible refine w_isN0 ?_
    | with_reducible refine w_isN1 ref_ne ?_
    | with_reducible refine w_isN1 int_ne ?_
    | with_reducible refine w_notN0 ?_
    | with_reducible refine w_notN1 ref_ne ?_
    | with_reducible refine w_notN1 int_ne ?_
    | with_reducible refine w_ex1 ?_
    | with_reducible refine w_n1 ?_
    | with_reducible refine w_n2 ?_
    | with_reducible refine w_tT ?_
    | with_reducible refine w_tF ?_
    | with_reducible refine w_nT ?_
    | with_reducible refine w_nF ?_
    | with_reducible refine w_rz ?_
    | with_reducible refine w_mkN ?_
    | with_reducible refine w_lrgN ?_
    | with_reducible refine w_rg1 ?_
    | with_reducible refine w_rg2 ?_
    | with_reducible refine w_sl ?_
    | with_reducible refine w_np ?_
    | with_reducible refine w_pt ?_
    | with_reducible refine w_tr ?_
    | with_reducible refine w_gn ?_
    | with_reducible refine w_yes ?_
    | with_reducible refine w_g1 ?_
    | with_reducible refine w_gc ?_
    | with_reducible refine w_gt (SqT.of upd_same) rfl ?_)
local macro_rules
  | `(tactic| walk_at "g") => `(tactic| repeat walk_at "1")
section
variable {K : PySem.W.Frag} {mg : Str → Option Value}

theorem Trial.k0 {H H' : Hp} {x : V} (h : Trial H x) (k : Kp [] H H') : Trial H' x := by
  obtain ⟨t, a, s, g, log, e, h1, h2, l⟩ := h
  exact ⟨t, a, s, g, log, e, k.at0 h1, k.at0 h2, l⟩
theorem len__law_trials (K : PySem.W.Frag) : ∀ vs H Q E, sp__law_trials K vs H Q E → vs.length = (["bag", "size", "deeds"] : List Str).length := by
  rintro vs H Q E ⟨_, _, _, _, rfl, _⟩
  rfl
theorem rd__law_trials (T : Txt K mg) (vs : List V) (H : Hp) (Q : VK) (E : XK) (h : sp__law_trials K vs H Q E) : t__law_trials K E { nx := fun _ H' => Q .non H', rt := Q } (start ["bag", "size", "deeds", "bent", "far", "trials"] vs) H := by
  obtain ⟨b, a, n, log, rfl, hn, hb, nab, ha0, hlen, g⟩ := h
  unfold t__law_trials
  walk_at "g"
  refine ⟨b, a, n, log, rfl, hn, hb, nab, ha0, hlen, fun bent be H1 nbe bl k01 b1 hbe0 => ?_⟩
  walk_at "g"
  have bbe : b ≠ be := hb.ne nbe
  refine ⟨b, 1000, rfl, by omega, by omega, b1, fun far H2 _ _ k02 b2 => ?_⟩
  have ha : H2 a = _ := k02.at1 nab (k01.at1 nab ha0)
  have hbe : H2 be = _ := k02.at1 (Ne.symm bbe) hbe0
  walk_at "g"
  refine ⟨sz_ok (Nat.le_of_ble_eq_true rfl), nw fun t1 G1 nt1 k1 ht1 => ?_⟩
  walk_at "g"
  refine ⟨sz_ok (Nat.le_of_ble_eq_true rfl), nw fun t2 G2 nt2 k2 ht2 => ?_⟩
  walk_at "g"
  refine ⟨sz_ok (Nat.le_of_ble_eq_true rfl), nw fun z1 G3 nz1 k3 hz1 => ?_⟩
  walk_at "g"
  refine w_addLN (k3.at0 (k2.at0 (k1.at0 ha))) hz1 (sz_ok (by rw [List.length_map]; show _ + 1 ≤ _; omega)) fun d1 G4 nd1 k4 hd1 => ?_
  walk_at "g"
  refine ⟨sz_ok (Nat.le_of_ble_eq_true rfl), nw fun t3 G5 nt3 k5 ht3 => ?_⟩
  walk_at "g"
  refine ⟨sz_ok (Nat.le_of_ble_eq_true rfl), nw fun l1 G6 nl1 k6 hl1 => ?_⟩
  walk_at "g"
  refine ⟨sz_ok (Nat.le_of_ble_eq_true rfl), nw fun t4 G7 nt4 k7 ht4 => ?_⟩
  walk_at "g"
  refine ⟨sz_ok (Nat.le_of_ble_eq_true rfl), nw fun t5 G8 nt5 k8 ht5 => ?_⟩
  walk_at "g"
  refine ⟨sz_ok (Nat.le_of_ble_eq_true rfl), nw fun t6 G9 nt6 k9 ht6 => ?_⟩
  walk_at "g"
  refine ⟨sz_ok (Nat.le_of_ble_eq_true rfl), nw fun t7 G10 nt7 k10 ht7 => ?_⟩
  walk_at "g"
  refine ⟨sz_ok (Nat.le_of_ble_eq_true rfl), nw fun l2 G11 nl2 k11 hl2 => ?_⟩
  walk_at "g"
  refine w_addLN (k11.at0 (k10.at0 (k9.at0 (k8.at0 (k7.at0 hl1))))) hl2 (sz_ok (Nat.le_of_ble_eq_true rfl)) fun s2 G12 ns2 k12 hs2 => ?_
  walk_at "g"
  refine ⟨sz_ok (Nat.le_of_ble_eq_true rfl), nw fun t8 G13 nt8 k13 ht8 => ?_⟩
  walk_at "g"
  refine ⟨sz_ok (Nat.le_of_ble_eq_true rfl), nw fun t9 G14 nt9 k14 ht9 => ?_⟩
  walk_at "g"
  refine ⟨sz_ok (Nat.le_of_ble_eq_true rfl), nw fun ta G15 nta k15 hta => ?_⟩
  walk_at "g"
  refine ⟨sz_ok (Nat.le_of_ble_eq_true rfl), nw fun tb G16 ntb k16 htb => ?_⟩
  walk_at "g"
  refine ⟨sz_ok (Nat.le_of_ble_eq_true rfl), nw fun l3 G17 nl3 k17 hl3 => ?_⟩
  walk_at "g"
  refine w_addLN (k17.at0 (k16.at0 (k15.at0 (k14.at0 (k13.at0 hs2))))) hl3 (sz_ok (Nat.le_of_ble_eq_true rfl)) fun s3 G18 ns3 k18 hs3 => ?_
  walk_at "g"
  refine ⟨sz_ok (Nat.le_of_ble_eq_true rfl), nw fun tc G19 ntc k19 htc => ?_⟩
  walk_at "g"
  refine ⟨sz_ok (Nat.le_of_ble_eq_true rfl), nw fun td G20 ntd k20 htd => ?_⟩
  walk_at "g"
  refine ⟨sz_ok (Nat.le_of_ble_eq_true rfl), nw fun l4 G21 nl4 k21 hl4 => ?_⟩
  walk_at "g"
  refine w_addLN (k21.at0 (k20.at0 (k19.at0 hs3))) hl4 (sz_ok (Nat.le_of_ble_eq_true rfl)) fun s4 G22 ns4 k22 hs4 => ?_
  walk_at "g"
  have kall : Kp [] H2 G22 := (((((((((((((((((((((((Kp.refl _ H2).trans k1).trans k2).trans k3).trans k4).trans k5).trans k6).trans k7).trans k8).trans k9).trans k10).trans k11).trans k12).trans k13).trans k14).trans k15).trans k16).trans k17).trans k18).trans k19).trans k20).trans k21).trans k22)
  have bz : Bag G22 b := b2.k0 kall
  have k0z : Kp [b] H G22 := (k01.trans k02).trans kall.all
  have tr : ∀ (t c : Addr) (sz gp : Int) (lg : List Int), G22 t = some (.tup [.int sz, .ref c, .int gp]) → G22 c = some (.lst (lg.map V.int)) → lg.length ≤ 1000 → Trial G22 (.ref t) := fun t c sz gp lg h1 h2 l => ⟨t, c, sz, gp, lg, rfl, h1, h2, l⟩
  have bl' : bent.length ≤ 1000 := by omega
  have hd1' : G22 d1 = some (.lst ((log ++ [0]).map V.int)) := by
    rw [List.map_append]
    exact (k22.at0 (k21.at0 (k20.at0 (k19.at0 (k18.at0 (k17.at0 (k16.at0 (k15.at0 (k14.at0 (k13.at0 (k12.at0 (k11.at0 (k10.at0 (k9.at0 (k8.at0 (k7.at0 (k6.at0 (k5.at0 hd1))))))))))))))))))
  have ld1 : (log ++ [0]).length ≤ 1000 := by
    rw [List.length_append]
    show _ + 1 ≤ _
    omega
  have ll : log.length ≤ 1000 := by omega
  have all : ∀ x ∈ [V.ref t1, V.ref t2, V.ref t3, V.ref t4, V.ref t5, V.ref t6, V.ref t7, V.ref t8, V.ref t9, V.ref ta, V.ref tb, V.ref tc, V.ref td], Trial G22 x := by
    intro x hx
    simp only [List.mem_cons, List.not_mem_nil, or_false] at hx
    rcases hx with rfl | rfl | rfl | rfl | rfl | rfl | rfl | rfl | rfl | rfl | rfl | rfl | rfl
    · exact tr _ _ _ _ _ (k22.at0 (k21.at0 (k20.at0 (k19.at0 (k18.at0 (k17.at0 (k16.at0 (k15.at0 (k14.at0 (k13.at0 (k12.at0 (k11.at0 (k10.at0 (k9.at0 (k8.at0 (k7.at0 (k6.at0 (k5.at0 (k4.at0 (k3.at0 (k2.at0 ht1))))))))))))))))))))) (k22.at0 (k21.at0 (k20.at0 (k19.at0 (k18.at0 (k17.at0 (k16.at0 (k15.at0 (k14.at0 (k13.at0 (k12.at0 (k11.at0 (k10.at0 (k9.at0 (k8.at0 (k7.at0 (k6.at0 (k5.at0 (k4.at0 (k3.at0 (k2.at0 (k1.at0 hbe)))))))))))))))))))))) bl'
    · exact tr _ _ _ _ _ (k22.at0 (k21.at0 (k20.at0 (k19.at0 (k18.at0 (k17.at0 (k16.at0 (k15.at0 (k14.at0 (k13.at0 (k12.at0 (k11.at0 (k10.at0 (k9.at0 (k8.at0 (k7.at0 (k6.at0 (k5.at0 (k4.at0 (k3.at0 ht2)))))))))))))))))))) (k22.at0 (k21.at0 (k20.at0 (k19.at0 (k18.at0 (k17.at0 (k16.at0 (k15.at0 (k14.at0 (k13.at0 (k12.at0 (k11.at0 (k10.at0 (k9.at0 (k8.at0 (k7.at0 (k6.at0 (k5.at0 (k4.at0 (k3.at0 (k2.at0 (k1.at0 hbe)))))))))))))))))))))) bl'
    · exact tr _ _ _ _ _ (k22.at0 (k21.at0 (k20.at0 (k19.at0 (k18.at0 (k17.at0 (k16.at0 (k15.at0 (k14.at0 (k13.at0 (k12.at0 (k11.at0 (k10.at0 (k9.at0 (k8.at0 (k7.at0 (k6.at0 ht3))))))))))))))))) hd1' ld1
    · exact tr _ _ _ _ _ (k22.at0 (k21.at0 (k20.at0 (k19.at0 (k18.at0 (k17.at0 (k16.at0 (k15.at0 (k14.at0 (k13.at0 (k12.at0 (k11.at0 (k10.at0 (k9.at0 (k8.at0 ht4))))))))))))))) (k22.at0 (k21.at0 (k20.at0 (k19.at0 (k18.at0 (k17.at0 (k16.at0 (k15.at0 (k14.at0 (k13.at0 (k12.at0 (k11.at0 (k10.at0 (k9.at0 (k8.at0 (k7.at0 (k6.at0 (k5.at0 (k4.at0 (k3.at0 (k2.at0 (k1.at0 hbe)))))))))))))))))))))) bl'
    · exact tr _ _ _ _ _ (k22.at0 (k21.at0 (k20.at0 (k19.at0 (k18.at0 (k17.at0 (k16.at0 (k15.at0 (k14.at0 (k13.at0 (k12.at0 (k11.at0 (k10.at0 (k9.at0 ht5)))))))))))))) (k22.at0 (k21.at0 (k20.at0 (k19.at0 (k18.at0 (k17.at0 (k16.at0 (k15.at0 (k14.at0 (k13.at0 (k12.at0 (k11.at0 (k10.at0 (k9.at0 (k8.at0 (k7.at0 (k6.at0 (k5.at0 (k4.at0 (k3.at0 (k2.at0 (k1.at0 ha)))))))))))))))))))))) ll
    · exact tr _ _ _ _ _ (k22.at0 (k21.at0 (k20.at0 (k19.at0 (k18.at0 (k17.at0 (k16.at0 (k15.at0 (k14.at0 (k13.at0 (k12.at0 (k11.at0 (k10.at0 ht6))))))))))))) (k22.at0 (k21.at0 (k20.at0 (k19.at0 (k18.at0 (k17.at0 (k16.at0 (k15.at0 (k14.at0 (k13.at0 (k12.at0 (k11.at0 (k10.at0 (k9.at0 (k8.at0 (k7.at0 (k6.at0 (k5.at0 (k4.at0 (k3.at0 (k2.at0 (k1.at0 hbe)))))))))))))))))))))) bl'
    · exact tr _ _ _ _ _ (k22.at0 (k21.at0 (k20.at0 (k19.at0 (k18.at0 (k17.at0 (k16.at0 (k15.at0 (k14.at0 (k13.at0 (k12.at0 (k11.at0 ht7)))))))))))) (k22.at0 (k21.at0 (k20.at0 (k19.at0 (k18.at0 (k17.at0 (k16.at0 (k15.at0 (k14.at0 (k13.at0 (k12.at0 (k11.at0 (k10.at0 (k9.at0 (k8.at0 (k7.at0 (k6.at0 (k5.at0 (k4.at0 (k3.at0 (k2.at0 (k1.at0 ha)))))))))))))))))))))) ll
    · exact tr _ _ _ _ _ (k22.at0 (k21.at0 (k20.at0 (k19.at0 (k18.at0 (k17.at0 (k16.at0 (k15.at0 (k14.at0 ht8))))))))) (k22.at0 (k21.at0 (k20.at0 (k19.at0 (k18.at0 (k17.at0 (k16.at0 (k15.at0 (k14.at0 (k13.at0 (k12.at0 (k11.at0 (k10.at0 (k9.at0 (k8.at0 (k7.at0 (k6.at0 (k5.at0 (k4.at0 (k3.at0 (k2.at0 (k1.at0 ha)))))))))))))))))))))) ll
    · exact tr _ _ _ _ _ (k22.at0 (k21.at0 (k20.at0 (k19.at0 (k18.at0 (k17.at0 (k16.at0 (k15.at0 ht9)))))))) (k22.at0 (k21.at0 (k20.at0 (k19.at0 (k18.at0 (k17.at0 (k16.at0 (k15.at0 (k14.at0 (k13.at0 (k12.at0 (k11.at0 (k10.at0 (k9.at0 (k8.at0 (k7.at0 (k6.at0 (k5.at0 (k4.at0 (k3.at0 (k2.at0 (k1.at0 ha)))))))))))))))))))))) ll
    · exact tr _ _ _ _ _ (k22.at0 (k21.at0 (k20.at0 (k19.at0 (k18.at0 (k17.at0 (k16.at0 hta))))))) (k22.at0 (k21.at0 (k20.at0 (k19.at0 (k18.at0 (k17.at0 (k16.at0 (k15.at0 (k14.at0 (k13.at0 (k12.at0 (k11.at0 (k10.at0 (k9.at0 (k8.at0 (k7.at0 (k6.at0 (k5.at0 (k4.at0 (k3.at0 (k2.at0 (k1.at0 ha)))))))))))))))))))))) ll
    · exact tr _ _ _ _ _ (k22.at0 (k21.at0 (k20.at0 (k19.at0 (k18.at0 (k17.at0 htb)))))) (k22.at0 (k21.at0 (k20.at0 (k19.at0 (k18.at0 (k17.at0 (k16.at0 (k15.at0 (k14.at0 (k13.at0 (k12.at0 (k11.at0 (k10.at0 (k9.at0 (k8.at0 (k7.at0 (k6.at0 (k5.at0 (k4.at0 (k3.at0 (k2.at0 (k1.at0 ha)))))))))))))))))))))) ll
    · exact tr _ _ _ _ _ (k22.at0 (k21.at0 (k20.at0 htc))) (k22.at0 (k21.at0 (k20.at0 (k19.at0 (k18.at0 (k17.at0 (k16.at0 (k15.at0 (k14.at0 (k13.at0 (k12.at0 (k11.at0 (k10.at0 (k9.at0 (k8.at0 (k7.at0 (k6.at0 (k5.at0 (k4.at0 (k3.at0 (k2.at0 (k1.at0 ha)))))))))))))))))))))) ll
    · exact tr _ _ _ _ _ (k22.at0 (k21.at0 htd)) (k22.at0 (k21.at0 (k20.at0 (k19.at0 (k18.at0 (k17.at0 (k16.at0 (k15.at0 (k14.at0 (k13.at0 (k12.at0 (k11.at0 (k10.at0 (k9.at0 (k8.at0 (k7.at0 (k6.at0 (k5.at0 (k4.at0 (k3.at0 (k2.at0 (k1.at0 ha)))))))))))))))))))))) ll
  have hs4' : G22 s4 = some (.lst [V.ref t1, V.ref t2, V.ref t3, V.ref t4, V.ref t5, V.ref t6, V.ref t7, V.ref t8, V.ref t9, V.ref ta, V.ref tb, V.ref tc, V.ref td]) := hs4
  have haz : G22 a = _ := (k22.at0 (k21.at0 (k20.at0 (k19.at0 (k18.at0 (k17.at0 (k16.at0 (k15.at0 (k14.at0 (k13.at0 (k12.at0 (k11.at0 (k10.at0 (k9.at0 (k8.at0 (k7.at0 (k6.at0 (k5.at0 (k4.at0 (k3.at0 (k2.at0 (k1.at0 ha))))))))))))))))))))))
  have fz : ∀ q, G22 q = none → b ≠ q := fun q h => bz.ne h
  have bs4 : b ≠ s4 := by
    exact (b2.k0 ((((((((((((((((((((((Kp.refl _ H2).trans k1).trans k2).trans k3).trans k4).trans k5).trans k6).trans k7).trans k8).trans k9).trans k10).trans k11).trans k12).trans k13).trans k14).trans k15).trans k16).trans k17).trans k18).trans k19).trans k20).trans k21)).ne ns4
  refine w_lenL (SqL.of haz) ?_
  walk_at "g"
  rw [List.length_map]
  have fs4 : H s4 = none := (k01.trans k02).free (by simpa using Ne.symm bs4) (((((((((((((((((((((((Kp.refl _ H2).trans k1).trans k2).trans k3).trans k4).trans k5).trans k6).trans k7).trans k8).trans k9).trans k10).trans k11).trans k12).trans k13).trans k14).trans k15).trans k16).trans k17).trans k18).trans k19).trans k20).trans k21).free0 ns4)
  generalize hxs : [V.ref t1, V.ref t2, V.ref t3, V.ref t4, V.ref t5, V.ref t6, V.ref t7, V.ref t8, V.ref t9, V.ref ta, V.ref tb, V.ref tc, V.ref td] = xs at all hs4'
  have lxs : xs.length = 13 := by rw [← hxs] <;> rfl
  refine w_iteD (fun c => ?_) (fun c => ?_)
  · walk_at "g"
    refine ⟨w_ty (SqL.of hs4'), ?_⟩
    walk_at "g"
    have hlast : (log.map V.int).getLast? = some (.int (log.getLast (by intro z; rw [z] at c; exact absurd c (by decide)))) := by
      rw [List.getLast?_map, List.getLast?_eq_some_getLast] <;> rfl
    refine w_ixL (SqL.of haz) (at_last hlast) ?_
    generalize log.getLast _ = lastv
    walk_at "g"
    refine ⟨sz_ok (Nat.le_of_ble_eq_true rfl), nw fun z Ha nz ka hz => ?_⟩
    walk_at "g"
    refine w_addLN (ka.at0 haz) hz (sz_ok (by rw [List.length_map]; show _ + 1 ≤ _; omega)) fun dd Hb ndd kb hdd => ?_
    walk_at "g"
    refine ⟨sz_ok (Nat.le_of_ble_eq_true rfl), nw fun te Hc nte kc hte => ?_⟩
    walk_at "g"
    have kac := (ka.trans kb).trans kc
    have hs4c := kac.at0 hs4'
    refine w_apT hs4c (sz_lt (by omega)) fun Hd kd hd => ?_
    walk_at "g"
    have dds4 : dd ≠ s4 := (ne_of_none (ka.at0 hs4') ndd).symm
    have tes4 : te ≠ s4 := (ne_of_none (kb.at0 (ka.at0 hs4')) nte).symm
    have keepT : ∀ x, Trial Hc x → Trial Hd x := by
      intro x hx
      obtain ⟨t, cc, sz, gp, lg, e, h1, h2, l⟩ := hx
      refine ⟨t, cc, sz, gp, lg, e, kd.at1 (ne_of h1 hs4c (by intro z; cases z)) h1, kd.at1 ?_ h2, l⟩
      rintro rfl
      rw [hs4c, ← hxs] at h2
      injection h2 with h2
      injection h2 with h2
      cases lg with
      | nil => cases h2
      | cons v r => injection h2 with h2; cases h2
    refine g _ s4 Hd ((((k0z.trans kac.all).mono (S' := [b, s4]) (by simp)).trans (kd.mono (by simp))).cut (by simp [fs4])) ((bz.k0 kac).k1 bs4 kd) hd (by rw [List.length_append, lxs]; show 13 + 1 ≤ _; omega) (fun x hx => ?_)
    rcases List.mem_append.mp hx with m | m
    · exact keepT x ((all x m).k0 kac)
    · have ex : x = .ref te := by simpa using m
      rw [ex]
      refine keepT _ ⟨te, dd, _, _, log ++ [lastv], rfl, hte, ?_, by rw [List.length_append]; show _ + 1 ≤ _; omega⟩
      rw [List.map_append]
      exact kc.at0 hdd
  · walk_at "g"
    exact g xs s4 _ k0z bz hs4' (by omega) all
end
end G

set_option Elab.async false
set_option linter.all false
set_option maxRecDepth 100000
set_option maxHeartbeats 1000000
namespace G
--#FAM KA
open PySem PySem.Spec PyProof.Rows L2
local macro_rules
  | `(tactic| walk_at "1") => `(tactic| first
    | with_reducible refine w_seq ?_
    | with_reducible refine w_asg ?_
    | with_reducible refine w_asgS ?_
    | with_reducible refine w_asf ?_
    | with_reducible refine w_drop ?_
    | with_reducible refine w_ret ?_
    | with_reducible refine w_if ?_
    | with_reducible refine w_not ?_
    | with_reducible refine w_and ?_
    | with_reducible refine w_or ?_
    | with_reducible refine w_test ?_
    | with_reducible refine w_tb ?_
    | with_reducible refine w_chain ?_
    | with_reducible refine w_op ?_
    | with_reducible refine w_un ?_
    | with_reducible refine w_andV ?_
    | with_reducible refine w_orV ?_
    | with_reducible refine w_notV ?_
    | with_reducible refine w_ifE ?_
    | with_reducible refine w_cons ?_
    | with_reducible refine w_nil ?_
    | with_reducible refine w_cb ?_
    | with_reducible refine w_cl ?_
    | with_reducible refine w_mt ?_
    | with_reducible refine w_fld ?_
    | with_reducible refine w_tupN ?_
    | with_reducible refine w_lstN ?_
    | with_reducible refine w_bm ?_
    | with_reducible refine w_bm0 ?_
    | with_reducible refine w_for ?_
    | with_reducible refine w_lc ?_
    | with_reducible refine w_iR1 ?_
    | with_reducible refine w_iR2 ?_
    | with_reducible refine w_iL ?_
    | with_reducible refine w_iT ?_
    | with_reducible refine w_iE ?_
    | with_reducible refine w_iZ ?_
    | with_reducible refine w_var (by with_unfolding_all rfl) ?_
    | with_reducible refine w_c ?_
    | with_reducible refine w_next ?_
    | with_reducible refine w_i0 ?_
    | with_reducible refine w_u1 ?_
    | with_reducible refine w_addI ?_
    | with_reducible refine w_eqI ?_
    | with_reducible refine w_eqS ?_
    | with_reducible refine w_eqB ?_
    | with_reducible refine w_neI ?_
    | with_reducible refine w_neS ?_
    | with_reducible refine w_neB ?_
    | with_reducible refine w_abs ?_
    | with_reducible refine w_intI ?_
    | with_reducible refine w_min2 ?_
    | with_reducible refine w_max2 ?_
    | with_reducible refine w_isN0 ?_
    | with_reducible refine w_isN1 ref_ne ?_
    | with_reducible refine w_isN1 int_ne ?_
    | with_reducible refine w_notN0 ?_
    | with_reducible refine w_notN1 ref_ne ?_
    | with_reducible refine w_notN1 int_ne ?_
    | with_reducible refine w_ex1 ?_
    | with_reducible refine w_n1 ?_
    | with_reducible refine w_n2 ?_
    | with_reducible refine w_tT ?_
    | with_reducible refine w_tF ?_
    | with_reducible refine w_nT ?_
    | with_reducible refine w_nF ?_
    | with_reducible refine w_rz ?_
    | with_reducible refine w_mkN ?_
    | with_reducible refine w_lrgN ?_
    | with_reducible refine w_rg1 ?_
    | with_reducible refine w_rg2 ?_
    | with_reducible refine w_sl ?_
    | with_reducible refine w_np ?_
    | with_reducible refine w_pt ?_
    | with_reducible refine w_tr ?_
    | with_reducible refine w_gn ?_
    | with_reducible refine w_yes ?_
    | with_reducible refine w_g1 ?_
    | with_reducible refine w_gc ?_
    | with_reducible refine w_gt (SqT.of upd_same) rfl ?_)
local macro_rules
  | `(tactic| walk_at "g") => `(tactic| repeat walk_at "1")
section
variable {K : PySem.W.Frag} {mg : Str → Option Value}
/-- the law's handler -/
abbrev hndT (K : PySem.W.Frag) : Addr → Value → Option Addr → TS := fun a cls d => tSeq (tIfS (tNot (tB (tCB (rIsX K cls d a) (tCons (tVar 4) (tCons (tC (.ty "ValueError")) (tNil)))))) (tRet (tTup (tCons (tC (.str "other")) (tNil)))) (tNext)) (tSeq (tIfS (tAnd (tB (tCB (rIsX K cls d a) (tCons (tVar 4) (tCons (tC (.ref (He.ga K "BadOperation"))) (tNil))))) (tNot (tB (tCB (rIsX K cls d a) (tCons (tVar 4) (tCons (tC (.ref (He.ga K "Illegal"))) (tNil))))))) (tSeq (tIfS (tOr (tNot (tB (tCB (rIsX K cls d a) (tCons (tVar 4) (tCons (tC (.ref (He.ga K "LogError"))) (tNil)))))) (tNot (tB (tCl (sp__law_whole_number K) (fun _ => E0) (tCons (tXat K a cls d "index" (tVar 4)) (tNil)))))) (tRet (tTup (tCons (tC (.str "other")) (tNil)))) (tNext)) (tRet (tTup (tCons (tC (.str "operation")) (tCons (tXat K a cls d "operation" (tVar 4)) (tCons (tXat K a cls d "index" (tVar 4)) (tNil))))))) (tNext)) (tSeq (tIfS (tAnd (tB (tCB (rIsX K cls d a) (tCons (tVar 4) (tCons (tC (.ref (He.ga K "Illegal"))) (tNil))))) (tNot (tB (tCB (rIsX K cls d a) (tCons (tVar 4) (tCons (tC (.ref (He.ga K "BadOperation"))) (tNil))))))) (tSeq (tIfS (tOr (tNot (tB (tCB (rIsX K cls d a) (tCons (tVar 4) (tCons (tC (.ref (He.ga K "LogError"))) (tNil)))))) (tNot (tB (tCl (sp__law_whole_number K) (fun _ => E0) (tCons (tXat K a cls d "index" (tVar 4)) (tNil)))))) (tRet (tTup (tCons (tC (.str "other")) (tNil)))) (tNext)) (tRet (tTup (tCons (tC (.str "illegal")) (tCons (tXat K a cls d "operation" (tVar 4)) (tCons (tXat K a cls d "index" (tVar 4)) (tNil))))))) (tNext)) (tSeq (tIfS (tB (tCB (rIsX K cls d a) (tCons (tVar 4) (tCons (tC (.ref (He.ga K "LogError"))) (tNil))))) (tRet (tTup (tCons (tC (.str "other")) (tNil)))) (tNext)) (tSeq (tIfS (tAnd (tB (tCB (rIsX K cls d a) (tCons (tVar 4) (tCons (tC (.ref (He.ga K "BadSize"))) (tNil))))) (tNot (tB (tCB (rIsX K cls d a) (tCons (tVar 4) (tCons (tC (.ref (He.ga K "BadGap"))) (tNil))))))) (tRet (tTup (tCons (tC (.str "size")) (tCons (tXat K a cls d "size" (tVar 4)) (tNil))))) (tNext)) (tSeq (tIfS (tAnd (tB (tCB (rIsX K cls d a) (tCons (tVar 4) (tCons (tC (.ref (He.ga K "BadGap"))) (tNil))))) (tNot (tB (tCB (rIsX K cls d a) (tCons (tVar 4) (tCons (tC (.ref (He.ga K "BadSize"))) (tNil))))))) (tRet (tTup (tCons (tC (.str "gap")) (tCons (tXat K a cls d "gap" (tVar 4)) (tNil))))) (tNext)) (tRet (tTup (tCons (tC (.str "other")) (tNil)))))))))

theorem w_isx {H : Hp} {Q : VK} {D dd a : Addr} {fs : List (Str × V)} {c : V} {u : Value} {r : Bool} (hd : H dd = some (.xd fs)) (ex : ExK K D) (k : ClsV c u) (q : PySem.W.kitOne K (.ref D) u = some r) (g : Q (.bl r) H) : rIsX K (.ref D) (some dd) a [.ref a, c] H Q := ⟨D, dd, fs, c, u, r, rfl, rfl, hd, ex, rfl, k, q, g⟩
theorem w_xat {σ : L2.St} {H : Hp} {Q : VK} {D dd a : Addr} {fs : List (Str × V)} {v : V} {f : Str} {te : TE} (hv : ∀ Q, Q (.ref a) H → te σ H Q) (hd : H dd = some (.xd fs)) (ex : ExK K D) (hf : PySem.W.findIn K (.ref D) f = some none) (hl : fs.lookup f = some v) (g : Q v H) : tXat K a (.ref D) (some dd) f te σ H Q := hv _ ⟨D, dd, fs, v, rfl, rfl, hd, ex, rfl, hf, hl, g⟩
theorem lk1 (f : Str) (v : V) (r : List (Str × V)) : ((f, v) :: r).lookup f = some v := by
  simp [List.lookup]
theorem lk_op (i o : V) : ([(("index" : Str), i), ("operation", o)] : List (Str × V)).lookup ("operation" : Str) = some o := by
  have : (("operation" : Str) == ("index" : Str)) = false := by decide +kernel
  simp [List.lookup, this]
section
variable {W0 : WX} {D : Ends} {y0 y1 y2 y3 y4 : Option V} {H : Hp}
theorem hnd_size (T : Txt K mg) {size : Int} (g : ∀ t H', Kp [] H H' → H' t = some (.tup [.str "size", .int size]) → D.rt (.ref t) H') : Ex K "BadSize" [("size", .int size)] (WE (wAs K (.ref (He.ga K "LinkError")) 4 (hndT K) W0 D) [y0, y1, y2, y3, y4]) H := by
  intro d nd
  refine ⟨true, T.exm_BadSize_LinkError, fun _ a na => ?_, fun z => by cases z⟩
  have hd : upd H d (.xd [("size", .int size)]) d = some (.xd [("size", .int size)]) := upd_same
  have kd : Kp [] H (upd H d (.xd [("size", .int size)])) := Kp.new nd
  unfold hndT
  generalize upd H d (.xd [("size", .int size)]) = H1 at hd kd na ⊢
  walk_at "g"
  refine w_isx hd T.ex_BadSize (.ty _) T.kit_BadSize_ValueError ?_
  walk_at "g"
  refine w_isx hd T.ex_BadSize (.own _) T.kit_BadSize_BadOperation ?_
  walk_at "g"
  refine w_isx hd T.ex_BadSize (.own _) T.kit_BadSize_Illegal ?_
  walk_at "g"
  refine w_isx hd T.ex_BadSize (.own _) T.kit_BadSize_LogError ?_
  walk_at "g"
  refine w_isx hd T.ex_BadSize (.own _) T.kit_BadSize_BadSize ?_
  walk_at "g"
  refine w_isx hd T.ex_BadSize (.own _) T.kit_BadSize_BadGap ?_
  walk_at "g"
  refine w_xat (fun Q q => w_var (by with_unfolding_all rfl) q) hd T.ex_BadSize (T.oe_BadSize.2 _ (by simp)) (lk1 _ _ _) ?_
  walk_at "g"
  refine ⟨sz_ok (Nat.le_of_ble_eq_true rfl), nw fun t H2 nt k2 ht => ?_⟩
  exact g t H2 (kd.trans k2) ht
theorem hnd_gap (T : Txt K mg) {gp : Int} (g : ∀ t H', Kp [] H H' → H' t = some (.tup [.str "gap", .int gp]) → D.rt (.ref t) H') : Ex K "BadGap" [("gap", .int gp)] (WE (wAs K (.ref (He.ga K "LinkError")) 4 (hndT K) W0 D) [y0, y1, y2, y3, y4]) H := by
  intro d nd
  refine ⟨true, T.exm_BadGap_LinkError, fun _ a na => ?_, fun z => by cases z⟩
  have hd : upd H d (.xd [("gap", .int gp)]) d = some (.xd [("gap", .int gp)]) := upd_same
  have kd : Kp [] H (upd H d (.xd [("gap", .int gp)])) := Kp.new nd
  unfold hndT
  generalize upd H d (.xd [("gap", .int gp)]) = H1 at hd kd na ⊢
  walk_at "g"
  refine w_isx hd T.ex_BadGap (.ty _) T.kit_BadGap_ValueError ?_
  walk_at "g"
  refine w_isx hd T.ex_BadGap (.own _) T.kit_BadGap_BadOperation ?_
  walk_at "g"
  refine w_isx hd T.ex_BadGap (.own _) T.kit_BadGap_Illegal ?_
  walk_at "g"
  refine w_isx hd T.ex_BadGap (.own _) T.kit_BadGap_LogError ?_
  walk_at "g"
  refine w_isx hd T.ex_BadGap (.own _) T.kit_BadGap_BadSize ?_
  walk_at "g"
  refine w_isx hd T.ex_BadGap (.own _) T.kit_BadGap_BadGap ?_
  walk_at "g"
  refine w_isx hd T.ex_BadGap (.own _) T.kit_BadGap_BadSize ?_
  walk_at "g"
  refine w_xat (fun Q q => w_var (by with_unfolding_all rfl) q) hd T.ex_BadGap (T.oe_BadGap.2 _ (by simp)) (lk1 _ _ _) ?_
  walk_at "g"
  refine ⟨sz_ok (Nat.le_of_ble_eq_true rfl), nw fun t H2 nt k2 ht => ?_⟩
  exact g t H2 (kd.trans k2) ht
theorem hnd_op (T : Txt K mg) {n : Nat} {op i : Int} (g : ∀ t H', Kp [] H H' → H' t = some (.tup [.str (if IsOp n op then "illegal" else "operation"), .int op, .int i]) → D.rt (.ref t) H') : OpE K n op i (WE (wAs K (.ref (He.ga K "LinkError")) 4 (hndT K) W0 D) [y0, y1, y2, y3, y4]) H := by
  unfold OpE
  by_cases c : IsOp n op
  · rw [if_pos c] at g ⊢
    intro d nd
    refine ⟨true, T.exm_Illegal_LinkError, fun _ a na => ?_, fun z => by cases z⟩
    have hd : upd H d (.xd [("index", .int i), ("operation", .int op)]) d = some (.xd [("index", .int i), ("operation", .int op)]) := upd_same
    have kd : Kp [] H (upd H d (.xd [("index", .int i), ("operation", .int op)])) := Kp.new nd
    unfold hndT
    generalize upd H d (.xd [("index", .int i), ("operation", .int op)]) = H1 at hd kd na ⊢
    walk_at "g"
    refine w_isx hd T.ex_Illegal (.ty _) T.kit_Illegal_ValueError ?_
    walk_at "g"
    refine w_isx hd T.ex_Illegal (.own _) T.kit_Illegal_BadOperation ?_
    walk_at "g"
    refine w_isx hd T.ex_Illegal (.own _) T.kit_Illegal_Illegal ?_
    walk_at "g"
    refine w_isx hd T.ex_Illegal (.own _) T.kit_Illegal_BadOperation ?_
    walk_at "g"
    refine w_isx hd T.ex_Illegal (.own _) T.kit_Illegal_LogError ?_
    walk_at "g"
    refine w_xat (fun Q q => w_var (by with_unfolding_all rfl) q) hd T.ex_Illegal (T.oe_Illegal.2 _ (by simp)) (lk1 _ _ _) ?_
    walk_at "g"
    refine ⟨_, rfl, ?_⟩
    walk_at "g"
    refine w_xat (fun Q q => w_var (by with_unfolding_all rfl) q) hd T.ex_Illegal (T.oe_Illegal.2 _ (by simp)) (lk_op _ _) ?_
    walk_at "g"
    refine w_xat (fun Q q => w_var (by with_unfolding_all rfl) q) hd T.ex_Illegal (T.oe_Illegal.2 _ (by simp)) (lk1 _ _ _) ?_
    walk_at "g"
    refine ⟨sz_ok (Nat.le_of_ble_eq_true rfl), nw fun t H2 nt k2 ht => ?_⟩
    exact g t H2 (kd.trans k2) ht
  · rw [if_neg c] at g ⊢
    intro d nd
    refine ⟨true, T.exm_BadOperation_LinkError, fun _ a na => ?_, fun z => by cases z⟩
    have hd : upd H d (.xd [("index", .int i), ("operation", .int op)]) d = some (.xd [("index", .int i), ("operation", .int op)]) := upd_same
    have kd : Kp [] H (upd H d (.xd [("index", .int i), ("operation", .int op)])) := Kp.new nd
    unfold hndT
    generalize upd H d (.xd [("index", .int i), ("operation", .int op)]) = H1 at hd kd na ⊢
    walk_at "g"
    refine w_isx hd T.ex_BadOperation (.ty _) T.kit_BadOperation_ValueError ?_
    walk_at "g"
    refine w_isx hd T.ex_BadOperation (.own _) T.kit_BadOperation_BadOperation ?_
    walk_at "g"
    refine w_isx hd T.ex_BadOperation (.own _) T.kit_BadOperation_Illegal ?_
    walk_at "g"
    refine w_isx hd T.ex_BadOperation (.own _) T.kit_BadOperation_LogError ?_
    walk_at "g"
    refine w_xat (fun Q q => w_var (by with_unfolding_all rfl) q) hd T.ex_BadOperation (T.oe_BadOperation.2 _ (by simp)) (lk1 _ _ _) ?_
    walk_at "g"
    refine ⟨_, rfl, ?_⟩
    walk_at "g"
    refine w_xat (fun Q q => w_var (by with_unfolding_all rfl) q) hd T.ex_BadOperation (T.oe_BadOperation.2 _ (by simp)) (lk_op _ _) ?_
    walk_at "g"
    refine w_xat (fun Q q => w_var (by with_unfolding_all rfl) q) hd T.ex_BadOperation (T.oe_BadOperation.2 _ (by simp)) (lk1 _ _ _) ?_
    walk_at "g"
    refine ⟨sz_ok (Nat.le_of_ble_eq_true rfl), nw fun t H2 nt k2 ht => ?_⟩
    exact g t H2 (kd.trans k2) ht
end
theorem len__law_fault (K : PySem.W.Frag) : ∀ vs H Q E, sp__law_fault K vs H Q E → vs.length = (["size", "deeds", "place"] : List Str).length := by
  rintro vs H Q E ⟨_, _, _, _, rfl, _⟩
  rfl
theorem rd__law_fault (T : Txt K mg) (vs : List V) (H : Hp) (Q : VK) (E : XK) (h : sp__law_fault K vs H Q E) : t__law_fault K E { nx := fun _ H' => Q .non H', rt := Q } (start ["size", "deeds", "place", "gone", "k", "node"] vs) H := by
  obtain ⟨size, gp, a, log, rfl, hs, hlen, g⟩ := h
  unfold t__law_fault
  have bad : ¬ SizeOk size → ∀ t H', Kp [] H H' → H' t = some (.tup [.str "size", .int size]) → Q (.ref t) H' := fun b t H' k h => g _ t H' (.inl ⟨b, rfl⟩) k h
  walk_at "g"
  refine w_iteD (fun c1 => ?_) (fun c1 => ?_)
  · walk_at "g"
    refine ⟨sz_ok (Nat.le_of_ble_eq_true rfl), nw fun t H2 nt k2 ht => ?_⟩
    exact bad (fun z => by have := z.1; omega) t H2 k2 ht
  walk_at "g"
  refine w_iteD (fun c2 => ?_) (fun c2 => ?_)
  · walk_at "g"
    refine ⟨sz_ok (Nat.le_of_ble_eq_true rfl), nw fun t H2 nt k2 ht => ?_⟩
    exact bad (fun z => by have := z.2; omega) t H2 k2 ht
  have ok : SizeOk size := ⟨by omega, by omega⟩
  clear bad
  obtain ⟨n, rfl, hn⟩ := ok_nat ok
  walk_at "g"
  refine w_r1 (by omega) ?_
  refine cp_rng (fun i => (List.replicate i false).map V.bl) (fun i hi => sz_lt (by rw [List.length_map, List.length_replicate]; omega)) rfl (fun i H' S N hi k y _ => ?_) (fun gn H1 ng k1 hg => ?_)
  · walk_at "g"
    refine ⟨rfl, ?_⟩
    walk_at "g"
    refine y _ _ (Kp.refl _ _) ?_
    rw [List.replicate_succ', List.map_append] <;> rfl
  rw [show ((n : Int) + 1).toNat = n + 1 by omega] at hg
  walk_at "g"
  refine w_lenL (k1.sql (by simp) hs) ?_
  walk_at "g"
  rw [List.length_map]
  refine w_r1 (by omega) ?_
  refine lp_rng0 (fun i σ H' => (∃ x4 x5, σ = [some (.int n), some (.ref a), some (.int gp), some (.ref gn), x4, x5]) ∧ Kp [] H H' ∧ Leg (wholeS n) (log.take i) ∧ ∃ fl : List Bool, H' gn = some (.lst (fl.map V.bl)) ∧ fl.length = n + 1 ∧ ∀ v, 1 ≤ v → v ≤ n → gB fl v = outF (log.take i) v)
    ⟨⟨_, _, rfl⟩, k1, ?_, _, hg, List.length_replicate, fun v _ _ => ?_⟩ ?_ ?_
  · intro i op h
    simp at h
  · show gB (List.replicate (n + 1) false) v = false
    refine gB_of ?_
    rw [List.getElem?_replicate_of_lt (by omega)]
  · rintro i σ' H' hi ⟨⟨x4, x5, rfl⟩, k, le, fl, hf, hl, hfl⟩
    have li : i < log.length := by omega
    have hop : log[i]? = some log[i] := List.getElem?_eq_getElem li
    have eat := at_I (l := log) (i := (i : Int)) (by omega) (by omega)
    rw [Int.toNat_natCast, gI_of hop] at eat
    generalize log[i] = op at hop eat
    have hs' := k.sql (by simp) hs
    have oks : OkOp (runS (wholeS n) (log.take i)) op ↔ IsOp n op ∧ outF (log.take i) op.natAbs = decide (0 < op) := ok_out hn le
    have flt : ∀ xs, ¬ OkOp (runS (wholeS n) (log.take i)) op → xs = [V.str (if IsOp n op then "illegal" else "operation"), .int op, .int (i : Int)] → FltV n log gp xs := by
      intro xs no e
      refine .inr (.inl ⟨ok, i, op, hop, by rw [Int.toNat_natCast]; exact le, by rw [Int.toNat_natCast]; exact no, by rw [Int.toNat_natCast]; exact e⟩)
    walk_at "g"
    refine w_ixL hs' eat ?_
    walk_at "g"
    rw [natAbs_if]
    have noop : ¬ IsOp n op → tRet (tTup (tCons (tC (.str "operation")) (tCons (tOp (rIx K) (tVar 1) (tVar 4)) (tCons (tVar 4) tNil)))) { nx := fun x H' => Q V.non H', rt := Q } [some (.int n), some (.ref a), some (.int gp), some (.ref gn), some (.int (i : Int)), some (.int (op.natAbs : Int))] H' := by
      intro no
      walk_at "g"
      refine w_ixL hs' eat ?_
      walk_at "g"
      refine ⟨sz_ok (Nat.le_of_ble_eq_true rfl), nw fun t H2 nt k2 ht => ?_⟩
      exact g _ t H2 (flt _ (fun z => no (oks.mp z).1) (by rw [if_neg no])) (k.trans k2) ht
    refine w_iteD (fun c3 => ?_) (fun c3 => ?_)
    · exact noop (fun z => by have := z.1; omega)
    walk_at "g"
    refine w_iteD (fun c4 => ?_) (fun c4 => ?_)
    · exact noop (fun z => by have := z.2; omega)
    have isop : IsOp n op := ⟨by omega, by omega⟩
    clear noop
    walk_at "g"
    refine w_ixL (SqL.of hf) (at_B (by omega) (by omega)) ?_
    rw [Int.toNat_natCast, hfl _ isop.1 isop.2]
    walk_at "g"
    refine w_ixL hs' eat ?_
    walk_at "g"
    have nz : op ≠ 0 := by
      have := isop.1
      omega
    have hdec : (outF (log.take i) op.natAbs = decide (op < 0)) ↔ ¬ (outF (log.take i) op.natAbs = decide (0 < op)) := by
      cases outF (log.take i) op.natAbs
      · by_cases c : op < 0
        · rw [decide_eq_true c, decide_eq_false (show ¬ 0 < op by omega)]
          simp
        · rw [decide_eq_false c, decide_eq_true (show 0 < op by omega)]
          simp
      · by_cases c : op < 0
        · rw [decide_eq_true c, decide_eq_false (show ¬ 0 < op by omega)]
          simp
        · rw [decide_eq_false c, decide_eq_true (show 0 < op by omega)]
          simp
    refine w_iteD (fun c5 => ?_) (fun c5 => ?_)
    · walk_at "g"
      refine w_ixL hs' eat ?_
      walk_at "g"
      refine ⟨sz_ok (Nat.le_of_ble_eq_true rfl), nw fun t H2 nt k2 ht => ?_⟩
      exact g _ t H2 (flt _ (fun z => hdec.mp c5 (oks.mp z).2) (by rw [if_pos isop])) (k.trans k2) ht
    · walk_at "g"
      refine w_ixL hs' eat ?_
      walk_at "g"
      refine w_seT hf (ixN_pos (by omega) (by rw [List.length_map]; omega)) fun H2 k2 h2 => ?_
      rw [Int.toNat_natCast, set_B] at h2
      walk_at "g"
      have fgn : H gn = none := ng
      have okk : OkOp (runS (wholeS n) (log.take i)) op := oks.mpr ⟨isop, Decidable.of_not_not fun z => c5 (hdec.mpr z)⟩
      refine ⟨⟨_, _, rfl⟩, (k.all.trans k2).cut1 fgn, ?_, _, h2, by rw [List.length_set, hl], fun v v1 v2 => ?_⟩
      · rw [take_snoc hop]
        exact le.snoc okk
      · rw [gB_set (by have := isop.2; omega), take_snoc hop, outF_snoc, hfl v v1 v2]
        by_cases e : v = op.natAbs
        · rw [if_pos e, if_pos e.symm]
        · rw [if_neg e, if_neg (fun z => e z.symm)]
  · rintro σ' H' ⟨⟨x4, x5, rfl⟩, k, le, fl, hf, hl, hfl⟩
    rw [Int.toNat_natCast, List.take_length] at le
    have le' : Leg (wholeS (n : Int).toNat) log := by rw [Int.toNat_natCast]; exact le
    have gap : ¬ (0 ≤ gp ∧ gp ≤ n) → tRet (tTup (tCons (tC (.str "gap")) (tCons (tVar 2) tNil))) { nx := fun x H' => Q V.non H', rt := Q } [some (.int n), some (.ref a), some (.int gp), some (.ref gn), x4, x5] H' := by
      intro no
      walk_at "g"
      refine ⟨sz_ok (Nat.le_of_ble_eq_true rfl), nw fun t H2 nt k2 ht => ?_⟩
      exact g _ t H2 (.inr (.inr (.inl ⟨ok, le', no, rfl⟩))) (k.trans k2) ht
    walk_at "g"
    refine w_iteD (fun c3 => ?_) (fun c3 => ?_)
    · exact gap (fun z => by omega)
    walk_at "g"
    refine w_iteD (fun c4 => ?_) (fun c4 => ?_)
    · exact gap (fun z => by omega)
    walk_at "g"
    refine ⟨sz_ok (Nat.le_of_ble_eq_true rfl), nw fun t H2 nt k2 ht => ?_⟩
    exact g _ t H2 (.inr (.inr (.inr ⟨ok, le', ⟨by omega, by omega⟩, rfl⟩))) (k.trans k2) ht
end
end G

set_option Elab.async false
set_option linter.all false
set_option maxRecDepth 100000
set_option maxHeartbeats 1000000
namespace G
--#FAM KA
open PySem PySem.Spec PyProof.Rows L2
local macro_rules
  | `(tactic| walk_at "1") => `(tactic| first
    | with_reducible refine w_seq ?_
    | with_reducible refine w_asg ?_
    | with_reducible refine w_asgS ?_
    | with_reducible refine w_asf ?_
    | with_reducible refine w_drop ?_
    | with_reducible refine w_ret ?_
    | with_reducible refine w_if ?_
    | with_reducible refine w_not ?_
    | with_reducible refine w_and ?_
    | with_reducible refine w_or ?_
    | with_reducible refine w_test ?_
    | with_reducible refine w_tb ?_
    | with_reducible refine w_chain ?_
    | with_reducible refine w_op ?_
    | with_reducible refine w_un ?_
    | with_reducible refine w_andV ?_
    | with_reducible refine w_orV ?_
    | with_reducible refine w_notV ?_
    | with_reducible refine w_ifE ?_
    | with_reducible refine w_cons ?_
    | with_reducible refine w_nil ?_
    | with_reducible refine w_cb ?_
    | with_reducible refine w_cl ?_
    | with_reducible refine w_mt ?_
    | with_reducible refine w_fld ?_
    | with_reducible refine w_tupN ?_
    | with_reducible refine w_lstN ?_
    | with_reducible refine w_bm ?_
    | with_reducible refine w_bm0 ?_
    | with_reducible refine w_for ?_
    | with_reducible refine w_lc ?_
    | with_reducible refine w_iR1 ?_
    | with_reducible refine w_iR2 ?_
    | with_reducible refine w_iL ?_
    | with_reducible refine w_iT ?_
    | with_reducible refine w_iE ?_
    | with_reducible refine w_iZ ?_
    | with_reducible refine w_var (by with_unfolding_all rfl) ?_
    | with_reducible refine w_c ?_
    | with_reducible refine w_next ?_
    | with_reducible refine w_i0 ?_
    | with_reducible refine w_u1 ?_
    | with_reducible refine w_addI ?_
    | with_reducible refine w_eqI ?_
    | with_reducible refine w_eqS ?_
    | with_reducible refine w_eqB ?_
    | with_reducible refine w_neI ?_
    | with_reducible refine w_neS ?_
    | with_reducible refine w_neB ?_
    | with_reducible refine w_abs ?_
    | with_reducible refine w_intI ?_
    | with_reducible refine w_min2 ?_
    | with_reducible refine w_max2 ?_
    | with_reducible refine w_isN0 ?_
    | with_reducible refine w_isN1 ref_ne ?_
    | with_reducible refine w_isN1 int_ne ?_
    | with_reducible refine w_notN0 ?_
    | with_reducible refine w_notN1 ref_ne ?_
    | with_reducible refine w_notN1 int_ne ?_
    | with_reducible refine w_ex1 ?_
    | with_reducible refine w_n1 ?_
    | with_reducible refine w_n2 ?_
    | with_reducible refine w_tT ?_
    | with_reducible refine w_tF ?_
    | with_reducible refine w_nT ?_
    | with_reducible refine w_nF ?_
    | with_reducible refine w_rz ?_
    | with_reducible refine w_mkN ?_
    | with_reducible refine w_lrgN ?_
    | with_reducible refine w_rg1 ?_
    | with_reducible refine w_rg2 ?_
    | with_reducible refine w_sl ?_
    | with_reducible refine w_np ?_
    | with_reducible refine w_pt ?_
    | with_reducible refine w_tr ?_
    | with_reducible refine w_gn ?_
    | with_reducible refine w_yes ?_
    | with_reducible refine w_g1 ?_
    | with_reducible refine w_gc ?_
    | with_reducible refine w_gt (SqT.of upd_same) rfl ?_)
local macro_rules
  | `(tactic| walk_at "g") => `(tactic| repeat walk_at "1")
section
variable {K : PySem.W.Frag} {mg : Str → Option Value}
theorem dpI {H : Hp} : ∀ xs : List Int, DpAll K H (xs.map V.int) (xs.map PyData.int)
  | [] => .nil
  | x :: xs => .cons (.int x) (dpI xs)
theorem layI : ∀ xs : List Int, PyData.canLayAll0 (xs.map PyData.int) = true
  | [] => rfl
  | x :: xs => by
    show PyData.canLayAll0 (PyData.int x :: xs.map PyData.int) = true
    rw [PyData.canLayAll0, layI xs] <;> rfl
theorem depI : ∀ xs : List Int, PyData.depthAll (xs.map PyData.int) ≤ 1
  | [] => by simp [PyData.depthAll]
  | x :: xs => by
    have := depI xs
    show PyData.depthAll (PyData.int x :: xs.map PyData.int) ≤ 1
    rw [PyData.depthAll]
    simp [PyData.depth]
    omega
theorem shI (xs : List Int) : SeqAt.shaped (.list (xs.map PyData.int)) = true := by
  unfold SeqAt.shaped
  rw [PyData.canLay0, layI, PyData.depth]
  have := depI xs
  simp
  omega
theorem so1 : PyData.strOk ("size" : Str) = true := by decide +kernel
theorem so2 : PyData.strOk ("gap" : Str) = true := by decide +kernel
theorem so3 : PyData.strOk ("done" : Str) = true := by decide +kernel
theorem so4 (c : Prop) [Decidable c] : PyData.strOk (if c then ("illegal" : Str) else "operation") = true := by
  by_cases h : c
  · rw [if_pos h]
    decide +kernel
  · rw [if_neg h]
    decide +kernel
theorem dpF {H : Hp} {size g : Int} {log : List Int} {xs : List V} (f : FltV size log g xs) : ∃ ds, DpAll K H xs ds ∧ SeqAt.shaped (.tuple ds) = true := by
  rcases f with ⟨_, rfl⟩ | ⟨_, i, op, _, _, _, rfl⟩ | ⟨_, _, _, rfl⟩ | ⟨_, _, _, rfl⟩
  · exact ⟨_, .cons (.str _) (.cons (.int _) .nil), by simp [so1, so2, so3, so4, SeqAt.shaped, PyData.canLay0, PyData.canLayAll0, PyData.depth, PyData.depthAll]⟩
  · exact ⟨_, .cons (.str _) (.cons (.int _) (.cons (.int _) .nil)), by simp [so1, so2, so3, so4, SeqAt.shaped, PyData.canLay0, PyData.canLayAll0, PyData.depth, PyData.depthAll]⟩
  · exact ⟨_, .cons (.str _) (.cons (.int _) .nil), by simp [so1, so2, so3, so4, SeqAt.shaped, PyData.canLay0, PyData.canLayAll0, PyData.depth, PyData.depthAll]⟩
  · exact ⟨_, .cons (.str _) .nil, by simp [so1, so2, so3, so4, SeqAt.shaped, PyData.canLay0, PyData.canLayAll0, PyData.depth, PyData.depthAll]⟩
theorem w_neT {H : Hp} {Q : VK} {p q : Addr} {xs : List V} {ds : List PyData} (h1 : H p = some (.tup xs)) (h2 : H q = some (.tup xs)) (d : DpAll K H xs ds) (s : SeqAt.shaped (.tuple ds) = true) (g : Q (.bl false) H) : rNeA K (.ref p) (.ref q) H Q :=
  w_neD (.tup (SqT.of h1) d) (.tup (SqT.of h2) d) s s (by
    rw [SeqAt.eqv_refl _ (SeqAt.canLay_of_shaped s)]
    exact g)
theorem w_eqL {H : Hp} {Q : VK} {p q : Addr} {xs : List Int} (h1 : SqL K H p (xs.map V.int)) (h2 : SqL K H q (xs.map V.int)) (g : Q (.bl true) H) : rEqA K (.ref p) (.ref q) H Q :=
  w_eqD (.lst h1 (dpI xs)) (.lst h2 (dpI xs)) (shI xs) (shI xs) (by
    rw [SeqAt.eqv_refl _ (SeqAt.canLay_of_shaped (shI xs))]
    exact g)
end
end G

set_option Elab.async false
set_option linter.all false
set_option maxRecDepth 100000
set_option maxHeartbeats 1000000
namespace G
--#FAM KA
open PySem PySem.Spec PyProof.Rows L2
local macro_rules
  | `(tactic| walk_at "1") => `(tactic| first
    | with_reducible refine w_seq ?_
    | with_reducible refine w_asg ?_
    | with_reducible refine w_asgS ?_
    | with_reducible refine w_asf ?_
    | with_reducible refine w_drop ?_
    | with_reducible refine w_ret ?_
    | with_reducible refine w_if ?_
    | with_reducible refine w_not ?_
    | with_reducible refine w_and ?_
    | with_reducible refine w_or ?_
    | with_reducible refine w_test ?_
    | with_reducible refine w_tb ?_
    | with_reducible refine w_chain ?_
    | with_reducible refine w_op ?_
    | with_reducible refine w_un ?_
    | with_reducible refine w_andV ?_
    | with_reducible refine w_orV ?_
    | with_reducible refine w_notV ?_
    | with_reducible refine w_ifE ?_
    | with_reducible refine w_cons ?_
    | with_reducible refine w_nil ?_
    | with_reducible refine w_cb ?_
    | with_reducible refine w_cl ?_
    | with_reducible refine w_mt ?_
    | with_reducible refine w_fld ?_
    | with_reducible refine w_tupN ?_
    | with_reducible refine w_lstN ?_
    | with_reducible refine w_bm ?_
    | with_reducible refine w_bm0 ?_
    | with_reducible refine w_for ?_
    | with_reducible refine w_lc ?_
    | with_reducible refine w_iR1 ?_
    | with_reducible refine w_iR2 ?_
    | with_reducible refine w_iL ?_
    | with_reducible refine w_iT ?_
    | with_reducible refine w_iE ?_
    | with_reducible refine w_iZ ?_
    | with_reducible refine w_var (by with_unfolding_all rfl) ?_
    | with_reducible refine w_c ?_
    | with_reducible refine w_next ?_
    | with_reducible refine w_i0 ?_
    | with_reducible refine w_u1 ?_
    | with_reducible refine w_addI ?_
    | with_reducible refine w_eqI ?_
    | with_reducible refine w_eqS ?_
    | with_reducible refine w_eqB ?_
    | with_reducible refine w_neI ?_
    | with_reducible refine w_neS ?_
    | with_reducible refine w_neB ?_
    | with_reducible refine w_abs ?_
    | with_reducible refine w_intI ?_
    | with_reducible refine w_min2 ?_
    | with_reducible refine w_max2 ?_
    | with_reducible refine w_isN0 ?_
    | with_reducible refine w_isN1 ref_ne ?_
    | with_reducible refine w_isN1 int_ne ?_
    | with_reducible refine w_notN0 ?_
    | with_reducible refine w_notN1 ref_ne ?_
    | with_reducible refine w_notN1 int_ne ?_
    | with_reducible refine w_ex1 ?_
    | with_reducible refine w_n1 ?_
    | with_reducible refine w_n2 ?_
    | with_reducible refine w_tT ?_
    | with_reducible refine w_tF ?_
    | with_reducible refine w_nT ?_
    | with_reducible refine w_nF ?_
    | with_reducible refine w_rz ?_
    | with_reducible refine w_mkN ?_
    | with_reducible refine w_lrgN ?_
    | with_reducible refine w_rg1 ?_
    | with_reducible refine w_rg2 ?_
    | with_reducible refine w_sl ?_
    | with_reducible refine w_np ?_
    | with_reducible refine w_pt ?_
    | with_reducible refine w_tr ?_
    | with_reducible refine w_gn ?_
    | with_reducible refine w_yes ?_
    | with_reducible refine w_g1 ?_
    | with_reducible refine w_gc ?_
    | with_reducible refine w_gt (SqT.of upd_same) rfl ?_)
local macro_rules
  | `(tactic| walk_at "g") => `(tactic| repeat walk_at "1")
section
variable {K : PySem.W.Frag} {mg : Str → Option Value}
theorem cut_pre (xs : List Int) {c : Int} (h0 : 0 ≤ c) (h1 : c ≤ xs.length) : cutV (xs.map V.int) none (some c) = (xs.take c.toNat).map V.int := by
  obtain ⟨k, rfl⟩ : ∃ k : Nat, c = (k : Int) := ⟨c.toNat, by omega⟩
  have e1 : HT.sIx (xs.map V.int).length 0 none = 0 := rfl
  have e2 : HT.sIx (xs.map V.int).length (xs.map V.int).length (some (k : Int)) = k := by
    rw [HT.sIx_nat, List.length_map]
    omega
  unfold cutV
  rw [e1, e2, List.drop_zero, List.map_take, Int.toNat_natCast] <;> rfl
theorem Leg.rep {H : Hp} {n : Nat} {log : List Int} {E : XK} (hn : n ≤ 60) (le : Leg (wholeS n) log) : RepE K H (n : Int) log E :=
  ⟨fun ok i op hi l b H' k => by rw [Int.toNat_natCast] at b; exact absurd (le i op hi) b, fun b => absurd ⟨by omega, by omega⟩ b⟩
end
end G

set_option Elab.async false
set_option linter.all false
set_option maxRecDepth 100000
set_option maxHeartbeats 1000000
namespace G
--#FAM KA
open PySem PySem.Spec PyProof.Rows L2
local macro_rules
  | `(tactic| walk_at "1") => `(tactic| first
    | with_reducible refine w_seq ?_
    | with_reducible refine w_asg ?_
    | with_reducible refine w_asgS ?_
    | with_reducible refine w_asf ?_
    | with_reducible refine w_drop ?_
    | with_reducible refine w_ret ?_
    | with_reducible refine w_if ?_
    | with_reducible refine w_not ?_
    | with_reducible refine w_and ?_
    | with_reducible refine w_or ?_
    | with_reducible refine w_test ?_
    | with_reducible refine w_tb ?_
    | with_reducible refine w_chain ?_
    | with_reducible refine w_op ?_
    | with_reducible refine w_un ?_
    | with_reducible refine w_andV ?_
    | with_reducible refine w_orV ?_
    | with_reducible refine w_notV ?_
    | with_reducible refine w_ifE ?_
    | with_reducible refine w_cons ?_
    | with_reducible refine w_nil ?_
    | with_reducible refine w_cb ?_
    | with_reducible refine w_cl ?_
    | with_reducible refine w_mt ?_
    | with_reducible refine w_fld ?_
    | with_reducible refine w_tupN ?_
    | with_reducible refine w_lstN ?_
    | with_reducible refine w_bm ?_
    | with_reducible refine w_bm0 ?_
    | with_reducible refine w_for ?_
    | with_reducible refine w_lc ?_
    | with_reducible refine w_iR1 ?_
    | with_reducible refine w_iR2 ?_
    | with_reducible refine w_iL ?_
    | with_reducible refine w_iT ?_
    | with_reducible refine w_iE ?_
    | with_reducible refine w_iZ ?_
    | with_reducible refine w_var (by with_unfolding_all rfl) ?_
    | with_reducible refine w_c ?_
    | with_reducible refine w_next ?_
    | with_reducible refine w_i0 ?_
    | with_reducible refine w_u1 ?_
    | with_reducible refine w_addI ?_
    | with_reducible refine w_eqI ?_
    | with_reducible refine w_eqS ?_
    | with_reducible refine w_eqB ?_
    | with_reducible refine w_neI ?_
    | with_reducible refine w_neS ?_
    | with_reducible refine w_neB ?_
    | with_reducible refine w_abs ?_
    | with_reducible refine w_intI ?_
    | with_reducible refine w_min2 ?_
    | with_reducible refine w_max2 ?_
    | with_reducible refine w_isN0 ?_
    | with_reducible refine w_isN1 ref_ne ?_
    | with_reducible refine w_isN1 int_ne ?_
    | with_reducible refine w_notN0 ?_
    | with_reducible refine w_notN1 ref_ne ?_
    | with_reducible refine w_notN1 int_ne ?_
    | with_reducible refine w_ex1 ?_
    | with_reducible refine w_n1 ?_
    | with_reducible refine w_n2 ?_
    | with_reducible refine w_tT ?_
    | with_reducible refine w_tF ?_
    | with_reducible refine w_nT ?_
    | with_reducible refine w_nF ?_
    | with_reducible refine w_rz ?_
    | with_reducible refine w_mkN ?_
    | with_reducible refine w_lrgN ?_
    | with_reducible refine w_rg1 ?_
    | with_reducible refine w_rg2 ?_
    | with_reducible refine w_sl ?_
    | with_reducible refine w_np ?_
    | with_reducible refine w_pt ?_
    | with_reducible refine w_tr ?_
    | with_reducible refine w_gn ?_
    | with_reducible refine w_yes ?_
    | with_reducible refine w_g1 ?_
    | with_reducible refine w_gc ?_
    | with_reducible refine w_gt (SqT.of upd_same) rfl ?_)
local macro_rules
  | `(tactic| walk_at "g") => `(tactic| repeat walk_at "1")
section
variable {K : PySem.W.Frag} {mg : Str → Option Value}
theorem len_Links_outs (K : PySem.W.Frag) : ∀ vs H Q E, sp_Links_outs K vs H Q E → vs.length = (["self"] : List Str).length := by
  rintro vs H Q E ⟨_, _, _, _, _, rfl, _⟩
  rfl
theorem rd_Links_outs (T : Txt K mg) (vs : List V) (H : Hp) (Q : VK) (E : XK) (h : sp_Links_outs K vs H Q E) : t_Links_outs K E { nx := fun _ H' => Q .non H', rt := Q } (start ["self", "node"] vs) H := by
  obtain ⟨p, r, l, o, s, rfl, a, g⟩ := h
  unfold t_Links_outs
  have n60 := a.wf.n60
  walk_at "g"
  refine w_fS T.cl_Links T.na_Links_size a ?_
  walk_at "g"
  refine w_r2 (by omega) ?_
  rw [show ((s.n : Int) + 1 - 1).toNat = s.n by omega]
  refine cp_rng (fun i => (outN i s.O).map V.int) (fun i hi => sz_lt (by
    rw [List.length_map]
    have := outN_len i s.O
    omega)) rfl (fun i H' S N hi k y no => ?_) (fun D H' nD k hD => g D H' nD k hD)
  walk_at "g"
  refine ⟨rfl, ?_⟩
  walk_at "g"
  refine w_fO T.cl_Links T.na_Links__out (a.k0 k) ?_
  walk_at "g"
  refine w_ixL (SqL.of (k.at0 a.ho)) (at_B (by omega) (by rw [a.wf.lO]; omega)) ?_
  walk_at "g"
  rw [show ((1 : Int) + (i : Int)).toNat = i + 1 by omega]
  refine w_iteB (fun c1 => ?_) (fun c1 => ?_)
  · walk_at "g"
    refine y _ _ (Kp.refl _ _) ?_
    unfold outN
    rw [List.range_succ, List.map_append, List.filter_append, List.map_append, List.map_append]
    congr 1
    show (([i + 1].filter fun v => gB s.O v).map _).map _ = _
    rw [List.filter_cons_of_pos c1]
    show [V.int ((i + 1 : Nat) : Int)] = [V.int (1 + (i : Int))]
    rw [Int.add_comm] <;> rfl
  · refine no _ (Kp.refl _ _) ?_
    unfold outN
    rw [List.range_succ, List.map_append, List.filter_append, List.map_append, List.map_append]
    show _ ++ (([i + 1].filter fun v => gB s.O v).map _).map _ = _
    rw [List.filter_cons_of_neg (by rw [c1]; exact Bool.false_ne_true)]
    exact List.append_nil _
theorem w_isN {x : V} {H : Hp} {Q : VK} (g : Q (.bl (decide (x = .non))) H) : rIsNA x .non H Q := ⟨rfl, g⟩
theorem len_Verdict___init__ (K : PySem.W.Frag) : ∀ vs H Q E, sp_Verdict___init__ K vs H Q E → vs.length = (["self", "out_nodes", "gap", "index"] : List Str).length := by
  rintro vs H Q E ⟨_, _, _, _, _, _, rfl, _⟩
  rfl
theorem rd_Verdict___init__ (T : Txt K mg) (vs : List V) (H : Hp) (Q : VK) (E : XK) (h : sp_Verdict___init__ K vs H Q E) : t_Verdict___init__ K E { nx := fun _ H' => Q .non H', rt := Q } (start ["self", "out_nodes", "gap", "index"] vs) H := by
  obtain ⟨p, l, dx, a, b, gone, rfl, hp, npl, hl, hlen, ia, g⟩ := h
  unfold t_Verdict___init__
  walk_at "g"
  refine w_listLN hl fun q H1 nq k1 hq => ?_
  walk_at "g"
  have pq : p ≠ q := ne_of_none hp nq
  refine w_sT T.cl_Verdict T.na_Verdict_out_nodes (k1.at0 hp) (by decide) fun H2 k2 p2 => ?_
  walk_at "g"
  refine w_sT T.cl_Verdict T.na_Verdict_gap p2 (pl1 _ _) fun H3 k3 p3 => ?_
  walk_at "g"
  refine w_sT T.cl_Verdict T.na_Verdict_index p3 (pl2 _ _ _ _) fun H4 k4 p4 => ?_
  walk_at "g"
  have hq4 := k4.at1 (Ne.symm pq) (k3.at1 (Ne.symm pq) (k2.at1 (Ne.symm pq) hq))
  have k14 : Kp [p] H1 H4 := (k2.trans k3).trans k4
  have fin : ∀ H5, Kp [p] H4 H5 → H5 p = some (.ins (He.ga K "Verdict") dx (putF "whole" (.bl (whB a gone)) (putF "index" b (putF "gap" a (putF "out_nodes" (.ref q) []))))) → Q .non H5 := fun H5 k5 h5 =>
    g q H5 nq (k1.all.trans (k14.trans k5)) ⟨⟨dx, h5⟩, k5.at1 (Ne.symm pq) hq4⟩
  rcases ia with rfl | ⟨i, rfl⟩
  · walk_at "g"
    refine ⟨p, _, _, _, _, rfl, p4, T.cl_Verdict, T.na_Verdict_out_nodes, (?_ : List.lookup ("out_nodes" : Str) _ = some (.ref q)), ?_⟩
    · rw [lookup_putF, if_neg m2, lookup_putF, if_neg m1, lookup_putF, if_pos rfl]
    · walk_at "g"
      refine w_lenL (SqL.of hq4) ?_
      walk_at "g"
      rw [List.length_map]
      refine w_sT T.cl_Verdict T.na_Verdict_whole p4 (pl3 _ _ _ _ _ _) fun H5 k5 p5 => ?_
      walk_at "g"
      exact fin H5 k5 p5
  · walk_at "g"
    refine w_sT T.cl_Verdict T.na_Verdict_whole p4 (pl3 _ _ _ _ _ _) fun H5 k5 p5 => ?_
    walk_at "g"
    exact fin H5 k5 p5
theorem len_verdict (K : PySem.W.Frag) : ∀ vs H Q E, sp_verdict K vs H Q E → vs.length = (["size", "log"] : List Str).length := by
  rintro vs H Q E ⟨_, _, _, rfl, _⟩
  rfl
theorem rd_verdict (T : Txt K mg) (vs : List V) (H : Hp) (Q : VK) (E : XK) (h : sp_verdict K vs H Q E) : t_verdict K E { nx := fun _ H' => Q .non H', rt := Q } (start ["size", "log", "links", "gap", "state"] vs) H := by
  obtain ⟨c, size, log, rfl, hs, hlen, re, g⟩ := h
  unfold t_verdict
  walk_at "g"
  refine ⟨c, size, log, rfl, hs, fun ok le p r l o H1 np nr nl no k1 a => ?_, re.op, re.sz⟩
  have g := g ok le
  obtain ⟨n, rfl, n60⟩ := ok_nat ok
  rw [Int.toNat_natCast] at g a le
  have sn : (runS (wholeS n) log).n = n := by rw [runS_n] <;> rfl
  walk_at "g"
  refine ⟨p, r, l, o, _, rfl, a, fun q H2 nq k2 hq => ?_⟩
  walk_at "g"
  rw [sn] at hq
  have k02 := k1.trans k2
  have lenq : ((List.range (n + 1)).map fun (v : Nat) => V.str (stT (runS (wholeS n) log) v)).length = n + 1 := by rw [List.length_map, List.length_range]
  have a2 := a.k0 k2
  refine ⟨q, _, rfl, SqL.of hq, lp_enum (xs := (List.range (n + 1)).map fun (v : Nat) => V.str (stT (runS (wholeS n) log) v)) (fun i σ H' => (∃ x3 x4, σ = [some (.int n), some (.ref c), some (.ref p), x3, x4]) ∧ Kp [] H2 H' ∧ ∀ j, j < i → stT (runS (wholeS n) log) j = "joined") ⟨⟨_, _, rfl⟩, Kp.refl _ _, fun j hj => absurd hj (Nat.not_lt_zero _)⟩ ?_ ?_ ?_⟩
  · rintro i σ' H' hi ⟨_, k, _⟩
    exact k.sql (by simp) (SqL.of hq)
  · rintro i x T1 σ' H' hx ⟨⟨x3, x4, rfl⟩, k, jn⟩ nT
    obtain ⟨v, hv, rfl⟩ := at_map hx
    have hv' : i = v := by
      have := (List.getElem?_eq_some_iff.mp hv).2
      simpa using this
    have hlt : i < n + 1 := by
      have := (List.getElem?_eq_some_iff.mp hv).1
      simpa using this
    subst hv'
    have kT : Kp [] H' (upd H' T1 (.tup [.int (i : Int), .str (stT (runS (wholeS n) log) i)])) := Kp.new nT
    walk_at "g"
    refine w_iteN (fun cj => ?_) (fun cj => ?_)
    · have a3 := (a2.k0 k).k0 kT
      have k03 := (k02.trans k).trans kT
      walk_at "g"
      refine w_me a3 no_m ?_
      walk_at "g"
      refine ⟨p, r, l, o, _, rfl, a3, fun u H4 nu k4 hu => ?_⟩
      walk_at "g"
      rw [sn] at hu
      refine ⟨c, n, i, log, rfl, (k03.trans k4).sql (by simp) hs, re.kp (k03.trans k4), fun _ _ bad => absurd ⟨by omega, by omega⟩ bad, fun _ _ _ _ H5 k5 => ?_⟩
      walk_at "g"
      refine mk fun x dx H6 nx hx6 k6 => ?_
      have xu : x ≠ u := (ne_of_none (k5.at0 hu) nx).symm
      refine ⟨x, u, dx, _, _, outS n log, rfl, hx6, xu, SqL.of (k6.at0 (k5.at0 hu)), by have := outN_len n (runS (wholeS n) log).O; unfold outS; omega, .inr ⟨_, rfl⟩, fun gg H7 ng k7 vd => ⟨rfl, ?_⟩⟩
      rw [Int.toNat_natCast, Int.toNat_natCast] at vd
      exact g x gg _ _ H7 ((((k03.trans k4).trans k5).all.trans (k6.all.trans k7)).cut1 (((k03.trans k4).trans k5).free0 nx)) vd (.inl ⟨i, by omega, jn, cj, rfl, rfl⟩)
    · walk_at "g"
      refine ⟨⟨_, _, rfl⟩, k.trans kT, fun j hj => ?_⟩
      by_cases e : j < i
      · exact jn j e
      · rw [show j = i by omega]
        exact cj
  · rintro σ' H' ⟨⟨x3, x4, rfl⟩, k, jn⟩
    rw [lenq] at jn
    have a3 := a2.k0 k
    have k03 := k02.trans k
    walk_at "g"
    refine w_me a3 no_m ?_
    walk_at "g"
    refine ⟨p, r, l, o, _, rfl, a3, fun u H4 nu k4 hu => ?_⟩
    walk_at "g"
    rw [sn] at hu
    refine mk fun x dx H6 nx hx6 k6 => ?_
    have xu : x ≠ u := (ne_of_none hu nx).symm
    refine ⟨x, u, dx, _, _, outS n log, rfl, hx6, xu, SqL.of (k6.at0 hu), by have := outN_len n (runS (wholeS n) log).O; unfold outS; omega, .inl rfl, fun gg H7 ng k7 vd => ⟨rfl, ?_⟩⟩
    exact g x gg _ _ H7 (((k03.trans k4).all.trans (k6.all.trans k7)).cut1 ((k03.trans k4).free0 nx)) vd (.inr ⟨fun j hj => jn j (by omega), rfl, rfl⟩)
end
end G

set_option Elab.async false
set_option linter.all false
set_option maxRecDepth 100000
set_option maxHeartbeats 1000000
namespace G
--#FAM KA
open PySem PySem.Spec PyProof.Rows L2
local macro_rules
  | `(tactic| walk_at "1") => `(tactic| first
    | with_reducible refine w_seq ?_
    | with_reducible refine w_asg ?_
    | with_reducible refine w_asgS ?_
    | with_reducible refine w_asf ?_
    | with_reducible refine w_drop ?_
    | with_reducible refine w_ret ?_
    | with_reducible refine w_if ?_
    | with_reducible refine w_not ?_
    | with_reducible refine w_and ?_
    | with_reducible refine w_or ?_
    | with_reducible refine w_test ?_
    | with_reducible refine w_tb ?_
    | with_reducible refine w_chain ?_
    | with_reducible refine w_op ?_
    | with_reducible refine w_un ?_
    | with_reducible refine w_andV ?_
    | with_reducible refine w_orV ?_
    | with_reducible refine w_notV ?_
    | with_reducible refine w_ifE ?_
    | with_reducible refine w_cons ?_
    | with_reducible refine w_nil ?_
    | with_reducible refine w_cb ?_
    | with_reducible refine w_cl ?_
    | with_reducible refine w_mt ?_
    | with_reducible refine w_fld ?_
    | with_reducible refine w_tupN ?_
    | with_reducible refine w_lstN ?_
    | with_reducible refine w_bm ?_
    | with_reducible refine w_bm0 ?_
    | with_reducible refine w_for ?_
    | with_reducible refine w_lc ?_
    | with_reducible refine w_iR1 ?_
    | with_reducible refine w_iR2 ?_
    | with_reducible refine w_iL ?_
    | with_reducible refine w_iT ?_
    | with_reducible refine w_iE ?_
    | with_reducible refine w_iZ ?_
    | with_reducible refine w_var (by with_unfolding_all rfl) ?_
    | with_reducible refine w_c ?_
    | with_reducible refine w_next ?_
    | with_reducible refine w_i0 ?_
    | with_reducible refine w_u1 ?_
    | with_reducible refine w_addI ?_
    | with_reducible refine w_eqI ?_
    | with_reducible refine w_eqS ?_
    | with_reducible refine w_eqB ?_
    | with_reducible refine w_neI ?_
    | with_reducible refine w_neS ?_
    | with_reducible refine w_neB ?_
    | with_reducible refine w_abs ?_
    | with_reducible refine w_intI ?_
    | with_reducible refine w_min2 ?_
    | with_reducible refine w_max2 ?_
    | with_reducible refine w_isN0 ?_
    | with_reducible refine w_isN1 ref_ne ?_
    | with_reducible refine w_isN1 int_ne ?_
    | with_reducible refine w_notN0 ?_
    | with_reducible refine w_notN1 ref_ne ?_
    | with_reducible refine w_notN1 int_ne ?_
    | with_reducible refine w_ex1 ?_
    | with_reducible refine w_n1 ?_
    | with_reducible refine w_n2 ?_
    | with_reducible refine w_tT ?_
    | with_reducible refine w_tF ?_
    | with_reducible refine w_nT ?_
    | with_reducible refine w_nF ?_
    | with_reducible refine w_rz ?_
    | with_reducible refine w_mkN ?_
    | with_reducible refine w_lrgN ?_
    | with_reducible refine w_rg1 ?_
    | with_reducible refine w_rg2 ?_
    | with_reducible refine w_sl ?_
    | with_reducible refine w_np ?_
    | with_reducible refine w_pt ?_
    | with_reducible refine w_tr ?_
    | with_reducible refine w_gn ?_
    | with_reducible refine w_yes ?_
    | with_reducible refine w_g1 ?_
    | with_reducible refine w_gc ?_
    | with_reducible refine w_gt (SqT.of upd_same) rfl ?_)
local macro_rules
  | `(tactic| walk_at "g") => `(tactic| repeat walk_at "1")
section
variable {K : PySem.W.Frag} {mg : Str → Option Value}
theorem w_isiTu {b : Addr} {H : Hp} {Q : VK} {x : V} {d : PyData} (h : Vl b H x d) (g : Q (.bl (isTu d)) H) : rIsi K [x, .ty "tuple"] H Q := by
  cases h with
  | non => exact ⟨_, _, _, _, false, rfl, .ty _, .base .non, kit_ty (by decide +kernel), g⟩
  | bl k => exact ⟨_, _, _, _, false, rfl, .ty _, .base (.bl k), kit_ty (by decide +kernel), g⟩
  | int i => exact ⟨_, _, _, _, false, rfl, .ty _, .base (.int i), kit_ty (by decide +kernel), g⟩
  | str s => exact ⟨_, _, _, _, false, rfl, .ty _, .base (.str s), kit_ty (by decide +kernel), g⟩
  | lst ne hs ha => exact ⟨_, _, _, _, false, rfl, .ty _, .base (.lst hs), kit_ty (by decide +kernel), g⟩
  | tup ne hs ha => exact ⟨_, _, _, _, true, rfl, .ty _, .base (.tup hs), kit_ty (by decide +kernel), g⟩
theorem w_isiSt {b : Addr} {H : Hp} {Q : VK} {x : V} {d : PyData} (h : Vl b H x d) (g : Q (.bl (isS d)) H) : rIsi K [x, .ty "str"] H Q := by
  cases h with
  | non => exact ⟨_, _, _, _, false, rfl, .ty _, .base .non, kit_ty (by decide +kernel), g⟩
  | bl k => exact ⟨_, _, _, _, false, rfl, .ty _, .base (.bl k), kit_ty (by decide +kernel), g⟩
  | int i => exact ⟨_, _, _, _, false, rfl, .ty _, .base (.int i), kit_ty (by decide +kernel), g⟩
  | str s => exact ⟨_, _, _, _, true, rfl, .ty _, .base (.str s), kit_ty (by decide +kernel), g⟩
  | lst ne hs ha => exact ⟨_, _, _, _, false, rfl, .ty _, .base (.lst hs), kit_ty (by decide +kernel), g⟩
  | tup ne hs ha => exact ⟨_, _, _, _, false, rfl, .ty _, .base (.tup hs), kit_ty (by decide +kernel), g⟩
def isBo : PyData → Bool
  | .bool _ => true
  | _ => false
def isIB : PyData → Bool
  | .bool _ => true
  | .int _ => true
  | _ => false
theorem w_isiIn {b : Addr} {H : Hp} {Q : VK} {x : V} {d : PyData} (h : Vl b H x d) (g : Q (.bl (isIB d)) H) : rIsi K [x, .ty "int"] H Q := by
  cases h with
  | non => exact ⟨_, _, _, _, false, rfl, .ty _, .base .non, kit_ty (by decide +kernel), g⟩
  | bl k => exact ⟨_, _, _, _, true, rfl, .ty _, .base (.bl k), kit_ty (by decide +kernel), g⟩
  | int i => exact ⟨_, _, _, _, true, rfl, .ty _, .base (.int i), kit_ty (by decide +kernel), g⟩
  | str s => exact ⟨_, _, _, _, false, rfl, .ty _, .base (.str s), kit_ty (by decide +kernel), g⟩
  | lst ne hs ha => exact ⟨_, _, _, _, false, rfl, .ty _, .base (.lst hs), kit_ty (by decide +kernel), g⟩
  | tup ne hs ha => exact ⟨_, _, _, _, false, rfl, .ty _, .base (.tup hs), kit_ty (by decide +kernel), g⟩
theorem w_isiBo {b : Addr} {H : Hp} {Q : VK} {x : V} {d : PyData} (h : Vl b H x d) (g : Q (.bl (isBo d)) H) : rIsi K [x, .ty "bool"] H Q := by
  cases h with
  | non => exact ⟨_, _, _, _, false, rfl, .ty _, .base .non, kit_ty (by decide +kernel), g⟩
  | bl k => exact ⟨_, _, _, _, true, rfl, .ty _, .base (.bl k), kit_ty (by decide +kernel), g⟩
  | int i => exact ⟨_, _, _, _, false, rfl, .ty _, .base (.int i), kit_ty (by decide +kernel), g⟩
  | str s => exact ⟨_, _, _, _, false, rfl, .ty _, .base (.str s), kit_ty (by decide +kernel), g⟩
  | lst ne hs ha => exact ⟨_, _, _, _, false, rfl, .ty _, .base (.lst hs), kit_ty (by decide +kernel), g⟩
  | tup ne hs ha => exact ⟨_, _, _, _, false, rfl, .ty _, .base (.tup hs), kit_ty (by decide +kernel), g⟩
theorem len_is_plain_integer (K : PySem.W.Frag) : ∀ vs H Q E, sp_is_plain_integer K vs H Q E → vs.length = (["value"] : List Str).length := by
  rintro vs H Q E ⟨_, _, _, rfl, _⟩
  rfl
theorem rd_is_plain_integer (T : Txt K mg) (vs : List V) (H : Hp) (Q : VK) (E : XK) (h : sp_is_plain_integer K vs H Q E) : t_is_plain_integer K E { nx := fun _ H' => Q .non H', rt := Q } (start ["value"] vs) H := by
  obtain ⟨b, x, d, rfl, hv, g⟩ := h
  unfold t_is_plain_integer
  walk_at "g"
  refine w_isiIn hv ?_
  have e : isI d = (isIB d && !isBo d) := by cases d <;> rfl
  rw [e] at g
  cases c : isIB d with
  | false =>
    rw [c] at g
    walk_at "g"
    exact g
  | true =>
    rw [c, Bool.true_and] at g
    walk_at "g"
    refine w_isiBo hv ?_
    walk_at "g"
    exact g
theorem RepE.k0 {H H1 : Hp} {size : Int} {log : List Int} {E : XK} (r : RepE K H size log E) (k : Kp [] H H1) : RepE K H1 size log E := r.kp k
theorem len_gap_certificate (K : PySem.W.Frag) : ∀ vs H Q E, sp_gap_certificate K vs H Q E → vs.length = (["size", "log", "gap"] : List Str).length := by
  rintro vs H Q E ⟨_, _, _, _, rfl, _⟩
  rfl
theorem rd_gap_certificate (T : Txt K mg) (vs : List V) (H : Hp) (Q : VK) (E : XK) (h : sp_gap_certificate K vs H Q E) : t_gap_certificate K E { nx := fun _ H' => Q .non H', rt := Q } (start ["size", "log", "gap", "right_writes", "left_writes", "state"] vs) H := by
  obtain ⟨c, size, gp, log, rfl, hs, hlen, re, gb, g⟩ := h
  unfold t_gap_certificate
  walk_at "g"
  refine w_ast ?_
  walk_at "g"
  refine ⟨c, size, log, rfl, hs, hlen, re, fun ok le t r l H1 k1 ht hr hl => ?_⟩
  refine ⟨t, _, rfl, SqT.of ht, rfl, ?_⟩
  have g := g ok le
  have gb := gb ok le
  walk_at "g"
  refine ⟨c, size, log, rfl, k1.sql (by simp) hs, fun _ _ p r2 l2 o H2 np nr nl no k2 a => ?_, (re.kp k1).op, (re.kp k1).sz⟩
  obtain ⟨n, rfl, n60⟩ := ok_nat ok
  rw [Int.toNat_natCast] at a g hr hl
  have sn : (runS (wholeS n) log).n = n := by rw [runS_n] <;> rfl
  obtain ⟨bl1, bl2, bl3⟩ := bkR_len n log
  walk_at "g"
  refine ⟨p, r2, l2, o, _, gp, rfl, a, fun gg => ?_, fun bad => ?_⟩
  · rw [sn] at gg
    obtain ⟨g1, g2⟩ := gg
    walk_at "g"
    refine w_ixL (SqL.of (k2.at0 hr)) (at_I g1 (by omega)) ?_
    walk_at "g"
    refine w_ixL (SqL.of (k2.at0 hl)) (at_I g1 (by omega)) ?_
    walk_at "g"
    refine ⟨sz_ok (Nat.le_of_ble_eq_true rfl), nw fun t3 H3 nt k3 ht3 => ?_⟩
    exact g g1 g2 t3 H3 ((k1.trans k2).trans k3) ht3
  · rw [sn] at bad
    exact gb bad H2 (k1.trans k2)
theorem VlA.len {b : Addr} {H : Hp} : ∀ {xs : List V} {ds : List PyData}, VlA b H xs ds → xs.length = ds.length
  | _, _, .nil => rfl
  | _, _, .cons h1 h2 => by rw [List.length_cons, List.length_cons, VlA.len h2]
theorem stOk (s : Sd) (g : Nat) : PyData.strOk (stT s g) = true := by
  unfold stT
  split <;> split <;> decide +kernel
theorem shP {s : Str} {i j : Int} (h : PyData.strOk s = true) : SeqAt.shaped (.tuple [.str s, .int i, .int j]) = true := by
  simp [h, SeqAt.shaped, PyData.canLay0, PyData.canLayAll0, PyData.depth, PyData.depthAll]
theorem dpP {H : Hp} {t : Addr} {s : Str} {i j : Int} (h : H t = some (.tup [.str s, .int i, .int j])) : Dp K H (.ref t) (.tuple [.str s, .int i, .int j]) := .tup (SqT.of h) (.cons (.str _) (.cons (.int _) (.cons (.int _) .nil)))
theorem len_is_gap_certificate (K : PySem.W.Frag) : ∀ vs H Q E, sp_is_gap_certificate K vs H Q E → vs.length = (["size", "log", "gap", "value"] : List Str).length := by
  rintro vs H Q E ⟨_, _, _, _, _, _, _, rfl, _⟩
  rfl
theorem rd_is_gap_certificate (T : Txt K mg) (vs : List V) (H : Hp) (Q : VK) (E : XK) (h : sp_is_gap_certificate K vs H Q E) : t_is_gap_certificate K E { nx := fun _ H' => Q .non H', rt := Q } (start ["size", "log", "gap", "value", "certificate", "state", "right_write", "left_write", "are_integers"] vs) H := by
  obtain ⟨c, b, size, gp, log, x, d, rfl, hs, hlen, hv, hd, re, gb, g⟩ := h
  unfold t_is_gap_certificate
  walk_at "g"
  refine ⟨c, size, gp, log, rfl, hs, hlen, re, gb, fun ok le g1 g2 t H1 k1 ht => ?_⟩
  have g := g ok le g1 g2
  have so := stOk (runS (wholeS size.toNat) log) gp.toNat
  unfold paper at ht
  generalize stT (runS (wholeS size.toNat) log) gp.toNat = st at *
  generalize gI (bkR size.toNat log).wr gp.toNat = wr at *
  generalize gI (bkR size.toNat log).wl gp.toNat = wl at *
  have hv1 := hv.k0 k1
  walk_at "g"
  refine w_isiTu hv1 ?_
  cases ct : isTu d with
  | false =>
    walk_at "g"
    rw [← cer_tu ct st wr wl]
    exact g H1 k1
  | true =>
    walk_at "g"
    have hv2 := hv1
    obtain ⟨ds, rfl⟩ : ∃ ds, d = .tuple ds := by
      cases d with
      | tuple ds => exact ⟨ds, rfl⟩
      | _ => cases ct
    cases hv1 with
    | @tup ax xs ds ne hx ha =>
      refine w_lenT (SqT.of hx) ?_
      have lx := ha.len
      walk_at "g"
      by_cases l3 : ds.length = 3
      · match ds, l3 with
        | [da, db, dc], _ =>
          cases ha with
          | @cons va _ _ _ h1 ha =>
            cases ha with
            | @cons vb _ _ _ h2 ha =>
              cases ha with
              | @cons vc _ _ _ h3 ha =>
                cases ha
                refine w_iteN (fun cc => absurd rfl cc) (fun _ => ?_)
                walk_at "g"
                refine w_ast ?_
                walk_at "g"
                refine ⟨ax, _, rfl, SqT.of hx, rfl, ?_⟩
                rw [cer_of] at g
                walk_at "g"
                refine ⟨b, vb, db, rfl, h2, ?_⟩
                have fin : ∀ k : Bool, k = (isI db && isI dc) → tRet (tAndV (tCB (rIsi K) (tCons (tVar 5) (tCons (tC (.ty "str")) (tNil)))) (tAndV (tVar 8) (tOp (rEqA K) (tVar 3) (tVar 4)))) { nx := fun _ H' => Q .non H', rt := Q } [some (.int size), some (.ref c), some (.int gp), some (.ref ax), some (.ref t), some va, some vb, some vc, some (.bl k)] H1 := by
                  intro k ek
                  rw [← ek] at g
                  walk_at "g"
                  refine w_isiSt h1 ?_
                  cases cs : isS da with
                  | false =>
                    rw [cs] at g
                    walk_at "g"
                    exact g H1 k1
                  | true =>
                    rw [cs] at g
                    cases k with
                    | false =>
                      walk_at "g"
                      exact g H1 k1
                    | true =>
                      walk_at "g"
                      refine w_eqD (Vl.dp _ _ hv2) (dpP ht) hd (shP so) ?_
                      exact g H1 k1
                cases c2 : isI db with
                | false =>
                  rw [c2] at fin
                  refine w_ex1 (w_tF ?_)
                  exact fin false rfl
                | true =>
                  rw [c2] at fin
                  refine w_ex1 (w_tT ?_)
                  walk_at "g"
                  refine ⟨b, vc, dc, rfl, h3, ?_⟩
                  exact fin _ (Bool.true_and _).symm
      · refine w_iteN (fun cc => ?_) (fun cc => absurd (by omega) l3)
        walk_at "g"
        rw [← cer_len l3 st wr wl]
        exact g H1 k1
end
end G

set_option Elab.async false
set_option linter.all false
set_option maxRecDepth 100000
set_option maxHeartbeats 1000000
namespace G
--#FAM KA
open PySem PySem.Spec PyProof.Rows L2
local macro_rules
  | `(tactic| walk_at "1") => `(tactic| first
    | with_reducible refine w_seq ?_
    | with_reducible refine w_asg ?_
    | with_reducible refine w_asgS ?_
    | with_reducible refine w_asf ?_
    | with_reducible refine w_drop ?_
    | with_reducible refine w_ret ?_
    | with_reducible refine w_if ?_
    | with_reducible refine w_not ?_
    | with_reducible refine w_and ?_
    | with_reducible refine w_or ?_
    | with_reducible refine w_test ?_
    | with_reducible refine w_tb ?_
    | with_reducible refine w_chain ?_
    | with_reducible refine w_op ?_
    | with_reducible refine w_un ?_
    | with_reducible refine w_andV ?_
    | with_reducible refine w_orV ?_
    | with_reducible refine w_notV ?_
    | with_reducible refine w_ifE ?_
    | with_reducible refine w_cons ?_
    | with_reducible refine w_nil ?_
    | with_reducible refine w_cb ?_
    | with_reducible refine w_cl ?_
    | with_reducible refine w_mt ?_
    | with_reducible refine w_fld ?_
    | with_reducible refine w_tupN ?_
    | with_reducible refine w_lstN ?_
    | with_reducible refine w_bm ?_
    | with_reducible refine w_bm0 ?_
    | with_reducible refine w_for ?_
    | with_reducible refine w_lc ?_
    | with_reducible refine w_iR1 ?_
    | with_reducible refine w_iR2 ?_
    | with_reducible refine w_iL ?_
    | with_reducible refine w_iT ?_
    | with_reducible refine w_iE ?_
    | with_reducible refine w_iZ ?_
    | with_reducible refine w_var (by with_unfolding_all rfl) ?_
    | with_reducible refine w_c ?_
    | with_reducible refine w_next ?_
    | with_reducible refine w_i0 ?_
    | with_reducible refine w_u1 ?_
    | with_reducible refine w_addI ?_
    | with_reducible refine w_eqI ?_
    | with_reducible refine w_eqS ?_
    | with_reducible refine w_eqB ?_
    | with_reducible refine w_neI ?_
    | with_reducible refine w_neS ?_
    | with_reducible refine w_neB ?_
    | with_reducible refine w_abs ?_
    | with_reducible refine w_intI ?_
    | with_reducible refine w_min2 ?_
    | with_reducible refine w_max2 ?_
    | with_reducible refine w_isN0 ?_
    | with_reducible refine w_isN1 ref_ne ?_
    | with_reducible refine w_isN1 int_ne ?_
    | with_reducible refine w_notN0 ?_
    | with_reducible refine w_notN1 ref_ne ?_
    | with_reducible refine w_notN1 int_ne ?_
    | with_reducible refine w_ex1 ?_
    | with_reducible refine w_n1 ?_
    | with_reducible refine w_n2 ?_
    | with_reducible refine w_tT ?_
    | with_reducible refine w_tF ?_
    | with_reducible refine w_nT ?_
    | with_reducible refine w_nF ?_
    | with_reducible refine w_rz ?_
    | with_reducible refine w_mkN ?_
    | with_reducible refine w_lrgN ?_
    | with_reducible refine w_rg1 ?_
    | with_reducible refine w_rg2 ?_
    | with_reducible refine w_sl ?_
    | with_reducible refine w_np ?_
    | with_reducible refine w_pt ?_
    | with_reducible refine w_tr ?_
    | with_reducible refine w_gn ?_
    | with_reducible refine w_yes ?_
    | with_reducible refine w_g1 ?_
    | with_reducible refine w_gc ?_
    | with_reducible refine w_gt (SqT.of upd_same) rfl ?_)
local macro_rules
  | `(tactic| walk_at "g") => `(tactic| repeat walk_at "1")
section
variable {K : PySem.W.Frag} {mg : Str → Option Value}
theorem w_vG {x g : Addr} {gone : List Int} {a b : V} {H : Hp} {R : V → Prop} (T : Txt K mg) (v : VdAt K H x g gone a b) (h : R (.ref g)) : ∃ p C dx fs u, V.ref x = .ref p ∧ H p = some (.ins C dx fs) ∧ Cls K C ∧ NoAttr K C "out_nodes" ∧ fs.lookup ("out_nodes" : Str) = some u ∧ R u := by
  obtain ⟨dx, e⟩ := v.ob
  exact ⟨x, _, dx, _, _, rfl, e, T.cl_Verdict, T.na_Verdict_out_nodes, vfl_g _ _ _ _, h⟩
theorem w_vA {x g : Addr} {gone : List Int} {a b : V} {H : Hp} {R : V → Prop} (T : Txt K mg) (v : VdAt K H x g gone a b) (h : R a) : ∃ p C dx fs u, V.ref x = .ref p ∧ H p = some (.ins C dx fs) ∧ Cls K C ∧ NoAttr K C "gap" ∧ fs.lookup ("gap" : Str) = some u ∧ R u := by
  obtain ⟨dx, e⟩ := v.ob
  exact ⟨x, _, dx, _, _, rfl, e, T.cl_Verdict, T.na_Verdict_gap, vfl_a _ _ _ _, h⟩
theorem w_vB {x g : Addr} {gone : List Int} {a b : V} {H : Hp} {R : V → Prop} (T : Txt K mg) (v : VdAt K H x g gone a b) (h : R b) : ∃ p C dx fs u, V.ref x = .ref p ∧ H p = some (.ins C dx fs) ∧ Cls K C ∧ NoAttr K C "index" ∧ fs.lookup ("index" : Str) = some u ∧ R u := by
  obtain ⟨dx, e⟩ := v.ob
  exact ⟨x, _, dx, _, _, rfl, e, T.cl_Verdict, T.na_Verdict_index, vfl_b _ _ _ _, h⟩
theorem w_vW {x g : Addr} {gone : List Int} {a b : V} {H : Hp} {R : V → Prop} (T : Txt K mg) (v : VdAt K H x g gone a b) (h : R (.bl (whB a gone))) : ∃ p C dx fs u, V.ref x = .ref p ∧ H p = some (.ins C dx fs) ∧ Cls K C ∧ NoAttr K C "whole" ∧ fs.lookup ("whole" : Str) = some u ∧ R u := by
  obtain ⟨dx, e⟩ := v.ob
  exact ⟨x, _, dx, _, _, rfl, e, T.cl_Verdict, T.na_Verdict_whole, vfl_w _ _ _ _, h⟩
theorem w_isiVd {H : Hp} {Q : VK} (T : Txt K mg) {a dx : Addr} {fs : List (Str × V)} (e : H a = some (.ins (He.ga K "Verdict") dx fs)) (g : Q (.bl true) H) : rIsi K [.ref a, .ref (He.ga K "Verdict")] H Q :=
  ⟨_, _, .ref (He.ga K "Verdict"), .ref (He.ga K "Verdict"), true, rfl, .own _, .base (.ins e T.cl_Verdict T.ty_Verdict.1 T.ex_LinkError.gs T.ex_LinkError.tk T.ty_Verdict.2), by
    unfold PySem.W.kitOne
    rw [if_pos (by simp)], g⟩
theorem w_isiB {H : Hp} {Q : VK} {x : Bool} {t : String} {r : Bool} (h : kitB "bool" t = some r) (g : Q (.bl r) H) : rIsi K [.bl x, .ty t] H Q := ⟨_, _, _, _, r, rfl, .ty t, .base (.bl x), kit_ty h, g⟩
theorem w_isiS {H : Hp} {Q : VK} {x : Str} {t : String} {r : Bool} (h : kitB "str" t = some r) (g : Q (.bl r) H) : rIsi K [.str x, .ty t] H Q := ⟨_, _, _, _, r, rfl, .ty t, .base (.str x), kit_ty h, g⟩
theorem len__law_number_or_none (K : PySem.W.Frag) : ∀ vs H Q E, sp__law_number_or_none K vs H Q E → vs.length = (["told", "due"] : List Str).length := by
  rintro vs H Q E ⟨_, rfl, _⟩
  rfl
theorem rd__law_number_or_none (T : Txt K mg) (vs : List V) (H : Hp) (Q : VK) (E : XK) (h : sp__law_number_or_none K vs H Q E) : t__law_number_or_none K E { nx := fun _ H' => Q .non H', rt := Q } (start ["told", "due"] vs) H := by
  obtain ⟨v, rfl, iv, g⟩ := h
  unfold t__law_number_or_none
  rcases iv with rfl | ⟨i, rfl⟩
  · walk_at "g"
    exact g
  · walk_at "g"
    refine ⟨i, rfl, ?_⟩
    walk_at "g"
    rw [decide_eq_true rfl]
    exact g
theorem len__law_bears (K : PySem.W.Frag) : ∀ vs H Q E, sp__law_bears K vs H Q E → vs.length = (["told", "gone", "place", "k"] : List Str).length := by
  rintro vs H Q E ⟨_, _, _, _, _, _, rfl, _⟩
  rfl
theorem rd__law_bears (T : Txt K mg) (vs : List V) (H : Hp) (Q : VK) (E : XK) (h : sp__law_bears K vs H Q E) : t__law_bears K E { nx := fun _ H' => Q .non H', rt := Q } (start ["told", "gone", "place", "k"] vs) H := by
  obtain ⟨x, gg, c, gone, v, w, rfl, vd, hc, hl, iv, iw, g⟩ := h
  unfold t__law_bears
  obtain ⟨dx, ob⟩ := vd.ob
  walk_at "g"
  refine w_isiVd T ob ?_
  walk_at "g"
  refine w_vG T vd ?_
  walk_at "g"
  refine ⟨gg, c, gone, rfl, hl, vd.hg, hc, ?_⟩
  walk_at "g"
  refine w_vA T vd ?_
  walk_at "g"
  refine ⟨v, rfl, iv, ?_⟩
  walk_at "g"
  refine w_vB T vd ?_
  walk_at "g"
  refine ⟨w, rfl, iw, ?_⟩
  walk_at "g"
  refine w_vW T vd ?_
  walk_at "g"
  refine w_isiB (r := true) (by decide +kernel) ?_
  walk_at "g"
  refine w_vW T vd ?_
  rcases iv with rfl | ⟨i, rfl⟩
  · walk_at "g"
    refine w_lenL (SqL.of hc) ?_
    walk_at "g"
    rw [List.length_map]
    rw [decide_eq_true (show whB .non gone = decide ((gone.length : Int) = 0) from rfl)]
    exact g
  · walk_at "g"
    rw [decide_eq_true (show whB (.int i) gone = false from rfl)]
    exact g
theorem len__law_verdict_fits (K : PySem.W.Frag) : ∀ vs H Q E, sp__law_verdict_fits K vs H Q E → vs.length = (["told", "book"] : List Str).length := by
  rintro vs H Q E ⟨_, _, _, _, _, _, _, rfl, _⟩
  rfl
theorem rd__law_verdict_fits (T : Txt K mg) (vs : List V) (H : Hp) (Q : VK) (E : XK) (h : sp__law_verdict_fits K vs H Q E) : t__law_verdict_fits K E { nx := fun _ H' => Q .non H', rt := Q } (start ["told", "book", "place"] vs) H := by
  obtain ⟨x, gg, q, n, log, v, w, rfl, hn, vd, vf, ⟨p, d, go, hq, ⟨ps, hp, lp, pp⟩, hd, hg⟩, g⟩ := h
  unfold t__law_verdict_fits
  have lo := outN_len n (runS (wholeS n) log).O
  have iv := vf.isn
  obtain ⟨bl1, bl2, bl3⟩ := bkR_len n log
  walk_at "g"
  refine w_ixL (SqL.of hq) at_0 ?_
  walk_at "g"
  refine w_lenL (SqL.of hp) ?_
  walk_at "g"
  refine w_r1 (by omega) ?_
  refine lp_rng0 (fun i σ H' => (∃ x2, σ = [some (.ref x), some (.ref q), x2]) ∧ H' = H ∧ ∀ j, j < i → stT (runS (wholeS n) log) j = "joined") ⟨⟨_, rfl⟩, rfl, fun j hj => absurd hj (Nat.not_lt_zero _)⟩ ?_ ?_
  · rintro i σ' H' hi ⟨⟨x2, rfl⟩, e, jn⟩
    subst H'
    obtain ⟨t, h1, h2⟩ := pp i (by omega)
    walk_at "g"
    refine w_ixL (SqL.of hq) at_0 ?_
    walk_at "g"
    refine w_ixL (SqL.of hp) (v := .ref t) (by rw [atI_pos (by omega) (by omega)]; rw [Int.toNat_natCast]; exact h1) ?_
    walk_at "g"
    refine w_ixT (SqT.of h2) at_0 ?_
    walk_at "g"
    refine w_iteN (fun cj => ?_) (fun cj => ?_)
    · walk_at "g"
      refine w_ixL (SqL.of hq) (i := 2) (v := .ref go) rfl ?_
      walk_at "g"
      refine w_ixL (SqL.of hq) (i := 1) (v := .ref d) rfl ?_
      walk_at "g"
      refine w_ixL (SqL.of hd) (at_I (by omega) (by omega)) ?_
      walk_at "g"
      rw [Int.toNat_natCast]
      rcases vf with ⟨i', h3, h4, h5, rfl, rfl⟩ | ⟨h3, _, _⟩
      · have ei : i' = i := by
          rcases Nat.lt_trichotomy i i' with z | z | z
          · exact absurd (h4 i z) cj
          · exact z.symm
          · exact absurd (jn i' z) h5
        subst ei
        exact ⟨x, gg, go, outS n log, _, _, rfl, vd, hg, by unfold outS; omega, iv.1, iv.2, g⟩
      · exact absurd (h3 i (by omega)) cj
    · walk_at "g"
      refine ⟨⟨_, rfl⟩, rfl, fun j hj => ?_⟩
      by_cases e : j < i
      · exact jn j e
      · rw [show j = i by omega]
        exact cj
  · rintro σ' H' ⟨⟨x2, rfl⟩, e, jn⟩
    subst H'
    walk_at "g"
    refine w_ixL (SqL.of hq) (i := 2) (v := .ref go) rfl ?_
    walk_at "g"
    rcases vf with ⟨i', h3, h4, h5, rfl, rfl⟩ | ⟨h3, rfl, rfl⟩
    · exact absurd (jn i' (by omega)) h5
    · exact ⟨x, gg, go, outS n log, _, _, rfl, vd, hg, by unfold outS; omega, iv.1, iv.2, g⟩
theorem len__law_made (K : PySem.W.Frag) : ∀ vs H Q E, sp__law_made K vs H Q E → vs.length = (["gone", "place", "k"] : List Str).length := by
  rintro vs H Q E ⟨_, _, _, _, rfl, _⟩
  rfl
theorem rd__law_made (T : Txt K mg) (vs : List V) (H : Hp) (Q : VK) (E : XK) (h : sp__law_made K vs H Q E) : t__law_made K E { nx := fun _ H' => Q .non H', rt := Q } (start ["gone", "place", "k", "given", "made"] vs) H := by
  obtain ⟨c, gone, v, w, rfl, hc, hl, iv, iw, g⟩ := h
  unfold t__law_made
  walk_at "g"
  refine w_listLN (SqL.of hc) fun l H1 nl k1 h1 => ?_
  walk_at "g"
  refine mk fun x dx H2 nx hx k2 => ?_
  have xl : x ≠ l := (ne_of_none h1 nx).symm
  refine ⟨x, l, dx, v, w, gone, rfl, hx, xl, SqL.of (k2.at0 h1), by omega, iv, fun gg H3 ng k3 vd => ⟨rfl, ?_⟩⟩
  walk_at "g"
  have h3 := k3.at1 (Ne.symm xl) (k2.at0 h1)
  have k03 : Kp [] H H3 := ((k1.trans k2).all.trans k3).cut1 (k1.free0 nx)
  refine ⟨w_ty (SqL.of h3), ?_⟩
  walk_at "g"
  refine w_apT h3 (sz_lt (by rw [List.length_map]; omega)) fun H4 k4 h4 => ?_
  walk_at "g"
  have lg : gg ≠ l := (ne_of_none (k2.at0 h1) ng).symm
  have vd4 := vd.kp k4 (by simpa using xl) (by simpa using lg)
  have k04 : Kp [] H H4 := (k03.all.trans k4).cut1 nl
  exact ⟨x, gg, c, gone, v, w, rfl, vd4, k04.at0 hc, by omega, iv, iw, g H4 k04⟩
theorem len__law_is_paper (K : PySem.W.Frag) : ∀ vs H Q E, sp__law_is_paper K vs H Q E → vs.length = (["told", "due"] : List Str).length := by
  rintro vs H Q E ⟨_, _, _, _, _, rfl, _⟩
  rfl
theorem rd__law_is_paper (T : Txt K mg) (vs : List V) (H : Hp) (Q : VK) (E : XK) (h : sp__law_is_paper K vs H Q E) : t__law_is_paper K E { nx := fun _ H' => Q .non H', rt := Q } (start ["told", "due"] vs) H := by
  obtain ⟨t, u, s, i, j, rfl, ht, hu, g⟩ := h
  unfold t__law_is_paper
  walk_at "g"
  refine w_isiT (r := true) ht (by decide +kernel) ?_
  walk_at "g"
  refine w_lenT (SqT.of ht) ?_
  walk_at "g"
  refine w_iteN (fun cc => absurd rfl cc) (fun _ => ?_)
  walk_at "g"
  refine w_ixT (SqT.of ht) at_0 ?_
  walk_at "g"
  refine w_isiS (r := true) (by decide +kernel) ?_
  walk_at "g"
  refine w_ixT (SqT.of ht) (i := 1) (v := .int i) rfl ?_
  walk_at "g"
  refine ⟨i, rfl, ?_⟩
  walk_at "g"
  refine w_ixT (SqT.of ht) (i := 2) (v := .int j) rfl ?_
  walk_at "g"
  refine ⟨j, rfl, ?_⟩
  walk_at "g"
  refine w_ixT (SqT.of ht) at_0 ?_
  walk_at "g"
  refine w_ixT (SqT.of hu) at_0 ?_
  walk_at "g"
  rw [decide_eq_true rfl]
  walk_at "g"
  refine w_ixT (SqT.of ht) (i := 1) (v := .int i) rfl ?_
  walk_at "g"
  refine w_ixT (SqT.of hu) (i := 1) (v := .int i) rfl ?_
  walk_at "g"
  rw [decide_eq_true rfl]
  walk_at "g"
  refine w_ixT (SqT.of ht) (i := 2) (v := .int j) rfl ?_
  walk_at "g"
  refine w_ixT (SqT.of hu) (i := 2) (v := .int j) rfl ?_
  walk_at "g"
  rw [decide_eq_true rfl]
  exact g
theorem len__law_judged (K : PySem.W.Frag) : ∀ vs H Q E, sp__law_judged K vs H Q E → vs.length = (["size", "deeds", "place", "value", "due"] : List Str).length := by
  rintro vs H Q E ⟨_, _, _, _, _, _, _, _, rfl, _⟩
  rfl
theorem rd__law_judged (T : Txt K mg) (vs : List V) (H : Hp) (Q : VK) (E : XK) (h : sp__law_judged K vs H Q E) : t__law_judged K E { nx := fun _ H' => Q .non H', rt := Q } (start ["size", "deeds", "place", "value", "due", "told"] vs) H := by
  obtain ⟨n, gp, a, b, u, log, x, d, rfl, hn, hg, hs, hlen, le, hv, hd, hok, hu, g⟩ := h
  have ok : SizeOk (n : Int) := ⟨by omega, by omega⟩
  have tn : (n : Int).toNat = n := Int.toNat_natCast n
  unfold t__law_judged
  walk_at "g"
  refine ⟨a, b, n, gp, log, x, d, rfl, hs, hlen, hv, hd, le.rep hn, fun _ _ bad => absurd ⟨by omega, by omega⟩ bad, fun _ _ _ _ H1 k1 => ?_⟩
  rw [tn, Int.toNat_natCast, cer_okv hok]
  walk_at "g"
  refine w_isiB (r := true) (by decide +kernel) ?_
  walk_at "g"
  refine w_eqD (Vl.dp _ _ (hv.k0 k1)) (dpP (k1.at0 hu)) hd (shP (stOk _ _)) ?_
  walk_at "g"
  rw [decide_eq_true rfl]
  exact g H1 k1
end
end G

set_option Elab.async false
set_option linter.all false
set_option maxRecDepth 100000
set_option maxHeartbeats 1000000
namespace G
--#FAM KA
open PySem PySem.Spec PyProof.Rows L2
local macro_rules
  | `(tactic| walk_at "1") => `(tactic| first
    | with_reducible refine w_seq ?_
    | with_reducible refine w_asg ?_
    | with_reducible refine w_asgS ?_
    | with_reducible refine w_asf ?_
    | with_reducible refine w_drop ?_
    | with_reducible refine w_ret ?_
    | with_reducible refine w_if ?_
    | with_reducible refine w_not ?_
    | with_reducible refine w_and ?_
    | with_reducible refine w_or ?_
    | with_reducible refine w_test ?_
    | with_reducible refine w_tb ?_
    | with_reducible refine w_chain ?_
    | with_reducible refine w_op ?_
    | with_reducible refine w_un ?_
    | with_reducible refine w_andV ?_
    | with_reducible refine w_orV ?_
    | with_reducible refine w_notV ?_
    | with_reducible refine w_ifE ?_
    | with_reducible refine w_cons ?_
    | with_reducible refine w_nil ?_
    | with_reducible refine w_cb ?_
    | with_reducible refine w_cl ?_
    | with_reducible refine w_mt ?_
    | with_reducible refine w_fld ?_
    | with_reducible refine w_tupN ?_
    | with_reducible refine w_lstN ?_
    | with_reducible refine w_bm ?_
    | with_reducible refine w_bm0 ?_
    | with_reducible refine w_for ?_
    | with_reducible refine w_lc ?_
    | with_reducible refine w_iR1 ?_
    | with_reducible refine w_iR2 ?_
    | with_reducible refine w_iL ?_
    | with_reducible refine w_iT ?_
    | with_reducible refine w_iE ?_
    | with_reducible refine w_iZ ?_
    | with_reducible refine w_var (by with_unfolding_all rfl) ?_
    | with_reducible refine w_c ?_
    | with_reducible refine w_next ?_
    | with_reducible refine w_i0 ?_
    | with_reducible refine w_u1 ?_
    | with_reducible refine w_addI ?_
    | with_reducible refine w_eqI ?_
    | with_reducible refine w_eqS ?_
    | with_reducible refine w_eqB ?_
    | with_reducible refine w_neI ?_
    | with_reducible refine w_neS ?_
    | with_reducible refine w_neB ?_
    | with_reducible refine w_abs ?_
    | with_reducible refine w_intI ?_
    | with_reducible refine w_min2 ?_
    | with_reducible refine w_max2 ?_
    | with_reducible refine w_isN0 ?_
    | with_reducible refine w_isN1 ref_ne ?_
    | with_reducible refine w_isN1 int_ne ?_
    | with_reducible refine w_notN0 ?_
    | with_reducible refine w_notN1 ref_ne ?_
    | with_reducible refine w_notN1 int_ne ?_
    | with_reducible refine w_ex1 ?_
    | with_reducible refine w_n1 ?_
    | with_reducible refine w_n2 ?_
    | with_reducible refine w_tT ?_
    | with_reducible refine w_tF ?_
    | with_reducible refine w_nT ?_
    | with_reducible refine w_nF ?_
    | with_reducible refine w_rz ?_
    | with_reducible refine w_mkN ?_
    | with_reducible refine w_lrgN ?_
    | with_reducible refine w_rg1 ?_
    | with_reducible refine w_rg2 ?_
    | with_reducible refine w_sl ?_
    | with_reducible refine w_np ?_
    | with_reducible refine w_pt ?_
    | with_reducible refine w_tr ?_
    | with_reducible refine w_gn ?_
    | with_reducible refine w_yes ?_
    | with_reducible refine w_g1 ?_
    | with_reducible refine w_gc ?_
    | with_reducible refine w_gt (SqT.of upd_same) rfl ?_)
local macro_rules
  | `(tactic| walk_at "g") => `(tactic| repeat walk_at "1")
section
variable {K : PySem.W.Frag} {mg : Str → Option Value}
theorem vtup {b t : Addr} {H : Hp} {xs : List V} {ds : List PyData} (ne : t ≠ b) (h : H t = some (.tup xs)) (a : VlA b H xs ds) (sh : SeqAt.shaped (.tuple ds) = true) (ok : okv (.tuple ds) = true) : Val b H (.ref t) := ⟨_, .tup ne h a, sh, ok⟩
theorem vlst {b t : Addr} {H : Hp} {xs : List V} {ds : List PyData} (ne : t ≠ b) (h : H t = some (.lst xs)) (a : VlA b H xs ds) (sh : SeqAt.shaped (.list ds) = true) : Val b H (.ref t) := ⟨_, .lst ne h a, sh, rfl⟩
theorem v3 {b t : Addr} {H : Hp} {s : Str} {i j : Int} (ne : t ≠ b) (h : H t = some (.tup [.str s, .int i, .int j])) (so : PyData.strOk s = true) : Val b H (.ref t) := vtup ne h (.cons (.str _) (.cons (.int _) (.cons (.int _) .nil))) (shP so) rfl
theorem Val.k0 {b : Addr} {H H' : Hp} {v : V} (h : Val b H v) (k : Kp [] H H') : Val b H' v := h.k1 k.all
theorem all_app {P : V → Prop} {xs ys : List V} (h1 : ∀ x ∈ xs, P x) (h2 : ∀ x ∈ ys, P x) : ∀ x ∈ xs ++ ys, P x := fun x hx => (List.mem_append.mp hx).elim (h1 x) (h2 x)
theorem all_1 {P : V → Prop} {x : V} (h : P x) : ∀ y ∈ [x], P y := fun y hy => by
  rw [List.mem_singleton] at hy
  rw [hy]
  exact h
theorem all_c {P : V → Prop} {x : V} {xs : List V} (h : P x) (h2 : ∀ y ∈ xs, P y) : ∀ y ∈ x :: xs, P y := fun y hy => by
  rcases List.mem_cons.mp hy with rfl | m
  · exact h
  · exact h2 y m
theorem all_n {P : V → Prop} : ∀ y ∈ ([] : List V), P y := fun y hy => by cases hy
def wordsL : List Str := ["joined", "left", "right", "lost", "", "open"]
theorem words_ok : ∀ x ∈ wordsL, PyData.strOk x = true := by
  intro x hx
  have : wordsL.all PyData.strOk = true := by decide +kernel
  exact List.all_eq_true.mp this x hx
theorem log2_ok {i : Int} (h1 : -2000 ≤ i) (h2 : i ≤ 2000) : i.natAbs.log2 < 1920 := by
  by_cases h : i.natAbs = 0
  · rw [h]
    decide
  · have : i.natAbs.log2 < 11 := (Nat.log2_lt h).mpr (by omega)
    omega
theorem len__law_bents (K : PySem.W.Frag) : ∀ vs H Q E, sp__law_bents K vs H Q E → vs.length = (["due", "other", "by"] : List Str).length := by
  rintro vs H Q E ⟨_, _, _, _, _, _, _, _, _, _, rfl, _⟩
  rfl
theorem rd__law_bents (T : Txt K mg) (vs : List V) (H : Hp) (Q : VK) (E : XK) (h : sp__law_bents K vs H Q E) : t__law_bents K E { nx := fun _ H' => Q .non H', rt := Q } (start ["due", "other", "by", "state", "one", "two", "bents", "word"] vs) H := by
  obtain ⟨b, u, o, by_, i, j, i', j', s, s', rfl, hu, ho, so, so', i1, i2, ub, ob, hb, g⟩ := h
  unfold t__law_bents
  obtain ⟨bo, hb⟩ : ∃ bo, H b = some bo := by
    cases e : H b with
    | none => exact absurd e hb
    | some o => exact ⟨o, rfl⟩
  walk_at "g"
  refine w_ixT (SqT.of hu) at_0 ?_
  walk_at "g"
  refine w_ixT (SqT.of hu) (i := 1) (v := .int i) rfl ?_
  walk_at "g"
  refine w_ixT (SqT.of hu) (i := 2) (v := .int j) rfl ?_
  walk_at "g"
  refine ⟨sz_ok (Nat.le_of_ble_eq_true rfl), nw fun w H1 nw_ k1 hw => ?_⟩
  have hw' : H1 w = some (.lst (wordsL.map V.str)) := hw
  refine w_l1 (SqL.of hw') ?_
  refine cp_mutL (xs := wordsL.map V.str) (fun D k acc H' => Kp [] H1 H' ∧ acc.length = k ∧ ∀ x ∈ acc, ∃ t z, x = .ref t ∧ t ≠ D ∧ t ≠ b ∧ H' t = some (.tup [.str z, .int i, .int j]) ∧ PyData.strOk z = true) (sz_lt (Nat.le_of_ble_eq_true rfl))
    (fun D H' nD k hD => ⟨k, rfl, fun x hx => by cases hx⟩) (fun D k acc H' nD p => p.1.sql (by simp) (SqL.of hw')) ?_ ?_
  · rintro D k x acc H' S N nD hx hD ⟨kk, la, al⟩ yes no
    obtain ⟨z, hz, rfl⟩ := at_map hx
    walk_at "g"
    refine ⟨rfl, ?_⟩
    walk_at "g"
    refine ⟨sz_ok (Nat.le_of_ble_eq_true rfl), nw fun t H2 nt k2 ht => ?_⟩
    have tD : t ≠ D := (ne_of_none hD nt).symm
    have tb : t ≠ b := (ne_of_none (kk.at0 (k1.at0 hb)) nt).symm
    refine yes _ H2 (k2.at0 hD) fun H3 k3 h3 => ⟨((kk.trans k2).all.trans k3).cut1 nD, by rw [List.length_append, la] <;> rfl, ?_⟩
    refine all_app (fun x hx => ?_) (all_1 ⟨t, z, rfl, tD, tb, k3.at1 tD ht, words_ok z (List.mem_of_getElem? hz)⟩)
    obtain ⟨t', z', e1, e2, e3, e4, e5⟩ := al x hx
    exact ⟨t', z', e1, e2, e3, k3.at1 e2 (k2.at0 e4), e5⟩
  rintro D acc H2 nD hD _ ⟨k2, la, al⟩
  have la : acc.length = 6 := la
  have a2 : ∀ x ∈ acc, Val b H2 x := fun x hx => by
    obtain ⟨t, z, rfl, e2, e3, e4, e5⟩ := al x hx
    exact v3 e3 e4 e5
  have k02 := k1.trans k2
  clear al
  walk_at "g"
  refine ⟨sz_ok (Nat.le_of_ble_eq_true rfl), nw fun t3 H3 n3 k3 h3 => ?_⟩
  have v3_ : Val b H3 (.ref t3) := v3 (ne_of_none (k02.at0 hb) n3).symm h3 so
  have k03 := k02.trans k3
  walk_at "g"
  refine ⟨sz_ok (Nat.le_of_ble_eq_true rfl), nw fun t4 H4 n4 k4 h4 => ?_⟩
  have v4_ : Val b H4 (.ref t4) := v3 (ne_of_none (k03.at0 hb) n4).symm h4 so
  have k04 := k03.trans k4
  walk_at "g"
  refine ⟨sz_ok (Nat.le_of_ble_eq_true rfl), nw fun t5 H5 n5 k5 h5 => ?_⟩
  have v5_ : Val b H5 (.ref t5) := v3 (ne_of_none (k04.at0 hb) n5).symm h5 so
  have k05 := k04.trans k5
  walk_at "g"
  refine ⟨sz_ok (Nat.le_of_ble_eq_true rfl), nw fun l6 H6 n6 k6 h6 => ?_⟩
  have k06 := k05.trans k6
  walk_at "g"
  refine w_addLN (((k3.trans k4).trans (k5.trans k6)).at0 hD) h6 (sz_ok (by rw [la]; exact Nat.le_of_ble_eq_true rfl)) fun q7 H7 n7 k7 h7 => ?_
  have k07 := k06.trans k7
  have a7 : ∀ x ∈ acc ++ [.ref t3, .ref t4, .ref t5], Val b H7 x := all_app (fun x hx => (a2 x hx).k0 ((k3.trans k4).trans ((k5.trans k6).trans k7)))
    (all_c (v3_.k0 ((k4.trans k5).trans (k6.trans k7))) (all_c (v4_.k0 (k5.trans (k6.trans k7))) (all_1 (v5_.k0 (k6.trans k7)))))
  have l7 : (acc ++ [V.ref t3, .ref t4, .ref t5]).length = 9 := by rw [List.length_append, la] <;> rfl
  generalize acc ++ [V.ref t3, .ref t4, .ref t5] = acc7 at *
  walk_at "g"
  refine ⟨sz_ok (Nat.le_of_ble_eq_true rfl), nw fun t8 H8 n8 k8 h8 => ?_⟩
  have v8_ : Val b H8 (.ref t8) := v3 (ne_of_none (k07.at0 hb) n8).symm h8 so
  have k08 := k07.trans k8
  walk_at "g"
  refine ⟨sz_ok (Nat.le_of_ble_eq_true rfl), nw fun t9 H9 n9 k9 h9 => ?_⟩
  have v9_ : Val b H9 (.ref t9) := v3 (ne_of_none (k08.at0 hb) n9).symm h9 so
  have k09 := k08.trans k9
  walk_at "g"
  refine ⟨sz_ok (Nat.le_of_ble_eq_true rfl), nw fun ta Ha na ka ha => ?_⟩
  have va_ : Val b Ha (.ref ta) := vlst (ne_of_none (k09.at0 hb) na).symm ha (.cons (.str _) (.cons (.int _) (.cons (.int _) .nil))) (by simp [so, SeqAt.shaped, PyData.canLay0, PyData.canLayAll0, PyData.depth, PyData.depthAll])
  have k0a := k09.trans ka
  walk_at "g"
  refine ⟨sz_ok (Nat.le_of_ble_eq_true rfl), nw fun tb Hb nb kb hb_ => ?_⟩
  have vb_ : Val b Hb (.ref tb) := vtup (ne_of_none (k0a.at0 hb) nb).symm hb_ (.cons (.str _) (.cons (.int _) .nil)) (by simp [so, SeqAt.shaped, PyData.canLay0, PyData.canLayAll0, PyData.depth, PyData.depthAll]) rfl
  have k0b := k0a.trans kb
  have vo : Val b H (.ref o) := v3 ob ho so'
  walk_at "g"
  refine ⟨sz_ok (Nat.le_of_ble_eq_true rfl), nw fun lc Hc nc kc hc => ?_⟩
  have k0c := k0b.trans kc
  walk_at "g"
  have k7c : Kp [] H7 Hc := (k8.trans k9).trans ((ka.trans kb).trans kc)
  refine w_addLN (k7c.at0 h7) hc (sz_ok (by rw [l7]; exact Nat.le_of_ble_eq_true rfl)) fun qd Hd nd kd hd => ?_
  have k0d := k0c.trans kd
  have ad : ∀ x ∈ acc7 ++ [.ref t8, .ref t9, .ref o, .ref ta, .ref tb], Val b Hd x := all_app (fun x hx => (a7 x hx).k0 (k7c.trans kd))
    (all_c (v8_.k0 ((k9.trans ka).trans ((kb.trans kc).trans kd))) (all_c (v9_.k0 (ka.trans ((kb.trans kc).trans kd))) (all_c (vo.k0 k0d) (all_c (va_.k0 ((kb.trans kc).trans kd)) (all_1 (vb_.k0 (kc.trans kd)))))))
  have ld : (acc7 ++ [V.ref t8, .ref t9, .ref o, .ref ta, .ref tb]).length = 14 := by rw [List.length_append, l7] <;> rfl
  generalize acc7 ++ [V.ref t8, .ref t9, .ref o, .ref ta, .ref tb] = accd at *
  walk_at "g"
  refine ⟨sz_ok (Nat.le_of_ble_eq_true rfl), nw fun t10 H10 n10 k10 h10 => ?_⟩
  have v10_ : Val b H10 (.ref t10) := vtup (ne_of_none (k0d.at0 hb) n10).symm h10 (.cons (.str _) (.cons (.int _) (.cons (.int _) (.cons (.int _) .nil)))) (by simp [so, SeqAt.shaped, PyData.canLay0, PyData.canLayAll0, PyData.depth, PyData.depthAll]) rfl
  have k010 := k0d.trans k10
  walk_at "g"
  refine ⟨sz_ok (Nat.le_of_ble_eq_true rfl), nw fun t11 H11 n11 k11 h11 => ?_⟩
  have v11_ : Val b H11 (.ref t11) := vtup (ne_of_none (k010.at0 hb) n11).symm h11 (.cons (.int _) (.cons (.str _) (.cons (.int _) .nil))) (by simp [so, SeqAt.shaped, PyData.canLay0, PyData.canLayAll0, PyData.depth, PyData.depthAll]) rfl
  have k011 := k010.trans k11
  walk_at "g"
  refine w_str (log2_ok i1 i2) ?_
  walk_at "g"
  refine ⟨sz_ok (Nat.le_of_ble_eq_true rfl), nw fun t12 H12 n12 k12 h12 => ?_⟩
  have v12_ : Val b H12 (.ref t12) := vtup (ne_of_none (k011.at0 hb) n12).symm h12 (.cons (.str _) (.cons (.str _) (.cons (.int _) .nil))) (by simp [so, strOk_of, SeqAt.shaped, PyData.canLay0, PyData.canLayAll0, PyData.depth, PyData.depthAll]) rfl
  have k012 := k011.trans k12
  walk_at "g"
  refine ⟨sz_ok (Nat.le_of_ble_eq_true rfl), nw fun t13 H13 n13 k13 h13 => ?_⟩
  have v13_ : Val b H13 (.ref t13) := vtup (ne_of_none (k012.at0 hb) n13).symm h13 (.cons (.str _) (.cons (.int _) (.cons .non .nil))) (by simp [so, SeqAt.shaped, PyData.canLay0, PyData.canLayAll0, PyData.depth, PyData.depthAll]) rfl
  have k013 := k012.trans k13
  walk_at "g"
  refine ⟨sz_ok (Nat.le_of_ble_eq_true rfl), nw fun l14 H14 n14 k14 h14 => ?_⟩
  have k014 := k013.trans k14
  walk_at "g"
  have kdE : Kp [] Hd H14 := (k10.trans k11).trans ((k12.trans k13).trans k14)
  refine w_addLN (kdE.at0 hd) h14 (sz_ok (by rw [ld]; exact Nat.le_of_ble_eq_true rfl)) fun q15 H15 n15 k15 h15 => ?_
  have k015 := k014.trans k15
  have a15 : ∀ x ∈ accd ++ [.ref t10, .ref t11, .ref t12, .ref t13], Val b H15 x := all_app (fun x hx => (ad x hx).k0 (kdE.trans k15))
    (all_c (v10_.k0 ((k11.trans k12).trans ((k13.trans k14).trans k15))) (all_c (v11_.k0 (k12.trans ((k13.trans k14).trans k15))) (all_c (v12_.k0 ((k13.trans k14).trans k15)) (all_1 (v13_.k0 (k14.trans k15))))))
  have l15 : (accd ++ [V.ref t10, .ref t11, .ref t12, .ref t13]).length = 18 := by rw [List.length_append, ld] <;> rfl
  generalize accd ++ [V.ref t10, .ref t11, .ref t12, .ref t13] = acc15 at *
  walk_at "g"
  refine ⟨sz_ok (Nat.le_of_ble_eq_true rfl), nw fun t16 H16 n16 k16 h16 => ?_⟩
  have e16 : t16 ≠ b := (ne_of_none (k015.at0 hb) n16).symm
  have k016 := k015.trans k16
  walk_at "g"
  refine ⟨sz_ok (Nat.le_of_ble_eq_true rfl), nw fun t17 H17 n17 k17 h17 => ?_⟩
  have v17_ : Val b H17 (.ref t17) := vtup (ne_of_none (k016.at0 hb) n17).symm h17 (.cons (.tup e16 (k17.at0 h16) (.cons (.str _) (.cons (.int _) (.cons (.int _) .nil)))) .nil) (by simp [so, SeqAt.shaped, PyData.canLay0, PyData.canLayAll0, PyData.depth, PyData.depthAll]) rfl
  have k017 := k016.trans k17
  walk_at "g"
  refine ⟨sz_ok (Nat.le_of_ble_eq_true rfl), nw fun t18 H18 n18 k18 h18 => ?_⟩
  have e18 : t18 ≠ b := (ne_of_none (k017.at0 hb) n18).symm
  have k018 := k017.trans k18
  walk_at "g"
  refine ⟨sz_ok (Nat.le_of_ble_eq_true rfl), nw fun t19 H19 n19 k19 h19 => ?_⟩
  have v19_ : Val b H19 (.ref t19) := vtup (ne_of_none (k018.at0 hb) n19).symm h19 (.cons (.str _) (.cons (.tup e18 (k19.at0 h18) (.cons (.int _) (.cons (.int _) .nil))) .nil)) (by simp [so, SeqAt.shaped, PyData.canLay0, PyData.canLayAll0, PyData.depth, PyData.depthAll]) rfl
  have k019 := k018.trans k19
  walk_at "g"
  refine ⟨sz_ok (Nat.zero_le _), nw fun t20 H20 n20 k20 h20 => ?_⟩
  have v20_ : Val b H20 (.ref t20) := vtup (ne_of_none (k019.at0 hb) n20).symm h20 .nil (by simp [SeqAt.shaped, PyData.canLay0, PyData.canLayAll0, PyData.depth, PyData.depthAll]) rfl
  have k020 := k019.trans k20
  walk_at "g"
  refine ⟨sz_ok (Nat.le_of_ble_eq_true rfl), nw fun t21 H21 n21 k21 h21 => ?_⟩
  have v21_ : Val b H21 (.ref t21) := vlst (ne_of_none (k020.at0 hb) n21).symm h21 (.cons (.tup ob (k21.at0 (k020.at0 ho)) (.cons (.str _) (.cons (.int _) (.cons (.int _) .nil)))) .nil) (by simp [so', SeqAt.shaped, PyData.canLay0, PyData.canLayAll0, PyData.depth, PyData.depthAll])
  have k021 := k020.trans k21
  walk_at "g"
  refine ⟨sz_ok (Nat.le_of_ble_eq_true rfl), nw fun l22 H22 n22 k22 h22 => ?_⟩
  have k022 := k021.trans k22
  walk_at "g"
  have k15E : Kp [] H15 H22 := ((k16.trans k17).trans (k18.trans k19)).trans ((k20.trans k21).trans k22)
  refine w_addLN (k15E.at0 h15) h22 (sz_ok (by rw [l15]; exact Nat.le_of_ble_eq_true rfl)) fun q23 H23 n23 k23 h23 => ?_
  have k023 := k022.trans k23
  refine g q23 _ H23 (k022.free0 n23) k023 h23 (by rw [List.length_append, l15]; show 1 ≤ 18 + 8; omega) (by rw [List.length_append, l15]; show 18 + 8 ≤ 100; omega) ?_
  have vN : Val b H23 .non := ⟨_, .non, rfl, rfl⟩
  have vS : Val b H23 (.str s) := ⟨_, .str s, by simp [so, SeqAt.shaped, PyData.canLay0, PyData.depth], rfl⟩
  have vI : Val b H23 (.int i) := ⟨_, .int i, rfl, rfl⟩
  have vE : Val b H23 (.str "") := ⟨_, .str "", by decide +kernel, rfl⟩
  exact all_app (fun x hx => (a15 x hx).k0 (k15E.trans k23)) (all_c (v17_.k0 ((k18.trans k19).trans ((k20.trans k21).trans (k22.trans k23)))) (all_c (v19_.k0 ((k20.trans k21).trans (k22.trans k23))) (all_c vN (all_c vS (all_c vI (all_c (v20_.k0 (k21.trans (k22.trans k23))) (all_c vE (all_1 (v21_.k0 (k22.trans k23))))))))))
end
end G

set_option Elab.async false
set_option linter.all false
set_option maxRecDepth 100000
set_option maxHeartbeats 1000000
namespace G
--#FAM KA
open PySem PySem.Spec PyProof.Rows L2
local macro_rules
  | `(tactic| walk_at "1") => `(tactic| first
    | with_reducible refine w_seq ?_
    | with_reducible refine w_asg ?_
    | with_reducible refine w_asgS ?_
    | with_reducible refine w_asf ?_
    | with_reducible refine w_drop ?_
    | with_reducible refine w_ret ?_
    | with_reducible refine w_if ?_
    | with_reducible refine w_not ?_
    | with_reducible refine w_and ?_
    | with_reducible refine w_or ?_
    | with_reducible refine w_test ?_
    | with_reducible refine w_tb ?_
    | with_reducible refine w_chain ?_
    | with_reducible refine w_op ?_
    | with_reducible refine w_un ?_
    | with_reducible refine w_andV ?_
    | with_reducible refine w_orV ?_
    | with_reducible refine w_notV ?_
    | with_reducible refine w_ifE ?_
    | with_reducible refine w_cons ?_
    | with_reducible refine w_nil ?_
    | with_reducible refine w_cb ?_
    | with_reducible refine w_cl ?_
    | with_reducible refine w_mt ?_
    | with_reducible refine w_fld ?_
    | with_reducible refine w_tupN ?_
    | with_reducible refine w_lstN ?_
    | with_reducible refine w_bm ?_
    | with_reducible refine w_bm0 ?_
    | with_reducible refine w_for ?_
    | with_reducible refine w_lc ?_
    | with_reducible refine w_iR1 ?_
    | with_reducible refine w_iR2 ?_
    | with_reducible refine w_iL ?_
    | with_reducible refine w_iT ?_
    | with_reducible refine w_iE ?_
    | with_reducible refine w_iZ ?_
    | with_reducible refine w_var (by with_unfolding_all rfl) ?_
    | with_reducible refine w_c ?_
    | with_reducible refine w_next ?_
    | with_reducible refine w_i0 ?_
    | with_reducible refine w_u1 ?_
    | with_reducible refine w_addI ?_
    | with_reducible refine w_eqI ?_
    | with_reducible refine w_eqS ?_
    | with_reducible refine w_eqB ?_
    | with_reducible refine w_neI ?_
    | with_reducible refine w_neS ?_
    | with_reducible refine w_neB ?_
    | with_reducible refine w_abs ?_
    | with_reducible refine w_intI ?_
    | with_reducible refine w_min2 ?_
    | with_reducible refine w_max2 ?_
    | with_reducible refine w_isN0 ?_
    | with_reducible refine w_isN1 ref_ne ?_
    | with_reducible refine w_isN1 int_ne ?_
    | with_reducible refine w_notN0 ?_
    | with_reducible refine w_notN1 ref_ne ?_
    | with_reducible refine w_notN1 int_ne ?_
    | with_reducible refine w_ex1 ?_
    | with_reducible refine w_n1 ?_
    | with_reducible refine w_n2 ?_
    | with_reducible refine w_tT ?_
    | with_reducible refine w_tF ?_
    | with_reducible refine w_nT ?_
    | with_reducible refine w_nF ?_
    | with_reducible refine w_rz ?_
    | with_reducible refine w_mkN ?_
    | with_reducible refine w_lrgN ?_
    | with_reducible refine w_rg1 ?_
    | with_reducible refine w_rg2 ?_
    | with_reducible refine w_sl ?_
    | with_reducible refine w_np ?_
    | with_reducible refine w_pt ?_
    | with_reducible refine w_tr ?_
    | with_reducible refine w_gn ?_
    | with_reducible refine w_yes ?_
    | with_reducible refine w_g1 ?_
    | with_reducible refine w_gc ?_
    | with_reducible refine w_gt (SqT.of upd_same) rfl ?_)
local macro_rules
  | `(tactic| walk_at "g") => `(tactic| repeat walk_at "1")
section
variable {K : PySem.W.Frag} {mg : Str → Option Value}
theorem len__law_book (K : PySem.W.Frag) : ∀ vs H Q E, sp10__law_book K vs H Q E → vs.length = (["size", "deeds"] : List Str).length := by
  rintro vs H Q E ⟨_, _, _, rfl, _⟩
  rfl
theorem rd__law_book (T : Txt K mg) (vs : List V) (H : Hp) (Q : VK) (E : XK) (h : sp10__law_book K vs H Q E) : t__law_book K E { nx := fun _ H' => Q .non H', rt := Q } (start ["size", "deeds", "world", "by_right", "by_left", "settled", "k", "node", "low", "high", "before", "papers", "gone", "place"] vs) H := by
  obtain ⟨n, c, log, rfl, hn, hs, hlen, le, g⟩ := h
  unfold t__law_book
  walk_at "g"
  refine ⟨n, rfl, hn, fun w r l o H1 nw_ nr nl no k1 a1 => ?_⟩
  have rp : ∀ i : Nat, (List.replicate (i + 1) (-1 : Int)).map V.int = (List.replicate i (-1 : Int)).map V.int ++ [V.int (-1)] := fun i => by
    rw [List.replicate_succ', List.map_append] <;> rfl
  have e1 : ((n : Int) + 1).toNat = n + 1 := by omega
  walk_at "g"
  refine w_r1 (by omega) ?_
  refine cp_rng (fun i => (List.replicate i (-1)).map V.int) (fun i hi => sz_lt (by rw [List.length_map, List.length_replicate]; omega)) rfl (fun i H' S N hi k y _ => ?_) (fun br H2 nbr k2 hbr => ?_)
  · walk_at "g"
    refine ⟨rfl, ?_⟩
    walk_at "g"
    exact y _ _ (Kp.refl _ _) (rp i)
  rw [e1] at hbr
  walk_at "g"
  refine w_r1 (by omega) ?_
  refine cp_rng (fun i => (List.replicate i (-1)).map V.int) (fun i hi => sz_lt (by rw [List.length_map, List.length_replicate]; omega)) rfl (fun i H' S N hi k y _ => ?_) (fun bl H3 nbl k3 hbl => ?_)
  · walk_at "g"
    refine ⟨rfl, ?_⟩
    walk_at "g"
    exact y _ _ (Kp.refl _ _) (rp i)
  rw [e1] at hbl
  walk_at "g"
  refine w_r1 (by omega) ?_
  refine cp_rng (fun i => (List.replicate i (-1)).map V.int) (fun i hi => sz_lt (by rw [List.length_map, List.length_replicate]; omega)) rfl (fun i H' S N hi k y _ => ?_) (fun bd H4 nbd k4 hbd => ?_)
  · walk_at "g"
    refine ⟨rfl, ?_⟩
    walk_at "g"
    exact y _ _ (Kp.refl _ _) (rp i)
  rw [e1] at hbd
  walk_at "g"
  have k24 := (k2.trans k3).trans k4
  have k04 := k1.trans k24
  refine w_lenL (k04.sql (by simp) hs) ?_
  walk_at "g"
  rw [List.length_map]
  refine w_r1 (by omega) ?_
  have a4 := a1.k0 k24
  obtain ⟨L1, hL1, _, _⟩ := a1.hl
  -- apart
  have dbr : br ≠ w ∧ br ≠ r ∧ br ≠ l ∧ br ≠ o := ⟨(ne_of_none a1.ob nbr).symm, (ne_of_none a1.hr nbr).symm, (ne_of_none hL1 nbr).symm, (ne_of_none a1.ho nbr).symm⟩
  have dbl : bl ≠ w ∧ bl ≠ r ∧ bl ≠ l ∧ bl ≠ o := ⟨(ne_of_none (k2.at0 a1.ob) nbl).symm, (ne_of_none (k2.at0 a1.hr) nbl).symm, (ne_of_none (k2.at0 hL1) nbl).symm, (ne_of_none (k2.at0 a1.ho) nbl).symm⟩
  have dbd : bd ≠ w ∧ bd ≠ r ∧ bd ≠ l ∧ bd ≠ o := ⟨(ne_of_none (k3.at0 (k2.at0 a1.ob)) nbd).symm, (ne_of_none (k3.at0 (k2.at0 a1.hr)) nbd).symm, (ne_of_none (k3.at0 (k2.at0 hL1)) nbd).symm, (ne_of_none (k3.at0 (k2.at0 a1.ho)) nbd).symm⟩
  have d1 : br ≠ bl := ne_of_none hbr nbl
  have d2 : br ≠ bd := ne_of_none (k3.at0 hbr) nbd
  have d3 : bl ≠ bd := ne_of_none hbl nbd
  have fbr : H br = none := k1.free0 nbr
  have fbl : H bl = none := k1.free0 (k2.free0 nbl)
  have fbd : H bd = none := k1.free0 (k2.free0 (k3.free0 nbd))
  refine lp_rng0 (fun i σ H' => (∃ x6 x7 x8 x9 x10 x11 x12 x13, σ = [some (.int n), some (.ref c), some (.ref w), some (.ref br), some (.ref bl), some (.ref bd), x6, x7, x8, x9, x10, x11, x12, x13]) ∧ Kp [] H H' ∧
    LW H' w r l o (runS (wholeS n) (log.take i)) ∧ H' br = some (.lst ((bkR n (log.take i)).wr.map V.int)) ∧ H' bl = some (.lst ((bkR n (log.take i)).wl.map V.int)) ∧ H' bd = some (.lst ((bkR n (log.take i)).de.map V.int)))
    ⟨⟨_, _, _, _, _, _, _, _, rfl⟩, k04, a4, k4.at0 (k3.at0 hbr), k4.at0 hbl, hbd⟩ ?_ ?_
  · rintro i σ' H' hi ⟨⟨x6, x7, x8, x9, x10, x11, x12, x13, rfl⟩, k, a, hbr', hbl', hbd'⟩
    have li : i < log.length := by omega
    have hop : log[i]? = some log[i] := List.getElem?_eq_getElem li
    have eat := at_I (l := log) (i := (i : Int)) (by omega) (by omega)
    rw [Int.toNat_natCast, gI_of hop] at eat
    generalize log[i] = op at hop eat
    have hs' := k.sql (by simp) hs
    have io := le i op hop
    have wf := a.wf
    obtain ⟨t1, t2, t3, t4, t5⟩ := touch_bd wf io.1
    have io1 : IsOp n op := by
      have := io.1
      rwa [runS_n] at this
    have i2 : op.natAbs ≤ n := io1.2
    have t3 : hiN (runS (wholeS n) (log.take i)) op ≤ n := by rw [runS_n] at t3; exact t3
    have sn : (runS (wholeS n) (log.take i)).n = n := by rw [runS_n] <;> rfl
    have e : log.take (i + 1) = log.take i ++ [op] := take_snoc hop
    have ek : (bkR n (log.take i)).k = i := by rw [bkR_k, List.length_take]; omega
    have bs : bkR n (log.take (i + 1)) = bstep (bkR n (log.take i)) op := by rw [e, bkR_snoc]
    have es := runS_snoc (wholeS n) (log.take i) op
    have ebs := bkR_s n (log.take i)
    obtain ⟨bl1, bl2, bl3⟩ := bkR_len n (log.take i)
    generalize hS : runS (wholeS n) (log.take i) = s at *
    generalize hB : bkR n (log.take i) = b at *
    generalize hlo : lowN s op = lo at *
    generalize hhi : hiN s op = hh at *
    obtain ⟨L', hL, lL, eL⟩ := a.hl
    walk_at "g"
    refine w_ixL hs' eat ?_
    walk_at "g"
    rw [natAbs_if]
    refine w_ixL (SqL.of a.ob) (i := 2) (v := .ref l) rfl ?_
    walk_at "g"
    refine w_ixL (SqL.of hL) (at_I (by omega) (by rw [lL]; omega)) ?_
    rw [Int.toNat_natCast, eL _ io1.1, t4]
    walk_at "g"
    refine w_ixL (SqL.of a.ob) (i := 1) (v := .ref r) rfl ?_
    walk_at "g"
    refine w_ixL (SqL.of a.hr) (at_I (by omega) (by rw [wf.lR]; omega)) ?_
    rw [Int.toNat_natCast, t5]
    walk_at "g"
    rw [show (hh : Int) + 1 - 1 = (hh : Int) by omega]
    refine ⟨w, r, l, o, s, lo, rfl, a, by omega, ?_⟩
    walk_at "g"
    refine ⟨w, r, l, o, s, hh, rfl, a, by omega, ?_⟩
    walk_at "g"
    refine ⟨sz_ok (by show 2 ≤ 1000000; omega), nw fun z5 H5 nz5 k5 hz5 => ?_⟩
    walk_at "g"
    refine w_ixL (k5.sql (by simp) hs') eat ?_
    walk_at "g"
    have a5 := a.k0 k5
    refine ⟨w, r, l, o, s, op, rfl, a5, io.1, fun H7 k67 a7 => ?_⟩
    walk_at "g"
    have z5r : z5 ≠ r := (ne_of_none a.hr nz5).symm
    have z5l : z5 ≠ l := (ne_of_none hL nz5).symm
    have z5o : z5 ≠ o := (ne_of_none a.ho nz5).symm
    have hz57 : H7 z5 = _ := k67 _ _ (by simp [z5r, z5l, z5o]) hz5
    have hbr7 : H7 br = _ := k67 _ _ (by simp [dbr.2.1, dbr.2.2.1, dbr.2.2.2]) (k5.at0 hbr')
    have hbl7 : H7 bl = _ := k67 _ _ (by simp [dbl.2.1, dbl.2.2.1, dbl.2.2.2]) (k5.at0 hbl')
    have hbd7 : H7 bd = _ := k67 _ _ (by simp [dbd.2.1, dbd.2.2.1, dbd.2.2.2]) (k5.at0 hbd')
    have zb5 : z5 ≠ br ∧ z5 ≠ bl ∧ z5 ≠ bd := ⟨(ne_of_none hbr' nz5).symm, (ne_of_none hbl' nz5).symm, (ne_of_none hbd' nz5).symm⟩
    have k07 : Kp [] H H7 := ((k.trans k5).all.trans k67).cut (by simp [nr, nl, no])
    refine w_seT hbr7 (ixN_pos (by omega) (by rw [List.length_map, bl1]; omega)) fun H8 k8 hbr8 => ?_
    walk_at "g"
    refine w_seT (k8.at1 (Ne.symm d1) hbl7) (ixN_pos (by omega) (by rw [List.length_map, bl2]; omega)) fun H9 k9 hbl9 => ?_
    rw [Int.toNat_natCast, set_I] at hbr8 hbl9
    have hz59 := k9.at1 zb5.2.1 (k8.at1 zb5.1 hz57)
    have hbr9 := k9.at1 d1 hbr8
    have hbd9 := k9.at1 (Ne.symm d3) (k8.at1 (Ne.symm d2) hbd7)
    have k79 : Kp [br, bl] H7 H9 := (k8.mono (by simp)).trans (k9.mono (by simp))
    have a9 := a7.kp k79 (by simp [Ne.symm dbr.1, Ne.symm dbl.1]) (by simp [Ne.symm dbr.2.1, Ne.symm dbl.2.1]) (by simp [Ne.symm dbr.2.2.1, Ne.symm dbl.2.2.1]) (by simp [Ne.symm dbr.2.2.2, Ne.symm dbl.2.2.2])
    -- the last changes
    with_reducible refine w_seqK (fun H' => Kp [bd] H9 H' ∧ H' bd = some (.lst ((deS s (stepS s op) i b.de lo).map V.int))) (fun N hN => ?_) (fun Ha ⟨ka, hbda⟩ => ?_)
    · walk_at "g"
      refine w_ixL (SqL.of hz59) at_0 ?_
      walk_at "g"
      refine ⟨w, r, l, o, _, lo, rfl, a9, by rw [stepS_n]; omega, ?_⟩
      walk_at "g"
      refine w_iteN (fun cc => ?_) (fun cc => ?_)
      · walk_at "g"
        refine w_seT hbd9 (ixN_pos (by omega) (by rw [List.length_map, bl3]; omega)) fun Ha ka ha => ?_
        rw [Int.toNat_natCast, set_I] at ha
        exact hN _ ⟨ka, by rw [deS_ne cc]; exact ha⟩
      · walk_at "g"
        exact hN _ ⟨Kp.refl _ _, by rw [deS_eq cc]; exact hbd9⟩
    have hz5a := ka.at1 zb5.2.2 hz59
    have aa := a9.kp ka (by simp [Ne.symm dbd.1]) (by simp [Ne.symm dbd.2.1]) (by simp [Ne.symm dbd.2.2.1]) (by simp [Ne.symm dbd.2.2.2])
    have fin : ∀ Hb, Kp [bd] Ha Hb ∧ Hb bd = some (.lst ((deS s (stepS s op) i (deS s (stepS s op) i b.de lo) hh).map V.int)) → (∃ y6 y7 y8 y9 y10 y11 y12 y13, [some (.int n), some (.ref c), some (.ref w), some (.ref br), some (.ref bl), some (.ref bd), some (.int (i : Int)), some (.int (op.natAbs : Int)), some (.int (lo : Int)), some (.int (hh : Int)), some (.ref z5), x11, x12, x13] = [some (.int n), some (.ref c), some (.ref w), some (.ref br), some (.ref bl), some (.ref bd), y6, y7, y8, y9, y10, y11, y12, y13]) ∧ Kp [] H Hb ∧
        LW Hb w r l o (runS (wholeS n) (log.take (i + 1))) ∧ Hb br = some (.lst ((bkR n (log.take (i + 1))).wr.map V.int)) ∧ Hb bl = some (.lst ((bkR n (log.take (i + 1))).wl.map V.int)) ∧ Hb bd = some (.lst ((bkR n (log.take (i + 1))).de.map V.int)) := by
      rintro Hb ⟨kb, hbdb⟩
      rw [bs, e, es]
      unfold bstep
      dsimp only
      rw [ebs, ek, hlo, hhi]
      have kab : Kp [bd] H9 Hb := ka.trans kb
      have ab := aa.kp kb (by simp [Ne.symm dbd.1]) (by simp [Ne.symm dbd.2.1]) (by simp [Ne.symm dbd.2.2.1]) (by simp [Ne.symm dbd.2.2.2])
      have k0b : Kp [] H Hb := (k07.all.trans ((k79.mono (S' := [br, bl, bd]) (by simp)).trans (kab.mono (by simp)))).cut (by simp [fbr, fbl, fbd])
      exact ⟨⟨_, _, _, _, _, _, _, _, rfl⟩, k0b, ab, kab.at1 d2 hbr9, kab.at1 d3 hbl9, hbdb⟩
    walk_at "g"
    refine w_ixL (SqL.of hz5a) (i := 1) (v := .str (stT s hh)) rfl ?_
    walk_at "g"
    refine ⟨w, r, l, o, _, hh, rfl, aa, by rw [stepS_n]; omega, ?_⟩
    walk_at "g"
    refine w_iteN (fun cc => ?_) (fun cc => ?_)
    · walk_at "g"
      refine w_seT hbda (ixN_pos (by omega) (by rw [List.length_map, deS_len, bl3]; omega)) fun Hb kb hb => ?_
      rw [Int.toNat_natCast, set_I] at hb
      walk_at "g"
      exact fin _ ⟨kb, by rw [deS_ne cc]; exact hb⟩
    · walk_at "g"
      exact fin _ ⟨Kp.refl _ _, by rw [deS_eq cc]; exact hbda⟩
  · rintro σ' H' ⟨⟨x6, x7, x8, x9, x10, x11, x12, x13, rfl⟩, k, a, hbr', hbl', hbd'⟩
    rw [Int.toNat_natCast, List.take_length] at hbr' hbl' hbd' a
    obtain ⟨bl1, bl2, bl3⟩ := bkR_len n log
    have sn : (runS (wholeS n) log).n = n := by rw [runS_n] <;> rfl
    walk_at "g"
    refine w_r1 (by omega) ?_
    rw [e1]
    refine cp_mut (fun D i acc H2 => Kp [] H' H2 ∧ acc.length = i ∧ ∀ j, j < i → ∃ t, acc[j]? = some (.ref t) ∧ t ≠ D ∧ H2 t = some (.tup (paper n log j))) (sz_lt (by omega)) (fun D H2 nD k2 hD => ⟨k2, rfl, fun j hj => absurd hj (Nat.not_lt_zero _)⟩) ?_ ?_
    · rintro D i acc H2 S N nD hi hD ⟨k2, la, al⟩ yes no
      walk_at "g"
      refine ⟨rfl, ?_⟩
      walk_at "g"
      rw [Int.zero_add]
      have a2 := a.k0 k2
      refine ⟨w, r, l, o, _, i, rfl, a2, by omega, ?_⟩
      walk_at "g"
      refine w_ixL (SqL.of (k2.at0 hbr')) (at_I (by omega) (by omega)) ?_
      walk_at "g"
      refine w_ixL (SqL.of (k2.at0 hbl')) (at_I (by omega) (by omega)) ?_
      walk_at "g"
      rw [Int.toNat_natCast]
      refine ⟨sz_ok (Nat.le_of_ble_eq_true rfl), nw fun t H3 nt k3 ht => ?_⟩
      have tD : t ≠ D := (ne_of_none hD nt).symm
      refine yes _ H3 (k3.at0 hD) fun H4 k4 h4 => ⟨((k2.trans k3).all.trans k4).cut1 nD, by rw [List.length_append, la] <;> rfl, fun j hj => ?_⟩
      by_cases e : j < i
      · obtain ⟨t', h5, h6, h7⟩ := al j e
        exact ⟨t', by rw [List.getElem?_append_left (by omega)]; exact h5, h6, k4.at1 h6 (k3.at0 h7)⟩
      · have ej : j = i := by omega
        subst ej
        exact ⟨t, by rw [List.getElem?_append_right (by omega), la, Nat.sub_self] <;> rfl, tD, k4.at1 tD ht⟩
    · rintro D acc H2 nD hD _ ⟨k2, la, al⟩
      have pa : PapersAt H2 D n log := ⟨acc, hD, la, fun i hi => by
        obtain ⟨t, h5, h6, h7⟩ := al i (by omega)
        exact ⟨t, h5, h7⟩⟩
      walk_at "g"
      refine w_r2 (by omega) ?_
      rw [show ((n : Int) + 1 - 1).toNat = n by omega]
      have a2 := a.k0 k2
      refine cp_rng (fun i => (outN i (runS (wholeS n) log).O).map V.int) (fun i hi => sz_lt (by
        rw [List.length_map]
        have := outN_len i (runS (wholeS n) log).O
        omega)) rfl (fun i H3 S N hi k3 y no => ?_) (fun go H3 ngo k3 hgo => ?_)
      · have a3 := a2.k0 k3
        walk_at "g"
        refine ⟨rfl, ?_⟩
        walk_at "g"
        refine w_ixL (SqL.of a3.ob) (i := 3) (v := .ref o) rfl ?_
        walk_at "g"
        refine w_ixL (SqL.of a3.ho) (at_B (by omega) (by rw [a3.wf.lO, sn]; omega)) ?_
        walk_at "g"
        rw [show ((1 : Int) + (i : Int)).toNat = i + 1 by omega]
        refine w_iteB (fun c1 => ?_) (fun c1 => ?_)
        · walk_at "g"
          refine y _ _ (Kp.refl _ _) ?_
          unfold outN
          rw [List.range_succ, List.map_append, List.filter_append, List.map_append, List.map_append]
          congr 1
          show (([i + 1].filter fun v => gB _ v).map _).map _ = _
          rw [List.filter_cons_of_pos c1]
          show [V.int ((i + 1 : Nat) : Int)] = [V.int (1 + (i : Int))]
          rw [Int.add_comm] <;> rfl
        · refine no _ (Kp.refl _ _) ?_
          unfold outN
          rw [List.range_succ, List.map_append, List.filter_append, List.map_append, List.map_append]
          show _ ++ (([i + 1].filter fun v => gB _ v).map _).map _ = _
          rw [List.filter_cons_of_neg (by rw [c1]; exact Bool.false_ne_true)]
          exact List.append_nil _
      · walk_at "g"
        refine ⟨sz_ok (Nat.le_of_ble_eq_true rfl), nw fun q H4 nq k4 hq => ?_⟩
        have k24 := (k2.trans k3).trans k4
        exact g q H4 (k.trans k24) ⟨D, bd, go, hq, pa.k0 (k3.trans k4), k24.at0 hbd', k4.at0 hgo⟩
end
end G

set_option Elab.async false
set_option linter.all false
set_option maxRecDepth 100000
set_option maxHeartbeats 1000000
namespace G
--#FAM KA
open PySem PySem.Spec PyProof.Rows L2
local macro_rules
  | `(tactic| walk_at "1") => `(tactic| first
    | with_reducible refine w_seq ?_
    | with_reducible refine w_asg ?_
    | with_reducible refine w_asgS ?_
    | with_reducible refine w_asf ?_
    | with_reducible refine w_drop ?_
    | with_reducible refine w_ret ?_
    | with_reducible refine w_if ?_
    | with_reducible refine w_not ?_
    | with_reducible refine w_and ?_
    | with_reducible refine w_or ?_
    | with_reducible refine w_test ?_
    | with_reducible refine w_tb ?_
    | with_reducible refine w_chain ?_
    | with_reducible refine w_op ?_
    | with_reducible refine w_un ?_
    | with_reducible refine w_andV ?_
    | with_reducible refine w_orV ?_
    | with_reducible refine w_notV ?_
    | with_reducible refine w_ifE ?_
    | with_reducible refine w_cons ?_
    | with_reducible refine w_nil ?_
    | with_reducible refine w_cb ?_
    | with_reducible refine w_cl ?_
    | with_reducible refine w_mt ?_
    | with_reducible refine w_fld ?_
    | with_reducible refine w_tupN ?_
    | with_reducible refine w_lstN ?_
    | with_reducible refine w_bm ?_
    | with_reducible refine w_bm0 ?_
    | with_reducible refine w_for ?_
    | with_reducible refine w_lc ?_
    | with_reducible refine w_iR1 ?_
    | with_reducible refine w_iR2 ?_
    | with_reducible refine w_iL ?_
    | with_reducible refine w_iT ?_
    | with_reducible refine w_iE ?_
    | with_reducible refine w_iZ ?_
    | with_reducible refine w_var (by with_unfolding_all rfl) ?_
    | with_reducible refine w_c ?_
    | with_reducible refine w_next ?_
    | with_reducible refine w_i0 ?_
    | with_reducible refine w_u1 ?_
    | with_reducible refine w_addI ?_
    | with_reducible refine w_eqI ?_
    | with_reducible refine w_eqS ?_
    | with_reducible refine w_eqB ?_
    | with_reducible refine w_neI ?_
    | with_reducible refine w_neS ?_
    | with_reducible refine w_neB ?_
    | with_reducible refine w_abs ?_
    | with_reducible refine w_intI ?_
    | with_reducible refine w_min2 ?_
    | with_reducible refine w_max2 ?_
    | with_reducible refine w_isN0 ?_
    | with_reducible refine w_isN1 ref_ne ?_
    | with_reducible refine w_isN1 int_ne ?_
    | with_reducible refine w_notN0 ?_
    | with_reducible refine w_notN1 ref_ne ?_
    | with_reducible refine w_notN1 int_ne ?_
    | with_reducible refine w_ex1 ?_
    | with_reducible refine w_n1 ?_
    | with_reducible refine w_n2 ?_
    | with_reducible refine w_tT ?_
    | with_reducible refine w_tF ?_
    | with_reducible refine w_nT ?_
    | with_reducible refine w_nF ?_
    | with_reducible refine w_rz ?_
    | with_reducible refine w_mkN ?_
    | with_reducible refine w_lrgN ?_
    | with_reducible refine w_rg1 ?_
    | with_reducible refine w_rg2 ?_
    | with_reducible refine w_sl ?_
    | with_reducible refine w_np ?_
    | with_reducible refine w_pt ?_
    | with_reducible refine w_tr ?_
    | with_reducible refine w_gn ?_
    | with_reducible refine w_yes ?_
    | with_reducible refine w_g1 ?_
    | with_reducible refine w_gc ?_
    | with_reducible refine w_gt (SqT.of upd_same) rfl ?_)
local macro_rules
  | `(tactic| walk_at "g") => `(tactic| repeat walk_at "1")
section
variable {K : PySem.W.Frag} {mg : Str → Option Value}
theorem wr_bd (n : Nat) : ∀ log : List Int, (∀ x ∈ (bkR n log).wr, -1 ≤ x ∧ x ≤ log.length) ∧ (∀ x ∈ (bkR n log).wl, -1 ≤ x ∧ x ≤ log.length) := by
  intro log
  induction log using snoc_ind with
  | h0 =>
    constructor <;> intro x hx <;> have := List.eq_of_mem_replicate (show x ∈ List.replicate (n + 1) (-1 : Int) from hx) <;> subst this <;> exact ⟨by omega, by show (-1 : Int) ≤ 0; omega⟩
  | h1 l y ih =>
    rw [bkR_snoc]
    have ek := bkR_k n l
    constructor
    · intro x hx
      have hx : x ∈ (bkR n l).wr.set (lowN (bkR n l).s y) ((bkR n l).k : Int) := hx
      rw [List.length_append]
      have e1 : [y].length = 1 := rfl
      rcases List.mem_or_eq_of_mem_set hx with m | rfl
      · have := ih.1 x m
        omega
      · omega
    · intro x hx
      have hx : x ∈ (bkR n l).wl.set (hiN (bkR n l).s y) ((bkR n l).k : Int) := hx
      rw [List.length_append]
      have e1 : [y].length = 1 := rfl
      rcases List.mem_or_eq_of_mem_set hx with m | rfl
      · have := ih.2 x m
        omega
      · omega
theorem wr_at {n i : Nat} {log : List Int} (hi : i ≤ n) (hl : log.length ≤ 1000) : -2000 ≤ gI (bkR n log).wr i ∧ gI (bkR n log).wr i ≤ 2000 := by
  obtain ⟨b1, _, _⟩ := bkR_len n log
  have m : gI (bkR n log).wr i ∈ (bkR n log).wr := List.mem_of_getElem? (gI_at (by omega))
  have := (wr_bd n log).1 _ m
  omega
theorem Bag.tup {H : Hp} {b t : Addr} {xs : List V} (h : Bag H b) (e : H t = some (.tup xs)) : t ≠ b := by
  obtain ⟨c, m, t', hb⟩ := h
  exact ne_of e hb (by intro z; cases z)
theorem Bag.some {H : Hp} {b : Addr} (h : Bag H b) : H b ≠ none := by
  obtain ⟨c, m, t', hb⟩ := h
  rw [hb]
  intro z
  cases z
theorem vlP {H : Hp} {b t : Addr} {s : Str} {i j : Int} (ne : t ≠ b) (h : H t = .some (.tup [.str s, .int i, .int j])) : Vl b H (.ref t) (.tuple [.str s, .int i, .int j]) := .tup ne h (.cons (.str _) (.cons (.int _) (.cons (.int _) .nil)))
theorem len__law_papers_fit (K : PySem.W.Frag) : ∀ vs H Q E, sp__law_papers_fit K vs H Q E → vs.length = (["size", "deeds", "places", "papers", "bag"] : List Str).length := by
  rintro vs H Q E ⟨_, _, _, _, _, _, _, rfl, _⟩
  rfl
theorem rd__law_papers_fit (T : Txt K mg) (vs : List V) (H : Hp) (Q : VK) (E : XK) (h : sp__law_papers_fit K vs H Q E) : t__law_papers_fit K E { nx := fun _ H' => Q .non H', rt := Q } (start ["size", "deeds", "places", "papers", "bag", "far", "place", "due", "bents", "picked", "value", "at", "bent", "turn"] vs) H := by
  obtain ⟨n, a, c, p, b, log, gs, rfl, hn, ha, hlen, le, hc, gne, hg, hgl, pa, hb, ab, cb, pb, g⟩ := h
  unfold t__law_papers_fit
  have gpos : 0 < gs.length := by
    cases gs with
    | nil => exact absurd rfl gne
    | cons x xs => exact Nat.succ_pos _
  have ok : SizeOk (n : Int) := ⟨by omega, by omega⟩
  have tn : (n : Int).toNat = n := Int.toNat_natCast n
  walk_at "g"
  refine w_lenL (SqL.of hc) ?_
  walk_at "g"
  rw [List.length_map]
  refine ⟨b, _, rfl, by omega, by omega, hb, fun d H1 d1 d2 k1 b1 => ?_⟩
  walk_at "g"
  refine w_ixL (SqL.of (k1.at1 cb hc)) (at_I d1 (by omega)) ?_
  have hf := hg _ (List.mem_of_getElem? (gI_at (l := gs) (i := d.toNat) (by omega)))
  generalize gI gs d.toNat = f at hf ⊢
  obtain ⟨f, rfl⟩ : ∃ k : Nat, f = (k : Int) := ⟨f.toNat, by omega⟩
  walk_at "g"
  refine w_l1 (SqL.of (k1.at1 cb hc)) ?_
  refine lp_lst (xs := gs.map V.int) (fun i σ H' => (∃ x6 x7 x8 x9 x10 x11 x12 x13, σ = [some (.int n), some (.ref a), some (.ref c), some (.ref p), some (.ref b), some (.int (f : Int)), x6, x7, x8, x9, x10, x11, x12, x13]) ∧ Kp [b] H H' ∧ Bag H' b)
    ⟨⟨_, _, _, _, _, _, _, _, rfl⟩, k1, b1⟩ ?_ ?_ ?_
  · rintro i σ' H' hi ⟨_, k, _⟩
    exact SqL.of (k.at1 cb hc)
  · rintro i x σ' H' hx ⟨⟨x6, x7, x8, x9, x10, x11, x12, x13, rfl⟩, k, b'⟩
    obtain ⟨gp, hgp, rfl⟩ := at_map hx
    obtain ⟨gp1, gp2⟩ := hg gp (List.mem_of_getElem? hgp)
    obtain ⟨gn, rfl⟩ : ∃ k : Nat, gp = (k : Int) := ⟨gp.toNat, by omega⟩
    have gn2 : gn ≤ n := by omega
    have ha' := k.at1 ab ha
    obtain ⟨ps, hp, lp, pp⟩ := pa.k1 hb pb k
    obtain ⟨t, ht1, ht⟩ := pp gn gn2
    obtain ⟨tf, htf1, htf⟩ := pp f (by omega)
    obtain ⟨ts, hts1, hts⟩ := pp (n - f) (by omega)
    have tb := b'.tup ht
    have tfb := b'.tup htf
    have tsb := b'.tup hts
    have wb := wr_at gn2 hlen
    walk_at "g"
    refine w_ixL (SqL.of hp) (v := .ref t) (by rw [atI_pos (by omega) (by omega), Int.toNat_natCast]; exact ht1) ?_
    walk_at "g"
    refine ⟨a, n, gn, log, rfl, SqL.of ha', hlen, le.rep hn, fun _ _ bad => absurd ⟨by omega, by omega⟩ bad, fun _ _ _ _ t1 H2 k2 ht2 => ?_⟩
    rw [tn, Int.toNat_natCast] at ht2
    walk_at "g"
    refine ⟨t1, t, _, _, _, rfl, ht2, k2.at0 ht, ?_⟩
    walk_at "g"
    have v2 : Vl b H2 (.ref t) _ := vlP tb (k2.at0 ht)
    refine ⟨n, gn, a, b, t, log, .ref t, _, rfl, hn, gn2, SqL.of (k2.at0 ha'), hlen, le, v2, shP (stOk _ _), rfl, k2.at0 ht, fun H3 k3 => ?_⟩
    have k23 := k2.trans k3
    walk_at "g"
    refine w_ixL (SqL.of (k23.at0 hp)) (v := .ref tf) (by rw [atI_pos (by omega) (by omega), Int.toNat_natCast]; exact htf1) ?_
    walk_at "g"
    refine ⟨b, 4, rfl, by omega, by omega, b'.k0 k23, fun e H4 e1 e2 k4 b4 => ?_⟩
    walk_at "g"
    have ht4 := k4.at1 tb (k23.at0 ht)
    have htf4 := k4.at1 tfb (k23.at0 htf)
    refine ⟨b, t, tf, 1 + e, _, _, _, _, _, _, rfl, ht4, htf4, stOk _ _, stOk _ _, wb.1, wb.2, tb, tfb, b4.some, fun q xs H5 nq k5 hq l1 l2 val => ?_⟩
    have bq : b ≠ q := b4.ne nq
    have b5 := b4.k0 k5
    have k05 : Kp [b] H H5 := k.trans (k23.all.trans (k4.trans k5.all))
    walk_at "g"
    refine w_r1 (by omega) ?_
    refine cp_mut (fun D i acc H' => Kp [b] H5 H' ∧ Bag H' b ∧ ∀ x ∈ acc, x ∈ xs) (sz_lt (Nat.le_of_ble_eq_true rfl)) (fun D H' nD k hD => ⟨k.all, b5.k0 k, fun x hx => by cases hx⟩) ?_ ?_
    · rintro D j acc H6 S N nD hj hD ⟨k6, b6, al⟩ yes no
      have bD : b ≠ D := b5.ne nD
      have hq6 := k6.at1 (Ne.symm bq) hq
      walk_at "g"
      refine ⟨rfl, ?_⟩
      walk_at "g"
      refine w_lenL (SqL.of hq6) ?_
      walk_at "g"
      refine ⟨b, _, rfl, by omega, by omega, b6, fun e' H7 e1' e2' k7 b7 => ?_⟩
      walk_at "g"
      have le' : e'.toNat < xs.length := by omega
      refine w_ixL (SqL.of (k7.at1 (Ne.symm bq) hq6)) (v := xs[e'.toNat]) (by rw [atI_pos (by omega) (by omega)]; exact List.getElem?_eq_getElem le') ?_
      refine yes _ H7 (k7.at1 (Ne.symm bD) hD) fun H8 k8 h8 => ⟨(((k6.trans k7).mono (S' := [b, D]) (by simp)).trans (k8.mono (by simp))).cut (by simp [nD]), b7.k1 bD k8, all_app al (all_1 (List.getElem_mem le'))⟩
    rintro D acc H6 nD hD la ⟨k6, b6, al⟩
    have bD : b ≠ D := b5.ne nD
    have la : acc.length ≤ 2 := la
    have vacc : ∀ x ∈ acc, Val b H6 x := fun x hx => (val x (al x hx)).k1 k6
    have k06 := k05.trans k6
    have ha6 := k06.at1 ab ha
    have hp6 := k6.at1 (b5.ne nD |> fun _ => (show p ≠ b from pb)) (k5.at0 (k4.at1 pb (k23.at0 hp)))
    have ht6 := k6.at1 tb (k5.at0 ht4)
    have hts6 := k6.at1 tsb (k5.at0 (k4.at1 tsb (k23.at0 hts)))
    with_reducible refine w_seqV 9 (fun x H' => ∃ q' ys, x = .ref q' ∧ H' q' = some (.lst ys) ∧ ys.length ≤ 100 ∧ (∀ y ∈ ys, Val b H' y) ∧ Kp [] H6 H' ∧ q' ≠ b) (fun N hN => ?_) (fun x9 H7 ⟨q', ys, e9, hq', ly, vy, k7, qb⟩ => ?_)
    · walk_at "g"
      refine w_iteD (fun ce => ?_) (fun ce => ?_)
      · walk_at "g"
        refine w_ixL (SqL.of hp6) (v := .ref ts) (by rw [atI_pos (by omega) (by omega), show ((n : Int) - (f : Int)).toNat = n - f by omega]; exact hts1) ?_
        walk_at "g"
        refine ⟨b, t, ts, 1, _, _, _, _, _, _, rfl, ht6, hts6, stOk _ _, stOk _ _, wb.1, wb.2, tb, tsb, b6.some, fun q' ys H7 nq' k7 hq' m1 m2 val' => ?_⟩
        walk_at "g"
        exact hN _ H7 ⟨q', ys, rfl, hq', m2, val', k7, (b6.ne nq').symm⟩
      · walk_at "g"
        exact hN _ H6 ⟨D, acc, rfl, hD, by omega, vacc, Kp.refl _ _, Ne.symm bD⟩
    subst e9
    have b7 := b6.k0 k7
    walk_at "g"
    refine w_l1 (SqL.of hq') ?_
    refine lp_lst (xs := ys) (fun i σ H' => (∃ x10 x11 x12 x13, σ = [some (.int n), some (.ref a), some (.ref c), some (.ref p), some (.ref b), some (.int (f : Int)), some (.int (gn : Int)), some (.ref t), some (.ref q), some (.ref q'), x10, x11, x12, x13]) ∧ Kp [] H7 H') ⟨⟨_, _, _, _, rfl⟩, Kp.refl _ _⟩ ?_ ?_ ?_
    · rintro i σ' H8 hi ⟨_, k8⟩
      exact SqL.of (k8.at0 hq')
    · rintro i x σ' H8 hx ⟨⟨x10, x11, x12, x13, rfl⟩, k8⟩
      obtain ⟨dx, w1, w2, w3⟩ := ((vy x (List.mem_of_getElem? hx)).k0 k8).ex
      have k78 := k7.trans k8
      walk_at "g"
      refine ⟨n, gn, a, b, t, log, x, dx, rfl, hn, gn2, SqL.of (k78.at0 ha6), hlen, le, w1, w2, w3, k78.at0 ht6, fun H9 k9 => ?_⟩
      walk_at "g"
      exact ⟨⟨_, _, _, _, rfl⟩, k8.trans k9⟩
    · rintro σ' H8 ⟨⟨x10, x11, x12, x13, rfl⟩, k8⟩
      have k78 := k7.trans k8
      have ha8 := k78.at0 ha6
      have ht8 := k78.at0 ht6
      have b8 := b7.k0 k8
      walk_at "g"
      refine w_r2 (by omega) ?_
      rw [show ((3 : Int) - 1).toNat = 2 by decide]
      refine lp_rng (n := 2) (fun j σ H' => (∃ x11 x12, σ = [some (.int n), some (.ref a), some (.ref c), some (.ref p), some (.ref b), some (.int (f : Int)), some (.int (gn : Int)), some (.ref t), some (.ref q), some (.ref q'), x10, x11, x12, x13]) ∧ Kp [] H8 H') ⟨⟨_, _, rfl⟩, Kp.refl _ _⟩ ?_ ?_
      · rintro j σ' H9 hj ⟨⟨x11, x12, rfl⟩, k9⟩
        have ht9 := k9.at0 ht8
        have ha9 := k9.at0 ha8
        have hj' : j = 0 ∨ j = 1 := by omega
        have fin : ∀ (at_ : Int) (l : Addr) (k : Bool) (u : Int) (du : PyData) (xs' : List V) (H' : Hp), Kp [] H9 H' → (at_ = 1 ∧ u = gI (bkR n log).wr gn ∧ xs' = [.str (stT (runS (wholeS n) log) gn), .bl k, .int (gI (bkR n log).wl gn)] ∨ at_ = 2 ∧ u = gI (bkR n log).wl gn ∧ xs' = [.str (stT (runS (wholeS n) log) gn), .int (gI (bkR n log).wr gn), .bl k]) → H' l = some (.lst xs') →
            tIfS (tAnd (tTest (tOp (rIn K false) (tOp (rIx K) (tVar 7) (tVar 11)) (tLst (tCons (tC (.int 0)) (tCons (tC (.int 1)) (tNil)))))) (tTest (tOp (rIsB true) (tCl (sp_is_gap_certificate K) (fun _ => E) (tCons (tVar 0) (tCons (tCB (rListA K) (tCons (tVar 1) (tNil))) (tCons (tVar 6) (tCons (tCB (rTupA K) (tCons (tVar 12) (tNil))) (tNil)))))) (tC (.bl false))))) (tRet (tC (.bl false))) (tNext)
              { nx := fun σ H' => (∃ x11 x12, σ = [some (.int n), some (.ref a), some (.ref c), some (.ref p), some (.ref b), some (.int (f : Int)), some (.int (gn : Int)), some (.ref t), some (.ref q), some (.ref q'), x10, x11, x12, x13]) ∧ Kp [] H8 H', rt := Q }
              [some (.int n), some (.ref a), some (.ref c), some (.ref p), some (.ref b), some (.int (f : Int)), some (.int (gn : Int)), some (.ref t), some (.ref q), some (.ref q'), x10, some (.int at_), some (.ref l), x13] H' := by
          intro at_ l kb u du xs' Ha ka hx' hl
          have hta := ka.at0 ht9
          walk_at "g"
          refine w_ixT (SqT.of hta) (i := at_) (v := .int u) (by rcases hx' with ⟨rfl, rfl, _⟩ | ⟨rfl, rfl, _⟩ <;> rfl) ?_
          walk_at "g"
          refine ⟨sz_ok (Nat.le_of_ble_eq_true rfl), nw fun z Hb nz kb' hz => ?_⟩
          refine w_inL (SqL.of hz) rfl rfl ?_
          refine w_ex1 ?_
          cases (if false = true then !inV (V.int u) [V.int 0, V.int 1] else inV (V.int u) [V.int 0, V.int 1]) with
          | false =>
            walk_at "g"
            exact ⟨⟨_, _, rfl⟩, (k9.trans ka).trans kb'⟩
          | true =>
            walk_at "g"
            refine w_listLN (SqL.of (kb'.at0 (ka.at0 ha9))) fun c2 Hc nc kc hc2 => ?_
            walk_at "g"
            refine w_tuA (SqL.of (kc.at0 (kb'.at0 hl))) fun t9 Hd nt kd ht9 => ?_
            walk_at "g"
            have kad := (ka.trans kb').trans (kc.trans kd)
            have bd := b8.k0 (k9.trans kad)
            rcases hx' with ⟨_, _, rfl⟩ | ⟨_, _, rfl⟩
            · refine ⟨c2, b, n, gn, log, .ref t9, .tuple [.str _, .bool kb, .int _], rfl, SqL.of (kd.at0 hc2), hlen, .tup (bd.tup ht9) ht9 (.cons (.str _) (.cons (.bl _) (.cons (.int _) .nil))), by simp [stOk, SeqAt.shaped, PyData.canLay0, PyData.canLayAll0, PyData.depth, PyData.depthAll], le.rep hn, fun _ _ bad => absurd ⟨by omega, by omega⟩ bad, fun _ _ _ _ He ke => ?_⟩
              walk_at "g"
              refine w_isnB ?_
              walk_at "g"
              rw [decide_eq_true (show cerB _ _ _ _ = false from rfl)]
              walk_at "g"
              exact ⟨⟨_, _, rfl⟩, (k9.trans kad).trans ke⟩
            · refine ⟨c2, b, n, gn, log, .ref t9, .tuple [.str _, .int _, .bool kb], rfl, SqL.of (kd.at0 hc2), hlen, .tup (bd.tup ht9) ht9 (.cons (.str _) (.cons (.int _) (.cons (.bl _) .nil))), by simp [stOk, SeqAt.shaped, PyData.canLay0, PyData.canLayAll0, PyData.depth, PyData.depthAll], le.rep hn, fun _ _ bad => absurd ⟨by omega, by omega⟩ bad, fun _ _ _ _ He ke => ?_⟩
              walk_at "g"
              refine w_isnB ?_
              walk_at "g"
              rw [decide_eq_true (show cerB _ _ _ _ = false from rfl)]
              walk_at "g"
              exact ⟨⟨_, _, rfl⟩, (k9.trans kad).trans ke⟩
        rcases hj' with rfl | rfl
        · rw [show (1 : Int) + ((0 : Nat) : Int) = 1 by decide]
          walk_at "g"
          refine w_listTN (SqT.of ht9) fun l Ha nl ka hl => ?_
          walk_at "g"
          refine w_ixT (SqT.of (ka.at0 ht9)) (i := 1) (v := .int (gI (bkR n log).wr gn)) rfl ?_
          walk_at "g"
          refine w_seT hl (ixN_pos (by omega) (by show (1 : Int) < ((3 : Nat) : Int); decide)) fun Hb kb hl2 => ?_
          walk_at "1"
          exact fin 1 l _ _ .none _ Hb ((ka.all.trans kb).cut1 nl) (.inl ⟨rfl, rfl, rfl⟩) hl2
        · rw [show (1 : Int) + ((1 : Nat) : Int) = 2 by decide]
          walk_at "g"
          refine w_listTN (SqT.of ht9) fun l Ha nl ka hl => ?_
          walk_at "g"
          refine w_ixT (SqT.of (ka.at0 ht9)) (i := 2) (v := .int (gI (bkR n log).wl gn)) rfl ?_
          walk_at "g"
          refine w_seT hl (ixN_pos (by omega) (by show (2 : Int) < ((3 : Nat) : Int); decide)) fun Hb kb hl2 => ?_
          walk_at "1"
          exact fin 2 l _ _ .none _ Hb ((ka.all.trans kb).cut1 nl) (.inr ⟨rfl, rfl, rfl⟩) hl2
      · rintro σ' H9 ⟨⟨x11, x12, rfl⟩, k9⟩
        walk_at "g"
        exact ⟨⟨_, _, _, _, _, _, _, _, rfl⟩, k06.trans ((k78.trans k9).all), b8.k0 k9⟩
  · rintro σ' H' ⟨⟨x6, x7, x8, x9, x10, x11, x12, x13, rfl⟩, k, b'⟩
    walk_at "g"
    exact g H' k b'
end
end G

set_option Elab.async false
set_option linter.all false
set_option maxRecDepth 100000
set_option maxHeartbeats 1000000
namespace G
--#FAM KA
open PySem PySem.Spec PyProof.Rows L2
local macro_rules
  | `(tactic| walk_at "1") => `(tactic| first
    | with_reducible refine w_seq ?_
    | with_reducible refine w_asg ?_
    | with_reducible refine w_asgS ?_
    | with_reducible refine w_asf ?_
    | with_reducible refine w_drop ?_
    | with_reducible refine w_ret ?_
    | with_reducible refine w_if ?_
    | with_reducible refine w_not ?_
    | with_reducible refine w_and ?_
    | with_reducible refine w_or ?_
    | with_reducible refine w_test ?_
    | with_reducible refine w_tb ?_
    | with_reducible refine w_chain ?_
    | with_reducible refine w_op ?_
    | with_reducible refine w_un ?_
    | with_reducible refine w_andV ?_
    | with_reducible refine w_orV ?_
    | with_reducible refine w_notV ?_
    | with_reducible refine w_ifE ?_
    | with_reducible refine w_cons ?_
    | with_reducible refine w_nil ?_
    | with_reducible refine w_cb ?_
    | with_reducible refine w_cl ?_
    | with_reducible refine w_mt ?_
    | with_reducible refine w_fld ?_
    | with_reducible refine w_tupN ?_
    | with_reducible refine w_lstN ?_
    | with_reducible refine w_bm ?_
    | with_reducible refine w_bm0 ?_
    | with_reducible refine w_for ?_
    | with_reducible refine w_lc ?_
    | with_reducible refine w_iR1 ?_
    | with_reducible refine w_iR2 ?_
    | with_reducible refine w_iL ?_
    | with_reducible refine w_iT ?_
    | with_reducible refine w_iE ?_
    | with_reducible refine w_iZ ?_
    | with_reducible refine w_var (by with_unfolding_all rfl) ?_
    | with_reducible refine w_c ?_
    | with_reducible refine w_next ?_
    | with_reducible refine w_i0 ?_
    | with_reducible refine w_u1 ?_
    | with_reducible refine w_addI ?_
    | with_reducible refine w_eqI ?_
    | with_reducible refine w_eqS ?_
    | with_reducible refine w_eqB ?_
    | with_reducible refine w_neI ?_
    | with_reducible refine w_neS ?_
    | with_reducible refine w_neB ?_
    | with_reducible refine w_abs ?_
    | with_reducible refine w_intI ?_
    | with_reducible refine w_min2 ?_
    | with_reducible refine w_max2 ?_
    | with_reducible refine w_isN0 ?_
    | with_reducible refine w_isN1 ref_ne ?_
    | with_reducible refine w_isN1 int_ne ?_
    | with_reducible refine w_notN0 ?_
    | with_reducible refine w_notN1 ref_ne ?_
    | with_reducible refine w_notN1 int_ne ?_
    | with_reducible refine w_ex1 ?_
    | with_reducible refine w_n1 ?_
    | with_reducible refine w_n2 ?_
    | with_reducible refine w_tT ?_
    | with_reducible refine w_tF ?_
    | with_reducible refine w_nT ?_
    | with_reducible refine w_nF ?_
    | with_reducible refine w_rz ?_
    | with_reducible refine w_mkN ?_
    | with_reducible refine w_lrgN ?_
    | with_reducible refine w_rg1 ?_
    | with_reducible refine w_rg2 ?_
    | with_reducible refine w_sl ?_
    | with_reducible refine w_np ?_
    | with_reducible refine w_pt ?_
    | with_reducible refine w_tr ?_
    | with_reducible refine w_gn ?_
    | with_reducible refine w_yes ?_
    | with_reducible refine w_g1 ?_
    | with_reducible refine w_gc ?_
    | with_reducible refine w_gt (SqT.of upd_same) rfl ?_)
local macro_rules
  | `(tactic| walk_at "g") => `(tactic| repeat walk_at "1")
section
variable {K : PySem.W.Frag} {mg : Str → Option Value}
theorem len__law_places (K : PySem.W.Frag) : ∀ vs H Q E, sp10__law_places K vs H Q E → vs.length = (["bag", "size", "deeds"] : List Str).length := by
  rintro vs H Q E ⟨_, _, _, _, rfl, _⟩
  rfl
theorem rd__law_places (T : Txt K mg) (vs : List V) (H : Hp) (Q : VK) (E : XK) (h : sp10__law_places K vs H Q E) : t__law_places K E { nx := fun _ H' => Q .non H', rt := Q } (start ["bag", "size", "deeds", "places", "turn", "node", "place"] vs) H := by
  obtain ⟨b, a, n, log, rfl, hn, hb, nab, ha, hlen, hops, g⟩ := h
  unfold t__law_places
  walk_at "g"
  refine w_iteD (fun c1 => ?_) (fun c1 => ?_)
  · walk_at "g"
    refine w_r1 (by omega) ?_
    refine cp_rng (fun i => (rgI 0 i).map V.int) (fun i hi => sz_lt (by rw [List.length_map, rgI_len]; omega)) rfl (fun i H' S N hi k y _ => ?_) (fun D H' nD k hD => ?_)
    · walk_at "g"
      refine ⟨rfl, ?_⟩
      walk_at "g"
      refine y _ _ (Kp.refl _ _) ?_
      unfold rgI
      rw [List.range_succ, List.map_append, List.map_append] <;> rfl
    · rw [show ((n : Int) + 1).toNat = n + 1 by omega] at hD
      refine g (rgI 0 (n + 1)) D H' nD (by unfold rgI; rw [List.range_succ_eq_map]; exact List.cons_ne_nil _ _) (by rw [rgI_len]; omega) (fun x hx => ?_) k.all (hb.k0 k) hD
      unfold rgI at hx
      obtain ⟨i, hi, rfl⟩ := List.mem_map.mp hx
      have := List.mem_range.mp hi
      omega
  · walk_at "g"
    refine ⟨b, _, rfl, by omega, by omega, hb, fun d H1 d1 d2 k1 b1 => ?_⟩
    walk_at "g"
    refine ⟨sz_ok (Nat.le_of_ble_eq_true rfl), nw fun q H2 nq k2 hq => ?_⟩
    walk_at "g"
    refine w_r1 (by omega) ?_
    have bq : b ≠ q := b1.ne nq
    have aq : a ≠ q := ne_of_none (k1.at1 nab ha) nq
    have fq : H q = none := k1.free (by simpa using Ne.symm bq) nq
    refine lp_rng0 (fun i σ H' => (∃ x4 x5 x6, σ = [some (.ref b), some (.int n), some (.ref a), some (.ref q), x4, x5, x6]) ∧ Kp [b, q] H H' ∧ Bag H' b ∧ ∃ gs : List Int, H' q = some (.lst (gs.map V.int)) ∧ gs.length ≤ 3 + i ∧ (∀ x ∈ gs, 0 ≤ x ∧ x ≤ n) ∧ gs ≠ [])
      ⟨⟨_, _, _, rfl⟩, (k1.mono (by simp)).trans k2.all, b1.k0 k2, [0, (n : Int), d], hq, by show 3 ≤ 3 + 0; omega, fun x hx => ?_, List.cons_ne_nil _ _⟩ ?_ ?_
    · simp at hx
      omega
    · rintro i σ' H3 hi ⟨⟨x4, x5, x6, rfl⟩, k3, b3, gs, hg, gl, gb, gne⟩
      have ha3 := k3 _ _ (by simp [nab, aq]) ha
      walk_at "g"
      refine w_lenL (SqL.of ha3) ?_
      walk_at "g"
      refine w_iteD (fun c2 => ?_) (fun c2 => ?_)
      · walk_at "g"
        refine w_lenL (SqL.of ha3) ?_
        walk_at "g"
        rw [List.length_map] at c2 ⊢
        refine ⟨b, _, rfl, by omega, by omega, b3, fun e H4 e1 e2 k4 b4 => ?_⟩
        walk_at "g"
        have ha4 := k4.at1 nab ha3
        refine w_ixL (SqL.of ha4) (at_I e1 (by omega)) ?_
        have mem : gI log e.toNat ∈ log := List.mem_of_getElem? (gI_at (by omega))
        have io := hops _ mem
        generalize gI log e.toNat = op at io ⊢
        obtain ⟨i1, i2⟩ := io
        walk_at "g"
        rw [natAbs_if]
        have hq4 := k4.at1 (Ne.symm bq) hg
        refine ⟨w_ty (SqL.of hq4), ?_⟩
        walk_at "g"
        refine ⟨b, 2, rfl, by omega, by omega, b4, fun f H5 f1 f2 k5 b5 => ?_⟩
        walk_at "g"
        have hq5 := k5.at1 (Ne.symm bq) hq4
        refine w_apT hq5 (sz_lt (by rw [List.length_map]; omega)) fun H6 k6 h6 => ?_
        walk_at "g"
        refine ⟨⟨_, _, _, rfl⟩, k3.trans ((k4.mono (by simp)).trans ((k5.mono (by simp)).trans (k6.mono (by simp)))), b5.k1 bq k6, gs ++ [(op.natAbs : Int) - f], by rw [h6, List.map_append] <;> rfl, by rw [List.length_append]; show _ + 1 ≤ _; omega, fun x hx => ?_, by simp⟩
        rcases List.mem_append.mp hx with m | m
        · exact gb x m
        · have ex : x = (op.natAbs : Int) - f := by simpa using m
          rw [ex]
          omega
      · walk_at "g"
        exact ⟨⟨_, _, _, rfl⟩, k3, b3, gs, hg, by omega, gb, gne⟩
    · rintro σ' H3 ⟨⟨x4, x5, x6, rfl⟩, k3, b3, gs, hg, gl, gb, gne⟩
      walk_at "g"
      exact g gs q H3 fq gne (by omega) gb (k3.cut (by simp [fq])) b3 hg
theorem len__law_agrees (K : PySem.W.Frag) : ∀ vs H Q E, sp10__law_agrees K vs H Q E → vs.length = (["size", "deeds", "places", "bag"] : List Str).length := by
  rintro vs H Q E ⟨_, _, _, _, _, _, rfl, _⟩
  rfl
theorem rd__law_agrees (T : Txt K mg) (vs : List V) (H : Hp) (Q : VK) (E : XK) (h : sp10__law_agrees K vs H Q E) : t__law_agrees K E { nx := fun _ H' => Q .non H', rt := Q } (start ["size", "deeds", "places", "bag", "book", "given"] vs) H := by
  obtain ⟨n, a, c, b, log, gs, rfl, hn, ha, hlen, le, hc, gne, hg, hgl, hb, ab, cb, g⟩ := h
  have ok : SizeOk (n : Int) := ⟨by omega, by omega⟩
  have tn : (n : Int).toNat = n := Int.toNat_natCast n
  unfold t__law_agrees
  walk_at "g"
  refine ⟨n, a, log, rfl, hn, SqL.of ha, hlen, le, fun q H1 k1 bk => ?_⟩
  obtain ⟨p, d, go, hq, pa, hd, hgo⟩ := bk
  walk_at "g"
  refine w_listLN (SqL.of (k1.at0 ha)) fun gv H2 ngv k2 hgv => ?_
  walk_at "g"
  have k02 := k1.trans k2
  refine ⟨gv, n, log, rfl, SqL.of hgv, hlen, le.rep hn, fun _ _ x gg v w H3 k3 vd vf => ?_⟩
  rw [tn] at vd vf
  walk_at "g"
  have pa3 := (pa.k0 k2).k0 k3
  have hq3 := k3.at0 (k2.at0 hq)
  refine ⟨x, gg, q, n, log, v, w, rfl, hn, vd, vf, ⟨p, d, go, hq3, pa3, k3.at0 (k2.at0 hd), k3.at0 (k2.at0 hgo)⟩, ?_⟩
  walk_at "g"
  refine w_ixL (SqL.of hq3) at_0 ?_
  walk_at "g"
  have k03 := k02.trans k3
  have b3 := hb.k0 k03
  have pb : p ≠ b := by
    intro z
    subst z
    obtain ⟨ps, hp, lp, pp⟩ := pa3
    obtain ⟨cc, m, t', hb3⟩ := b3
    obtain ⟨t, h1, h2⟩ := pp 0 (by omega)
    rw [hp] at hb3
    injection hb3 with hb3
    injection hb3 with hb3
    rw [hb3] at h1
    simp at h1
  have gb : gv ≠ b := (hb.k0 k1 |> fun z => (z.ne ngv).symm)
  refine ⟨n, gv, c, p, b, log, gs, rfl, hn, k3.at0 hgv, hlen, le, k03.at0 hc, gne, hg, hgl, pa3, b3, gb, cb, pb, fun H4 k4 b4 => ?_⟩
  walk_at "g"
  exact w_eqL (SqL.of (k4.at1 gb (k3.at0 hgv))) (SqL.of (k4.at1 ab (k03.at0 ha))) (g H4 (k03.all.trans k4) b4)
theorem len__law_answer (K : PySem.W.Frag) : ∀ vs H Q E, sp10__law_answer K vs H Q E → vs.length = (["way", "size", "deeds", "place"] : List Str).length := by
  rintro vs H Q E ⟨_, _, _, _, _, rfl, _⟩
  rfl
theorem rd__law_answer (T : Txt K mg) (vs : List V) (H : Hp) (Q : VK) (E : XK) (h : sp10__law_answer K vs H Q E) : t__law_answer K E { nx := fun _ H' => Q .non H', rt := Q } (start ["way", "size", "deeds", "place", "raised"] vs) H := by
  obtain ⟨way, size, gp, a, log, rfl, hg0, w1, w2, hs, hlen, g⟩ := h
  unfold t__law_answer
  have hw : way = 0 ∨ way = 1 ∨ way = 2 := by omega
  have gdone : SizeOk size → Leg (wholeS size.toNat) log → 0 ≤ gp → gp ≤ size → ∀ t H', Kp [] H H' → H' t = some (.tup [.str "done"]) → Q (.ref t) H' := fun ok le g1 g2 t H' k h => g _ t H' (.inr (.inr (.inr ⟨ok, le, ⟨g1, g2⟩, rfl⟩))) k h
  rcases hw with rfl | rfl | rfl
  · walk_at "g"
    refine w_iteD (fun _ => ?_) (fun c => absurd rfl c)
    walk_at "g"
    refine w_listLN hs fun c2 Hc nc kc hc => ?_
    walk_at "g"
    refine ⟨c2, size, gp, log, rfl, SqL.of hc, hlen, ⟨fun ok i op hi le bad H' k => ?_, fun bad H' k => ?_⟩, fun ok le bad H' k => ?_, fun ok le g1 g2 t0 H' k _ => ?_⟩
    · refine hnd_op T (fun t H2 k2 ht => g _ t H2 (.inr (.inl ⟨ok, i, op, hi, le, bad, rfl⟩)) ((kc.trans k).trans k2) ht)
    · refine hnd_size T (fun t H2 k2 ht => g _ t H2 (.inl ⟨bad, rfl⟩) ((kc.trans k).trans k2) ht)
    · refine hnd_gap T (fun t H2 k2 ht => g _ t H2 (.inr (.inr (.inl ⟨ok, le, bad, rfl⟩))) ((kc.trans k).trans k2) ht)
    · walk_at "g"
      refine ⟨sz_ok (Nat.le_of_ble_eq_true rfl), nw fun t H2 nt k2 ht => ?_⟩
      exact gdone ok le g1 g2 t H2 ((kc.trans k).trans k2) ht
  · walk_at "g"
    refine w_iteD (fun c => absurd c (by decide)) (fun _ => ?_)
    walk_at "g"
    refine w_iteD (fun _ => ?_) (fun c => absurd rfl c)
    walk_at "g"
    refine w_listLN hs fun c2 Hc nc kc hc => ?_
    walk_at "g"
    refine ⟨sz_ok (Nat.le_of_ble_eq_true rfl), nw fun tv Hv nv kv hv => ?_⟩
    have cv : c2 ≠ tv := ne_of_none hc nv
    refine ⟨c2, c2, size, gp, log, .ref tv, _, rfl, SqL.of (kv.at0 hc), hlen, .tup (Ne.symm cv) hv (.cons (.str _) (.cons (.int _) (.cons (.int _) .nil))), shP (by decide +kernel), ⟨fun ok i op hi le bad H' k => ?_, fun bad H' k => ?_⟩, fun ok le bad H' k => ?_, fun ok le g1 g2 H' k => ?_⟩
    · refine hnd_op T (fun t H2 k2 ht => g _ t H2 (.inr (.inl ⟨ok, i, op, hi, le, bad, rfl⟩)) (((kc.trans kv).trans k).trans k2) ht)
    · refine hnd_size T (fun t H2 k2 ht => g _ t H2 (.inl ⟨bad, rfl⟩) (((kc.trans kv).trans k).trans k2) ht)
    · refine hnd_gap T (fun t H2 k2 ht => g _ t H2 (.inr (.inr (.inl ⟨ok, le, bad, rfl⟩))) (((kc.trans kv).trans k).trans k2) ht)
    · walk_at "g"
      refine ⟨sz_ok (Nat.le_of_ble_eq_true rfl), nw fun t H2 nt k2 ht => ?_⟩
      exact gdone ok le g1 g2 t H2 (((kc.trans kv).trans k).trans k2) ht
  · have g0 : gp = 0 := by omega
    subst g0
    walk_at "g"
    refine w_iteD (fun c => absurd c (by decide)) (fun _ => ?_)
    walk_at "g"
    refine w_iteD (fun c => absurd c (by decide)) (fun _ => ?_)
    walk_at "g"
    refine w_listLN hs fun c2 Hc nc kc hc => ?_
    walk_at "g"
    refine ⟨c2, size, log, rfl, SqL.of hc, hlen, ⟨fun ok i op hi le bad H' k => ?_, fun bad H' k => ?_⟩, fun ok le x gg v w H' k _ _ => ?_⟩
    · refine hnd_op T (fun t H2 k2 ht => g _ t H2 (.inr (.inl ⟨ok, i, op, hi, le, bad, rfl⟩)) ((kc.trans k).trans k2) ht)
    · refine hnd_size T (fun t H2 k2 ht => g _ t H2 (.inl ⟨bad, rfl⟩) ((kc.trans k).trans k2) ht)
    · walk_at "g"
      refine ⟨sz_ok (Nat.le_of_ble_eq_true rfl), nw fun t H2 nt k2 ht => ?_⟩
      exact gdone ok le (by omega) ok.1 t H2 ((kc.trans k).trans k2) ht
theorem len__law_refuses (K : PySem.W.Frag) : ∀ vs H Q E, sp__law_refuses K vs H Q E → vs.length = (["trials"] : List Str).length := by
  rintro vs H Q E ⟨_, _, rfl, _⟩
  rfl
theorem rd__law_refuses (T : Txt K mg) (vs : List V) (H : Hp) (Q : VK) (E : XK) (h : sp__law_refuses K vs H Q E) : t__law_refuses K E { nx := fun _ H' => Q .non H', rt := Q } (start ["trials", "trial", "due", "way"] vs) H := by
  obtain ⟨q, xs, rfl, hq, hl, ht, g⟩ := h
  unfold t__law_refuses
  walk_at "g"
  refine w_l1 (SqL.of hq) ?_
  refine lp_lst (xs := xs) (fun i σ H' => (∃ x1 x2 x3, σ = [some (.ref q), x1, x2, x3]) ∧ Kp [] H H') ⟨⟨_, _, _, rfl⟩, Kp.refl _ _⟩ ?_ ?_ ?_
  · rintro i σ' H' hi ⟨_, k⟩
    exact SqL.of (k.at0 hq)
  · rintro i x σ' H' hx ⟨⟨x1, x2, x3, rfl⟩, k⟩
    obtain ⟨t, a, size, gp, log, rfl, h1, h2, l⟩ := (ht x (List.mem_of_getElem? hx)).k0 k
    walk_at "g"
    refine w_ixT (SqT.of h1) at_0 ?_
    walk_at "g"
    refine w_ixT (SqT.of h1) (i := 1) (v := .ref a) rfl ?_
    walk_at "g"
    refine w_ixT (SqT.of h1) (i := 2) (v := .int gp) rfl ?_
    walk_at "g"
    refine ⟨size, gp, a, log, rfl, SqL.of h2, l, fun ys t1 H1 f1 k1 ht1 => ?_⟩
    walk_at "g"
    refine w_r1 (by omega) ?_
    refine lp_rng0 (n := 2) (fun j σ H' => (∃ x3, σ = [some (.ref q), some (.ref t), some (.ref t1), x3]) ∧ Kp [] H1 H') ⟨⟨_, rfl⟩, Kp.refl _ _⟩ ?_ ?_
    · rintro j σ' H3 hj ⟨⟨x3, rfl⟩, k3⟩
      have k13 := k1.trans k3
      have h13 := k13.at0 h1
      walk_at "g"
      refine w_ixT (SqT.of h13) at_0 ?_
      walk_at "g"
      refine w_ixT (SqT.of h13) (i := 1) (v := .ref a) rfl ?_
      walk_at "g"
      refine w_ixT (SqT.of h13) (i := 2) (v := .int gp) rfl ?_
      walk_at "g"
      refine ⟨(j : Int), size, gp, a, log, rfl, .inl (by omega), by omega, by omega, SqL.of (k13.at0 h2), l, fun zs t4 H4 f4 k4 ht4 => ?_⟩
      have e := f1.uniq f4
      subst e
      obtain ⟨ds, d1, d2⟩ := dpF (K := K) (H := H4) f1
      walk_at "g"
      refine w_neT ht4 (k4.at0 (k3.at0 ht1)) d1 d2 ?_
      walk_at "g"
      exact ⟨⟨_, rfl⟩, k3.trans k4⟩
    · rintro σ' H3 ⟨⟨x3, rfl⟩, k3⟩
      have k13 := k1.trans k3
      have h13 := k13.at0 h1
      walk_at "g"
      refine w_ixT (SqT.of h13) at_0 ?_
      walk_at "g"
      refine w_ixT (SqT.of h13) (i := 1) (v := .ref a) rfl ?_
      walk_at "g"
      refine ⟨2, size, 0, a, log, rfl, .inr rfl, by omega, by omega, SqL.of (k13.at0 h2), l, fun zs t4 H4 f4 k4 ht4 => ?_⟩
      walk_at "g"
      refine w_ixT (SqT.of (k4.at0 h13)) at_0 ?_
      walk_at "g"
      refine w_ixT (SqT.of (k4.at0 h13)) (i := 1) (v := .ref a) rfl ?_
      walk_at "g"
      refine ⟨size, 0, a, log, rfl, SqL.of (k4.at0 (k13.at0 h2)), l, fun ys t5 H5 f5 k5 ht5 => ?_⟩
      have e := f4.uniq f5
      subst e
      obtain ⟨ds, d1, d2⟩ := dpF (K := K) (H := H5) f4
      refine w_neT (k5.at0 ht4) ht5 d1 d2 ?_
      walk_at "g"
      exact ⟨⟨_, _, _, rfl⟩, (k.trans k13).trans (k4.trans k5)⟩
  · rintro σ' H' ⟨⟨x1, x2, x3, rfl⟩, k⟩
    walk_at "g"
    exact g H' k
theorem len_law (K : PySem.W.Frag) : ∀ vs H Q E, sp_law K vs H Q E → vs.length = (["script"] : List Str).length := by
  rintro vs H Q E ⟨_, _, rfl, _⟩
  rfl
theorem rd_law (T : Txt K mg) (vs : List V) (H : Hp) (Q : VK) (E : XK) (h : sp_law K vs H Q E) : t_law K E { nx := fun _ H' => Q .non H', rt := Q } (start ["script", "bag", "more", "size", "deeds", "cut", "places", "few", "node", "k"] vs) H := by
  obtain ⟨a, ns, rfl, hs, hl, g⟩ := h
  unfold t_law
  walk_at "g"
  refine ⟨a, 0, ns, rfl, by omega, by omega, hs, hl, fun b H1 nb k1 b1 => ?_⟩
  walk_at "g"
  refine ⟨a, 1, ns, rfl, by omega, by omega, k1.sql (by simp) hs, hl, fun m H2 nm k2 m2 => ?_⟩
  walk_at "g"
  have bm : b ≠ m := b1.ne nm
  refine ⟨b, rfl, b1.k0 k2, fun n H3 hn k3 b3 => ?_⟩
  walk_at "g"
  have m3 := m2.k1 (Ne.symm bm) k3
  refine ⟨b, n, rfl, hn, b3, fun ds q H4 nq ops alt hds k4 b4 hq => ?_⟩
  walk_at "g"
  have m4 := m3.k1 (Ne.symm bm) k4
  have mq : m ≠ q := m3.ne nq
  have le := leg_of hn ops alt
  refine w_lenL (SqL.of hq) ?_
  walk_at "g"
  rw [List.length_map]
  refine ⟨m, _, rfl, by omega, by omega, m4, fun cut H5 c1 c2 k5 m5 => ?_⟩
  have hq5 := k5.at1 (Ne.symm mq) hq
  walk_at "g"
  refine ⟨m, q, n, ds, rfl, hn, m5, Ne.symm mq, hq5, by omega, ops, fun gs ps H6 nps gne lg hg k6 m6 hps => ?_⟩
  have hq6 := k6.at1 (Ne.symm mq) hq5
  have pm : ps ≠ m := (m5.ne nps).symm
  have gpos : 0 < gs.length := by
    cases gs with
    | nil => exact absurd rfl gne
    | cons x xs => exact Nat.succ_pos _
  walk_at "g"
  refine w_ixL (SqL.of hps) (at_I (by omega) (by omega)) ?_
  have hg0 := hg _ (List.mem_of_getElem? (gI_at (l := gs) (i := (0 : Int).toNat) (by show 0 < _; omega)))
  generalize gI gs (0 : Int).toNat = g0 at hg0 ⊢
  walk_at "g"
  refine w_lenL (SqL.of hps) ?_
  walk_at "g"
  rw [List.length_map]
  refine ⟨m, _, rfl, by omega, by omega, m6, fun e H7 e1 e2 k7 m7 => ?_⟩
  have hps7 := k7.at1 pm hps
  have hq7 := k7.at1 (Ne.symm mq) hq6
  walk_at "g"
  refine w_ixL (SqL.of hps7) (at_I e1 (by omega)) ?_
  have hg1 := hg _ (List.mem_of_getElem? (gI_at (l := gs) (i := e.toNat) (by omega)))
  generalize gI gs e.toNat = g1 at hg1 ⊢
  walk_at "g"
  refine ⟨sz_ok (Nat.le_of_ble_eq_true rfl), nw fun few H8 nfew k8 hfew => ?_⟩
  have m8 := m7.k0 k8
  have fm : few ≠ m := (m7.ne nfew).symm
  walk_at "g"
  refine ⟨n, q, ps, m, ds, gs, rfl, hn, k8.at0 hq7, by omega, le, k8.at0 hps7, gne, hg, by omega, m8, Ne.symm mq, pm, fun H9 k9 m9 => ?_⟩
  have hq9 := k9.at1 (Ne.symm mq) (k8.at0 hq7)
  have hfew9 := k9.at1 fm hfew
  walk_at "g"
  refine w_slL (SqL.of hq9) fun z Ha nz ka hz => ?_
  rw [cut_pre ds c1 (by omega)] at hz
  have ma := m9.k0 ka
  have zm : z ≠ m := (m9.ne nz).symm
  walk_at "g"
  have hfewa : Ha few = some (.lst ([g0, g1].map V.int)) := ka.at0 hfew9
  refine ⟨n, z, few, m, ds.take cut.toNat, [g0, g1], rfl, hn, hz, by rw [List.length_take]; omega, le.take _, hfewa, List.cons_ne_nil _ _, fun x hx => ?_, by show 2 ≤ 1000; omega, ma, zm, fm, fun Hb kb mb => ?_⟩
  · rcases List.mem_cons.mp hx with rfl | hx
    · exact hg0
    · rw [List.mem_singleton] at hx
      rw [hx]
      exact hg1
  have hqb := kb.at1 (Ne.symm mq) (ka.at0 hq9)
  walk_at "g"
  refine ⟨m, 59, rfl, by omega, by omega, mb, fun nd Hc nd1 nd2 kc mc => ?_⟩
  have hqc := kc.at1 (Ne.symm mq) hqb
  walk_at "g"
  refine ⟨m, 90, rfl, by omega, by omega, mc, fun kk Hd kk1 kk2 kd md => ?_⟩
  have hqd := kd.at1 (Ne.symm mq) hqc
  walk_at "g"
  refine ⟨sz_ok (Nat.zero_le _), nw fun l1 He n1 k1' h1 => ?_⟩
  walk_at "g"
  refine ⟨l1, [], .non, .non, rfl, h1, by decide, .inl rfl, .inl rfl, fun Hf kf => ?_⟩
  have kdf := k1'.trans kf
  walk_at "g"
  refine ⟨sz_ok (Nat.zero_le _), nw fun l2 Hg n2 k2' h2 => ?_⟩
  walk_at "g"
  refine ⟨l2, [], .int 0, .int kk, rfl, h2, by decide, .inr ⟨_, rfl⟩, .inr ⟨_, rfl⟩, fun Hh kh => ?_⟩
  have kdh := (kdf.trans k2').trans kh
  walk_at "g"
  refine ⟨sz_ok (Nat.zero_le _), nw fun l3 Hi n3 k3' h3 => ?_⟩
  walk_at "g"
  refine ⟨l3, [], .int (1 + nd), .int 0, rfl, h3, by decide, .inr ⟨_, rfl⟩, .inr ⟨_, rfl⟩, fun Hj kj => ?_⟩
  have kdj := (kdh.trans k3').trans kj
  walk_at "g"
  refine ⟨sz_ok (Nat.le_of_ble_eq_true rfl), nw fun l4 Hk n4 k4' h4 => ?_⟩
  walk_at "g"
  refine ⟨l4, [1 + nd], .non, .non, rfl, h4, by show 1 ≤ 10; omega, .inl rfl, .inl rfl, fun Hl kl => ?_⟩
  have kdl := (kdj.trans k4').trans kl
  walk_at "g"
  refine ⟨sz_ok (Nat.le_of_ble_eq_true rfl), nw fun l5 Hm n5 k5' h5 => ?_⟩
  walk_at "g"
  refine ⟨l5, [1 + nd, 1 + nd + 1], .int (1 + nd), .int kk, rfl, h5, by show 2 ≤ 10; omega, .inr ⟨_, rfl⟩, .inr ⟨_, rfl⟩, fun Hn kn => ?_⟩
  have kdn := (kdl.trans k5').trans kn
  walk_at "g"
  refine ⟨m, q, n, ds, rfl, hn, md.k0 kdn, Ne.symm mq, kdn.at0 hqd, by omega, fun xs ts Ho ko mo hts lx tr => ?_⟩
  walk_at "g"
  exact ⟨ts, xs, rfl, hts, by omega, tr, fun Hp_ kp => g Hp_⟩
end
end G

set_option Elab.async false
set_option linter.all false
set_option maxRecDepth 100000
set_option maxHeartbeats 4000000

namespace G
open PySem PySem.Spec PyProof.Rows L2
section
variable {P : Program} {w : World} {K : PySem.W.Frag} {mg : Str → Option Value} {base : Heap}
theorem ok__law_state {f : Addr} {fd : FuncData} (T : Txt K mg) (F : FunD K "_law_state" "_law_state" (defArgs s__law_state) (defBody s__law_state) (defScope s__law_state) [] [] f fd)  : FnOk P w K mg base (L2N.CX P w) 1 f fd ["world", "place"] (sp__law_state K) :=
  F.ok sc__law_state (len__law_state K) fun cdv A outer s H vs Q E hr h => ⟨t__law_state K E, pss_cons (ps_set (i := 2) sc__law_state.nd rfl (by first | exact Or.inl rfl | exact Or.inr rfl) (pe_cmpR (op_eqA hr) (pe_ix ix_seq (pe_ix ix_seq (pv 0) (pe_int) (fun _ _ => rfl)) (pv 1) (fun _ _ => rfl)) (pe_op op_addA (pv 1) (pe_int)) (nomark _))) (pss_cons (ps_set (i := 3) sc__law_state.nd rfl (by first | exact Or.inl rfl | exact Or.inr rfl) (pe_cmpR (op_eqA hr) (pe_ix ix_seq (pe_ix ix_seq (pv 0) (pe_int) (fun _ _ => rfl)) (pe_op op_addA (pv 1) (pe_int)) (fun _ _ => rfl)) (pv 1) (nomark _))) (pss_cons (ps_if ((pw_and (pt_val (pv 2)) (pw_and1 (pt_val (pv 3)))).pt) (pss_one (ps_ret (pe_str))) (pss_nil)) (pss_cons (ps_if (pt_val (pv 2)) (pss_one (ps_ret (pe_str))) (pss_nil)) (pss_cons (ps_if (pt_val (pv 3)) (pss_one (ps_ret (pe_str))) (pss_nil)) (pss_one (ps_ret (pe_str))))))), rd__law_state T vs H Q E h⟩
theorem ok__law_step {f : Addr} {fd : FuncData} (T : Txt K mg) (F : FunD K "_law_step" "_law_step" (defArgs s__law_step) (defBody s__law_step) (defScope s__law_step) [] [] f fd)  : FnOk P w K mg base (L2N.CX P w) 1 f fd ["world", "deed"] (sp__law_step K) :=
  F.ok sc__law_step (len__law_step K) fun cdv A outer s H vs Q E hr h => ⟨t__law_step K E, pss_cons (ps_set (i := 2) sc__law_step.nd rfl (by first | exact Or.inl rfl | exact Or.inr rfl) (pe_callB call_absA (by rfl) T.b_abs (by decide +kernel) (pa_cons (pv 1) (pa_nil)))) (pss_cons (ps_set (i := 3) sc__law_step.nd rfl (by first | exact Or.inl rfl | exact Or.inr rfl) (pe_ix ix_seq (pe_ix ix_seq (pv 0) (pe_int) (fun _ _ => rfl)) (pv 2) (fun _ _ => rfl))) (pss_cons (ps_set (i := 4) sc__law_step.nd rfl (by first | exact Or.inl rfl | exact Or.inr rfl) (pe_ix ix_seq (pe_ix ix_seq (pv 0) (pe_int) (fun _ _ => rfl)) (pv 2) (fun _ _ => rfl))) (pss_cons (ps_set (i := 5) sc__law_step.nd rfl (by first | exact Or.inl rfl | exact Or.inr rfl) (pe_ix ix_seq (pv 0) (pe_int) (fun _ _ => rfl))) (pss_cons (ps_set (i := 6) sc__law_step.nd rfl (by first | exact Or.inl rfl | exact Or.inr rfl) (pe_ix ix_seq (pv 0) (pe_int) (fun _ _ => rfl))) (pss_cons (ps_set (i := 7) sc__law_step.nd rfl (by first | exact Or.inl rfl | exact Or.inr rfl) (pe_ix ix_seq (pv 0) (pe_int) (fun _ _ => rfl))) (pss_cons (ps_if (pt_cmpR op_lt (pv 1) (pe_int) (nomark _)) (pss_cons (ps_asg (pv 4) (pg_sub (pv 5) (pv 3) set_list)) (pss_one (ps_asg (pv 3) (pg_sub (pv 6) (pv 4) set_list)))) (pss_cons (ps_asg (pv 2) (pg_sub (pv 5) (pv 3) set_list)) (pss_one (ps_asg (pv 2) (pg_sub (pv 6) (pv 4) set_list))))) (pss_one (ps_asg (pe_cmpR op_lt (pv 1) (pe_int) (nomark _)) (pg_sub (pv 7) (pv 2) set_list))))))))), rd__law_step T vs H Q E h⟩
theorem ok__law_whole {f : Addr} {fd : FuncData} (T : Txt K mg) (F : FunD K "_law_whole" "_law_whole" (defArgs s__law_whole) (defBody s__law_whole) (defScope s__law_whole) [] [] f fd)  : FnOk P w K mg base (L2N.CX P w) 1 f fd ["size"] (sp__law_whole K) :=
  F.ok sc__law_whole (len__law_whole K) fun cdv A outer s H vs Q E hr h => ⟨t__law_whole K E, pss_cons (ps_setLc (i := 1) (own := [("node", 3)]) (g := gName 3) (tt := tYes) (te := tOp rAddA (tVar 3) (tC (.int 1))) rfl sc__law_whole.nd rfl rfl (sw_true rfl rfl rfl (by decide +kernel)) (pi_range1 rfl T.b_range (pa_cons (pe_op op_addA (pv 0) (pe_int)) (pa_nil))) (blkOk_by (own := [("node", 3)]) (N := ["size", "rights", "lefts", "node"]) (sc := defScope s__law_whole) (by decide +kernel)) (fun _ _ _ _ _ => pg_name (i := 3) sc__law_whole.nd rfl (by first | exact Or.inl rfl | exact Or.inr rfl)) (fun _ _ _ _ _ => pts_nil) (fun _ _ _ _ _ => pe_op op_addA (pv 3) (pe_int))) (pss_cons (ps_setLc (i := 2) (own := [("node", 3)]) (g := gName 3) (tt := tYes) (te := tOp rSubA (tVar 3) (tC (.int 1))) rfl sc__law_whole.nd rfl rfl (sw_true rfl rfl rfl (by decide +kernel)) (pi_range1 rfl T.b_range (pa_cons (pe_op op_addA (pv 0) (pe_int)) (pa_nil))) (blkOk_by (own := [("node", 3)]) (N := ["size", "rights", "lefts", "node"]) (sc := defScope s__law_whole) (by decide +kernel)) (fun _ _ _ _ _ => pg_name (i := 3) sc__law_whole.nd rfl (by first | exact Or.inl rfl | exact Or.inr rfl)) (fun _ _ _ _ _ => pts_nil) (fun _ _ _ _ _ => pe_op op_sub (pv 3) (pe_int))) (pss_one (ps_ret (pe_lst (pa_cons (pv 0) (pa_cons (pv 1) (pa_cons (pv 2) (pa_cons (pe_lc (own := [("node", 3)]) (g := gName 3) (tt := tYes) (te := tC (.bl false)) rfl sc__law_whole.nd (pi_range1 rfl T.b_range (pa_cons (pe_op op_addA (pv 0) (pe_int)) (pa_nil))) (blkOk_by (own := [("node", 3)]) (N := ["size", "rights", "lefts", "node"]) (sc := defScope s__law_whole) (by decide +kernel)) (fun _ _ _ _ _ => pg_name (i := 3) sc__law_whole.nd rfl (by first | exact Or.inl rfl | exact Or.inr rfl)) (fun _ _ _ _ _ => pts_nil) (fun _ _ _ _ _ => pe_bl)) (pa_nil))))))))), rd__law_whole T vs H Q E h⟩
theorem ok__law_book {f : Addr} {fd : FuncData} (T : Txt K mg) (F : FunD K "_law_book" "_law_book" (defArgs s__law_book) (defBody s__law_book) (defScope s__law_book) [] [] f fd) (c__law_state : Cal P w K mg base 1 "_law_state" ["world", "place"] (sp__law_state K)) (c__law_step : Cal P w K mg base 1 "_law_step" ["world", "deed"] (sp__law_step K)) (c__law_whole : Cal P w K mg base 1 "_law_whole" ["size"] (sp__law_whole K)) : FnOk P w K mg base (L2N.CX P w) 2 f fd ["size", "deeds"] (sp10__law_book K) :=
  F.ok sc__law_book (len__law_book K) fun cdv A outer s H vs Q E hr h => ⟨t__law_book K E, pss_cons (ps_set (i := 2) sc__law_book.nd rfl (by first | exact Or.inl rfl | exact Or.inr rfl) (pe_cl c__law_whole hr (by decide) (pat_of (W := fun cls d _ H => E cls d H) (L2N.takes_of rfl rfl rfl rfl)) (pa_cons (pv 0) (pa_nil)))) (pss_cons (ps_set (i := 3) sc__law_book.nd rfl (by first | exact Or.inl rfl | exact Or.inr rfl) (pe_lc (own := [("node", 7)]) (g := gName 7) (tt := tYes) (te := tUn rNegA (tC (.int 1))) rfl sc__law_book.nd (pi_range1 rfl T.b_range (pa_cons (pe_op op_addA (pv 0) (pe_int)) (pa_nil))) (blkOk_by (own := [("node", 7)]) (N := ["size", "deeds", "world", "by_right", "by_left", "settled", "k", "node", "low", "high", "before", "papers", "gone", "place"]) (sc := defScope s__law_book) (by decide +kernel)) (fun _ _ _ _ _ => pg_name (i := 7) sc__law_book.nd rfl (by first | exact Or.inl rfl | exact Or.inr rfl)) (fun _ _ _ _ _ => pts_nil) (fun _ _ _ _ _ => pe_un un_neg (pe_int)))) (pss_cons (ps_set (i := 4) sc__law_book.nd rfl (by first | exact Or.inl rfl | exact Or.inr rfl) (pe_lc (own := [("node", 7)]) (g := gName 7) (tt := tYes) (te := tUn rNegA (tC (.int 1))) rfl sc__law_book.nd (pi_range1 rfl T.b_range (pa_cons (pe_op op_addA (pv 0) (pe_int)) (pa_nil))) (blkOk_by (own := [("node", 7)]) (N := ["size", "deeds", "world", "by_right", "by_left", "settled", "k", "node", "low", "high", "before", "papers", "gone", "place"]) (sc := defScope s__law_book) (by decide +kernel)) (fun _ _ _ _ _ => pg_name (i := 7) sc__law_book.nd rfl (by first | exact Or.inl rfl | exact Or.inr rfl)) (fun _ _ _ _ _ => pts_nil) (fun _ _ _ _ _ => pe_un un_neg (pe_int)))) (pss_cons (ps_setLc (i := 5) (own := [("node", 7)]) (g := gName 7) (tt := tYes) (te := tUn rNegA (tC (.int 1))) rfl sc__law_book.nd rfl rfl (sw_true rfl rfl rfl (by decide +kernel)) (pi_range1 rfl T.b_range (pa_cons (pe_op op_addA (pv 0) (pe_int)) (pa_nil))) (blkOk_by (own := [("node", 7)]) (N := ["size", "deeds", "world", "by_right", "by_left", "settled", "k", "node", "low", "high", "before", "papers", "gone", "place"]) (sc := defScope s__law_book) (by decide +kernel)) (fun _ _ _ _ _ => pg_name (i := 7) sc__law_book.nd rfl (by first | exact Or.inl rfl | exact Or.inr rfl)) (fun _ _ _ _ _ => pts_nil) (fun _ _ _ _ _ => pe_un un_neg (pe_int))) (pss_cons (ps_for (passes_of rfl) rfl (pi_range1 rfl T.b_range (pa_cons (pe_callB call_lenA (by rfl) T.b_len (by decide +kernel) (pa_cons (pv 1) (pa_nil))) (pa_nil))) (pg_name (i := 6) sc__law_book.nd rfl (by first | exact Or.inl rfl | exact Or.inr rfl)) (pss_cons (ps_set (i := 7) sc__law_book.nd rfl (by first | exact Or.inl rfl | exact Or.inr rfl) (pe_callB call_absA (by rfl) T.b_abs (by decide +kernel) (pa_cons (pe_ix ix_seq (pv 1) (pv 6) (fun _ _ => rfl)) (pa_nil)))) (pss_cons (ps_set (i := 8) sc__law_book.nd rfl (by first | exact Or.inl rfl | exact Or.inr rfl) (pe_ix ix_seq (pe_ix ix_seq (pv 2) (pe_int) (fun _ _ => rfl)) (pv 7) (fun _ _ => rfl))) (pss_cons (ps_set (i := 9) sc__law_book.nd rfl (by first | exact Or.inl rfl | exact Or.inr rfl) (pe_op op_sub (pe_ix ix_seq (pe_ix ix_seq (pv 2) (pe_int) (fun _ _ => rfl)) (pv 7) (fun _ _ => rfl)) (pe_int))) (pss_cons (ps_set (i := 10) sc__law_book.nd rfl (by first | exact Or.inl rfl | exact Or.inr rfl) (pe_lst (pa_cons (pe_cl c__law_state hr (by decide) (pat_of (W := fun cls d _ H => E cls d H) (L2N.takes_of rfl rfl rfl rfl)) (pa_cons (pv 2) (pa_cons (pv 8) (pa_nil)))) (pa_cons (pe_cl c__law_state hr (by decide) (pat_of (W := fun cls d _ H => E cls d H) (L2N.takes_of rfl rfl rfl rfl)) (pa_cons (pv 2) (pa_cons (pv 9) (pa_nil)))) (pa_nil))))) (pss_cons (ps_expr (pe_cl c__law_step hr (by decide) (pat_of (W := fun cls d _ H => E cls d H) (L2N.takes_of rfl rfl rfl rfl)) (pa_cons (pv 2) (pa_cons (pe_ix ix_seq (pv 1) (pv 6) (fun _ _ => rfl)) (pa_nil))))) (pss_cons (ps_asg (pv 6) (pg_sub (pv 3) (pv 8) set_list)) (pss_cons (ps_asg (pv 6) (pg_sub (pv 4) (pv 9) set_list)) (pss_cons (ps_if (pt_cmpR (op_neA hr) (pe_ix ix_seq (pv 10) (pe_int) (fun _ _ => rfl)) (pe_cl c__law_state hr (by decide) (pat_of (W := fun cls d _ H => E cls d H) (L2N.takes_of rfl rfl rfl rfl)) (pa_cons (pv 2) (pa_cons (pv 8) (pa_nil)))) (nomark _)) (pss_one (ps_asg (pv 6) (pg_sub (pv 5) (pv 8) set_list))) (pss_nil)) (pss_one (ps_if (pt_cmpR (op_neA hr) (pe_ix ix_seq (pv 10) (pe_int) (fun _ _ => rfl)) (pe_cl c__law_state hr (by decide) (pat_of (W := fun cls d _ H => E cls d H) (L2N.takes_of rfl rfl rfl rfl)) (pa_cons (pv 2) (pa_cons (pv 9) (pa_nil)))) (nomark _)) (pss_one (ps_asg (pv 6) (pg_sub (pv 5) (pv 9) set_list))) (pss_nil)))))))))))) (pss_cons (ps_setLc (i := 11) (own := [("place", 13)]) (g := gName 13) (tt := tYes) (te := tTup (tCons (tCl (sp__law_state K) (fun _ => E0) (tCons (tVar 2) (tCons (tVar 13) (tNil)))) (tCons (tOp (rIx K) (tVar 3) (tVar 13)) (tCons (tOp (rIx K) (tVar 4) (tVar 13)) (tNil))))) rfl sc__law_book.nd rfl rfl (sw_true rfl rfl rfl (by decide +kernel)) (pi_range1 rfl T.b_range (pa_cons (pe_op op_addA (pv 0) (pe_int)) (pa_nil))) (blkOk_by (own := [("place", 13)]) (N := ["size", "deeds", "world", "by_right", "by_left", "settled", "k", "node", "low", "high", "before", "papers", "gone", "place"]) (sc := defScope s__law_book) (by decide +kernel)) (fun _ _ _ _ _ => pg_name (i := 13) sc__law_book.nd rfl (by first | exact Or.inl rfl | exact Or.inr rfl)) (fun _ _ _ _ _ => pts_nil) (fun _ _ _ _ _ => pe_tup (pa_cons (pe_cl c__law_state hr (by decide) (pat_no) (pa_cons (pv 2) (pa_cons (pv 13) (pa_nil)))) (pa_cons (pe_ix ix_seq (pv 3) (pv 13) (fun _ _ => rfl)) (pa_cons (pe_ix ix_seq (pv 4) (pv 13) (fun _ _ => rfl)) (pa_nil)))))) (pss_cons (ps_setLc (i := 12) (own := [("node", 7)]) (g := gName 7) (tt := tB (tOp (rIx K) (tOp (rIx K) (tVar 2) (tC (.int 3))) (tVar 7))) (te := tVar 7) rfl sc__law_book.nd rfl rfl (sw_true rfl rfl rfl (by decide +kernel)) (pi_range2 rfl T.b_range (pa_cons (pe_int) (pa_cons (pe_op op_addA (pv 0) (pe_int)) (pa_nil)))) (blkOk_by (own := [("node", 7)]) (N := ["size", "deeds", "world", "by_right", "by_left", "settled", "k", "node", "low", "high", "before", "papers", "gone", "place"]) (sc := defScope s__law_book) (by decide +kernel)) (fun _ _ _ _ _ => pg_name (i := 7) sc__law_book.nd rfl (by first | exact Or.inl rfl | exact Or.inr rfl)) (fun _ _ _ _ _ => pts_one (pt_val (pe_ix ix_seq (pe_ix ix_seq (pv 2) (pe_int) (fun _ _ => rfl)) (pv 7) (fun _ _ => rfl)))) (fun _ _ _ _ _ => pv 7)) (pss_one (ps_ret (pe_lst (pa_cons (pv 11) (pa_cons (pv 5) (pa_cons (pv 12) (pa_nil))))))))))))), rd__law_book T vs H Q E h⟩
theorem ok__law_bents {f : Addr} {fd : FuncData} (T : Txt K mg) (F : FunD K "_law_bents" "_law_bents" (defArgs s__law_bents) (defBody s__law_bents) (defScope s__law_bents) [] [] f fd)  : FnOk P w K mg base (L2N.CX P w) 1 f fd ["due", "other", "by"] (sp__law_bents K) :=
  F.ok sc__law_bents (len__law_bents K) fun cdv A outer s H vs Q E hr h => ⟨t__law_bents K E, pss_cons (ps_set (i := 3) sc__law_bents.nd rfl (by first | exact Or.inl rfl | exact Or.inr rfl) (pe_ix ix_seq (pv 0) (pe_int) (fun _ _ => rfl))) (pss_cons (ps_set (i := 4) sc__law_bents.nd rfl (by first | exact Or.inl rfl | exact Or.inr rfl) (pe_ix ix_seq (pv 0) (pe_int) (fun _ _ => rfl))) (pss_cons (ps_set (i := 5) sc__law_bents.nd rfl (by first | exact Or.inl rfl | exact Or.inr rfl) (pe_ix ix_seq (pv 0) (pe_int) (fun _ _ => rfl))) (pss_cons (ps_setLc (i := 6) (own := [("word", 7)]) (g := gName 7) (tt := tYes) (te := tTup (tCons (tVar 7) (tCons (tVar 4) (tCons (tVar 5) (tNil))))) rfl sc__law_bents.nd rfl rfl (sw_true rfl rfl rfl (by decide +kernel)) (pi_list (pe_lst (pa_cons (pe_str) (pa_cons (pe_str) (pa_cons (pe_str) (pa_cons (pe_str) (pa_cons (pe_str) (pa_cons (pe_str) (pa_nil))))))))) (blkOk_by (own := [("word", 7)]) (N := ["due", "other", "by", "state", "one", "two", "bents", "word"]) (sc := defScope s__law_bents) (by decide +kernel)) (fun _ _ _ _ _ => pg_name (i := 7) sc__law_bents.nd rfl (by first | exact Or.inl rfl | exact Or.inr rfl)) (fun _ _ _ _ _ => pts_nil) (fun _ _ _ _ _ => pe_tup (pa_cons (pv 7) (pa_cons (pv 4) (pa_cons (pv 5) (pa_nil)))))) (pss_cons (ps_set (i := 6) sc__law_bents.nd rfl (by first | exact Or.inl rfl | exact Or.inr rfl) (pe_op op_addA (pv 6) (pe_lst (pa_cons (pe_tup (pa_cons (pv 3) (pa_cons (pe_op op_addA (pv 4) (pv 2)) (pa_cons (pv 5) (pa_nil))))) (pa_cons (pe_tup (pa_cons (pv 3) (pa_cons (pv 4) (pa_cons (pe_op op_addA (pv 5) (pv 2)) (pa_nil))))) (pa_cons (pe_tup (pa_cons (pv 3) (pa_cons (pe_op op_sub (pv 4) (pv 2)) (pa_cons (pv 5) (pa_nil))))) (pa_nil))))))) (pss_cons (ps_set (i := 6) sc__law_bents.nd rfl (by first | exact Or.inl rfl | exact Or.inr rfl) (pe_op op_addA (pv 6) (pe_lst (pa_cons (pe_tup (pa_cons (pv 3) (pa_cons (pv 4) (pa_cons (pe_op op_sub (pv 5) (pv 2)) (pa_nil))))) (pa_cons (pe_tup (pa_cons (pv 3) (pa_cons (pv 5) (pa_cons (pv 4) (pa_nil))))) (pa_cons (pv 1) (pa_cons (pe_lst (pa_cons (pv 3) (pa_cons (pv 4) (pa_cons (pv 5) (pa_nil))))) (pa_cons (pe_tup (pa_cons (pv 3) (pa_cons (pv 4) (pa_nil)))) (pa_nil))))))))) (pss_cons (ps_set (i := 6) sc__law_bents.nd rfl (by first | exact Or.inl rfl | exact Or.inr rfl) (pe_op op_addA (pv 6) (pe_lst (pa_cons (pe_tup (pa_cons (pv 3) (pa_cons (pv 4) (pa_cons (pv 5) (pa_cons (pv 5) (pa_nil)))))) (pa_cons (pe_tup (pa_cons (pv 4) (pa_cons (pv 3) (pa_cons (pv 5) (pa_nil))))) (pa_cons (pe_tup (pa_cons (pv 3) (pa_cons (pe_callTy call_strA (by rfl) T.b_str (by decide +kernel) (pa_cons (pv 4) (pa_nil))) (pa_cons (pv 5) (pa_nil))))) (pa_cons (pe_tup (pa_cons (pv 3) (pa_cons (pv 4) (pa_cons (pe_non) (pa_nil))))) (pa_nil)))))))) (pss_one (ps_ret (pe_op op_addA (pv 6) (pe_lst (pa_cons (pe_tup (pa_cons (pe_tup (pa_cons (pv 3) (pa_cons (pv 4) (pa_cons (pv 5) (pa_nil))))) (pa_nil))) (pa_cons (pe_tup (pa_cons (pv 3) (pa_cons (pe_tup (pa_cons (pv 4) (pa_cons (pv 5) (pa_nil)))) (pa_nil)))) (pa_cons (pe_non) (pa_cons (pv 3) (pa_cons (pv 4) (pa_cons (pe_tup (pa_nil)) (pa_cons (pe_str) (pa_cons (pe_lst (pa_cons (pv 1) (pa_nil))) (pa_nil))))))))))))))))))), rd__law_bents T vs H Q E h⟩
theorem ok__law_draw {f : Addr} {fd : FuncData} (T : Txt K mg) (F : FunD K "_law_draw" "_law_draw" (defArgs s__law_draw) (defBody s__law_draw) (defScope s__law_draw) [] [] f fd)  : FnOk P w K mg base (L2N.CX P w) 1 f fd ["bag", "many"] (sp__law_draw K) :=
  F.ok sc__law_draw (len__law_draw K) fun cdv A outer s H vs Q E hr h => ⟨t__law_draw K E, pss_cons (ps_if (pt_cmpR op_gt (pe_ix ix_seq (pv 0) (pe_int) (fun _ _ => rfl)) (pe_int) (nomark _)) (pss_cons (ps_set (i := 2) sc__law_draw.nd rfl (by first | exact Or.inl rfl | exact Or.inr rfl) (pe_op op_mod (pe_callTy call_intA (by rfl) T.b_int (by decide +kernel) (pa_cons (pe_ix ix_seq (pv 0) (pe_int) (fun _ _ => rfl)) (pa_nil))) (pv 1))) (pss_cons (ps_asg (pe_op op_fdiv (pe_ix ix_seq (pv 0) (pe_int) (fun _ _ => rfl)) (pv 1)) (pg_sub (pv 0) (pe_int) set_list)) (pss_one (ps_ret (pv 2))))) (pss_nil)) (pss_cons (ps_asg (pe_op op_addA (pe_ix ix_seq (pv 0) (pe_int) (fun _ _ => rfl)) (pe_int)) (pg_sub (pv 0) (pe_int) set_list)) (pss_cons (ps_asg (pe_op op_mod (pe_callTy call_intA (by rfl) T.b_int (by decide +kernel) (pa_cons (pe_op op_addA (pe_op op_addA (pe_op op_mulA (pe_ix ix_seq (pv 0) (pe_int) (fun _ _ => rfl)) (pe_int)) (pe_op op_mulA (pe_ix ix_seq (pv 0) (pe_int) (fun _ _ => rfl)) (pe_int))) (pe_int)) (pa_nil))) (pe_int)) (pg_sub (pv 0) (pe_int) set_list)) (pss_one (ps_ret (pe_op op_mod (pe_callTy call_intA (by rfl) T.b_int (by decide +kernel) (pa_cons (pe_op op_fdiv (pe_op op_mod (pe_callTy call_intA (by rfl) T.b_int (by decide +kernel) (pa_cons (pe_op op_addA (pe_op op_mulA (pe_ix ix_seq (pv 0) (pe_int) (fun _ _ => rfl)) (pe_int)) (pe_op op_mulA (pe_ix ix_seq (pv 0) (pe_int) (fun _ _ => rfl)) (pe_int))) (pa_nil))) (pe_int)) (pe_int)) (pa_nil))) (pv 1)))))), rd__law_draw T vs H Q E h⟩
theorem ok__law_whole_number {f : Addr} {fd : FuncData} (T : Txt K mg) (F : FunD K "_law_whole_number" "_law_whole_number" (defArgs s__law_whole_number) (defBody s__law_whole_number) (defScope s__law_whole_number) [] [] f fd)  : FnOk P w K mg base (L2N.CX P w) 1 f fd ["told"] (sp__law_whole_number K) :=
  F.ok sc__law_whole_number (len__law_whole_number K) fun cdv A outer s H vs Q E hr h => ⟨t__law_whole_number K E, pss_one (ps_ret (pe_and (pe_callB call_isi (by rfl) T.b_isinstance (by decide +kernel) (pa_cons (pv 0) (pa_cons (pe_ty "int" T.b_int (by decide +kernel)) (pa_nil)))) (pe_one (pe_not (pe_callB call_isi (by rfl) T.b_isinstance (by decide +kernel) (pa_cons (pv 0) (pa_cons (pe_ty "bool" T.b_bool (by decide +kernel)) (pa_nil)))))))), rd__law_whole_number T vs H Q E h⟩
theorem ok__law_is_paper {f : Addr} {fd : FuncData} (T : Txt K mg) (F : FunD K "_law_is_paper" "_law_is_paper" (defArgs s__law_is_paper) (defBody s__law_is_paper) (defScope s__law_is_paper) [] [] f fd) (c__law_whole_number : Cal P w K mg base 1 "_law_whole_number" ["told"] (sp__law_whole_number K)) : FnOk P w K mg base (L2N.CX P w) 2 f fd ["told", "due"] (sp__law_is_paper K) :=
  F.ok sc__law_is_paper (len__law_is_paper K) fun cdv A outer s H vs Q E hr h => ⟨t__law_is_paper K E, pss_cons (ps_if ((pw_or (pt_not (pt_val (pe_callB call_isi (by rfl) T.b_isinstance (by decide +kernel) (pa_cons (pv 0) (pa_cons (pe_ty "tuple" T.b_tuple (by decide +kernel)) (pa_nil)))))) (pw_or (pt_cmpR (op_neA hr) (pe_callB call_lenA (by rfl) T.b_len (by decide +kernel) (pa_cons (pv 0) (pa_nil))) (pe_int) (nomark _)) (pw_or1 (pt_not (pt_val (pe_callB call_isi (by rfl) T.b_isinstance (by decide +kernel) (pa_cons (pe_ix ix_seq (pv 0) (pe_int) (fun _ _ => rfl)) (pa_cons (pe_ty "str" T.b_str (by decide +kernel)) (pa_nil))))))))).pt) (pss_one (ps_ret (pe_bl))) (pss_nil)) (pss_cons (ps_if ((pw_or (pt_not (pt_val (pe_cl c__law_whole_number hr (by decide) (pat_of (W := fun cls d _ H => E cls d H) (L2N.takes_of rfl rfl rfl rfl)) (pa_cons (pe_ix ix_seq (pv 0) (pe_int) (fun _ _ => rfl)) (pa_nil))))) (pw_or1 (pt_not (pt_val (pe_cl c__law_whole_number hr (by decide) (pat_of (W := fun cls d _ H => E cls d H) (L2N.takes_of rfl rfl rfl rfl)) (pa_cons (pe_ix ix_seq (pv 0) (pe_int) (fun _ _ => rfl)) (pa_nil))))))).pt) (pss_one (ps_ret (pe_bl))) (pss_nil)) (pss_one (ps_ret (pe_and (pe_cmpR (op_eqA hr) (pe_ix ix_seq (pv 0) (pe_int) (fun _ _ => rfl)) (pe_ix ix_seq (pv 1) (pe_int) (fun _ _ => rfl)) (nomark _)) (pe_and (pe_cmpR (op_eqA hr) (pe_ix ix_seq (pv 0) (pe_int) (fun _ _ => rfl)) (pe_ix ix_seq (pv 1) (pe_int) (fun _ _ => rfl)) (nomark _)) (pe_one (pe_cmpR (op_eqA hr) (pe_ix ix_seq (pv 0) (pe_int) (fun _ _ => rfl)) (pe_ix ix_seq (pv 1) (pe_int) (fun _ _ => rfl)) (nomark _)))))))), rd__law_is_paper T vs H Q E h⟩
theorem ok_Links_left {f : Addr} {fd : FuncData} (T : Txt K mg) (F : FunD K "left" "Links.left" (defArgs s_Links_left) (defBody s_Links_left) (defScope s_Links_left) [] [] f fd) (x_BadNode : ExM P w K mg base 1 "BadNode" (He.ga K "BadNode") ["node"]) : FnOk P w K mg base (L2N.CX P w) 3 f fd ["self", "node"] (sp_Links_left K) :=
  F.ok sc_Links_left (len_Links_left K) fun cdv A outer s H vs Q E hr h => ⟨t_Links_left K E, pss_cons (ps_if (pt_not (pt_chain op_le op_le (pe_int) (pv 1) (pe_op op_addA (pe_fld (pv 0) rfl) (pe_int)))) (pss_one (ps_rz x_BadNode rfl (L2N.takes_of rfl rfl rfl rfl) hr (by decide) (pa_cons (pv 1) (pa_nil)))) (pss_nil)) (pss_one (ps_ret (pe_ix ix_seq (pe_fld (pv 0) rfl) (pv 1) (fun _ _ => rfl)))), rd_Links_left T vs H Q E h⟩
theorem ok_Links_right {f : Addr} {fd : FuncData} (T : Txt K mg) (F : FunD K "right" "Links.right" (defArgs s_Links_right) (defBody s_Links_right) (defScope s_Links_right) [] [] f fd) (x_BadNode : ExM P w K mg base 1 "BadNode" (He.ga K "BadNode") ["node"]) : FnOk P w K mg base (L2N.CX P w) 3 f fd ["self", "node"] (sp_Links_right K) :=
  F.ok sc_Links_right (len_Links_right K) fun cdv A outer s H vs Q E hr h => ⟨t_Links_right K E, pss_cons (ps_if (pt_not (pt_chain op_le op_le (pe_int) (pv 1) (pe_fld (pv 0) rfl))) (pss_one (ps_rz x_BadNode rfl (L2N.takes_of rfl rfl rfl rfl) hr (by decide) (pa_cons (pv 1) (pa_nil)))) (pss_nil)) (pss_one (ps_ret (pe_ix ix_seq (pe_fld (pv 0) rfl) (pv 1) (fun _ _ => rfl)))), rd_Links_right T vs H Q E h⟩
theorem ok_check_gap {f : Addr} {fd : FuncData} (T : Txt K mg) (F : FunD K "check_gap" "check_gap" (defArgs s_check_gap) (defBody s_check_gap) (defScope s_check_gap) [] [] f fd) (x_BadGap : ExM P w K mg base 1 "BadGap" (He.ga K "BadGap") ["gap"]) : FnOk P w K mg base (L2N.CX P w) 3 f fd ["size", "gap"] (sp_check_gap K) :=
  F.ok sc_check_gap (len_check_gap K) fun cdv A outer s H vs Q E hr h => ⟨t_check_gap K E, pss_one (ps_if (pt_not (pt_chain op_le op_le (pe_int) (pv 1) (pv 0))) (pss_one (ps_rz x_BadGap rfl (L2N.takes_of rfl rfl rfl rfl) hr (by decide) (pa_cons (pv 1) (pa_nil)))) (pss_nil)), rd_check_gap T vs H Q E h⟩
theorem ok_gap_state {f : Addr} {fd : FuncData} (T : Txt K mg) (F : FunD K "gap_state" "gap_state" (defArgs s_gap_state) (defBody s_gap_state) (defScope s_gap_state) [] [] f fd) (c_Links_left : Met P w K mg base 3 (He.ga K "Links") "left" ["self", "node"] (sp_Links_left K)) (c_Links_right : Met P w K mg base 3 (He.ga K "Links") "right" ["self", "node"] (sp_Links_right K)) (c_check_gap : Cal P w K mg base 3 "check_gap" ["size", "gap"] (sp_check_gap K)) : FnOk P w K mg base (L2N.CX P w) 4 f fd ["links", "gap"] (sp_gap_state K) :=
  F.ok sc_gap_state (len_gap_state K) fun cdv A outer s H vs Q E hr h => ⟨t_gap_state K E, pss_cons (ps_expr (pe_cl c_check_gap hr (by decide) (pat_of (W := fun cls d _ H => E cls d H) (L2N.takes_of rfl rfl rfl rfl)) (pa_cons (pe_fld (pv 0) rfl) (pa_cons (pv 1) (pa_nil))))) (pss_cons (ps_set (i := 2) sc_gap_state.nd rfl (by first | exact Or.inl rfl | exact Or.inr rfl) (pe_cmpR (op_eqA hr) (pe_mt c_Links_right T.cl_Links hr (by decide) (pat_of (W := fun cls d _ H => E cls d H) (L2N.takes_of rfl rfl rfl rfl)) (pv 0) (pa_cons (pv 1) (pa_nil))) (pe_op op_addA (pv 1) (pe_int)) (nomark _))) (pss_cons (ps_set (i := 3) sc_gap_state.nd rfl (by first | exact Or.inl rfl | exact Or.inr rfl) (pe_cmpR (op_eqA hr) (pe_mt c_Links_left T.cl_Links hr (by decide) (pat_of (W := fun cls d _ H => E cls d H) (L2N.takes_of rfl rfl rfl rfl)) (pv 0) (pa_cons (pe_op op_addA (pv 1) (pe_int)) (pa_nil))) (pv 1) (nomark _))) (pss_cons (ps_if (pt_val (pv 2)) (pss_one (ps_ret (pe_ifExp (pt_val (pv 3)) (pe_str) (pe_str)))) (pss_nil)) (pss_one (ps_ret (pe_ifExp (pt_val (pv 3)) (pe_str) (pe_str))))))), rd_gap_state T vs H Q E h⟩
theorem ok_check_size {f : Addr} {fd : FuncData} (T : Txt K mg) (F : FunD K "check_size" "check_size" (defArgs s_check_size) (defBody s_check_size) (defScope s_check_size) [] [] f fd) (x_BadSize : ExM P w K mg base 1 "BadSize" (He.ga K "BadSize") ["size"]) : FnOk P w K mg base (L2N.CX P w) 3 f fd ["size"] (sp_check_size K) :=
  F.ok sc_check_size (len_check_size K) fun cdv A outer s H vs Q E hr h => ⟨t_check_size K E, pss_one (ps_if (pt_not (pt_chain op_le op_le (pe_int) (pv 0) (pe_cc T.cc_Links_MOST (pe_own T.g_Links)))) (pss_one (ps_rz x_BadSize rfl (L2N.takes_of rfl rfl rfl rfl) hr (by decide) (pa_cons (pv 0) (pa_nil)))) (pss_nil)), rd_check_size T vs H Q E h⟩
theorem ok_Links___init__ {f : Addr} {fd : FuncData} (T : Txt K mg) (F : FunD K "__init__" "Links.__init__" (defArgs s_Links___init__) (defBody s_Links___init__) (defScope s_Links___init__) [] [] f fd) (c_check_size : Cal P w K mg base 3 "check_size" ["size"] (sp_check_size K)) : FnOk P w K mg base (L2N.CX P w) 4 f fd ["self", "size"] (sp_Links___init__ K) :=
  F.ok sc_Links___init__ (len_Links___init__ K) fun cdv A outer s H vs Q E hr h => ⟨t_Links___init__ K E, pss_cons (ps_expr (pe_cl c_check_size hr (by decide) (pat_of (W := fun cls d _ H => E cls d H) (L2N.takes_of rfl rfl rfl rfl)) (pa_cons (pv 1) (pa_nil)))) (pss_cons (ps_fld (pv 0) (pv 1) rfl) (pss_cons (ps_fld (pv 0) (pe_listRg rfl rfl T.b_list (prg_2 rfl T.b_range (pe_int) (pe_op op_addA (pv 1) (pe_int)))) rfl) (pss_cons (ps_fld (pv 0) (pe_op op_addA (pe_lst (pa_cons (pe_int) (pa_nil))) (pe_listRg rfl rfl T.b_list (prg_1 rfl T.b_range (pe_op op_addA (pv 1) (pe_int))))) rfl) (pss_one (ps_fld (pv 0) (pe_op op_mulA (pe_lst (pa_cons (pe_bl) (pa_nil))) (pe_op op_addA (pv 1) (pe_int))) rfl))))), rd_Links___init__ T vs H Q E h⟩
theorem ok_Links_is_legal {f : Addr} {fd : FuncData} (T : Txt K mg) (F : FunD K "is_legal" "Links.is_legal" (defArgs s_Links_is_legal) (defBody s_Links_is_legal) (defScope s_Links_is_legal) [] [] f fd)  : FnOk P w K mg base (L2N.CX P w) 1 f fd ["self", "operation"] (sp_Links_is_legal K) :=
  F.ok sc_Links_is_legal (len_Links_is_legal K) fun cdv A outer s H vs Q E hr h => ⟨t_Links_is_legal K E, pss_one (ps_ret (pe_cmpR (op_eqA hr) (pe_ix ix_seq (pe_fld (pv 0) rfl) (pe_callB call_absA (by rfl) T.b_abs (by decide +kernel) (pa_cons (pv 1) (pa_nil))) (fun _ _ => rfl)) (pe_cmpR op_gt (pv 1) (pe_int) (nomark _)) (nomark _))), rd_Links_is_legal T vs H Q E h⟩
theorem ok_check_operation {f : Addr} {fd : FuncData} (T : Txt K mg) (F : FunD K "check_operation" "check_operation" (defArgs s_check_operation) (defBody s_check_operation) (defScope s_check_operation) [] [] f fd) (x_BadOperation : ExM P w K mg base 1 "BadOperation" (He.ga K "BadOperation") ["operation", "index"]) : FnOk P w K mg base (L2N.CX P w) 3 f fd ["size", "operation", "index"] (sp_check_operation K) :=
  F.ok sc_check_operation (len_check_operation K) fun cdv A outer s H vs Q E hr h => ⟨t_check_operation K E, pss_one (ps_if (pt_not (pt_chain op_le op_le (pe_int) (pe_callB call_absA (by rfl) T.b_abs (by decide +kernel) (pa_cons (pv 1) (pa_nil))) (pv 0))) (pss_one (ps_rz x_BadOperation rfl (L2N.takes_of rfl rfl rfl rfl) hr (by decide) (pa_cons (pv 1) (pa_cons (pv 2) (pa_nil))))) (pss_nil)), rd_check_operation T vs H Q E h⟩
theorem ok_Links_check {f : Addr} {fd : FuncData} (T : Txt K mg) (F : FunD K "check" "Links.check" (defArgs s_Links_check) (defBody s_Links_check) (defScope s_Links_check) [] [] f fd) (c_Links_is_legal : Met P w K mg base 1 (He.ga K "Links") "is_legal" ["self", "operation"] (sp_Links_is_legal K)) (c_check_operation : Cal P w K mg base 3 "check_operation" ["size", "operation", "index"] (sp_check_operation K)) (x_Illegal : ExM P w K mg base 1 "Illegal" (He.ga K "Illegal") ["operation", "index"]) : FnOk P w K mg base (L2N.CX P w) 4 f fd ["self", "operation", "index"] (sp_Links_check K) :=
  F.ok sc_Links_check (len_Links_check K) fun cdv A outer s H vs Q E hr h => ⟨t_Links_check K E, pss_cons (ps_expr (pe_cl c_check_operation hr (by decide) (pat_of (W := fun cls d _ H => E cls d H) (L2N.takes_of rfl rfl rfl rfl)) (pa_cons (pe_fld (pv 0) rfl) (pa_cons (pv 1) (pa_cons (pv 2) (pa_nil)))))) (pss_one (ps_if (pt_not (pt_val (pe_mt c_Links_is_legal T.cl_Links hr (by decide) (pat_of (W := fun cls d _ H => E cls d H) (L2N.takes_of rfl rfl rfl rfl)) (pv 0) (pa_cons (pv 1) (pa_nil))))) (pss_one (ps_rz x_Illegal rfl (L2N.takes_of rfl rfl rfl rfl) hr (by decide) (pa_cons (pv 1) (pa_cons (pv 2) (pa_nil))))) (pss_nil))), rd_Links_check T vs H Q E h⟩
theorem ok_Links_apply_at {f : Addr} {fd : FuncData} (T : Txt K mg) (F : FunD K "apply_at" "Links.apply_at" (defArgs s_Links_apply_at) (defBody s_Links_apply_at) (defScope s_Links_apply_at) [] [] f fd) (c_Links_check : Met P w K mg base 4 (He.ga K "Links") "check" ["self", "operation", "index"] (sp_Links_check K)) : FnOk P w K mg base (L2N.CX P w) 5 f fd ["self", "operation", "index"] (sp_Links_apply_at K) :=
  F.ok sc_Links_apply_at (len_Links_apply_at K) fun cdv A outer s H vs Q E hr h => ⟨t_Links_apply_at K E, pss_cons (ps_expr (pe_mt c_Links_check T.cl_Links hr (by decide) (pat_of (W := fun cls d _ H => E cls d H) (L2N.takes_of rfl rfl rfl rfl)) (pv 0) (pa_cons (pv 1) (pa_cons (pv 2) (pa_nil))))) (pss_cons (ps_set (i := 3) sc_Links_apply_at.nd rfl (by first | exact Or.inl rfl | exact Or.inr rfl) (pe_callB call_absA (by rfl) T.b_abs (by decide +kernel) (pa_cons (pv 1) (pa_nil)))) (pss_cons (ps_set (i := 4) sc_Links_apply_at.nd rfl (by first | exact Or.inl rfl | exact Or.inr rfl) (pe_ix ix_seq (pe_fld (pv 0) rfl) (pv 3) (fun _ _ => rfl))) (pss_cons (ps_set (i := 5) sc_Links_apply_at.nd rfl (by first | exact Or.inl rfl | exact Or.inr rfl) (pe_ix ix_seq (pe_fld (pv 0) rfl) (pv 3) (fun _ _ => rfl))) (pss_cons (ps_set (i := 6) sc_Links_apply_at.nd rfl (by first | exact Or.inl rfl | exact Or.inr rfl) (pe_cmpR op_lt (pv 1) (pe_int) (nomark _))) (pss_cons (ps_asg (pe_ifExp (pt_val (pv 6)) (pv 5) (pv 3)) (pg_sub (pe_fld (pv 0) rfl) (pv 4) set_list)) (pss_cons (ps_asg (pe_ifExp (pt_val (pv 6)) (pv 4) (pv 3)) (pg_sub (pe_fld (pv 0) rfl) (pv 5) set_list)) (pss_one (ps_asg (pv 6) (pg_sub (pe_fld (pv 0) rfl) (pv 3) set_list))))))))), rd_Links_apply_at T vs H Q E h⟩
theorem ok_Links_copy {f : Addr} {fd : FuncData} (T : Txt K mg) (F : FunD K "copy" "Links.copy" (defArgs s_Links_copy) (defBody s_Links_copy) (defScope s_Links_copy) [] [] f fd) (m_Links : Mak P w K mg base 4 "Links" (He.ga K "Links") ["self", "size"] (sp_Links___init__ K)) : FnOk P w K mg base (L2N.CX P w) 6 f fd ["self"] (sp_Links_copy K) :=
  F.ok sc_Links_copy (len_Links_copy K) fun cdv A outer s H vs Q E hr h => ⟨t_Links_copy K E, pss_cons (ps_set (i := 1) sc_Links_copy.nd rfl (by first | exact Or.inl rfl | exact Or.inr rfl) (pe_mk m_Links hr (by decide) (pat_of (W := fun cls d _ H => E cls d H) (L2N.takes_of rfl rfl rfl rfl)) (pa_cons (pe_fld (pv 0) rfl) (pa_nil)))) (pss_cons (ps_fld (pv 1) (pe_callTy call_listA (by rfl) T.b_list (by decide +kernel) (pa_cons (pe_fld (pv 0) rfl) (pa_nil))) rfl) (pss_cons (ps_fld (pv 1) (pe_callTy call_listA (by rfl) T.b_list (by decide +kernel) (pa_cons (pe_fld (pv 0) rfl) (pa_nil))) rfl) (pss_cons (ps_fld (pv 1) (pe_callTy call_listA (by rfl) T.b_list (by decide +kernel) (pa_cons (pe_fld (pv 0) rfl) (pa_nil))) rfl) (pss_one (ps_ret (pv 1)))))), rd_Links_copy T vs H Q E h⟩
theorem ok_play {f : Addr} {fd : FuncData} (T : Txt K mg) (F : FunD K "play" "play" (defArgs s_play) (defBody s_play) (defScope s_play) [] [] f fd) (c_Links_apply_at : Met P w K mg base 5 (He.ga K "Links") "apply_at" ["self", "operation", "index"] (sp_Links_apply_at K)) (c_Links_copy : Met P w K mg base 6 (He.ga K "Links") "copy" ["self"] (sp_Links_copy K)) : FnOk P w K mg base (L2N.CX P w) 7 f fd ["links", "log"] (sp_play K) :=
  F.ok sc_play (len_play K) fun cdv A outer s H vs Q E hr h => ⟨t_play K E, pss_cons (ps_set (i := 2) sc_play.nd rfl (by first | exact Or.inl rfl | exact Or.inr rfl) (pe_mt0 c_Links_copy T.cl_Links hr (by decide) (pat_of (W := fun cls d _ H => E cls d H) (L2N.takes_of rfl rfl rfl rfl)) (pv 0))) (pss_cons (ps_for (passes_of rfl) rfl (pi_enum (by rfl) T.b_enumerate (pa_cons (pv 1) (pa_nil))) (pg_tup (by rfl) (pgs_cons (pg_name (i := 3) sc_play.nd rfl (by first | exact Or.inl rfl | exact Or.inr rfl)) (pgs_cons (pg_name (i := 4) sc_play.nd rfl (by first | exact Or.inl rfl | exact Or.inr rfl)) (pgs_nil)))) (pss_one (ps_expr (pe_mt c_Links_apply_at T.cl_Links hr (by decide) (pat_of (W := fun cls d _ H => E cls d H) (L2N.takes_of rfl rfl rfl rfl)) (pv 2) (pa_cons (pv 4) (pa_cons (pv 3) (pa_nil))))))) (pss_one (ps_ret (pv 2)))), rd_play T vs H Q E h⟩
theorem ok_replay {f : Addr} {fd : FuncData} (T : Txt K mg) (F : FunD K "replay" "replay" (defArgs s_replay) (defBody s_replay) (defScope s_replay) [] [] f fd) (m_Links : Mak P w K mg base 4 "Links" (He.ga K "Links") ["self", "size"] (sp_Links___init__ K)) (c_play : Cal P w K mg base 7 "play" ["links", "log"] (sp_play K)) : FnOk P w K mg base (L2N.CX P w) 8 f fd ["size", "log"] (sp_replay K) :=
  F.ok sc_replay (len_replay K) fun cdv A outer s H vs Q E hr h => ⟨t_replay K E, pss_one (ps_ret (pe_cl c_play hr (by decide) (pat_of (W := fun cls d _ H => E cls d H) (L2N.takes_of rfl rfl rfl rfl)) (pa_cons (pe_mk m_Links hr (by decide) (pat_of (W := fun cls d _ H => E cls d H) (L2N.takes_of rfl rfl rfl rfl)) (pa_cons (pv 0) (pa_nil))) (pa_cons (pv 1) (pa_nil))))), rd_replay T vs H Q E h⟩
theorem ok__links_of_operations {f : Addr} {fd : FuncData} (T : Txt K mg) (F : FunD K "_links_of_operations" "_links_of_operations" (defArgs s__links_of_operations) (defBody s__links_of_operations) (defScope s__links_of_operations) [] [] f fd) (m_Links : Mak P w K mg base 4 "Links" (He.ga K "Links") ["self", "size"] (sp_Links___init__ K)) (c_Links_apply_at : Met P w K mg base 5 (He.ga K "Links") "apply_at" ["self", "operation", "index"] (sp_Links_apply_at K)) (c_Links_left : Met P w K mg base 3 (He.ga K "Links") "left" ["self", "node"] (sp_Links_left K)) (c_Links_right : Met P w K mg base 3 (He.ga K "Links") "right" ["self", "node"] (sp_Links_right K)) : FnOk P w K mg base (L2N.CX P w) 6 f fd ["size", "log"] (sp__links_of_operations K) :=
  F.ok sc__links_of_operations (len__links_of_operations K) fun cdv A outer s H vs Q E hr h => ⟨t__links_of_operations K E, pss_cons (ps_set (i := 2) sc__links_of_operations.nd rfl (by first | exact Or.inl rfl | exact Or.inr rfl) (pe_mk m_Links hr (by decide) (pat_of (W := fun cls d _ H => E cls d H) (L2N.takes_of rfl rfl rfl rfl)) (pa_cons (pv 0) (pa_nil)))) (pss_cons (ps_set (i := 3) sc__links_of_operations.nd rfl (by first | exact Or.inl rfl | exact Or.inr rfl) (pe_lst (pa_nil))) (pss_cons (ps_for (passes_of rfl) rfl (pi_enum (by rfl) T.b_enumerate (pa_cons (pv 1) (pa_nil))) (pg_tup (by rfl) (pgs_cons (pg_name (i := 4) sc__links_of_operations.nd rfl (by first | exact Or.inl rfl | exact Or.inr rfl)) (pgs_cons (pg_name (i := 5) sc__links_of_operations.nd rfl (by first | exact Or.inl rfl | exact Or.inr rfl)) (pgs_nil)))) (pss_cons (ps_expr (pe_mt c_Links_apply_at T.cl_Links hr (by decide) (pat_of (W := fun cls d _ H => E cls d H) (L2N.takes_of rfl rfl rfl rfl)) (pv 2) (pa_cons (pv 5) (pa_cons (pv 4) (pa_nil))))) (pss_cons (ps_set (i := 6) sc__links_of_operations.nd rfl (by first | exact Or.inl rfl | exact Or.inr rfl) (pe_callB call_absA (by rfl) T.b_abs (by decide +kernel) (pa_cons (pv 5) (pa_nil)))) (pss_one (ps_expr (pe_bm PySem.F.plainAttrs_list PySem.F.slot_list_append PySem.F.type_list_append mt_append (pv 3) (pa_cons (pe_tup (pa_cons (pv 6) (pa_cons (pe_mt c_Links_left T.cl_Links hr (by decide) (pat_of (W := fun cls d _ H => E cls d H) (L2N.takes_of rfl rfl rfl rfl)) (pv 2) (pa_cons (pv 6) (pa_nil))) (pa_cons (pe_mt c_Links_right T.cl_Links hr (by decide) (pat_of (W := fun cls d _ H => E cls d H) (L2N.takes_of rfl rfl rfl rfl)) (pv 2) (pa_cons (pv 6) (pa_nil))) (pa_nil))))) (pa_nil)))))))) (pss_one (ps_ret (pv 3))))), rd__links_of_operations T vs H Q E h⟩
theorem ok_writers {f : Addr} {fd : FuncData} (T : Txt K mg) (F : FunD K "writers" "writers" (defArgs s_writers) (defBody s_writers) (defScope s_writers) [] [] f fd) (c__links_of_operations : Cal P w K mg base 6 "_links_of_operations" ["size", "log"] (sp__links_of_operations K)) : FnOk P w K mg base (L2N.CX P w) 7 f fd ["size", "log"] (sp_writers K) :=
  F.ok sc_writers (len_writers K) fun cdv A outer s H vs Q E hr h => ⟨t_writers K E, pss_cons (ps_set (i := 2) sc_writers.nd rfl (by first | exact Or.inl rfl | exact Or.inr rfl) (pe_cl c__links_of_operations hr (by decide) (pat_of (W := fun cls d _ H => E cls d H) (L2N.takes_of rfl rfl rfl rfl)) (pa_cons (pv 0) (pa_cons (pv 1) (pa_nil))))) (pss_cons (ps_set (i := 3) sc_writers.nd rfl (by first | exact Or.inl rfl | exact Or.inr rfl) (pe_op op_mulA (pe_lst (pa_cons (pe_un un_neg (pe_int)) (pa_nil))) (pe_op op_addA (pv 0) (pe_int)))) (pss_cons (ps_set (i := 4) sc_writers.nd rfl (by first | exact Or.inl rfl | exact Or.inr rfl) (pe_op op_mulA (pe_lst (pa_cons (pe_un un_neg (pe_int)) (pa_nil))) (pe_op op_addA (pv 0) (pe_int)))) (pss_cons (ps_for (passes_of rfl) rfl (pi_enum (by rfl) T.b_enumerate (pa_cons (pv 2) (pa_nil))) (pg_tup (by rfl) (pgs_cons (pg_name (i := 5) sc_writers.nd rfl (by first | exact Or.inl rfl | exact Or.inr rfl)) (pgs_cons (pg_tup (by rfl) (pgs_cons (pg_name (i := 6) sc_writers.nd rfl (by first | exact Or.inl rfl | exact Or.inr rfl)) (pgs_cons (pg_name (i := 7) sc_writers.nd rfl (by first | exact Or.inl rfl | exact Or.inr rfl)) (pgs_cons (pg_name (i := 8) sc_writers.nd rfl (by first | exact Or.inl rfl | exact Or.inr rfl)) (pgs_nil))))) (pgs_nil)))) (pss_cons (ps_asg (pv 5) (pg_sub (pv 3) (pv 7) set_list)) (pss_one (ps_asg (pv 5) (pg_sub (pv 4) (pe_op op_sub (pv 8) (pe_int)) set_list))))) (pss_one (ps_ret (pe_tup (pa_cons (pv 3) (pa_cons (pv 4) (pa_nil))))))))), rd_writers T vs H Q E h⟩
theorem ok_gap_certificate {f : Addr} {fd : FuncData} (T : Txt K mg) (F : FunD K "gap_certificate" "gap_certificate" (defArgs s_gap_certificate) (defBody s_gap_certificate) (defScope s_gap_certificate) [] [] f fd) (c_gap_state : Cal P w K mg base 4 "gap_state" ["links", "gap"] (sp_gap_state K)) (c_replay : Cal P w K mg base 8 "replay" ["size", "log"] (sp_replay K)) (c_writers : Cal P w K mg base 7 "writers" ["size", "log"] (sp_writers K)) : FnOk P w K mg base (L2N.CX P w) 9 f fd ["size", "log", "gap"] (sp_gap_certificate K) :=
  F.ok sc_gap_certificate (len_gap_certificate K) fun cdv A outer s H vs Q E hr h => ⟨t_gap_certificate K E, pss_cons (ps_asg (pe_cl c_writers hr (by decide) (pat_of (W := fun cls d _ H => E cls d H) (L2N.takes_of rfl rfl rfl rfl)) (pa_cons (pv 0) (pa_cons (pv 1) (pa_nil)))) (pg_tup (by rfl) (pgs_cons (pg_name (i := 3) sc_gap_certificate.nd rfl (by first | exact Or.inl rfl | exact Or.inr rfl)) (pgs_cons (pg_name (i := 4) sc_gap_certificate.nd rfl (by first | exact Or.inl rfl | exact Or.inr rfl)) (pgs_nil))))) (pss_cons (ps_set (i := 5) sc_gap_certificate.nd rfl (by first | exact Or.inl rfl | exact Or.inr rfl) (pe_cl c_gap_state hr (by decide) (pat_of (W := fun cls d _ H => E cls d H) (L2N.takes_of rfl rfl rfl rfl)) (pa_cons (pe_cl c_replay hr (by decide) (pat_of (W := fun cls d _ H => E cls d H) (L2N.takes_of rfl rfl rfl rfl)) (pa_cons (pv 0) (pa_cons (pv 1) (pa_nil)))) (pa_cons (pv 2) (pa_nil))))) (pss_one (ps_ret (pe_tup (pa_cons (pv 5) (pa_cons (pe_ix ix_seq (pv 3) (pv 2) (fun _ _ => rfl)) (pa_cons (pe_ix ix_seq (pv 4) (pv 2) (fun _ _ => rfl)) (pa_nil)))))))), rd_gap_certificate T vs H Q E h⟩
theorem ok_is_plain_integer {f : Addr} {fd : FuncData} (T : Txt K mg) (F : FunD K "is_plain_integer" "is_plain_integer" (defArgs s_is_plain_integer) (defBody s_is_plain_integer) (defScope s_is_plain_integer) [] [] f fd)  : FnOk P w K mg base (L2N.CX P w) 1 f fd ["value"] (sp_is_plain_integer K) :=
  F.ok sc_is_plain_integer (len_is_plain_integer K) fun cdv A outer s H vs Q E hr h => ⟨t_is_plain_integer K E, pss_one (ps_ret (pe_and (pe_callB call_isi (by rfl) T.b_isinstance (by decide +kernel) (pa_cons (pv 0) (pa_cons (pe_ty "int" T.b_int (by decide +kernel)) (pa_nil)))) (pe_one (pe_not (pe_callB call_isi (by rfl) T.b_isinstance (by decide +kernel) (pa_cons (pv 0) (pa_cons (pe_ty "bool" T.b_bool (by decide +kernel)) (pa_nil)))))))), rd_is_plain_integer T vs H Q E h⟩
theorem ok_is_gap_certificate {f : Addr} {fd : FuncData} (T : Txt K mg) (F : FunD K "is_gap_certificate" "is_gap_certificate" (defArgs s_is_gap_certificate) (defBody s_is_gap_certificate) (defScope s_is_gap_certificate) [] [] f fd) (c_gap_certificate : Cal P w K mg base 9 "gap_certificate" ["size", "log", "gap"] (sp_gap_certificate K)) (c_is_plain_integer : Cal P w K mg base 1 "is_plain_integer" ["value"] (sp_is_plain_integer K)) : FnOk P w K mg base (L2N.CX P w) 10 f fd ["size", "log", "gap", "value"] (sp_is_gap_certificate K) :=
  F.ok sc_is_gap_certificate (len_is_gap_certificate K) fun cdv A outer s H vs Q E hr h => ⟨t_is_gap_certificate K E, pss_cons (ps_set (i := 4) sc_is_gap_certificate.nd rfl (by first | exact Or.inl rfl | exact Or.inr rfl) (pe_cl c_gap_certificate hr (by decide) (pat_of (W := fun cls d _ H => E cls d H) (L2N.takes_of rfl rfl rfl rfl)) (pa_cons (pv 0) (pa_cons (pv 1) (pa_cons (pv 2) (pa_nil)))))) (pss_cons (ps_if ((pw_or (pt_not (pt_val (pe_callB call_isi (by rfl) T.b_isinstance (by decide +kernel) (pa_cons (pv 3) (pa_cons (pe_ty "tuple" T.b_tuple (by decide +kernel)) (pa_nil)))))) (pw_or1 (pt_cmpR (op_neA hr) (pe_callB call_lenA (by rfl) T.b_len (by decide +kernel) (pa_cons (pv 3) (pa_nil))) (pe_int) (nomark _)))).pt) (pss_one (ps_ret (pe_bl))) (pss_nil)) (pss_cons (ps_asg (pv 3) (pg_tup (by rfl) (pgs_cons (pg_name (i := 5) sc_is_gap_certificate.nd rfl (by first | exact Or.inl rfl | exact Or.inr rfl)) (pgs_cons (pg_name (i := 6) sc_is_gap_certificate.nd rfl (by first | exact Or.inl rfl | exact Or.inr rfl)) (pgs_cons (pg_name (i := 7) sc_is_gap_certificate.nd rfl (by first | exact Or.inl rfl | exact Or.inr rfl)) (pgs_nil)))))) (pss_cons (ps_set (i := 8) sc_is_gap_certificate.nd rfl (by first | exact Or.inl rfl | exact Or.inr rfl) (pe_and (pe_cl c_is_plain_integer hr (by decide) (pat_of (W := fun cls d _ H => E cls d H) (L2N.takes_of rfl rfl rfl rfl)) (pa_cons (pv 6) (pa_nil))) (pe_one (pe_cl c_is_plain_integer hr (by decide) (pat_of (W := fun cls d _ H => E cls d H) (L2N.takes_of rfl rfl rfl rfl)) (pa_cons (pv 7) (pa_nil)))))) (pss_one (ps_ret (pe_and (pe_callB call_isi (by rfl) T.b_isinstance (by decide +kernel) (pa_cons (pv 5) (pa_cons (pe_ty "str" T.b_str (by decide +kernel)) (pa_nil)))) (pe_and (pv 8) (pe_one (pe_cmpR (op_eqA hr) (pv 3) (pv 4) (nomark _)))))))))), rd_is_gap_certificate T vs H Q E h⟩
theorem ok__law_judged {f : Addr} {fd : FuncData} (T : Txt K mg) (F : FunD K "_law_judged" "_law_judged" (defArgs s__law_judged) (defBody s__law_judged) (defScope s__law_judged) [] [] f fd) (c_is_gap_certificate : Cal P w K mg base 10 "is_gap_certificate" ["size", "log", "gap", "value"] (sp_is_gap_certificate K)) : FnOk P w K mg base (L2N.CX P w) 11 f fd ["size", "deeds", "place", "value", "due"] (sp__law_judged K) :=
  F.ok sc__law_judged (len__law_judged K) fun cdv A outer s H vs Q E hr h => ⟨t__law_judged K E, pss_cons (ps_set (i := 5) sc__law_judged.nd rfl (by first | exact Or.inl rfl | exact Or.inr rfl) (pe_cl c_is_gap_certificate hr (by decide) (pat_of (W := fun cls d _ H => E cls d H) (L2N.takes_of rfl rfl rfl rfl)) (pa_cons (pv 0) (pa_cons (pv 1) (pa_cons (pv 2) (pa_cons (pv 3) (pa_nil))))))) (pss_one (ps_ret (pe_and (pe_callB call_isi (by rfl) T.b_isinstance (by decide +kernel) (pa_cons (pv 5) (pa_cons (pe_ty "bool" T.b_bool (by decide +kernel)) (pa_nil)))) (pe_one (pe_cmpR (op_eqA hr) (pv 5) (pe_cmpR (op_eqA hr) (pv 3) (pv 4) (nomark _)) (nomark _)))))), rd__law_judged T vs H Q E h⟩
theorem ok__law_papers_fit {f : Addr} {fd : FuncData} (T : Txt K mg) (F : FunD K "_law_papers_fit" "_law_papers_fit" (defArgs s__law_papers_fit) (defBody s__law_papers_fit) (defScope s__law_papers_fit) [] [] f fd) (c__law_bents : Cal P w K mg base 1 "_law_bents" ["due", "other", "by"] (sp__law_bents K)) (c__law_draw : Cal P w K mg base 1 "_law_draw" ["bag", "many"] (sp__law_draw K)) (c__law_is_paper : Cal P w K mg base 2 "_law_is_paper" ["told", "due"] (sp__law_is_paper K)) (c__law_judged : Cal P w K mg base 11 "_law_judged" ["size", "deeds", "place", "value", "due"] (sp__law_judged K)) (c_gap_certificate : Cal P w K mg base 9 "gap_certificate" ["size", "log", "gap"] (sp_gap_certificate K)) (c_is_gap_certificate : Cal P w K mg base 10 "is_gap_certificate" ["size", "log", "gap", "value"] (sp_is_gap_certificate K)) : FnOk P w K mg base (L2N.CX P w) 12 f fd ["size", "deeds", "places", "papers", "bag"] (sp__law_papers_fit K) :=
  F.ok sc__law_papers_fit (len__law_papers_fit K) fun cdv A outer s H vs Q E hr h => ⟨t__law_papers_fit K E, pss_cons (ps_set (i := 5) sc__law_papers_fit.nd rfl (by first | exact Or.inl rfl | exact Or.inr rfl) (pe_ix ix_seq (pv 2) (pe_cl c__law_draw hr (by decide) (pat_of (W := fun cls d _ H => E cls d H) (L2N.takes_of rfl rfl rfl rfl)) (pa_cons (pv 4) (pa_cons (pe_callB call_lenA (by rfl) T.b_len (by decide +kernel) (pa_cons (pv 2) (pa_nil))) (pa_nil)))) (fun _ _ => rfl))) (pss_cons (ps_for (passes_of rfl) rfl (pi_list (pv 2)) (pg_name (i := 6) sc__law_papers_fit.nd rfl (by first | exact Or.inl rfl | exact Or.inr rfl)) (pss_cons (ps_set (i := 7) sc__law_papers_fit.nd rfl (by first | exact Or.inl rfl | exact Or.inr rfl) (pe_ix ix_seq (pv 3) (pv 6) (fun _ _ => rfl))) (pss_cons (ps_if (pt_not (pt_val (pe_cl c__law_is_paper hr (by decide) (pat_of (W := fun cls d _ H => E cls d H) (L2N.takes_of rfl rfl rfl rfl)) (pa_cons (pe_cl c_gap_certificate hr (by decide) (pat_of (W := fun cls d _ H => E cls d H) (L2N.takes_of rfl rfl rfl rfl)) (pa_cons (pv 0) (pa_cons (pv 1) (pa_cons (pv 6) (pa_nil))))) (pa_cons (pv 7) (pa_nil)))))) (pss_one (ps_ret (pe_bl))) (pss_nil)) (pss_cons (ps_if (pt_not (pt_val (pe_cl c__law_judged hr (by decide) (pat_of (W := fun cls d _ H => E cls d H) (L2N.takes_of rfl rfl rfl rfl)) (pa_cons (pv 0) (pa_cons (pv 1) (pa_cons (pv 6) (pa_cons (pv 7) (pa_cons (pv 7) (pa_nil))))))))) (pss_one (ps_ret (pe_bl))) (pss_nil)) (pss_cons (ps_set (i := 8) sc__law_papers_fit.nd rfl (by first | exact Or.inl rfl | exact Or.inr rfl) (pe_cl c__law_bents hr (by decide) (pat_of (W := fun cls d _ H => E cls d H) (L2N.takes_of rfl rfl rfl rfl)) (pa_cons (pv 7) (pa_cons (pe_ix ix_seq (pv 3) (pv 5) (fun _ _ => rfl)) (pa_cons (pe_op op_addA (pe_int) (pe_cl c__law_draw hr (by decide) (pat_of (W := fun cls d _ H => E cls d H) (L2N.takes_of rfl rfl rfl rfl)) (pa_cons (pv 4) (pa_cons (pe_int) (pa_nil))))) (pa_nil)))))) (pss_cons (ps_setLc (i := 9) (own := [("turn", 13)]) (g := gName 13) (tt := tYes) (te := tOp (rIx K) (tVar 8) (tCl (sp__law_draw K) (fun _ => E0) (tCons (tVar 4) (tCons (tCB (rLenA K) (tCons (tVar 8) (tNil))) (tNil))))) rfl sc__law_papers_fit.nd rfl rfl (sw_true rfl rfl rfl (by decide +kernel)) (pi_range1 rfl T.b_range (pa_cons (pe_int) (pa_nil))) (blkOk_by (own := [("turn", 13)]) (N := ["size", "deeds", "places", "papers", "bag", "far", "place", "due", "bents", "picked", "value", "at", "bent", "turn"]) (sc := defScope s__law_papers_fit) (by decide +kernel)) (fun _ _ _ _ _ => pg_name (i := 13) sc__law_papers_fit.nd rfl (by first | exact Or.inl rfl | exact Or.inr rfl)) (fun _ _ _ _ _ => pts_nil) (fun _ _ _ _ _ => pe_ix ix_seq (pv 8) (pe_cl c__law_draw hr (by decide) (pat_no) (pa_cons (pv 4) (pa_cons (pe_callB call_lenA (by rfl) T.b_len (by decide +kernel) (pa_cons (pv 8) (pa_nil))) (pa_nil)))) (fun _ _ => rfl))) (pss_cons (ps_if (pt_cmpR (op_eqA hr) (pv 6) (pv 5) (nomark _)) (pss_one (ps_set (i := 9) sc__law_papers_fit.nd rfl (by first | exact Or.inl rfl | exact Or.inr rfl) (pe_cl c__law_bents hr (by decide) (pat_of (W := fun cls d _ H => E cls d H) (L2N.takes_of rfl rfl rfl rfl)) (pa_cons (pv 7) (pa_cons (pe_ix ix_seq (pv 3) (pe_op op_sub (pv 0) (pv 5)) (fun _ _ => rfl)) (pa_cons (pe_int) (pa_nil))))))) (pss_nil)) (pss_cons (ps_for (passes_of rfl) rfl (pi_list (pv 9)) (pg_name (i := 10) sc__law_papers_fit.nd rfl (by first | exact Or.inl rfl | exact Or.inr rfl)) (pss_one (ps_if (pt_not (pt_val (pe_cl c__law_judged hr (by decide) (pat_of (W := fun cls d _ H => E cls d H) (L2N.takes_of rfl rfl rfl rfl)) (pa_cons (pv 0) (pa_cons (pv 1) (pa_cons (pv 6) (pa_cons (pv 10) (pa_cons (pv 7) (pa_nil))))))))) (pss_one (ps_ret (pe_bl))) (pss_nil)))) (pss_one (ps_for (passes_of rfl) rfl (pi_range2 rfl T.b_range (pa_cons (pe_int) (pa_cons (pe_int) (pa_nil)))) (pg_name (i := 11) sc__law_papers_fit.nd rfl (by first | exact Or.inl rfl | exact Or.inr rfl)) (pss_cons (ps_set (i := 12) sc__law_papers_fit.nd rfl (by first | exact Or.inl rfl | exact Or.inr rfl) (pe_callTy call_listA (by rfl) T.b_list (by decide +kernel) (pa_cons (pv 7) (pa_nil)))) (pss_cons (ps_asg (pe_cmpR (op_eqA hr) (pe_ix ix_seq (pv 7) (pv 11) (fun _ _ => rfl)) (pe_int) (nomark _)) (pg_sub (pv 12) (pv 11) set_list)) (pss_one (ps_if ((pw_and (pt_cmpR op_in_seq (pe_ix ix_seq (pv 7) (pv 11) (fun _ _ => rfl)) (pe_lst (pa_cons (pe_int) (pa_cons (pe_int) (pa_nil)))) (rfl)) (pw_and1 (pt_cmpR op_isnotB (pe_cl c_is_gap_certificate hr (by decide) (pat_of (W := fun cls d _ H => E cls d H) (L2N.takes_of rfl rfl rfl rfl)) (pa_cons (pv 0) (pa_cons (pe_callTy call_listA (by rfl) T.b_list (by decide +kernel) (pa_cons (pv 1) (pa_nil))) (pa_cons (pv 6) (pa_cons (pe_callTy call_tupA (by rfl) T.b_tuple (by decide +kernel) (pa_cons (pv 12) (pa_nil))) (pa_nil)))))) (pe_bl) (nomark _)))).pt) (pss_one (ps_ret (pe_bl))) (pss_nil))))))))))))))) (pss_one (ps_ret (pe_bl)))), rd__law_papers_fit T vs H Q E h⟩
theorem ok__law_number_or_none {f : Addr} {fd : FuncData} (T : Txt K mg) (F : FunD K "_law_number_or_none" "_law_number_or_none" (defArgs s__law_number_or_none) (defBody s__law_number_or_none) (defScope s__law_number_or_none) [] [] f fd) (c__law_whole_number : Cal P w K mg base 1 "_law_whole_number" ["told"] (sp__law_whole_number K)) : FnOk P w K mg base (L2N.CX P w) 2 f fd ["told", "due"] (sp__law_number_or_none K) :=
  F.ok sc__law_number_or_none (len__law_number_or_none K) fun cdv A outer s H vs Q E hr h => ⟨t__law_number_or_none K E, pss_cons (ps_if ((pw_or (pt_cmpR op_isNA (pv 0) (pe_non) (nomark _)) (pw_or1 (pt_cmpR op_isNA (pv 1) (pe_non) (nomark _)))).pt) (pss_one (ps_ret (pe_and (pe_cmpR op_isNA (pv 0) (pe_non) (nomark _)) (pe_one (pe_cmpR op_isNA (pv 1) (pe_non) (nomark _)))))) (pss_nil)) (pss_one (ps_ret (pe_and (pe_cl c__law_whole_number hr (by decide) (pat_of (W := fun cls d _ H => E cls d H) (L2N.takes_of rfl rfl rfl rfl)) (pa_cons (pv 0) (pa_nil))) (pe_one (pe_cmpR (op_eqA hr) (pv 0) (pv 1) (nomark _)))))), rd__law_number_or_none T vs H Q E h⟩
theorem ok__law_numbers {f : Addr} {fd : FuncData} (T : Txt K mg) (F : FunD K "_law_numbers" "_law_numbers" (defArgs s__law_numbers) (defBody s__law_numbers) (defScope s__law_numbers) [] [] f fd) (c__law_whole_number : Cal P w K mg base 1 "_law_whole_number" ["told"] (sp__law_whole_number K)) : FnOk P w K mg base (L2N.CX P w) 2 f fd ["told", "due"] (sp__law_numbers K) :=
  F.ok sc__law_numbers (len__law_numbers K) fun cdv A outer s H vs Q E hr h => ⟨t__law_numbers K E, pss_cons (ps_if ((pw_or (pt_not (pt_val (pe_callB call_isi (by rfl) T.b_isinstance (by decide +kernel) (pa_cons (pv 0) (pa_cons (pe_ty "list" T.b_list (by decide +kernel)) (pa_nil)))))) (pw_or1 (pt_cmpR (op_neA hr) (pe_callB call_lenA (by rfl) T.b_len (by decide +kernel) (pa_cons (pv 0) (pa_nil))) (pe_callB call_lenA (by rfl) T.b_len (by decide +kernel) (pa_cons (pv 1) (pa_nil))) (nomark _)))).pt) (pss_one (ps_ret (pe_bl))) (pss_nil)) (pss_cons (ps_for (passes_of rfl) rfl (pi_range1 rfl T.b_range (pa_cons (pe_callB call_lenA (by rfl) T.b_len (by decide +kernel) (pa_cons (pv 1) (pa_nil))) (pa_nil))) (pg_name (i := 2) sc__law_numbers.nd rfl (by first | exact Or.inl rfl | exact Or.inr rfl)) (pss_one (ps_if ((pw_or (pt_not (pt_val (pe_cl c__law_whole_number hr (by decide) (pat_of (W := fun cls d _ H => E cls d H) (L2N.takes_of rfl rfl rfl rfl)) (pa_cons (pe_ix ix_seq (pv 0) (pv 2) (fun _ _ => rfl)) (pa_nil))))) (pw_or1 (pt_cmpR (op_neA hr) (pe_ix ix_seq (pv 0) (pv 2) (fun _ _ => rfl)) (pe_ix ix_seq (pv 1) (pv 2) (fun _ _ => rfl)) (nomark _)))).pt) (pss_one (ps_ret (pe_bl))) (pss_nil)))) (pss_one (ps_ret (pe_bl)))), rd__law_numbers T vs H Q E h⟩
theorem ok__law_bears {f : Addr} {fd : FuncData} (T : Txt K mg) (F : FunD K "_law_bears" "_law_bears" (defArgs s__law_bears) (defBody s__law_bears) (defScope s__law_bears) [] [] f fd) (c__law_number_or_none : Cal P w K mg base 2 "_law_number_or_none" ["told", "due"] (sp__law_number_or_none K)) (c__law_numbers : Cal P w K mg base 2 "_law_numbers" ["told", "due"] (sp__law_numbers K)) : FnOk P w K mg base (L2N.CX P w) 3 f fd ["told", "gone", "place", "k"] (sp__law_bears K) :=
  F.ok sc__law_bears (len__law_bears K) fun cdv A outer s H vs Q E hr h => ⟨t__law_bears K E, pss_cons (ps_if ((pw_or (pt_not (pt_val (pe_callB call_isi (by rfl) T.b_isinstance (by decide +kernel) (pa_cons (pv 0) (pa_cons (pe_own T.g_Verdict) (pa_nil)))))) (pw_or1 (pt_not (pt_val (pe_cl c__law_numbers hr (by decide) (pat_of (W := fun cls d _ H => E cls d H) (L2N.takes_of rfl rfl rfl rfl)) (pa_cons (pe_fld (pv 0) rfl) (pa_cons (pv 1) (pa_nil)))))))).pt) (pss_one (ps_ret (pe_bl))) (pss_nil)) (pss_cons (ps_if ((pw_or (pt_not (pt_val (pe_cl c__law_number_or_none hr (by decide) (pat_of (W := fun cls d _ H => E cls d H) (L2N.takes_of rfl rfl rfl rfl)) (pa_cons (pe_fld (pv 0) rfl) (pa_cons (pv 2) (pa_nil)))))) (pw_or1 (pt_not (pt_val (pe_cl c__law_number_or_none hr (by decide) (pat_of (W := fun cls d _ H => E cls d H) (L2N.takes_of rfl rfl rfl rfl)) (pa_cons (pe_fld (pv 0) rfl) (pa_cons (pv 3) (pa_nil)))))))).pt) (pss_one (ps_ret (pe_bl))) (pss_nil)) (pss_one (ps_ret (pe_and (pe_callB call_isi (by rfl) T.b_isinstance (by decide +kernel) (pa_cons (pe_fld (pv 0) rfl) (pa_cons (pe_ty "bool" T.b_bool (by decide +kernel)) (pa_nil)))) (pe_one (pe_cmpR (op_eqA hr) (pe_fld (pv 0) rfl) (pe_and (pe_cmpR op_isNA (pv 2) (pe_non) (nomark _)) (pe_one (pe_cmpR (op_eqA hr) (pe_callB call_lenA (by rfl) T.b_len (by decide +kernel) (pa_cons (pv 1) (pa_nil))) (pe_int) (nomark _)))) (nomark _))))))), rd__law_bears T vs H Q E h⟩
theorem ok__law_verdict_fits {f : Addr} {fd : FuncData} (T : Txt K mg) (F : FunD K "_law_verdict_fits" "_law_verdict_fits" (defArgs s__law_verdict_fits) (defBody s__law_verdict_fits) (defScope s__law_verdict_fits) [] [] f fd) (c__law_bears : Cal P w K mg base 3 "_law_bears" ["told", "gone", "place", "k"] (sp__law_bears K)) : FnOk P w K mg base (L2N.CX P w) 4 f fd ["told", "book"] (sp__law_verdict_fits K) :=
  F.ok sc__law_verdict_fits (len__law_verdict_fits K) fun cdv A outer s H vs Q E hr h => ⟨t__law_verdict_fits K E, pss_cons (ps_for (passes_of rfl) rfl (pi_range1 rfl T.b_range (pa_cons (pe_callB call_lenA (by rfl) T.b_len (by decide +kernel) (pa_cons (pe_ix ix_seq (pv 1) (pe_int) (fun _ _ => rfl)) (pa_nil))) (pa_nil))) (pg_name (i := 2) sc__law_verdict_fits.nd rfl (by first | exact Or.inl rfl | exact Or.inr rfl)) (pss_one (ps_if (pt_cmpR (op_neA hr) (pe_ix ix_seq (pe_ix ix_seq (pe_ix ix_seq (pv 1) (pe_int) (fun _ _ => rfl)) (pv 2) (fun _ _ => rfl)) (pe_int) (fun _ _ => rfl)) (pe_str) (nomark _)) (pss_one (ps_ret (pe_cl c__law_bears hr (by decide) (pat_of (W := fun cls d _ H => E cls d H) (L2N.takes_of rfl rfl rfl rfl)) (pa_cons (pv 0) (pa_cons (pe_ix ix_seq (pv 1) (pe_int) (fun _ _ => rfl)) (pa_cons (pv 2) (pa_cons (pe_ix ix_seq (pe_ix ix_seq (pv 1) (pe_int) (fun _ _ => rfl)) (pv 2) (fun _ _ => rfl)) (pa_nil)))))))) (pss_nil)))) (pss_one (ps_ret (pe_cl c__law_bears hr (by decide) (pat_of (W := fun cls d _ H => E cls d H) (L2N.takes_of rfl rfl rfl rfl)) (pa_cons (pv 0) (pa_cons (pe_ix ix_seq (pv 1) (pe_int) (fun _ _ => rfl)) (pa_cons (pe_non) (pa_cons (pe_non) (pa_nil)))))))), rd__law_verdict_fits T vs H Q E h⟩
theorem ok_Links_outs {f : Addr} {fd : FuncData} (T : Txt K mg) (F : FunD K "outs" "Links.outs" (defArgs s_Links_outs) (defBody s_Links_outs) (defScope s_Links_outs) [] [] f fd)  : FnOk P w K mg base (L2N.CX P w) 1 f fd ["self"] (sp_Links_outs K) :=
  F.ok sc_Links_outs (len_Links_outs K) fun cdv A outer s H vs Q E hr h => ⟨t_Links_outs K E, pss_one (ps_ret (pe_lc (own := [("node", 1)]) (g := gName 1) (tt := tB (tOp (rIx K) (tFld K (tVar 0) "_out") (tVar 1))) (te := tVar 1) rfl sc_Links_outs.nd (pi_range2 rfl T.b_range (pa_cons (pe_int) (pa_cons (pe_op op_addA (pe_fld (pv 0) rfl) (pe_int)) (pa_nil)))) (blkOk_by (own := [("node", 1)]) (N := ["self", "node"]) (sc := defScope s_Links_outs) (by decide +kernel)) (fun _ _ _ _ _ => pg_name (i := 1) sc_Links_outs.nd rfl (by first | exact Or.inl rfl | exact Or.inr rfl)) (fun _ _ _ _ _ => pts_one (pt_val (pe_ix ix_seq (pe_fld (pv 0) rfl) (pv 1) (fun _ _ => rfl)))) (fun _ _ _ _ _ => pv 1))), rd_Links_outs T vs H Q E h⟩
theorem ok_Verdict___init__ {f : Addr} {fd : FuncData} (T : Txt K mg) (F : FunD K "__init__" "Verdict.__init__" (defArgs s_Verdict___init__) (defBody s_Verdict___init__) (defScope s_Verdict___init__) [] [] f fd)  : FnOk P w K mg base (L2N.CX P w) 1 f fd ["self", "out_nodes", "gap", "index"] (sp_Verdict___init__ K) :=
  F.ok sc_Verdict___init__ (len_Verdict___init__ K) fun cdv A outer s H vs Q E hr h => ⟨t_Verdict___init__ K E, pss_cons (ps_fld (pv 0) (pe_callTy call_listA (by rfl) T.b_list (by decide +kernel) (pa_cons (pv 1) (pa_nil))) rfl) (pss_cons (ps_fld (pv 0) (pv 2) rfl) (pss_cons (ps_fld (pv 0) (pv 3) rfl) (pss_one (ps_fld (pv 0) (pe_and (pe_cmpR op_isNA (pv 2) (pe_non) (nomark _)) (pe_one (pe_cmpR (op_eqA hr) (pe_callB call_lenA (by rfl) T.b_len (by decide +kernel) (pa_cons (pe_fld (pv 0) rfl) (pa_nil))) (pe_int) (nomark _)))) rfl)))), rd_Verdict___init__ T vs H Q E h⟩
theorem ok_Links_apply {f : Addr} {fd : FuncData} (T : Txt K mg) (F : FunD K "apply" "Links.apply" (defArgs s_Links_apply) (defBody s_Links_apply) (defScope s_Links_apply) [] [] f fd) (c_Links_apply_at : Met P w K mg base 5 (He.ga K "Links") "apply_at" ["self", "operation", "index"] (sp_Links_apply_at K)) : FnOk P w K mg base (L2N.CX P w) 6 f fd ["self", "operation"] (sp_Links_apply K) :=
  F.ok sc_Links_apply (len_Links_apply K) fun cdv A outer s H vs Q E hr h => ⟨t_Links_apply K E, pss_one (ps_expr (pe_mt c_Links_apply_at T.cl_Links hr (by decide) (pat_of (W := fun cls d _ H => E cls d H) (L2N.takes_of rfl rfl rfl rfl)) (pv 0) (pa_cons (pv 1) (pa_cons (pe_int) (pa_nil))))), rd_Links_apply T vs H Q E h⟩
theorem ok_decided_by {f : Addr} {fd : FuncData} (T : Txt K mg) (F : FunD K "decided_by" "decided_by" (defArgs s_decided_by) (defBody s_decided_by) (defScope s_decided_by) [] [] f fd) (m_Links : Mak P w K mg base 4 "Links" (He.ga K "Links") ["self", "size"] (sp_Links___init__ K)) (c_Links_apply : Met P w K mg base 6 (He.ga K "Links") "apply" ["self", "operation"] (sp_Links_apply K)) (c_gap_state : Cal P w K mg base 4 "gap_state" ["links", "gap"] (sp_gap_state K)) (c_replay : Cal P w K mg base 8 "replay" ["size", "log"] (sp_replay K)) : FnOk P w K mg base (L2N.CX P w) 9 f fd ["size", "log", "gap"] (sp_decided_by K) :=
  F.ok sc_decided_by (len_decided_by K) fun cdv A outer s H vs Q E hr h => ⟨t_decided_by K E, pss_cons (ps_expr (pe_cl c_replay hr (by decide) (pat_of (W := fun cls d _ H => E cls d H) (L2N.takes_of rfl rfl rfl rfl)) (pa_cons (pv 0) (pa_cons (pv 1) (pa_nil))))) (pss_cons (ps_set (i := 3) sc_decided_by.nd rfl (by first | exact Or.inl rfl | exact Or.inr rfl) (pe_mk m_Links hr (by decide) (pat_of (W := fun cls d _ H => E cls d H) (L2N.takes_of rfl rfl rfl rfl)) (pa_cons (pv 0) (pa_nil)))) (pss_cons (ps_set (i := 4) sc_decided_by.nd rfl (by first | exact Or.inl rfl | exact Or.inr rfl) (pe_cl c_gap_state hr (by decide) (pat_of (W := fun cls d _ H => E cls d H) (L2N.takes_of rfl rfl rfl rfl)) (pa_cons (pv 3) (pa_cons (pv 2) (pa_nil))))) (pss_cons (ps_set (i := 5) sc_decided_by.nd rfl (by first | exact Or.inl rfl | exact Or.inr rfl) (pe_un un_neg (pe_int))) (pss_cons (ps_for (passes_of rfl) rfl (pi_enum (by rfl) T.b_enumerate (pa_cons (pv 1) (pa_nil))) (pg_tup (by rfl) (pgs_cons (pg_name (i := 6) sc_decided_by.nd rfl (by first | exact Or.inl rfl | exact Or.inr rfl)) (pgs_cons (pg_name (i := 7) sc_decided_by.nd rfl (by first | exact Or.inl rfl | exact Or.inr rfl)) (pgs_nil)))) (pss_cons (ps_expr (pe_mt c_Links_apply T.cl_Links hr (by decide) (pat_of (W := fun cls d _ H => E cls d H) (L2N.takes_of rfl rfl rfl rfl)) (pv 3) (pa_cons (pv 7) (pa_nil)))) (pss_cons (ps_set (i := 8) sc_decided_by.nd rfl (by first | exact Or.inl rfl | exact Or.inr rfl) (pv 4)) (pss_cons (ps_set (i := 4) sc_decided_by.nd rfl (by first | exact Or.inl rfl | exact Or.inr rfl) (pe_cl c_gap_state hr (by decide) (pat_of (W := fun cls d _ H => E cls d H) (L2N.takes_of rfl rfl rfl rfl)) (pa_cons (pv 3) (pa_cons (pv 2) (pa_nil))))) (pss_one (ps_if (pt_cmpR (op_neA hr) (pv 4) (pv 8) (nomark _)) (pss_one (ps_set (i := 5) sc_decided_by.nd rfl (by first | exact Or.inl rfl | exact Or.inr rfl) (pv 6))) (pss_nil))))))) (pss_one (ps_ret (pv 5))))))), rd_decided_by T vs H Q E h⟩
theorem ok_gap_states {f : Addr} {fd : FuncData} (T : Txt K mg) (F : FunD K "gap_states" "gap_states" (defArgs s_gap_states) (defBody s_gap_states) (defScope s_gap_states) [] [] f fd) (c_gap_state : Cal P w K mg base 4 "gap_state" ["links", "gap"] (sp_gap_state K)) : FnOk P w K mg base (L2N.CX P w) 5 f fd ["links"] (sp_gap_states K) :=
  F.ok sc_gap_states (len_gap_states K) fun cdv A outer s H vs Q E hr h => ⟨t_gap_states K E, pss_one (ps_ret (pe_lc (own := [("gap", 1)]) (g := gName 1) (tt := tYes) (te := tCl (sp_gap_state K) (fun _ => E0) (tCons (tVar 0) (tCons (tVar 1) (tNil)))) rfl sc_gap_states.nd (pi_range1 rfl T.b_range (pa_cons (pe_op op_addA (pe_fld (pv 0) rfl) (pe_int)) (pa_nil))) (blkOk_by (own := [("gap", 1)]) (N := ["links", "gap"]) (sc := defScope s_gap_states) (by decide +kernel)) (fun _ _ _ _ _ => pg_name (i := 1) sc_gap_states.nd rfl (by first | exact Or.inl rfl | exact Or.inr rfl)) (fun _ _ _ _ _ => pts_nil) (fun _ _ _ _ _ => pe_cl c_gap_state hr (by decide) (pat_no) (pa_cons (pv 0) (pa_cons (pv 1) (pa_nil)))))), rd_gap_states T vs H Q E h⟩
theorem ok_verdict {f : Addr} {fd : FuncData} (T : Txt K mg) (F : FunD K "verdict" "verdict" (defArgs s_verdict) (defBody s_verdict) (defScope s_verdict) [] [] f fd) (c_Links_outs : Met P w K mg base 1 (He.ga K "Links") "outs" ["self"] (sp_Links_outs K)) (m_Verdict : Mak P w K mg base 1 "Verdict" (He.ga K "Verdict") ["self", "out_nodes", "gap", "index"] (sp_Verdict___init__ K)) (c_decided_by : Cal P w K mg base 9 "decided_by" ["size", "log", "gap"] (sp_decided_by K)) (c_gap_states : Cal P w K mg base 5 "gap_states" ["links"] (sp_gap_states K)) (c_replay : Cal P w K mg base 8 "replay" ["size", "log"] (sp_replay K)) : FnOk P w K mg base (L2N.CX P w) 10 f fd ["size", "log"] (sp_verdict K) :=
  F.ok sc_verdict (len_verdict K) fun cdv A outer s H vs Q E hr h => ⟨t_verdict K E, pss_cons (ps_set (i := 2) sc_verdict.nd rfl (by first | exact Or.inl rfl | exact Or.inr rfl) (pe_cl c_replay hr (by decide) (pat_of (W := fun cls d _ H => E cls d H) (L2N.takes_of rfl rfl rfl rfl)) (pa_cons (pv 0) (pa_cons (pv 1) (pa_nil))))) (pss_cons (ps_for (passes_of rfl) rfl (pi_enum (by rfl) T.b_enumerate (pa_cons (pe_cl c_gap_states hr (by decide) (pat_of (W := fun cls d _ H => E cls d H) (L2N.takes_of rfl rfl rfl rfl)) (pa_cons (pv 2) (pa_nil))) (pa_nil))) (pg_tup (by rfl) (pgs_cons (pg_name (i := 3) sc_verdict.nd rfl (by first | exact Or.inl rfl | exact Or.inr rfl)) (pgs_cons (pg_name (i := 4) sc_verdict.nd rfl (by first | exact Or.inl rfl | exact Or.inr rfl)) (pgs_nil)))) (pss_one (ps_if (pt_cmpR (op_neA hr) (pv 4) (pe_str) (nomark _)) (pss_one (ps_ret (pe_mk m_Verdict hr (by decide) (pat_of (W := fun cls d _ H => E cls d H) (L2N.takes_of rfl rfl rfl rfl)) (pa_cons (pe_mt0 c_Links_outs T.cl_Links hr (by decide) (pat_of (W := fun cls d _ H => E cls d H) (L2N.takes_of rfl rfl rfl rfl)) (pv 2)) (pa_cons (pv 3) (pa_cons (pe_cl c_decided_by hr (by decide) (pat_of (W := fun cls d _ H => E cls d H) (L2N.takes_of rfl rfl rfl rfl)) (pa_cons (pv 0) (pa_cons (pv 1) (pa_cons (pv 3) (pa_nil))))) (pa_nil))))))) (pss_nil)))) (pss_one (ps_ret (pe_mk m_Verdict hr (by decide) (pat_of (W := fun cls d _ H => E cls d H) (L2N.takes_of rfl rfl rfl rfl)) (pa_cons (pe_mt0 c_Links_outs T.cl_Links hr (by decide) (pat_of (W := fun cls d _ H => E cls d H) (L2N.takes_of rfl rfl rfl rfl)) (pv 2)) (pa_cons (pe_non) (pa_cons (pe_non) (pa_nil)))))))), rd_verdict T vs H Q E h⟩
theorem ok__law_agrees {f : Addr} {fd : FuncData} (T : Txt K mg) (F : FunD K "_law_agrees" "_law_agrees" (defArgs s__law_agrees) (defBody s__law_agrees) (defScope s__law_agrees) [] [] f fd) (c__law_book : Cal P w K mg base 2 "_law_book" ["size", "deeds"] (sp10__law_book K)) (c__law_papers_fit : Cal P w K mg base 12 "_law_papers_fit" ["size", "deeds", "places", "papers", "bag"] (sp__law_papers_fit K)) (c__law_verdict_fits : Cal P w K mg base 4 "_law_verdict_fits" ["told", "book"] (sp__law_verdict_fits K)) (c_verdict : Cal P w K mg base 10 "verdict" ["size", "log"] (sp_verdict K)) : FnOk P w K mg base (L2N.CX P w) 13 f fd ["size", "deeds", "places", "bag"] (sp10__law_agrees K) :=
  F.ok sc__law_agrees (len__law_agrees K) fun cdv A outer s H vs Q E hr h => ⟨t__law_agrees K E, pss_cons (ps_set (i := 4) sc__law_agrees.nd rfl (by first | exact Or.inl rfl | exact Or.inr rfl) (pe_cl c__law_book hr (by decide) (pat_of (W := fun cls d _ H => E cls d H) (L2N.takes_of rfl rfl rfl rfl)) (pa_cons (pv 0) (pa_cons (pv 1) (pa_nil))))) (pss_cons (ps_set (i := 5) sc__law_agrees.nd rfl (by first | exact Or.inl rfl | exact Or.inr rfl) (pe_callTy call_listA (by rfl) T.b_list (by decide +kernel) (pa_cons (pv 1) (pa_nil)))) (pss_cons (ps_if (pt_not (pt_val (pe_cl c__law_verdict_fits hr (by decide) (pat_of (W := fun cls d _ H => E cls d H) (L2N.takes_of rfl rfl rfl rfl)) (pa_cons (pe_cl c_verdict hr (by decide) (pat_of (W := fun cls d _ H => E cls d H) (L2N.takes_of rfl rfl rfl rfl)) (pa_cons (pv 0) (pa_cons (pv 5) (pa_nil)))) (pa_cons (pv 4) (pa_nil)))))) (pss_one (ps_ret (pe_bl))) (pss_nil)) (pss_cons (ps_if (pt_not (pt_val (pe_cl c__law_papers_fit hr (by decide) (pat_of (W := fun cls d _ H => E cls d H) (L2N.takes_of rfl rfl rfl rfl)) (pa_cons (pv 0) (pa_cons (pv 5) (pa_cons (pv 2) (pa_cons (pe_ix ix_seq (pv 4) (pe_int) (fun _ _ => rfl)) (pa_cons (pv 3) (pa_nil))))))))) (pss_one (ps_ret (pe_bl))) (pss_nil)) (pss_one (ps_ret (pe_cmpR (op_eqA hr) (pv 5) (pv 1) (nomark _))))))), rd__law_agrees T vs H Q E h⟩
theorem ok__law_bag {f : Addr} {fd : FuncData} (T : Txt K mg) (F : FunD K "_law_bag" "_law_bag" (defArgs s__law_bag) (defBody s__law_bag) (defScope s__law_bag) [] [] f fd)  : FnOk P w K mg base (L2N.CX P w) 1 f fd ["script", "lane"] (sp__law_bag K) :=
  F.ok sc__law_bag (len__law_bag K) fun cdv A outer s H vs Q E hr h => ⟨t__law_bag K E, pss_cons (ps_set (i := 2) sc__law_bag.nd rfl (by first | exact Or.inl rfl | exact Or.inr rfl) (pe_op op_addA (pe_op op_mulA (pe_int) (pv 1)) (pe_int))) (pss_cons (ps_for (passes_of rfl) rfl (pi_range1 rfl T.b_range (pa_cons (pe_callB (call_min2A rfl) (by rfl) T.b_min (by decide +kernel) (pa_cons (pe_int) (pa_cons (pe_callB call_lenA (by rfl) T.b_len (by decide +kernel) (pa_cons (pv 0) (pa_nil))) (pa_nil)))) (pa_nil))) (pg_name (i := 3) sc__law_bag.nd rfl (by first | exact Or.inl rfl | exact Or.inr rfl)) (pss_one (ps_set (i := 2) sc__law_bag.nd rfl (by first | exact Or.inl rfl | exact Or.inr rfl) (pe_op op_mod (pe_callTy call_intA (by rfl) T.b_int (by decide +kernel) (pa_cons (pe_op op_addA (pe_op op_addA (pe_op op_mulA (pv 2) (pe_int)) (pe_op op_mod (pe_callTy call_intA (by rfl) T.b_int (by decide +kernel) (pa_cons (pe_ix ix_seq (pv 0) (pv 3) (fun _ _ => rfl)) (pa_nil))) (pe_int))) (pe_op op_mulA (pe_int) (pv 3))) (pa_nil))) (pe_int))))) (pss_cons (ps_set (i := 4) sc__law_bag.nd rfl (by first | exact Or.inl rfl | exact Or.inr rfl) (pe_int)) (pss_cons (ps_if ((pw_and (pt_cmpR op_lt (pv 1) (pe_callB call_lenA (by rfl) T.b_len (by decide +kernel) (pa_cons (pv 0) (pa_nil))) (nomark _)) (pw_and1 (pt_cmpR op_ge (pe_callB call_absA (by rfl) T.b_abs (by decide +kernel) (pa_cons (pe_ix ix_seq (pv 0) (pv 1) (fun _ _ => rfl)) (pa_nil))) (pe_op op_pow (pe_int) (pe_int)) (nomark _)))).pt) (pss_one (ps_set (i := 4) sc__law_bag.nd rfl (by first | exact Or.inl rfl | exact Or.inr rfl) (pe_callB call_absA (by rfl) T.b_abs (by decide +kernel) (pa_cons (pe_ix ix_seq (pv 0) (pv 1) (fun _ _ => rfl)) (pa_nil))))) (pss_nil)) (pss_one (ps_ret (pe_lst (pa_cons (pv 4) (pa_cons (pv 2) (pa_cons (pe_int) (pa_nil)))))))))), rd__law_bag T vs H Q E h⟩
theorem ok__law_planted {f : Addr} {fd : FuncData} (T : Txt K mg) (F : FunD K "_law_planted" "_law_planted" (defArgs s__law_planted) (defBody s__law_planted) (defScope s__law_planted) [] [] f fd) (c__law_draw : Cal P w K mg base 1 "_law_draw" ["bag", "many"] (sp__law_draw K)) : FnOk P w K mg base (L2N.CX P w) 2 f fd ["bag", "size"] (sp__law_planted K) :=
  F.ok sc__law_planted (len__law_planted K) fun cdv A outer s H vs Q E hr h => ⟨t__law_planted K E, pss_cons (ps_set (i := 2) sc__law_planted.nd rfl (by first | exact Or.inl rfl | exact Or.inr rfl) (pe_cl c__law_draw hr (by decide) (pat_of (W := fun cls d _ H => E cls d H) (L2N.takes_of rfl rfl rfl rfl)) (pa_cons (pv 0) (pa_cons (pe_int) (pa_nil))))) (pss_cons (ps_set (i := 3) sc__law_planted.nd rfl (by first | exact Or.inl rfl | exact Or.inr rfl) (pe_cl c__law_draw hr (by decide) (pat_of (W := fun cls d _ H => E cls d H) (L2N.takes_of rfl rfl rfl rfl)) (pa_cons (pv 0) (pa_cons (pe_int) (pa_nil))))) (pss_cons (ps_set (i := 4) sc__law_planted.nd rfl (by first | exact Or.inl rfl | exact Or.inr rfl) (pe_lst (pa_cons (pe_lst (pa_cons (pe_un un_neg (pe_int)) (pa_cons (pe_un un_neg (pe_int)) (pa_cons (pe_int) (pa_cons (pe_un un_neg (pe_int)) (pa_cons (pe_un un_neg (pe_int)) (pa_nil))))))) (pa_cons (pe_lst (pa_cons (pe_un un_neg (pe_int)) (pa_cons (pe_un un_neg (pe_int)) (pa_cons (pe_un un_neg (pe_int)) (pa_cons (pe_int) (pa_cons (pe_int) (pa_nil))))))) (pa_cons (pe_lst (pa_cons (pe_un un_neg (pe_int)) (pa_cons (pe_un un_neg (pe_int)) (pa_cons (pe_int) (pa_cons (pe_un un_neg (pe_int)) (pa_cons (pe_int) (pa_cons (pe_int) (pa_nil)))))))) (pa_nil)))))) (pss_cons (ps_expr (pe_bm PySem.F.plainAttrs_list PySem.F.slot_list_append PySem.F.type_list_append mt_append (pv 4) (pa_cons (pe_lst (pa_cons (pe_un un_neg (pe_int)) (pa_cons (pe_un un_neg (pe_int)) (pa_cons (pe_int) (pa_cons (pe_un un_neg (pe_int)) (pa_cons (pe_un un_neg (pe_int)) (pa_cons (pe_un un_neg (pe_int)) (pa_cons (pe_int) (pa_cons (pe_un un_neg (pe_int)) (pa_cons (pe_un un_neg (pe_int)) (pa_nil))))))))))) (pa_nil)))) (pss_cons (ps_set (i := 5) sc__law_planted.nd rfl (by first | exact Or.inl rfl | exact Or.inr rfl) (pe_op op_addA (pe_int) (pe_op op_mulA (pe_int) (pe_op op_fdiv (pv 2) (pe_int))))) (pss_cons (ps_if ((pw_or (pt_cmpR op_gt (pv 2) (pe_int) (nomark _)) (pw_or1 (pt_cmpR op_lt (pv 1) (pv 5) (nomark _)))).pt) (pss_one (ps_ret (pe_lst (pa_nil)))) (pss_nil)) (pss_cons (ps_set (i := 6) sc__law_planted.nd rfl (by first | exact Or.inl rfl | exact Or.inr rfl) (pe_ix ix_seq (pv 4) (pv 2) (fun _ _ => rfl))) (pss_cons (ps_if (pt_cmpR (op_eqA hr) (pv 3) (pe_int) (nomark _)) (pss_one (ps_setLc (i := 6) (own := [("deed", 8)]) (g := gName 8) (tt := tYes) (te := tIf (tTest (tOp rGtA (tVar 8) (tC (.int 0)))) (tOp rSubA (tOp rAddA (tVar 5) (tC (.int 1))) (tVar 8)) (tOp rSubA (tOp rSubA (tUn rNegA (tVar 5)) (tC (.int 1))) (tVar 8))) rfl sc__law_planted.nd rfl rfl (sw_true rfl rfl rfl (by decide +kernel)) (pi_list (pv 6)) (blkOk_by (own := [("deed", 8)]) (N := ["bag", "size", "way", "turned", "rows", "span", "row", "low", "deed"]) (sc := defScope s__law_planted) (by decide +kernel)) (fun _ _ _ _ _ => pg_name (i := 8) sc__law_planted.nd rfl (by first | exact Or.inl rfl | exact Or.inr rfl)) (fun _ _ _ _ _ => pts_nil) (fun _ _ _ _ _ => pe_ifExp (pt_cmpR op_gt (pv 8) (pe_int) (nomark _)) (pe_op op_sub (pe_op op_addA (pv 5) (pe_int)) (pv 8)) (pe_op op_sub (pe_op op_sub (pe_un un_neg (pv 5)) (pe_int)) (pv 8))))) (pss_nil)) (pss_cons (ps_set (i := 7) sc__law_planted.nd rfl (by first | exact Or.inl rfl | exact Or.inr rfl) (pe_cl c__law_draw hr (by decide) (pat_of (W := fun cls d _ H => E cls d H) (L2N.takes_of rfl rfl rfl rfl)) (pa_cons (pv 0) (pa_cons (pe_op op_addA (pe_op op_sub (pv 1) (pv 5)) (pe_int)) (pa_nil))))) (pss_one (ps_ret (pe_lc (own := [("deed", 8)]) (g := gName 8) (tt := tYes) (te := tIf (tTest (tOp rGtA (tVar 8) (tC (.int 0)))) (tOp rAddA (tVar 8) (tVar 7)) (tOp rSubA (tVar 8) (tVar 7))) rfl sc__law_planted.nd (pi_list (pv 6)) (blkOk_by (own := [("deed", 8)]) (N := ["bag", "size", "way", "turned", "rows", "span", "row", "low", "deed"]) (sc := defScope s__law_planted) (by decide +kernel)) (fun _ _ _ _ _ => pg_name (i := 8) sc__law_planted.nd rfl (by first | exact Or.inl rfl | exact Or.inr rfl)) (fun _ _ _ _ _ => pts_nil) (fun _ _ _ _ _ => pe_ifExp (pt_cmpR op_gt (pv 8) (pe_int) (nomark _)) (pe_op op_addA (pv 8) (pv 7)) (pe_op op_sub (pv 8) (pv 7)))))))))))))), rd__law_planted T vs H Q E h⟩
theorem ok__law_log {f : Addr} {fd : FuncData} (T : Txt K mg) (F : FunD K "_law_log" "_law_log" (defArgs s__law_log) (defBody s__law_log) (defScope s__law_log) [] [] f fd) (c__law_draw : Cal P w K mg base 1 "_law_draw" ["bag", "many"] (sp__law_draw K)) (c__law_planted : Cal P w K mg base 2 "_law_planted" ["bag", "size"] (sp__law_planted K)) : FnOk P w K mg base (L2N.CX P w) 3 f fd ["bag", "size"] (sp__law_log K) :=
  F.ok sc__law_log (len__law_log K) fun cdv A outer s H vs Q E hr h => ⟨t__law_log K E, pss_cons (ps_set (i := 2) sc__law_log.nd rfl (by first | exact Or.inl rfl | exact Or.inr rfl) (pe_cl c__law_planted hr (by decide) (pat_of (W := fun cls d _ H => E cls d H) (L2N.takes_of rfl rfl rfl rfl)) (pa_cons (pv 0) (pa_cons (pv 1) (pa_nil))))) (pss_cons (ps_if (pt_cmpR (op_eqA hr) (pv 1) (pe_int) (nomark _)) (pss_one (ps_ret (pv 2))) (pss_nil)) (pss_cons (ps_if ((pw_and (pt_cmpR op_gt (pe_callB call_lenA (by rfl) T.b_len (by decide +kernel) (pa_cons (pv 2) (pa_nil))) (pe_int) (nomark _)) (pw_and1 (pt_cmpR (op_eqA hr) (pe_cl c__law_draw hr (by decide) (pat_of (W := fun cls d _ H => E cls d H) (L2N.takes_of rfl rfl rfl rfl)) (pa_cons (pv 0) (pa_cons (pe_int) (pa_nil)))) (pe_int) (nomark _)))).pt) (pss_one (ps_ret (pv 2))) (pss_nil)) (pss_cons (ps_set (i := 3) sc__law_log.nd rfl (by first | exact Or.inl rfl | exact Or.inr rfl) (pe_lc (own := [("node", 9)]) (g := gName 9) (tt := tYes) (te := tC (.bl false)) rfl sc__law_log.nd (pi_range1 rfl T.b_range (pa_cons (pe_op op_addA (pv 1) (pe_int)) (pa_nil))) (blkOk_by (own := [("node", 9)]) (N := ["bag", "size", "deeds", "gone", "deed", "width", "low", "count", "turn", "node", "rest"]) (sc := defScope s__law_log) (by decide +kernel)) (fun _ _ _ _ _ => pg_name (i := 9) sc__law_log.nd rfl (by first | exact Or.inl rfl | exact Or.inr rfl)) (fun _ _ _ _ _ => pts_nil) (fun _ _ _ _ _ => pe_bl))) (pss_cons (ps_for (passes_of rfl) rfl (pi_list (pv 2)) (pg_name (i := 4) sc__law_log.nd rfl (by first | exact Or.inl rfl | exact Or.inr rfl)) (pss_one (ps_asg (pe_cmpR op_lt (pv 4) (pe_int) (nomark _)) (pg_sub (pv 3) (pe_callB call_absA (by rfl) T.b_abs (by decide +kernel) (pa_cons (pv 4) (pa_nil))) set_list)))) (pss_cons (ps_set (i := 5) sc__law_log.nd rfl (by first | exact Or.inl rfl | exact Or.inr rfl) (pe_op op_addA (pe_int) (pe_cl c__law_draw hr (by decide) (pat_of (W := fun cls d _ H => E cls d H) (L2N.takes_of rfl rfl rfl rfl)) (pa_cons (pv 0) (pa_cons (pe_callB (call_min2A rfl) (by rfl) T.b_min (by decide +kernel) (pa_cons (pv 1) (pa_cons (pe_int) (pa_nil)))) (pa_nil)))))) (pss_cons (ps_set (i := 6) sc__law_log.nd rfl (by first | exact Or.inl rfl | exact Or.inr rfl) (pe_cl c__law_draw hr (by decide) (pat_of (W := fun cls d _ H => E cls d H) (L2N.takes_of rfl rfl rfl rfl)) (pa_cons (pv 0) (pa_cons (pe_op op_addA (pe_op op_sub (pv 1) (pv 5)) (pe_int)) (pa_nil))))) (pss_cons (ps_set (i := 7) sc__law_log.nd rfl (by first | exact Or.inl rfl | exact Or.inr rfl) (pe_cl c__law_draw hr (by decide) (pat_of (W := fun cls d _ H => E cls d H) (L2N.takes_of rfl rfl rfl rfl)) (pa_cons (pv 0) (pa_cons (pe_int) (pa_nil))))) (pss_cons (ps_if (pt_cmpR (op_eqA hr) (pe_cl c__law_draw hr (by decide) (pat_of (W := fun cls d _ H => E cls d H) (L2N.takes_of rfl rfl rfl rfl)) (pa_cons (pv 0) (pa_cons (pe_int) (pa_nil)))) (pe_int) (nomark _)) (pss_one (ps_set (i := 7) sc__law_log.nd rfl (by first | exact Or.inl rfl | exact Or.inr rfl) (pe_op op_addA (pv 7) (pe_cl c__law_draw hr (by decide) (pat_of (W := fun cls d _ H => E cls d H) (L2N.takes_of rfl rfl rfl rfl)) (pa_cons (pv 0) (pa_cons (pe_int) (pa_nil))))))) (pss_nil)) (pss_cons (ps_for (passes_of rfl) rfl (pi_range1 rfl T.b_range (pa_cons (pv 7) (pa_nil))) (pg_name (i := 8) sc__law_log.nd rfl (by first | exact Or.inl rfl | exact Or.inr rfl)) (pss_cons (ps_set (i := 9) sc__law_log.nd rfl (by first | exact Or.inl rfl | exact Or.inr rfl) (pe_op op_addA (pe_op op_addA (pv 6) (pe_int)) (pe_cl c__law_draw hr (by decide) (pat_of (W := fun cls d _ H => E cls d H) (L2N.takes_of rfl rfl rfl rfl)) (pa_cons (pv 0) (pa_cons (pv 5) (pa_nil)))))) (pss_cons (ps_if (pt_cmpR (op_eqA hr) (pe_cl c__law_draw hr (by decide) (pat_of (W := fun cls d _ H => E cls d H) (L2N.takes_of rfl rfl rfl rfl)) (pa_cons (pv 0) (pa_cons (pe_int) (pa_nil)))) (pe_int) (nomark _)) (pss_one (ps_set (i := 9) sc__law_log.nd rfl (by first | exact Or.inl rfl | exact Or.inr rfl) (pe_op op_addA (pe_int) (pe_cl c__law_draw hr (by decide) (pat_of (W := fun cls d _ H => E cls d H) (L2N.takes_of rfl rfl rfl rfl)) (pa_cons (pv 0) (pa_cons (pv 1) (pa_nil))))))) (pss_nil)) (pss_cons (ps_set (i := 4) sc__law_log.nd rfl (by first | exact Or.inl rfl | exact Or.inr rfl) (pe_un un_neg (pv 9))) (pss_cons (ps_if (pt_val (pe_ix ix_seq (pv 3) (pv 9) (fun _ _ => rfl))) (pss_one (ps_set (i := 4) sc__law_log.nd rfl (by first | exact Or.inl rfl | exact Or.inr rfl) (pv 9))) (pss_nil)) (pss_cons (ps_expr (pe_bm PySem.F.plainAttrs_list PySem.F.slot_list_append PySem.F.type_list_append mt_append (pv 2) (pa_cons (pv 4) (pa_nil)))) (pss_one (ps_asg (pe_cmpR op_lt (pv 4) (pe_int) (nomark _)) (pg_sub (pv 3) (pv 9) set_list))))))))) (pss_cons (ps_if (pt_cmpR (op_eqA hr) (pe_cl c__law_draw hr (by decide) (pat_of (W := fun cls d _ H => E cls d H) (L2N.takes_of rfl rfl rfl rfl)) (pa_cons (pv 0) (pa_cons (pe_int) (pa_nil)))) (pe_int) (nomark _)) (pss_one (ps_ret (pv 2))) (pss_nil)) (pss_cons (ps_for (passes_of rfl) rfl (pi_range1 rfl T.b_range (pa_cons (pv 1) (pa_nil))) (pg_name (i := 8) sc__law_log.nd rfl (by first | exact Or.inl rfl | exact Or.inr rfl)) (pss_cons (ps_setLc (i := 10) (own := [("node", 9)]) (g := gName 9) (tt := tB (tOp (rIx K) (tVar 3) (tVar 9))) (te := tVar 9) rfl sc__law_log.nd rfl rfl (sw_true rfl rfl rfl (by decide +kernel)) (pi_range2 rfl T.b_range (pa_cons (pe_int) (pa_cons (pe_op op_addA (pv 1) (pe_int)) (pa_nil)))) (blkOk_by (own := [("node", 9)]) (N := ["bag", "size", "deeds", "gone", "deed", "width", "low", "count", "turn", "node", "rest"]) (sc := defScope s__law_log) (by decide +kernel)) (fun _ _ _ _ _ => pg_name (i := 9) sc__law_log.nd rfl (by first | exact Or.inl rfl | exact Or.inr rfl)) (fun _ _ _ _ _ => pts_one (pt_val (pe_ix ix_seq (pv 3) (pv 9) (fun _ _ => rfl)))) (fun _ _ _ _ _ => pv 9)) (pss_one (ps_if (pt_cmpR op_gt (pe_callB call_lenA (by rfl) T.b_len (by decide +kernel) (pa_cons (pv 10) (pa_nil))) (pe_int) (nomark _)) (pss_cons (ps_set (i := 9) sc__law_log.nd rfl (by first | exact Or.inl rfl | exact Or.inr rfl) (pe_ix ix_seq (pv 10) (pe_cl c__law_draw hr (by decide) (pat_of (W := fun cls d _ H => E cls d H) (L2N.takes_of rfl rfl rfl rfl)) (pa_cons (pv 0) (pa_cons (pe_callB call_lenA (by rfl) T.b_len (by decide +kernel) (pa_cons (pv 10) (pa_nil))) (pa_nil)))) (fun _ _ => rfl))) (pss_cons (ps_expr (pe_bm PySem.F.plainAttrs_list PySem.F.slot_list_append PySem.F.type_list_append mt_append (pv 2) (pa_cons (pv 9) (pa_nil)))) (pss_one (ps_asg (pe_bl) (pg_sub (pv 3) (pv 9) set_list))))) (pss_nil))))) (pss_one (ps_ret (pv 2)))))))))))))), rd__law_log T vs H Q E h⟩
theorem ok__law_made {f : Addr} {fd : FuncData} (T : Txt K mg) (F : FunD K "_law_made" "_law_made" (defArgs s__law_made) (defBody s__law_made) (defScope s__law_made) [] [] f fd) (m_Verdict : Mak P w K mg base 1 "Verdict" (He.ga K "Verdict") ["self", "out_nodes", "gap", "index"] (sp_Verdict___init__ K)) (c__law_bears : Cal P w K mg base 3 "_law_bears" ["told", "gone", "place", "k"] (sp__law_bears K)) : FnOk P w K mg base (L2N.CX P w) 4 f fd ["gone", "place", "k"] (sp__law_made K) :=
  F.ok sc__law_made (len__law_made K) fun cdv A outer s H vs Q E hr h => ⟨t__law_made K E, pss_cons (ps_set (i := 3) sc__law_made.nd rfl (by first | exact Or.inl rfl | exact Or.inr rfl) (pe_callTy call_listA (by rfl) T.b_list (by decide +kernel) (pa_cons (pv 0) (pa_nil)))) (pss_cons (ps_set (i := 4) sc__law_made.nd rfl (by first | exact Or.inl rfl | exact Or.inr rfl) (pe_mk m_Verdict hr (by decide) (pat_of (W := fun cls d _ H => E cls d H) (L2N.takes_of rfl rfl rfl rfl)) (pa_cons (pv 3) (pa_cons (pv 1) (pa_cons (pv 2) (pa_nil)))))) (pss_cons (ps_expr (pe_bm PySem.F.plainAttrs_list PySem.F.slot_list_append PySem.F.type_list_append mt_append (pv 3) (pa_cons (pe_int) (pa_nil)))) (pss_one (ps_ret (pe_cl c__law_bears hr (by decide) (pat_of (W := fun cls d _ H => E cls d H) (L2N.takes_of rfl rfl rfl rfl)) (pa_cons (pv 4) (pa_cons (pv 0) (pa_cons (pv 1) (pa_cons (pv 2) (pa_nil)))))))))), rd__law_made T vs H Q E h⟩
theorem ok__law_places {f : Addr} {fd : FuncData} (T : Txt K mg) (F : FunD K "_law_places" "_law_places" (defArgs s__law_places) (defBody s__law_places) (defScope s__law_places) [] [] f fd) (c__law_draw : Cal P w K mg base 1 "_law_draw" ["bag", "many"] (sp__law_draw K)) : FnOk P w K mg base (L2N.CX P w) 2 f fd ["bag", "size", "deeds"] (sp10__law_places K) :=
  F.ok sc__law_places (len__law_places K) fun cdv A outer s H vs Q E hr h => ⟨t__law_places K E, pss_cons (ps_if (pt_cmpR op_le (pv 1) (pe_int) (nomark _)) (pss_one (ps_ret (pe_lc (own := [("place", 6)]) (g := gName 6) (tt := tYes) (te := tVar 6) rfl sc__law_places.nd (pi_range1 rfl T.b_range (pa_cons (pe_op op_addA (pv 1) (pe_int)) (pa_nil))) (blkOk_by (own := [("place", 6)]) (N := ["bag", "size", "deeds", "places", "turn", "node", "place"]) (sc := defScope s__law_places) (by decide +kernel)) (fun _ _ _ _ _ => pg_name (i := 6) sc__law_places.nd rfl (by first | exact Or.inl rfl | exact Or.inr rfl)) (fun _ _ _ _ _ => pts_nil) (fun _ _ _ _ _ => pv 6)))) (pss_nil)) (pss_cons (ps_set (i := 3) sc__law_places.nd rfl (by first | exact Or.inl rfl | exact Or.inr rfl) (pe_lst (pa_cons (pe_int) (pa_cons (pv 1) (pa_cons (pe_cl c__law_draw hr (by decide) (pat_of (W := fun cls d _ H => E cls d H) (L2N.takes_of rfl rfl rfl rfl)) (pa_cons (pv 0) (pa_cons (pe_op op_addA (pv 1) (pe_int)) (pa_nil)))) (pa_nil)))))) (pss_cons (ps_for (passes_of rfl) rfl (pi_range1 rfl T.b_range (pa_cons (pe_int) (pa_nil))) (pg_name (i := 4) sc__law_places.nd rfl (by first | exact Or.inl rfl | exact Or.inr rfl)) (pss_one (ps_if (pt_cmpR op_gt (pe_callB call_lenA (by rfl) T.b_len (by decide +kernel) (pa_cons (pv 2) (pa_nil))) (pe_int) (nomark _)) (pss_cons (ps_set (i := 5) sc__law_places.nd rfl (by first | exact Or.inl rfl | exact Or.inr rfl) (pe_callB call_absA (by rfl) T.b_abs (by decide +kernel) (pa_cons (pe_ix ix_seq (pv 2) (pe_cl c__law_draw hr (by decide) (pat_of (W := fun cls d _ H => E cls d H) (L2N.takes_of rfl rfl rfl rfl)) (pa_cons (pv 0) (pa_cons (pe_callB call_lenA (by rfl) T.b_len (by decide +kernel) (pa_cons (pv 2) (pa_nil))) (pa_nil)))) (fun _ _ => rfl)) (pa_nil)))) (pss_one (ps_expr (pe_bm PySem.F.plainAttrs_list PySem.F.slot_list_append PySem.F.type_list_append mt_append (pv 3) (pa_cons (pe_op op_sub (pv 5) (pe_cl c__law_draw hr (by decide) (pat_of (W := fun cls d _ H => E cls d H) (L2N.takes_of rfl rfl rfl rfl)) (pa_cons (pv 0) (pa_cons (pe_int) (pa_nil))))) (pa_nil)))))) (pss_nil)))) (pss_one (ps_ret (pv 3))))), rd__law_places T vs H Q E h⟩
theorem ok__law_answer {f : Addr} {fd : FuncData} (T : Txt K mg) (F : FunD K "_law_answer" "_law_answer" (defArgs s__law_answer) (defBody s__law_answer) (defScope s__law_answer) [] [] f fd) (c_gap_certificate : Cal P w K mg base 9 "gap_certificate" ["size", "log", "gap"] (sp_gap_certificate K)) (c_is_gap_certificate : Cal P w K mg base 10 "is_gap_certificate" ["size", "log", "gap", "value"] (sp_is_gap_certificate K)) (c_verdict : Cal P w K mg base 10 "verdict" ["size", "log"] (sp_verdict K)) (h__law_whole_number : CalH P w K mg base 1 "_law_whole_number" ["told"] (sp__law_whole_number K)) : FnOk P w K mg base (L2N.CX P w) 11 f fd ["way", "size", "deeds", "place"] (sp10__law_answer K) :=
  F.ok sc__law_answer (len__law_answer K) fun cdv A outer s H vs Q E hr h => ⟨t__law_answer K E, pss_cons (L2N.ps_try_as (i := 4) (tb := fun (W : WX) => tIfS (tTest (tOp (rEqA K) (tVar 0) (tC (.int 0)))) (tDrop (tCl (sp_gap_certificate K) (WE W) (tCons (tVar 1) (tCons (tCB (rListA K) (tCons (tVar 2) (tNil))) (tCons (tVar 3) (tNil)))))) (tIfS (tTest (tOp (rEqA K) (tVar 0) (tC (.int 1)))) (tDrop (tCl (sp_is_gap_certificate K) (WE W) (tCons (tVar 1) (tCons (tCB (rListA K) (tCons (tVar 2) (tNil))) (tCons (tVar 3) (tCons (tTup (tCons (tC (.str "joined")) (tCons (tUn rNegA (tC (.int 1))) (tCons (tUn rNegA (tC (.int 1))) (tNil))))) (tNil))))))) (tDrop (tCl (sp_verdict K) (WE W) (tCons (tVar 1) (tCons (tCB (rListA K) (tCons (tVar 2) (tNil))) (tNil))))))) (ts := fun a cls d => tSeq (tIfS (tNot (tB (tCB (rIsX K cls d a) (tCons (tVar 4) (tCons (tC (.ty "ValueError")) (tNil)))))) (tRet (tTup (tCons (tC (.str "other")) (tNil)))) (tNext)) (tSeq (tIfS (tAnd (tB (tCB (rIsX K cls d a) (tCons (tVar 4) (tCons (tC (.ref (He.ga K "BadOperation"))) (tNil))))) (tNot (tB (tCB (rIsX K cls d a) (tCons (tVar 4) (tCons (tC (.ref (He.ga K "Illegal"))) (tNil))))))) (tSeq (tIfS (tOr (tNot (tB (tCB (rIsX K cls d a) (tCons (tVar 4) (tCons (tC (.ref (He.ga K "LogError"))) (tNil)))))) (tNot (tB (tCl (sp__law_whole_number K) (fun _ => E0) (tCons (tXat K a cls d "index" (tVar 4)) (tNil)))))) (tRet (tTup (tCons (tC (.str "other")) (tNil)))) (tNext)) (tRet (tTup (tCons (tC (.str "operation")) (tCons (tXat K a cls d "operation" (tVar 4)) (tCons (tXat K a cls d "index" (tVar 4)) (tNil))))))) (tNext)) (tSeq (tIfS (tAnd (tB (tCB (rIsX K cls d a) (tCons (tVar 4) (tCons (tC (.ref (He.ga K "Illegal"))) (tNil))))) (tNot (tB (tCB (rIsX K cls d a) (tCons (tVar 4) (tCons (tC (.ref (He.ga K "BadOperation"))) (tNil))))))) (tSeq (tIfS (tOr (tNot (tB (tCB (rIsX K cls d a) (tCons (tVar 4) (tCons (tC (.ref (He.ga K "LogError"))) (tNil)))))) (tNot (tB (tCl (sp__law_whole_number K) (fun _ => E0) (tCons (tXat K a cls d "index" (tVar 4)) (tNil)))))) (tRet (tTup (tCons (tC (.str "other")) (tNil)))) (tNext)) (tRet (tTup (tCons (tC (.str "illegal")) (tCons (tXat K a cls d "operation" (tVar 4)) (tCons (tXat K a cls d "index" (tVar 4)) (tNil))))))) (tNext)) (tSeq (tIfS (tB (tCB (rIsX K cls d a) (tCons (tVar 4) (tCons (tC (.ref (He.ga K "LogError"))) (tNil))))) (tRet (tTup (tCons (tC (.str "other")) (tNil)))) (tNext)) (tSeq (tIfS (tAnd (tB (tCB (rIsX K cls d a) (tCons (tVar 4) (tCons (tC (.ref (He.ga K "BadSize"))) (tNil))))) (tNot (tB (tCB (rIsX K cls d a) (tCons (tVar 4) (tCons (tC (.ref (He.ga K "BadGap"))) (tNil))))))) (tRet (tTup (tCons (tC (.str "size")) (tCons (tXat K a cls d "size" (tVar 4)) (tNil))))) (tNext)) (tSeq (tIfS (tAnd (tB (tCB (rIsX K cls d a) (tCons (tVar 4) (tCons (tC (.ref (He.ga K "BadGap"))) (tNil))))) (tNot (tB (tCB (rIsX K cls d a) (tCons (tVar 4) (tCons (tC (.ref (He.ga K "BadSize"))) (tNil))))))) (tRet (tTup (tCons (tC (.str "gap")) (tCons (tXat K a cls d "gap" (tVar 4)) (tNil))))) (tNext)) (tRet (tTup (tCons (tC (.str "other")) (tNil)))))))))) (Wout := fun cls d _ H => E cls d H) rfl rfl sc__law_answer.nd rfl rfl ⟨rfl, by decide, .inl T.g_LinkError⟩ (L2N.takes_of rfl rfl rfl rfl) (fun W pn xe tk2 po2 => pss_one (ps_if (pt_cmpR (op_eqA hr) (pv 0) (pe_int) (nomark _)) (pss_one (ps_expr (pe_cl c_gap_certificate hr (by decide) (pat_of tk2) (pa_cons (pv 1) (pa_cons (pe_callTy call_listA (by rfl) T.b_list (by decide +kernel) (pa_cons (pv 2) (pa_nil))) (pa_cons (pv 3) (pa_nil))))))) (pss_one (ps_if (pt_cmpR (op_eqA hr) (pv 0) (pe_int) (nomark _)) (pss_one (ps_expr (pe_cl c_is_gap_certificate hr (by decide) (pat_of tk2) (pa_cons (pv 1) (pa_cons (pe_callTy call_listA (by rfl) T.b_list (by decide +kernel) (pa_cons (pv 2) (pa_nil))) (pa_cons (pv 3) (pa_cons (pe_tup (pa_cons (pe_str) (pa_cons (pe_un un_neg (pe_int)) (pa_cons (pe_un un_neg (pe_int)) (pa_nil))))) (pa_nil)))))))) (pss_one (ps_expr (pe_cl c_verdict hr (by decide) (pat_of tk2) (pa_cons (pv 1) (pa_cons (pe_callTy call_listA (by rfl) T.b_list (by decide +kernel) (pa_cons (pv 2) (pa_nil))) (pa_nil)))))))))) (fun a oe cls d pn hz hf => pss_cons (ps_if (pt_not (pt_val (pe_callB (call_isX hz.zc hf) (by rfl) T.b_isinstance (by decide +kernel) (pa_cons (pv 4) (pa_cons (pe_ty "ValueError" T.b_ValueError (by decide +kernel)) (pa_nil)))))) (pss_one (ps_ret (pe_tup (pa_cons (pe_str) (pa_nil))))) (pss_nil)) (pss_cons (ps_if ((pw_and (pt_val (pe_callB (call_isX hz.zc hf) (by rfl) T.b_isinstance (by decide +kernel) (pa_cons (pv 4) (pa_cons (pe_own T.g_BadOperation) (pa_nil))))) (pw_and1 (pt_not (pt_val (pe_callB (call_isX hz.zc hf) (by rfl) T.b_isinstance (by decide +kernel) (pa_cons (pv 4) (pa_cons (pe_own T.g_Illegal) (pa_nil)))))))).pt) (pss_cons (ps_if ((pw_or (pt_not (pt_val (pe_callB (call_isX hz.zc hf) (by rfl) T.b_isinstance (by decide +kernel) (pa_cons (pv 4) (pa_cons (pe_own T.g_LogError) (pa_nil)))))) (pw_or1 (pt_not (pt_val (pe_clH h__law_whole_number (L2H.roomH_mark hr _) (by decide) (hot_suite hz hf) pat_no (pa_cons (pe_xat hz.zc hf (pv 4)) (pa_nil))))))).pt) (pss_one (ps_ret (pe_tup (pa_cons (pe_str) (pa_nil))))) (pss_nil)) (pss_one (ps_ret (pe_tup (pa_cons (pe_str) (pa_cons (pe_xat hz.zc hf (pv 4)) (pa_cons (pe_xat hz.zc hf (pv 4)) (pa_nil)))))))) (pss_nil)) (pss_cons (ps_if ((pw_and (pt_val (pe_callB (call_isX hz.zc hf) (by rfl) T.b_isinstance (by decide +kernel) (pa_cons (pv 4) (pa_cons (pe_own T.g_Illegal) (pa_nil))))) (pw_and1 (pt_not (pt_val (pe_callB (call_isX hz.zc hf) (by rfl) T.b_isinstance (by decide +kernel) (pa_cons (pv 4) (pa_cons (pe_own T.g_BadOperation) (pa_nil)))))))).pt) (pss_cons (ps_if ((pw_or (pt_not (pt_val (pe_callB (call_isX hz.zc hf) (by rfl) T.b_isinstance (by decide +kernel) (pa_cons (pv 4) (pa_cons (pe_own T.g_LogError) (pa_nil)))))) (pw_or1 (pt_not (pt_val (pe_clH h__law_whole_number (L2H.roomH_mark hr _) (by decide) (hot_suite hz hf) pat_no (pa_cons (pe_xat hz.zc hf (pv 4)) (pa_nil))))))).pt) (pss_one (ps_ret (pe_tup (pa_cons (pe_str) (pa_nil))))) (pss_nil)) (pss_one (ps_ret (pe_tup (pa_cons (pe_str) (pa_cons (pe_xat hz.zc hf (pv 4)) (pa_cons (pe_xat hz.zc hf (pv 4)) (pa_nil)))))))) (pss_nil)) (pss_cons (ps_if (pt_val (pe_callB (call_isX hz.zc hf) (by rfl) T.b_isinstance (by decide +kernel) (pa_cons (pv 4) (pa_cons (pe_own T.g_LogError) (pa_nil))))) (pss_one (ps_ret (pe_tup (pa_cons (pe_str) (pa_nil))))) (pss_nil)) (pss_cons (ps_if ((pw_and (pt_val (pe_callB (call_isX hz.zc hf) (by rfl) T.b_isinstance (by decide +kernel) (pa_cons (pv 4) (pa_cons (pe_own T.g_BadSize) (pa_nil))))) (pw_and1 (pt_not (pt_val (pe_callB (call_isX hz.zc hf) (by rfl) T.b_isinstance (by decide +kernel) (pa_cons (pv 4) (pa_cons (pe_own T.g_BadGap) (pa_nil)))))))).pt) (pss_one (ps_ret (pe_tup (pa_cons (pe_str) (pa_cons (pe_xat hz.zc hf (pv 4)) (pa_nil)))))) (pss_nil)) (pss_cons (ps_if ((pw_and (pt_val (pe_callB (call_isX hz.zc hf) (by rfl) T.b_isinstance (by decide +kernel) (pa_cons (pv 4) (pa_cons (pe_own T.g_BadGap) (pa_nil))))) (pw_and1 (pt_not (pt_val (pe_callB (call_isX hz.zc hf) (by rfl) T.b_isinstance (by decide +kernel) (pa_cons (pv 4) (pa_cons (pe_own T.g_BadSize) (pa_nil)))))))).pt) (pss_one (ps_ret (pe_tup (pa_cons (pe_str) (pa_cons (pe_xat hz.zc hf (pv 4)) (pa_nil)))))) (pss_nil)) (pss_one (ps_ret (pe_tup (pa_cons (pe_str) (pa_nil)))))))))))) (pss_one (ps_ret (pe_tup (pa_cons (pe_str) (pa_nil))))), rd__law_answer T vs H Q E h⟩
theorem ok__law_fault {f : Addr} {fd : FuncData} (T : Txt K mg) (F : FunD K "_law_fault" "_law_fault" (defArgs s__law_fault) (defBody s__law_fault) (defScope s__law_fault) [] [] f fd)  : FnOk P w K mg base (L2N.CX P w) 1 f fd ["size", "deeds", "place"] (sp__law_fault K) :=
  F.ok sc__law_fault (len__law_fault K) fun cdv A outer s H vs Q E hr h => ⟨t__law_fault K E, pss_cons (ps_if ((pw_or (pt_cmpR op_lt (pv 0) (pe_int) (nomark _)) (pw_or1 (pt_cmpR op_gt (pv 0) (pe_int) (nomark _)))).pt) (pss_one (ps_ret (pe_tup (pa_cons (pe_str) (pa_cons (pv 0) (pa_nil)))))) (pss_nil)) (pss_cons (ps_setLc (i := 3) (own := [("node", 5)]) (g := gName 5) (tt := tYes) (te := tC (.bl false)) rfl sc__law_fault.nd rfl rfl (sw_true rfl rfl rfl (by decide +kernel)) (pi_range1 rfl T.b_range (pa_cons (pe_op op_addA (pv 0) (pe_int)) (pa_nil))) (blkOk_by (own := [("node", 5)]) (N := ["size", "deeds", "place", "gone", "k", "node"]) (sc := defScope s__law_fault) (by decide +kernel)) (fun _ _ _ _ _ => pg_name (i := 5) sc__law_fault.nd rfl (by first | exact Or.inl rfl | exact Or.inr rfl)) (fun _ _ _ _ _ => pts_nil) (fun _ _ _ _ _ => pe_bl)) (pss_cons (ps_for (passes_of rfl) rfl (pi_range1 rfl T.b_range (pa_cons (pe_callB call_lenA (by rfl) T.b_len (by decide +kernel) (pa_cons (pv 1) (pa_nil))) (pa_nil))) (pg_name (i := 4) sc__law_fault.nd rfl (by first | exact Or.inl rfl | exact Or.inr rfl)) (pss_cons (ps_set (i := 5) sc__law_fault.nd rfl (by first | exact Or.inl rfl | exact Or.inr rfl) (pe_callB call_absA (by rfl) T.b_abs (by decide +kernel) (pa_cons (pe_ix ix_seq (pv 1) (pv 4) (fun _ _ => rfl)) (pa_nil)))) (pss_cons (ps_if ((pw_or (pt_cmpR (op_eqA hr) (pv 5) (pe_int) (nomark _)) (pw_or1 (pt_cmpR op_gt (pv 5) (pv 0) (nomark _)))).pt) (pss_one (ps_ret (pe_tup (pa_cons (pe_str) (pa_cons (pe_ix ix_seq (pv 1) (pv 4) (fun _ _ => rfl)) (pa_cons (pv 4) (pa_nil))))))) (pss_nil)) (pss_cons (ps_if (pt_cmpR (op_eqA hr) (pe_ix ix_seq (pv 3) (pv 5) (fun _ _ => rfl)) (pe_cmpR op_lt (pe_ix ix_seq (pv 1) (pv 4) (fun _ _ => rfl)) (pe_int) (nomark _)) (nomark _)) (pss_one (ps_ret (pe_tup (pa_cons (pe_str) (pa_cons (pe_ix ix_seq (pv 1) (pv 4) (fun _ _ => rfl)) (pa_cons (pv 4) (pa_nil))))))) (pss_nil)) (pss_one (ps_asg (pe_cmpR op_lt (pe_ix ix_seq (pv 1) (pv 4) (fun _ _ => rfl)) (pe_int) (nomark _)) (pg_sub (pv 3) (pv 5) set_list))))))) (pss_cons (ps_if ((pw_or (pt_cmpR op_lt (pv 2) (pe_int) (nomark _)) (pw_or1 (pt_cmpR op_gt (pv 2) (pv 0) (nomark _)))).pt) (pss_one (ps_ret (pe_tup (pa_cons (pe_str) (pa_cons (pv 2) (pa_nil)))))) (pss_nil)) (pss_one (ps_ret (pe_tup (pa_cons (pe_str) (pa_nil)))))))), rd__law_fault T vs H Q E h⟩
theorem ok__law_refuses {f : Addr} {fd : FuncData} (T : Txt K mg) (F : FunD K "_law_refuses" "_law_refuses" (defArgs s__law_refuses) (defBody s__law_refuses) (defScope s__law_refuses) [] [] f fd) (c__law_answer : Cal P w K mg base 11 "_law_answer" ["way", "size", "deeds", "place"] (sp10__law_answer K)) (c__law_fault : Cal P w K mg base 1 "_law_fault" ["size", "deeds", "place"] (sp__law_fault K)) : FnOk P w K mg base (L2N.CX P w) 12 f fd ["trials"] (sp__law_refuses K) :=
  F.ok sc__law_refuses (len__law_refuses K) fun cdv A outer s H vs Q E hr h => ⟨t__law_refuses K E, pss_cons (ps_for (passes_of rfl) rfl (pi_list (pv 0)) (pg_name (i := 1) sc__law_refuses.nd rfl (by first | exact Or.inl rfl | exact Or.inr rfl)) (pss_cons (ps_set (i := 2) sc__law_refuses.nd rfl (by first | exact Or.inl rfl | exact Or.inr rfl) (pe_cl c__law_fault hr (by decide) (pat_of (W := fun cls d _ H => E cls d H) (L2N.takes_of rfl rfl rfl rfl)) (pa_cons (pe_ix ix_seq (pv 1) (pe_int) (fun _ _ => rfl)) (pa_cons (pe_ix ix_seq (pv 1) (pe_int) (fun _ _ => rfl)) (pa_cons (pe_ix ix_seq (pv 1) (pe_int) (fun _ _ => rfl)) (pa_nil)))))) (pss_cons (ps_for (passes_of rfl) rfl (pi_range1 rfl T.b_range (pa_cons (pe_int) (pa_nil))) (pg_name (i := 3) sc__law_refuses.nd rfl (by first | exact Or.inl rfl | exact Or.inr rfl)) (pss_one (ps_if (pt_cmpR (op_neA hr) (pe_cl c__law_answer hr (by decide) (pat_of (W := fun cls d _ H => E cls d H) (L2N.takes_of rfl rfl rfl rfl)) (pa_cons (pv 3) (pa_cons (pe_ix ix_seq (pv 1) (pe_int) (fun _ _ => rfl)) (pa_cons (pe_ix ix_seq (pv 1) (pe_int) (fun _ _ => rfl)) (pa_cons (pe_ix ix_seq (pv 1) (pe_int) (fun _ _ => rfl)) (pa_nil)))))) (pv 2) (nomark _)) (pss_one (ps_ret (pe_bl))) (pss_nil)))) (pss_one (ps_if (pt_cmpR (op_neA hr) (pe_cl c__law_answer hr (by decide) (pat_of (W := fun cls d _ H => E cls d H) (L2N.takes_of rfl rfl rfl rfl)) (pa_cons (pe_int) (pa_cons (pe_ix ix_seq (pv 1) (pe_int) (fun _ _ => rfl)) (pa_cons (pe_ix ix_seq (pv 1) (pe_int) (fun _ _ => rfl)) (pa_cons (pe_int) (pa_nil)))))) (pe_cl c__law_fault hr (by decide) (pat_of (W := fun cls d _ H => E cls d H) (L2N.takes_of rfl rfl rfl rfl)) (pa_cons (pe_ix ix_seq (pv 1) (pe_int) (fun _ _ => rfl)) (pa_cons (pe_ix ix_seq (pv 1) (pe_int) (fun _ _ => rfl)) (pa_cons (pe_int) (pa_nil))))) (nomark _)) (pss_one (ps_ret (pe_bl))) (pss_nil)))))) (pss_one (ps_ret (pe_bl))), rd__law_refuses T vs H Q E h⟩
theorem ok__law_size {f : Addr} {fd : FuncData} (T : Txt K mg) (F : FunD K "_law_size" "_law_size" (defArgs s__law_size) (defBody s__law_size) (defScope s__law_size) [] [] f fd) (c__law_draw : Cal P w K mg base 1 "_law_draw" ["bag", "many"] (sp__law_draw K)) : FnOk P w K mg base (L2N.CX P w) 2 f fd ["bag"] (sp__law_size K) :=
  F.ok sc__law_size (len__law_size K) fun cdv A outer s H vs Q E hr h => ⟨t__law_size K E, pss_cons (ps_set (i := 1) sc__law_size.nd rfl (by first | exact Or.inl rfl | exact Or.inr rfl) (pe_cl c__law_draw hr (by decide) (pat_of (W := fun cls d _ H => E cls d H) (L2N.takes_of rfl rfl rfl rfl)) (pa_cons (pv 0) (pa_cons (pe_int) (pa_nil))))) (pss_cons (ps_if (pt_cmpR (op_eqA hr) (pv 1) (pe_int) (nomark _)) (pss_one (ps_ret (pe_cl c__law_draw hr (by decide) (pat_of (W := fun cls d _ H => E cls d H) (L2N.takes_of rfl rfl rfl rfl)) (pa_cons (pv 0) (pa_cons (pe_int) (pa_nil)))))) (pss_nil)) (pss_cons (ps_if (pt_cmpR op_lt (pv 1) (pe_int) (nomark _)) (pss_one (ps_ret (pe_cl c__law_draw hr (by decide) (pat_of (W := fun cls d _ H => E cls d H) (L2N.takes_of rfl rfl rfl rfl)) (pa_cons (pv 0) (pa_cons (pe_int) (pa_nil)))))) (pss_nil)) (pss_one (ps_ret (pe_cl c__law_draw hr (by decide) (pat_of (W := fun cls d _ H => E cls d H) (L2N.takes_of rfl rfl rfl rfl)) (pa_cons (pv 0) (pa_cons (pe_int) (pa_nil)))))))), rd__law_size T vs H Q E h⟩
theorem ok__law_spoilt {f : Addr} {fd : FuncData} (T : Txt K mg) (F : FunD K "_law_spoilt" "_law_spoilt" (defArgs s__law_spoilt) (defBody s__law_spoilt) (defScope s__law_spoilt) [] [] f fd) (c__law_draw : Cal P w K mg base 1 "_law_draw" ["bag", "many"] (sp__law_draw K)) : FnOk P w K mg base (L2N.CX P w) 2 f fd ["bag", "size", "deeds"] (sp__law_spoilt K) :=
  F.ok sc__law_spoilt (len__law_spoilt K) fun cdv A outer s H vs Q E hr h => ⟨t__law_spoilt K E, pss_cons (ps_set (i := 3) sc__law_spoilt.nd rfl (by first | exact Or.inl rfl | exact Or.inr rfl) (pe_cl c__law_draw hr (by decide) (pat_of (W := fun cls d _ H => E cls d H) (L2N.takes_of rfl rfl rfl rfl)) (pa_cons (pv 0) (pa_cons (pe_op op_addA (pe_callB call_lenA (by rfl) T.b_len (by decide +kernel) (pa_cons (pv 2) (pa_nil))) (pe_int)) (pa_nil))))) (pss_cons (ps_set (i := 4) sc__law_spoilt.nd rfl (by first | exact Or.inl rfl | exact Or.inr rfl) (pe_cl c__law_draw hr (by decide) (pat_of (W := fun cls d _ H => E cls d H) (L2N.takes_of rfl rfl rfl rfl)) (pa_cons (pv 0) (pa_cons (pe_int) (pa_nil))))) (pss_cons (ps_set (i := 5) sc__law_spoilt.nd rfl (by first | exact Or.inl rfl | exact Or.inr rfl) (pe_op op_mulA (pe_cl c__law_draw hr (by decide) (pat_of (W := fun cls d _ H => E cls d H) (L2N.takes_of rfl rfl rfl rfl)) (pa_cons (pv 0) (pa_cons (pe_int) (pa_nil)))) (pe_cl c__law_draw hr (by decide) (pat_of (W := fun cls d _ H => E cls d H) (L2N.takes_of rfl rfl rfl rfl)) (pa_cons (pv 0) (pa_cons (pe_int) (pa_nil)))))) (pss_cons (ps_set (i := 6) sc__law_spoilt.nd rfl (by first | exact Or.inl rfl | exact Or.inr rfl) (pe_int)) (pss_cons (ps_if (pt_cmpR (op_eqA hr) (pv 4) (pe_int) (nomark _)) (pss_one (ps_set (i := 6) sc__law_spoilt.nd rfl (by first | exact Or.inl rfl | exact Or.inr rfl) (pe_op op_addA (pe_op op_addA (pv 1) (pe_int)) (pv 5)))) (pss_nil)) (pss_cons (ps_if (pt_cmpR (op_eqA hr) (pv 4) (pe_int) (nomark _)) (pss_one (ps_set (i := 6) sc__law_spoilt.nd rfl (by first | exact Or.inl rfl | exact Or.inr rfl) (pe_op op_sub (pe_op op_sub (pe_un un_neg (pe_int)) (pv 1)) (pv 5)))) (pss_nil)) (pss_cons (ps_if ((pw_and (pt_cmpR (op_eqA hr) (pv 4) (pe_int) (nomark _)) (pw_and1 (pt_cmpR op_gt (pv 1) (pe_int) (nomark _)))).pt) (pss_cons (ps_set (i := 7) sc__law_spoilt.nd rfl (by first | exact Or.inl rfl | exact Or.inr rfl) (pe_op op_addA (pe_int) (pe_cl c__law_draw hr (by decide) (pat_of (W := fun cls d _ H => E cls d H) (L2N.takes_of rfl rfl rfl rfl)) (pa_cons (pv 0) (pa_cons (pv 1) (pa_nil)))))) (pss_cons (ps_setLc (i := 8) (own := [("deed", 10)]) (g := gName 10) (tt := tTest (tOp (rEqA K) (tCB rAbsA (tCons (tVar 10) (tNil))) (tVar 7))) (te := tVar 10) rfl sc__law_spoilt.nd rfl rfl (sw_true rfl rfl rfl (by decide +kernel)) (pi_list (pe_slice sl_list (pv 2) (po_none) (po_some (pv 3)))) (blkOk_by (own := [("deed", 10)]) (N := ["bag", "size", "deeds", "at", "way", "far", "wrong", "node", "past", "bent", "deed"]) (sc := defScope s__law_spoilt) (by decide +kernel)) (fun _ _ _ _ _ => pg_name (i := 10) sc__law_spoilt.nd rfl (by first | exact Or.inl rfl | exact Or.inr rfl)) (fun _ _ _ _ _ => pts_one (pt_cmpR (op_eqA hr) (pe_callB call_absA (by rfl) T.b_abs (by decide +kernel) (pa_cons (pv 10) (pa_nil))) (pv 7) (nomark _))) (fun _ _ _ _ _ => pv 10)) (pss_cons (ps_set (i := 6) sc__law_spoilt.nd rfl (by first | exact Or.inl rfl | exact Or.inr rfl) (pv 7)) (pss_one (ps_if (pt_cmpR op_gt (pe_callB call_lenA (by rfl) T.b_len (by decide +kernel) (pa_cons (pv 8) (pa_nil))) (pe_int) (nomark _)) (pss_one (ps_set (i := 6) sc__law_spoilt.nd rfl (by first | exact Or.inl rfl | exact Or.inr rfl) (pe_ix ix_seq (pv 8) (pe_un un_neg (pe_int)) (fun _ _ => rfl)))) (pss_nil)))))) (pss_nil)) (pss_cons (ps_set (i := 9) sc__law_spoilt.nd rfl (by first | exact Or.inl rfl | exact Or.inr rfl) (pe_op op_addA (pe_op op_addA (pe_slice sl_list (pv 2) (po_none) (po_some (pv 3))) (pe_lst (pa_cons (pv 6) (pa_nil)))) (pe_slice sl_list (pv 2) (po_some (pv 3)) (po_none)))) (pss_cons (ps_if (pt_cmpR (op_eqA hr) (pe_cl c__law_draw hr (by decide) (pat_of (W := fun cls d _ H => E cls d H) (L2N.takes_of rfl rfl rfl rfl)) (pa_cons (pv 0) (pa_cons (pe_int) (pa_nil)))) (pe_int) (nomark _)) (pss_one (ps_expr (pe_bm PySem.F.plainAttrs_list PySem.F.slot_list_append PySem.F.type_list_append mt_append (pv 9) (pa_cons (pe_int) (pa_nil))))) (pss_nil)) (pss_one (ps_ret (pv 9))))))))))), rd__law_spoilt T vs H Q E h⟩
theorem ok__law_trials {f : Addr} {fd : FuncData} (T : Txt K mg) (F : FunD K "_law_trials" "_law_trials" (defArgs s__law_trials) (defBody s__law_trials) (defScope s__law_trials) [] [] f fd) (c__law_draw : Cal P w K mg base 1 "_law_draw" ["bag", "many"] (sp__law_draw K)) (c__law_spoilt : Cal P w K mg base 2 "_law_spoilt" ["bag", "size", "deeds"] (sp__law_spoilt K)) : FnOk P w K mg base (L2N.CX P w) 3 f fd ["bag", "size", "deeds"] (sp__law_trials K) :=
  F.ok sc__law_trials (len__law_trials K) fun cdv A outer s H vs Q E hr h => ⟨t__law_trials K E, pss_cons (ps_set (i := 3) sc__law_trials.nd rfl (by first | exact Or.inl rfl | exact Or.inr rfl) (pe_cl c__law_spoilt hr (by decide) (pat_of (W := fun cls d _ H => E cls d H) (L2N.takes_of rfl rfl rfl rfl)) (pa_cons (pv 0) (pa_cons (pv 1) (pa_cons (pv 2) (pa_nil)))))) (pss_cons (ps_set (i := 4) sc__law_trials.nd rfl (by first | exact Or.inl rfl | exact Or.inr rfl) (pe_cl c__law_draw hr (by decide) (pat_of (W := fun cls d _ H => E cls d H) (L2N.takes_of rfl rfl rfl rfl)) (pa_cons (pv 0) (pa_cons (pe_int) (pa_nil))))) (pss_cons (ps_set (i := 5) sc__law_trials.nd rfl (by first | exact Or.inl rfl | exact Or.inr rfl) (pe_lst (pa_cons (pe_tup (pa_cons (pv 1) (pa_cons (pv 3) (pa_cons (pe_int) (pa_nil))))) (pa_cons (pe_tup (pa_cons (pv 1) (pa_cons (pv 3) (pa_cons (pe_op op_addA (pe_op op_addA (pv 1) (pe_int)) (pv 4)) (pa_nil))))) (pa_cons (pe_tup (pa_cons (pv 1) (pa_cons (pe_op op_addA (pv 2) (pe_lst (pa_cons (pe_int) (pa_nil)))) (pa_cons (pe_un un_neg (pe_int)) (pa_nil))))) (pa_nil)))))) (pss_cons (ps_set (i := 5) sc__law_trials.nd rfl (by first | exact Or.inl rfl | exact Or.inr rfl) (pe_op op_addA (pv 5) (pe_lst (pa_cons (pe_tup (pa_cons (pe_op op_sub (pe_un un_neg (pe_int)) (pv 4)) (pa_cons (pv 3) (pa_cons (pe_un un_neg (pe_int)) (pa_nil))))) (pa_cons (pe_tup (pa_cons (pe_un un_neg (pe_int)) (pa_cons (pv 2) (pa_cons (pe_int) (pa_nil))))) (pa_cons (pe_tup (pa_cons (pe_int) (pa_cons (pv 3) (pa_cons (pe_int) (pa_nil))))) (pa_cons (pe_tup (pa_cons (pe_op op_addA (pe_int) (pv 4)) (pa_cons (pv 2) (pa_cons (pe_int) (pa_nil))))) (pa_nil)))))))) (pss_cons (ps_set (i := 5) sc__law_trials.nd rfl (by first | exact Or.inl rfl | exact Or.inr rfl) (pe_op op_addA (pv 5) (pe_lst (pa_cons (pe_tup (pa_cons (pv 1) (pa_cons (pv 2) (pa_cons (pe_int) (pa_nil))))) (pa_cons (pe_tup (pa_cons (pv 1) (pa_cons (pv 2) (pa_cons (pv 1) (pa_nil))))) (pa_cons (pe_tup (pa_cons (pv 1) (pa_cons (pv 2) (pa_cons (pe_un un_neg (pe_int)) (pa_nil))))) (pa_cons (pe_tup (pa_cons (pv 1) (pa_cons (pv 2) (pa_cons (pe_op op_sub (pe_un un_neg (pe_int)) (pv 4)) (pa_nil))))) (pa_nil)))))))) (pss_cons (ps_set (i := 5) sc__law_trials.nd rfl (by first | exact Or.inl rfl | exact Or.inr rfl) (pe_op op_addA (pv 5) (pe_lst (pa_cons (pe_tup (pa_cons (pv 1) (pa_cons (pv 2) (pa_cons (pe_op op_addA (pv 1) (pe_int)) (pa_nil))))) (pa_cons (pe_tup (pa_cons (pv 1) (pa_cons (pv 2) (pa_cons (pe_op op_addA (pe_op op_addA (pv 1) (pe_int)) (pv 4)) (pa_nil))))) (pa_nil)))))) (pss_cons (ps_if (pt_cmpR op_gt (pe_callB call_lenA (by rfl) T.b_len (by decide +kernel) (pa_cons (pv 2) (pa_nil))) (pe_int) (nomark _)) (pss_one (ps_expr (pe_bm PySem.F.plainAttrs_list PySem.F.slot_list_append PySem.F.type_list_append mt_append (pv 5) (pa_cons (pe_tup (pa_cons (pv 1) (pa_cons (pe_op op_addA (pv 2) (pe_lst (pa_cons (pe_ix ix_seq (pv 2) (pe_un un_neg (pe_int)) (fun _ _ => rfl)) (pa_nil)))) (pa_cons (pe_int) (pa_nil))))) (pa_nil))))) (pss_nil)) (pss_one (ps_ret (pv 5))))))))), rd__law_trials T vs H Q E h⟩
theorem ok_law {f : Addr} {fd : FuncData} (T : Txt K mg) (F : FunD K "law" "law" (defArgs s_law) (defBody s_law) (defScope s_law) [] [] f fd) (c__law_agrees : Cal P w K mg base 13 "_law_agrees" ["size", "deeds", "places", "bag"] (sp10__law_agrees K)) (c__law_bag : Cal P w K mg base 1 "_law_bag" ["script", "lane"] (sp__law_bag K)) (c__law_draw : Cal P w K mg base 1 "_law_draw" ["bag", "many"] (sp__law_draw K)) (c__law_log : Cal P w K mg base 3 "_law_log" ["bag", "size"] (sp__law_log K)) (c__law_made : Cal P w K mg base 4 "_law_made" ["gone", "place", "k"] (sp__law_made K)) (c__law_places : Cal P w K mg base 2 "_law_places" ["bag", "size", "deeds"] (sp10__law_places K)) (c__law_refuses : Cal P w K mg base 12 "_law_refuses" ["trials"] (sp__law_refuses K)) (c__law_size : Cal P w K mg base 2 "_law_size" ["bag"] (sp__law_size K)) (c__law_trials : Cal P w K mg base 3 "_law_trials" ["bag", "size", "deeds"] (sp__law_trials K)) : FnOk P w K mg base (L2N.CX P w) 14 f fd ["script"] (sp_law K) :=
  F.ok sc_law (len_law K) fun cdv A outer s H vs Q E hr h => ⟨t_law K E, pss_cons (ps_set (i := 1) sc_law.nd rfl (by first | exact Or.inl rfl | exact Or.inr rfl) (pe_cl c__law_bag hr (by decide) (pat_of (W := fun cls d _ H => E cls d H) (L2N.takes_of rfl rfl rfl rfl)) (pa_cons (pv 0) (pa_cons (pe_int) (pa_nil))))) (pss_cons (ps_set (i := 2) sc_law.nd rfl (by first | exact Or.inl rfl | exact Or.inr rfl) (pe_cl c__law_bag hr (by decide) (pat_of (W := fun cls d _ H => E cls d H) (L2N.takes_of rfl rfl rfl rfl)) (pa_cons (pv 0) (pa_cons (pe_int) (pa_nil))))) (pss_cons (ps_set (i := 3) sc_law.nd rfl (by first | exact Or.inl rfl | exact Or.inr rfl) (pe_cl c__law_size hr (by decide) (pat_of (W := fun cls d _ H => E cls d H) (L2N.takes_of rfl rfl rfl rfl)) (pa_cons (pv 1) (pa_nil)))) (pss_cons (ps_set (i := 4) sc_law.nd rfl (by first | exact Or.inl rfl | exact Or.inr rfl) (pe_cl c__law_log hr (by decide) (pat_of (W := fun cls d _ H => E cls d H) (L2N.takes_of rfl rfl rfl rfl)) (pa_cons (pv 1) (pa_cons (pv 3) (pa_nil))))) (pss_cons (ps_set (i := 5) sc_law.nd rfl (by first | exact Or.inl rfl | exact Or.inr rfl) (pe_cl c__law_draw hr (by decide) (pat_of (W := fun cls d _ H => E cls d H) (L2N.takes_of rfl rfl rfl rfl)) (pa_cons (pv 2) (pa_cons (pe_op op_addA (pe_callB call_lenA (by rfl) T.b_len (by decide +kernel) (pa_cons (pv 4) (pa_nil))) (pe_int)) (pa_nil))))) (pss_cons (ps_set (i := 6) sc_law.nd rfl (by first | exact Or.inl rfl | exact Or.inr rfl) (pe_cl c__law_places hr (by decide) (pat_of (W := fun cls d _ H => E cls d H) (L2N.takes_of rfl rfl rfl rfl)) (pa_cons (pv 2) (pa_cons (pv 3) (pa_cons (pv 4) (pa_nil)))))) (pss_cons (ps_set (i := 7) sc_law.nd rfl (by first | exact Or.inl rfl | exact Or.inr rfl) (pe_lst (pa_cons (pe_ix ix_seq (pv 6) (pe_int) (fun _ _ => rfl)) (pa_cons (pe_ix ix_seq (pv 6) (pe_cl c__law_draw hr (by decide) (pat_of (W := fun cls d _ H => E cls d H) (L2N.takes_of rfl rfl rfl rfl)) (pa_cons (pv 2) (pa_cons (pe_callB call_lenA (by rfl) T.b_len (by decide +kernel) (pa_cons (pv 6) (pa_nil))) (pa_nil)))) (fun _ _ => rfl)) (pa_nil))))) (pss_cons (ps_if ((pw_or (pt_not (pt_val (pe_cl c__law_agrees hr (by decide) (pat_of (W := fun cls d _ H => E cls d H) (L2N.takes_of rfl rfl rfl rfl)) (pa_cons (pv 3) (pa_cons (pv 4) (pa_cons (pv 6) (pa_cons (pv 2) (pa_nil)))))))) (pw_or1 (pt_not (pt_val (pe_cl c__law_agrees hr (by decide) (pat_of (W := fun cls d _ H => E cls d H) (L2N.takes_of rfl rfl rfl rfl)) (pa_cons (pv 3) (pa_cons (pe_slice sl_list (pv 4) (po_none) (po_some (pv 5))) (pa_cons (pv 7) (pa_cons (pv 2) (pa_nil)))))))))).pt) (pss_one (ps_ret (pe_bl))) (pss_nil)) (pss_cons (ps_set (i := 8) sc_law.nd rfl (by first | exact Or.inl rfl | exact Or.inr rfl) (pe_op op_addA (pe_int) (pe_cl c__law_draw hr (by decide) (pat_of (W := fun cls d _ H => E cls d H) (L2N.takes_of rfl rfl rfl rfl)) (pa_cons (pv 2) (pa_cons (pe_int) (pa_nil)))))) (pss_cons (ps_set (i := 9) sc_law.nd rfl (by first | exact Or.inl rfl | exact Or.inr rfl) (pe_cl c__law_draw hr (by decide) (pat_of (W := fun cls d _ H => E cls d H) (L2N.takes_of rfl rfl rfl rfl)) (pa_cons (pv 2) (pa_cons (pe_int) (pa_nil))))) (pss_cons (ps_if ((pw_or (pt_not (pt_val (pe_cl c__law_made hr (by decide) (pat_of (W := fun cls d _ H => E cls d H) (L2N.takes_of rfl rfl rfl rfl)) (pa_cons (pe_lst (pa_nil)) (pa_cons (pe_non) (pa_cons (pe_non) (pa_nil))))))) (pw_or (pt_not (pt_val (pe_cl c__law_made hr (by decide) (pat_of (W := fun cls d _ H => E cls d H) (L2N.takes_of rfl rfl rfl rfl)) (pa_cons (pe_lst (pa_nil)) (pa_cons (pe_int) (pa_cons (pv 9) (pa_nil))))))) (pw_or1 (pt_not (pt_val (pe_cl c__law_made hr (by decide) (pat_of (W := fun cls d _ H => E cls d H) (L2N.takes_of rfl rfl rfl rfl)) (pa_cons (pe_lst (pa_nil)) (pa_cons (pv 8) (pa_cons (pe_int) (pa_nil)))))))))).pt) (pss_one (ps_ret (pe_bl))) (pss_nil)) (pss_cons (ps_if ((pw_or (pt_not (pt_val (pe_cl c__law_made hr (by decide) (pat_of (W := fun cls d _ H => E cls d H) (L2N.takes_of rfl rfl rfl rfl)) (pa_cons (pe_lst (pa_cons (pv 8) (pa_nil))) (pa_cons (pe_non) (pa_cons (pe_non) (pa_nil))))))) (pw_or1 (pt_not (pt_val (pe_cl c__law_made hr (by decide) (pat_of (W := fun cls d _ H => E cls d H) (L2N.takes_of rfl rfl rfl rfl)) (pa_cons (pe_lst (pa_cons (pv 8) (pa_cons (pe_op op_addA (pv 8) (pe_int)) (pa_nil)))) (pa_cons (pv 8) (pa_cons (pv 9) (pa_nil))))))))).pt) (pss_one (ps_ret (pe_bl))) (pss_nil)) (pss_one (ps_ret (pe_cl c__law_refuses hr (by decide) (pat_of (W := fun cls d _ H => E cls d H) (L2N.takes_of rfl rfl rfl rfl)) (pa_cons (pe_cl c__law_trials hr (by decide) (pat_of (W := fun cls d _ H => E cls d H) (L2N.takes_of rfl rfl rfl rfl)) (pa_cons (pv 2) (pa_cons (pv 3) (pa_cons (pv 4) (pa_nil))))) (pa_nil)))))))))))))))), rd_law T vs H Q E h⟩
end
theorem okH__law_whole_number {P : Program} {w : World} {K : PySem.W.Frag} {mg : Str → Option Value} {base : Heap} {f : Addr} {fd : FuncData} (T : Txt K mg) (F : FunD K "_law_whole_number" "_law_whole_number" (defArgs s__law_whole_number) (defBody s__law_whole_number) (defScope s__law_whole_number) [] [] f fd) : L2H.FnH P w K mg base (L2N.CX P w) 1 f fd ["told"] (sp__law_whole_number K) :=
  okH F sc__law_whole_number (len__law_whole_number K) fun cdv A outer s H vs Q E p hot hr h => ⟨t__law_whole_number K E, pss_one (ps_ret (pe_and (pe_callB call_isi (by rfl) T.b_isinstance (by decide +kernel) (pa_cons (pv 0) (pa_cons (pe_ty "int" T.b_int (by decide +kernel)) (pa_nil)))) (pe_one (pe_not (pe_callB call_isi (by rfl) T.b_isinstance (by decide +kernel) (pa_cons (pv 0) (pa_cons (pe_ty "bool" T.b_bool (by decide +kernel)) (pa_nil)))))))), rd__law_whole_number T vs H Q E h⟩
end G

set_option Elab.async false
set_option linter.all false
set_option maxRecDepth 100000
set_option maxHeartbeats 4000000

namespace G
open PySem PySem.Spec PyProof.Rows L2
theorem facts {P : Program} {w : World} {K : PySem.W.Frag} {h : Heap} {mg : Str → Option Value} {f : Addr} (X : K.In h) (G : h.Ns mainGlobals mg) (hfa : mg ("law" : Str) = some (.ref f)) (c : SaysX chkL fnL K) :
    ∃ fd : FuncData, (∀ (s : Shared) (v : Value), BindsTo s fd ⟨[v], []⟩ [("script", v)]) ∧ ∀ base : Heap, K.In base → base.Ns mainGlobals mg → FnOk P w K mg base (L2N.CX P w) 14 f fd ["script"] (sp_law K) := by
  have T := txt_of X G c
  obtain ⟨fd__law_state, F__law_state⟩ := c.def_ 0 (d := d__law_state) rfl
  obtain ⟨fd__law_step, F__law_step⟩ := c.def_ 1 (d := d__law_step) rfl
  obtain ⟨fd__law_whole, F__law_whole⟩ := c.def_ 2 (d := d__law_whole) rfl
  obtain ⟨fd__law_book, F__law_book⟩ := c.def_ 3 (d := d__law_book) rfl
  obtain ⟨fd__law_bents, F__law_bents⟩ := c.def_ 4 (d := d__law_bents) rfl
  obtain ⟨fd__law_draw, F__law_draw⟩ := c.def_ 5 (d := d__law_draw) rfl
  obtain ⟨fd__law_whole_number, F__law_whole_number⟩ := c.def_ 6 (d := d__law_whole_number) rfl
  obtain ⟨fd__law_is_paper, F__law_is_paper⟩ := c.def_ 7 (d := d__law_is_paper) rfl
  obtain ⟨fd_Links_left, F_Links_left⟩ := c.def_ 8 (d := d_Links_left) rfl
  obtain ⟨fd_Links_right, F_Links_right⟩ := c.def_ 9 (d := d_Links_right) rfl
  obtain ⟨fd_check_gap, F_check_gap⟩ := c.def_ 10 (d := d_check_gap) rfl
  obtain ⟨fd_gap_state, F_gap_state⟩ := c.def_ 11 (d := d_gap_state) rfl
  obtain ⟨fd_check_size, F_check_size⟩ := c.def_ 12 (d := d_check_size) rfl
  obtain ⟨fd_Links___init__, F_Links___init__⟩ := c.def_ 13 (d := d_Links___init__) rfl
  obtain ⟨fd_Links_is_legal, F_Links_is_legal⟩ := c.def_ 14 (d := d_Links_is_legal) rfl
  obtain ⟨fd_check_operation, F_check_operation⟩ := c.def_ 15 (d := d_check_operation) rfl
  obtain ⟨fd_Links_check, F_Links_check⟩ := c.def_ 16 (d := d_Links_check) rfl
  obtain ⟨fd_Links_apply_at, F_Links_apply_at⟩ := c.def_ 17 (d := d_Links_apply_at) rfl
  obtain ⟨fd_Links_copy, F_Links_copy⟩ := c.def_ 18 (d := d_Links_copy) rfl
  obtain ⟨fd_play, F_play⟩ := c.def_ 19 (d := d_play) rfl
  obtain ⟨fd_replay, F_replay⟩ := c.def_ 20 (d := d_replay) rfl
  obtain ⟨fd__links_of_operations, F__links_of_operations⟩ := c.def_ 21 (d := d__links_of_operations) rfl
  obtain ⟨fd_writers, F_writers⟩ := c.def_ 22 (d := d_writers) rfl
  obtain ⟨fd_gap_certificate, F_gap_certificate⟩ := c.def_ 23 (d := d_gap_certificate) rfl
  obtain ⟨fd_is_plain_integer, F_is_plain_integer⟩ := c.def_ 24 (d := d_is_plain_integer) rfl
  obtain ⟨fd_is_gap_certificate, F_is_gap_certificate⟩ := c.def_ 25 (d := d_is_gap_certificate) rfl
  obtain ⟨fd__law_judged, F__law_judged⟩ := c.def_ 26 (d := d__law_judged) rfl
  obtain ⟨fd__law_papers_fit, F__law_papers_fit⟩ := c.def_ 27 (d := d__law_papers_fit) rfl
  obtain ⟨fd__law_number_or_none, F__law_number_or_none⟩ := c.def_ 28 (d := d__law_number_or_none) rfl
  obtain ⟨fd__law_numbers, F__law_numbers⟩ := c.def_ 29 (d := d__law_numbers) rfl
  obtain ⟨fd__law_bears, F__law_bears⟩ := c.def_ 30 (d := d__law_bears) rfl
  obtain ⟨fd__law_verdict_fits, F__law_verdict_fits⟩ := c.def_ 31 (d := d__law_verdict_fits) rfl
  obtain ⟨fd_Links_outs, F_Links_outs⟩ := c.def_ 32 (d := d_Links_outs) rfl
  obtain ⟨fd_Verdict___init__, F_Verdict___init__⟩ := c.def_ 33 (d := d_Verdict___init__) rfl
  obtain ⟨fd_Links_apply, F_Links_apply⟩ := c.def_ 34 (d := d_Links_apply) rfl
  obtain ⟨fd_decided_by, F_decided_by⟩ := c.def_ 35 (d := d_decided_by) rfl
  obtain ⟨fd_gap_states, F_gap_states⟩ := c.def_ 36 (d := d_gap_states) rfl
  obtain ⟨fd_verdict, F_verdict⟩ := c.def_ 37 (d := d_verdict) rfl
  obtain ⟨fd__law_agrees, F__law_agrees⟩ := c.def_ 38 (d := d__law_agrees) rfl
  obtain ⟨fd__law_bag, F__law_bag⟩ := c.def_ 39 (d := d__law_bag) rfl
  obtain ⟨fd__law_planted, F__law_planted⟩ := c.def_ 40 (d := d__law_planted) rfl
  obtain ⟨fd__law_log, F__law_log⟩ := c.def_ 41 (d := d__law_log) rfl
  obtain ⟨fd__law_made, F__law_made⟩ := c.def_ 42 (d := d__law_made) rfl
  obtain ⟨fd__law_places, F__law_places⟩ := c.def_ 43 (d := d__law_places) rfl
  obtain ⟨fd__law_answer, F__law_answer⟩ := c.def_ 44 (d := d__law_answer) rfl
  obtain ⟨fd__law_fault, F__law_fault⟩ := c.def_ 45 (d := d__law_fault) rfl
  obtain ⟨fd__law_refuses, F__law_refuses⟩ := c.def_ 46 (d := d__law_refuses) rfl
  obtain ⟨fd__law_size, F__law_size⟩ := c.def_ 47 (d := d__law_size) rfl
  obtain ⟨fd__law_spoilt, F__law_spoilt⟩ := c.def_ 48 (d := d__law_spoilt) rfl
  obtain ⟨fd__law_trials, F__law_trials⟩ := c.def_ 49 (d := d__law_trials) rfl
  obtain ⟨fd_law, F_law⟩ := c.def_ 50 (d := d_law) rfl
  obtain ⟨fd_BadGap___init__, F_BadGap___init__⟩ := c.def_ 51 (d := d_BadGap___init__) rfl
  obtain ⟨fd_BadNode___init__, F_BadNode___init__⟩ := c.def_ 52 (d := d_BadNode___init__) rfl
  obtain ⟨fd_BadSize___init__, F_BadSize___init__⟩ := c.def_ 53 (d := d_BadSize___init__) rfl
  obtain ⟨fd_LogError___init__, F_LogError___init__⟩ := c.def_ 54 (d := d_LogError___init__) rfl
  have e := hfa.symm.trans T.gf_law
  cases e
  have bA := FunD.bindsA (ps := ["script"]) F_law fun _ _ _ _ _ _ us hl => match us, hl with | [_], _ => rfl
  refine ⟨fd_law, fun s v => bA s [v] rfl, fun base _ _ => ?_⟩
  have i_BadGap : FnOk P w K mg base (L2N.CX P w) 1 (He.ma K (He.ga K "BadGap") "__init__") fd_BadGap___init__ ["self", "gap"] (spIn K ["gap"]) := FunD.ok F_BadGap___init__ sc_BadGap___init__ (spIn_len rfl) fun cdv A outer s H vs Q E hr h => ⟨_, pss_one (ps_ost (pv 0) (pv 1)), ini1 rfl h⟩
  have i_BadNode : FnOk P w K mg base (L2N.CX P w) 1 (He.ma K (He.ga K "BadNode") "__init__") fd_BadNode___init__ ["self", "node"] (spIn K ["node"]) := FunD.ok F_BadNode___init__ sc_BadNode___init__ (spIn_len rfl) fun cdv A outer s H vs Q E hr h => ⟨_, pss_one (ps_ost (pv 0) (pv 1)), ini1 rfl h⟩
  have i_BadSize : FnOk P w K mg base (L2N.CX P w) 1 (He.ma K (He.ga K "BadSize") "__init__") fd_BadSize___init__ ["self", "size"] (spIn K ["size"]) := FunD.ok F_BadSize___init__ sc_BadSize___init__ (spIn_len rfl) fun cdv A outer s H vs Q E hr h => ⟨_, pss_one (ps_ost (pv 0) (pv 1)), ini1 rfl h⟩
  have i_LogError : FnOk P w K mg base (L2N.CX P w) 1 (He.ma K (He.ga K "LogError") "__init__") fd_LogError___init__ ["self", "operation", "index"] (spIn K ["operation", "index"]) := FunD.ok F_LogError___init__ sc_LogError___init__ (spIn_len rfl) fun cdv A outer s H vs Q E hr h => ⟨_, pss_cons (ps_ost (pv 0) (pv 1)) (pss_one (ps_ost (pv 0) (pv 2))), ini2 rfl h⟩
  have x_BadGap : ExM P w K mg base 1 "BadGap" (He.ga K "BadGap") ["gap"] := ⟨T.oe_BadGap.1, T.oe_BadGap.2, T.g_BadGap, _, fd_BadGap___init__, ["self", "gap"], i_BadGap, T.in_BadGap.1, T.in_BadGap.2, FunD.bindsN (ps := ["self", "gap"]) F_BadGap___init__ fun _ _ _ _ _ _ us hl => match us, hl with | [_, _], _ => rfl⟩
  have x_BadNode : ExM P w K mg base 1 "BadNode" (He.ga K "BadNode") ["node"] := ⟨T.oe_BadNode.1, T.oe_BadNode.2, T.g_BadNode, _, fd_BadNode___init__, ["self", "node"], i_BadNode, T.in_BadNode.1, T.in_BadNode.2, FunD.bindsN (ps := ["self", "node"]) F_BadNode___init__ fun _ _ _ _ _ _ us hl => match us, hl with | [_, _], _ => rfl⟩
  have x_BadOperation : ExM P w K mg base 1 "BadOperation" (He.ga K "BadOperation") ["operation", "index"] := ⟨T.oe_BadOperation.1, T.oe_BadOperation.2, T.g_BadOperation, _, fd_LogError___init__, ["self", "operation", "index"], i_LogError, (T.sm_BadOperation ▸ T.in_BadOperation).1, (T.sm_BadOperation ▸ T.in_BadOperation).2, FunD.bindsN (ps := ["self", "operation", "index"]) F_LogError___init__ fun _ _ _ _ _ _ us hl => match us, hl with | [_, _, _], _ => rfl⟩
  have x_BadSize : ExM P w K mg base 1 "BadSize" (He.ga K "BadSize") ["size"] := ⟨T.oe_BadSize.1, T.oe_BadSize.2, T.g_BadSize, _, fd_BadSize___init__, ["self", "size"], i_BadSize, T.in_BadSize.1, T.in_BadSize.2, FunD.bindsN (ps := ["self", "size"]) F_BadSize___init__ fun _ _ _ _ _ _ us hl => match us, hl with | [_, _], _ => rfl⟩
  have x_Illegal : ExM P w K mg base 1 "Illegal" (He.ga K "Illegal") ["operation", "index"] := ⟨T.oe_Illegal.1, T.oe_Illegal.2, T.g_Illegal, _, fd_LogError___init__, ["self", "operation", "index"], i_LogError, (T.sm_Illegal ▸ T.in_Illegal).1, (T.sm_Illegal ▸ T.in_Illegal).2, FunD.bindsN (ps := ["self", "operation", "index"]) F_LogError___init__ fun _ _ _ _ _ _ us hl => match us, hl with | [_, _, _], _ => rfl⟩
  have h__law_whole_number : CalH P w K mg base 1 "_law_whole_number" ["told"] (sp__law_whole_number K) := ⟨_, fd__law_whole_number, okH__law_whole_number T F__law_whole_number, T.gf__law_whole_number, F__law_whole_number.kp, FunD.bindsN (ps := ["told"]) F__law_whole_number fun _ _ _ _ _ _ us hl => match us, hl with | [_], _ => rfl⟩
  have c__law_state : Cal P w K mg base 1 "_law_state" ["world", "place"] (sp__law_state K) := ⟨_, fd__law_state, ok__law_state T F__law_state , T.gf__law_state, F__law_state.kp, FunD.bindsN (ps := ["world", "place"]) F__law_state fun _ _ _ _ _ _ us hl => match us, hl with | [_, _], _ => rfl⟩
  have c__law_step : Cal P w K mg base 1 "_law_step" ["world", "deed"] (sp__law_step K) := ⟨_, fd__law_step, ok__law_step T F__law_step , T.gf__law_step, F__law_step.kp, FunD.bindsN (ps := ["world", "deed"]) F__law_step fun _ _ _ _ _ _ us hl => match us, hl with | [_, _], _ => rfl⟩
  have c__law_whole : Cal P w K mg base 1 "_law_whole" ["size"] (sp__law_whole K) := ⟨_, fd__law_whole, ok__law_whole T F__law_whole , T.gf__law_whole, F__law_whole.kp, FunD.bindsN (ps := ["size"]) F__law_whole fun _ _ _ _ _ _ us hl => match us, hl with | [_], _ => rfl⟩
  have c__law_book : Cal P w K mg base 2 "_law_book" ["size", "deeds"] (sp10__law_book K) := ⟨_, fd__law_book, ok__law_book T F__law_book c__law_state c__law_step c__law_whole, T.gf__law_book, F__law_book.kp, FunD.bindsN (ps := ["size", "deeds"]) F__law_book fun _ _ _ _ _ _ us hl => match us, hl with | [_, _], _ => rfl⟩
  have c__law_bents : Cal P w K mg base 1 "_law_bents" ["due", "other", "by"] (sp__law_bents K) := ⟨_, fd__law_bents, ok__law_bents T F__law_bents , T.gf__law_bents, F__law_bents.kp, FunD.bindsN (ps := ["due", "other", "by"]) F__law_bents fun _ _ _ _ _ _ us hl => match us, hl with | [_, _, _], _ => rfl⟩
  have c__law_draw : Cal P w K mg base 1 "_law_draw" ["bag", "many"] (sp__law_draw K) := ⟨_, fd__law_draw, ok__law_draw T F__law_draw , T.gf__law_draw, F__law_draw.kp, FunD.bindsN (ps := ["bag", "many"]) F__law_draw fun _ _ _ _ _ _ us hl => match us, hl with | [_, _], _ => rfl⟩
  have c__law_whole_number : Cal P w K mg base 1 "_law_whole_number" ["told"] (sp__law_whole_number K) := ⟨_, fd__law_whole_number, ok__law_whole_number T F__law_whole_number , T.gf__law_whole_number, F__law_whole_number.kp, FunD.bindsN (ps := ["told"]) F__law_whole_number fun _ _ _ _ _ _ us hl => match us, hl with | [_], _ => rfl⟩
  have c__law_is_paper : Cal P w K mg base 2 "_law_is_paper" ["told", "due"] (sp__law_is_paper K) := ⟨_, fd__law_is_paper, ok__law_is_paper T F__law_is_paper c__law_whole_number, T.gf__law_is_paper, F__law_is_paper.kp, FunD.bindsN (ps := ["told", "due"]) F__law_is_paper fun _ _ _ _ _ _ us hl => match us, hl with | [_, _], _ => rfl⟩
  have c_Links_left : Met P w K mg base 3 (He.ga K "Links") "left" ["self", "node"] (sp_Links_left K) := ⟨_, fd_Links_left, ok_Links_left T F_Links_left x_BadNode, T.me_Links_left, FunD.bindsN (ps := ["self", "node"]) F_Links_left fun _ _ _ _ _ _ us hl => match us, hl with | [_, _], _ => rfl⟩
  have c_Links_right : Met P w K mg base 3 (He.ga K "Links") "right" ["self", "node"] (sp_Links_right K) := ⟨_, fd_Links_right, ok_Links_right T F_Links_right x_BadNode, T.me_Links_right, FunD.bindsN (ps := ["self", "node"]) F_Links_right fun _ _ _ _ _ _ us hl => match us, hl with | [_, _], _ => rfl⟩
  have c_check_gap : Cal P w K mg base 3 "check_gap" ["size", "gap"] (sp_check_gap K) := ⟨_, fd_check_gap, ok_check_gap T F_check_gap x_BadGap, T.gf_check_gap, F_check_gap.kp, FunD.bindsN (ps := ["size", "gap"]) F_check_gap fun _ _ _ _ _ _ us hl => match us, hl with | [_, _], _ => rfl⟩
  have c_gap_state : Cal P w K mg base 4 "gap_state" ["links", "gap"] (sp_gap_state K) := ⟨_, fd_gap_state, ok_gap_state T F_gap_state c_Links_left c_Links_right c_check_gap, T.gf_gap_state, F_gap_state.kp, FunD.bindsN (ps := ["links", "gap"]) F_gap_state fun _ _ _ _ _ _ us hl => match us, hl with | [_, _], _ => rfl⟩
  have c_check_size : Cal P w K mg base 3 "check_size" ["size"] (sp_check_size K) := ⟨_, fd_check_size, ok_check_size T F_check_size x_BadSize, T.gf_check_size, F_check_size.kp, FunD.bindsN (ps := ["size"]) F_check_size fun _ _ _ _ _ _ us hl => match us, hl with | [_], _ => rfl⟩
  have m_Links : Mak P w K mg base 4 "Links" (He.ga K "Links") ["self", "size"] (sp_Links___init__ K) := ⟨_, fd_Links___init__, ok_Links___init__ T F_Links___init__ c_check_size, T.mk_Links, T.g_Links, FunD.bindsN (ps := ["self", "size"]) F_Links___init__ fun _ _ _ _ _ _ us hl => match us, hl with | [_, _], _ => rfl⟩
  have c_Links_is_legal : Met P w K mg base 1 (He.ga K "Links") "is_legal" ["self", "operation"] (sp_Links_is_legal K) := ⟨_, fd_Links_is_legal, ok_Links_is_legal T F_Links_is_legal , T.me_Links_is_legal, FunD.bindsN (ps := ["self", "operation"]) F_Links_is_legal fun _ _ _ _ _ _ us hl => match us, hl with | [_, _], _ => rfl⟩
  have c_check_operation : Cal P w K mg base 3 "check_operation" ["size", "operation", "index"] (sp_check_operation K) := ⟨_, fd_check_operation, ok_check_operation T F_check_operation x_BadOperation, T.gf_check_operation, F_check_operation.kp, FunD.bindsN (ps := ["size", "operation", "index"]) F_check_operation fun _ _ _ _ _ _ us hl => match us, hl with | [_, _, _], _ => rfl⟩
  have c_Links_check : Met P w K mg base 4 (He.ga K "Links") "check" ["self", "operation", "index"] (sp_Links_check K) := ⟨_, fd_Links_check, ok_Links_check T F_Links_check c_Links_is_legal c_check_operation x_Illegal, T.me_Links_check, FunD.bindsN (ps := ["self", "operation", "index"]) F_Links_check fun _ _ _ _ _ _ us hl => match us, hl with | [_, _, _], _ => rfl⟩
  have c_Links_apply_at : Met P w K mg base 5 (He.ga K "Links") "apply_at" ["self", "operation", "index"] (sp_Links_apply_at K) := ⟨_, fd_Links_apply_at, ok_Links_apply_at T F_Links_apply_at c_Links_check, T.me_Links_apply_at, FunD.bindsN (ps := ["self", "operation", "index"]) F_Links_apply_at fun _ _ _ _ _ _ us hl => match us, hl with | [_, _, _], _ => rfl⟩
  have c_Links_copy : Met P w K mg base 6 (He.ga K "Links") "copy" ["self"] (sp_Links_copy K) := ⟨_, fd_Links_copy, ok_Links_copy T F_Links_copy m_Links, T.me_Links_copy, FunD.bindsN (ps := ["self"]) F_Links_copy fun _ _ _ _ _ _ us hl => match us, hl with | [_], _ => rfl⟩
  have c_play : Cal P w K mg base 7 "play" ["links", "log"] (sp_play K) := ⟨_, fd_play, ok_play T F_play c_Links_apply_at c_Links_copy, T.gf_play, F_play.kp, FunD.bindsN (ps := ["links", "log"]) F_play fun _ _ _ _ _ _ us hl => match us, hl with | [_, _], _ => rfl⟩
  have c_replay : Cal P w K mg base 8 "replay" ["size", "log"] (sp_replay K) := ⟨_, fd_replay, ok_replay T F_replay m_Links c_play, T.gf_replay, F_replay.kp, FunD.bindsN (ps := ["size", "log"]) F_replay fun _ _ _ _ _ _ us hl => match us, hl with | [_, _], _ => rfl⟩
  have c__links_of_operations : Cal P w K mg base 6 "_links_of_operations" ["size", "log"] (sp__links_of_operations K) := ⟨_, fd__links_of_operations, ok__links_of_operations T F__links_of_operations m_Links c_Links_apply_at c_Links_left c_Links_right, T.gf__links_of_operations, F__links_of_operations.kp, FunD.bindsN (ps := ["size", "log"]) F__links_of_operations fun _ _ _ _ _ _ us hl => match us, hl with | [_, _], _ => rfl⟩
  have c_writers : Cal P w K mg base 7 "writers" ["size", "log"] (sp_writers K) := ⟨_, fd_writers, ok_writers T F_writers c__links_of_operations, T.gf_writers, F_writers.kp, FunD.bindsN (ps := ["size", "log"]) F_writers fun _ _ _ _ _ _ us hl => match us, hl with | [_, _], _ => rfl⟩
  have c_gap_certificate : Cal P w K mg base 9 "gap_certificate" ["size", "log", "gap"] (sp_gap_certificate K) := ⟨_, fd_gap_certificate, ok_gap_certificate T F_gap_certificate c_gap_state c_replay c_writers, T.gf_gap_certificate, F_gap_certificate.kp, FunD.bindsN (ps := ["size", "log", "gap"]) F_gap_certificate fun _ _ _ _ _ _ us hl => match us, hl with | [_, _, _], _ => rfl⟩
  have c_is_plain_integer : Cal P w K mg base 1 "is_plain_integer" ["value"] (sp_is_plain_integer K) := ⟨_, fd_is_plain_integer, ok_is_plain_integer T F_is_plain_integer , T.gf_is_plain_integer, F_is_plain_integer.kp, FunD.bindsN (ps := ["value"]) F_is_plain_integer fun _ _ _ _ _ _ us hl => match us, hl with | [_], _ => rfl⟩
  have c_is_gap_certificate : Cal P w K mg base 10 "is_gap_certificate" ["size", "log", "gap", "value"] (sp_is_gap_certificate K) := ⟨_, fd_is_gap_certificate, ok_is_gap_certificate T F_is_gap_certificate c_gap_certificate c_is_plain_integer, T.gf_is_gap_certificate, F_is_gap_certificate.kp, FunD.bindsN (ps := ["size", "log", "gap", "value"]) F_is_gap_certificate fun _ _ _ _ _ _ us hl => match us, hl with | [_, _, _, _], _ => rfl⟩
  have c__law_judged : Cal P w K mg base 11 "_law_judged" ["size", "deeds", "place", "value", "due"] (sp__law_judged K) := ⟨_, fd__law_judged, ok__law_judged T F__law_judged c_is_gap_certificate, T.gf__law_judged, F__law_judged.kp, FunD.bindsN (ps := ["size", "deeds", "place", "value", "due"]) F__law_judged fun _ _ _ _ _ _ us hl => match us, hl with | [_, _, _, _, _], _ => rfl⟩
  have c__law_papers_fit : Cal P w K mg base 12 "_law_papers_fit" ["size", "deeds", "places", "papers", "bag"] (sp__law_papers_fit K) := ⟨_, fd__law_papers_fit, ok__law_papers_fit T F__law_papers_fit c__law_bents c__law_draw c__law_is_paper c__law_judged c_gap_certificate c_is_gap_certificate, T.gf__law_papers_fit, F__law_papers_fit.kp, FunD.bindsN (ps := ["size", "deeds", "places", "papers", "bag"]) F__law_papers_fit fun _ _ _ _ _ _ us hl => match us, hl with | [_, _, _, _, _], _ => rfl⟩
  have c__law_number_or_none : Cal P w K mg base 2 "_law_number_or_none" ["told", "due"] (sp__law_number_or_none K) := ⟨_, fd__law_number_or_none, ok__law_number_or_none T F__law_number_or_none c__law_whole_number, T.gf__law_number_or_none, F__law_number_or_none.kp, FunD.bindsN (ps := ["told", "due"]) F__law_number_or_none fun _ _ _ _ _ _ us hl => match us, hl with | [_, _], _ => rfl⟩
  have c__law_numbers : Cal P w K mg base 2 "_law_numbers" ["told", "due"] (sp__law_numbers K) := ⟨_, fd__law_numbers, ok__law_numbers T F__law_numbers c__law_whole_number, T.gf__law_numbers, F__law_numbers.kp, FunD.bindsN (ps := ["told", "due"]) F__law_numbers fun _ _ _ _ _ _ us hl => match us, hl with | [_, _], _ => rfl⟩
  have c__law_bears : Cal P w K mg base 3 "_law_bears" ["told", "gone", "place", "k"] (sp__law_bears K) := ⟨_, fd__law_bears, ok__law_bears T F__law_bears c__law_number_or_none c__law_numbers, T.gf__law_bears, F__law_bears.kp, FunD.bindsN (ps := ["told", "gone", "place", "k"]) F__law_bears fun _ _ _ _ _ _ us hl => match us, hl with | [_, _, _, _], _ => rfl⟩
  have c__law_verdict_fits : Cal P w K mg base 4 "_law_verdict_fits" ["told", "book"] (sp__law_verdict_fits K) := ⟨_, fd__law_verdict_fits, ok__law_verdict_fits T F__law_verdict_fits c__law_bears, T.gf__law_verdict_fits, F__law_verdict_fits.kp, FunD.bindsN (ps := ["told", "book"]) F__law_verdict_fits fun _ _ _ _ _ _ us hl => match us, hl with | [_, _], _ => rfl⟩
  have c_Links_outs : Met P w K mg base 1 (He.ga K "Links") "outs" ["self"] (sp_Links_outs K) := ⟨_, fd_Links_outs, ok_Links_outs T F_Links_outs , T.me_Links_outs, FunD.bindsN (ps := ["self"]) F_Links_outs fun _ _ _ _ _ _ us hl => match us, hl with | [_], _ => rfl⟩
  have m_Verdict : Mak P w K mg base 1 "Verdict" (He.ga K "Verdict") ["self", "out_nodes", "gap", "index"] (sp_Verdict___init__ K) := ⟨_, fd_Verdict___init__, ok_Verdict___init__ T F_Verdict___init__ , T.mk_Verdict, T.g_Verdict, FunD.bindsN (ps := ["self", "out_nodes", "gap", "index"]) F_Verdict___init__ fun _ _ _ _ _ _ us hl => match us, hl with | [_, _, _, _], _ => rfl⟩
  have c_Links_apply : Met P w K mg base 6 (He.ga K "Links") "apply" ["self", "operation"] (sp_Links_apply K) := ⟨_, fd_Links_apply, ok_Links_apply T F_Links_apply c_Links_apply_at, T.me_Links_apply, FunD.bindsN (ps := ["self", "operation"]) F_Links_apply fun _ _ _ _ _ _ us hl => match us, hl with | [_, _], _ => rfl⟩
  have c_decided_by : Cal P w K mg base 9 "decided_by" ["size", "log", "gap"] (sp_decided_by K) := ⟨_, fd_decided_by, ok_decided_by T F_decided_by m_Links c_Links_apply c_gap_state c_replay, T.gf_decided_by, F_decided_by.kp, FunD.bindsN (ps := ["size", "log", "gap"]) F_decided_by fun _ _ _ _ _ _ us hl => match us, hl with | [_, _, _], _ => rfl⟩
  have c_gap_states : Cal P w K mg base 5 "gap_states" ["links"] (sp_gap_states K) := ⟨_, fd_gap_states, ok_gap_states T F_gap_states c_gap_state, T.gf_gap_states, F_gap_states.kp, FunD.bindsN (ps := ["links"]) F_gap_states fun _ _ _ _ _ _ us hl => match us, hl with | [_], _ => rfl⟩
  have c_verdict : Cal P w K mg base 10 "verdict" ["size", "log"] (sp_verdict K) := ⟨_, fd_verdict, ok_verdict T F_verdict c_Links_outs m_Verdict c_decided_by c_gap_states c_replay, T.gf_verdict, F_verdict.kp, FunD.bindsN (ps := ["size", "log"]) F_verdict fun _ _ _ _ _ _ us hl => match us, hl with | [_, _], _ => rfl⟩
  have c__law_agrees : Cal P w K mg base 13 "_law_agrees" ["size", "deeds", "places", "bag"] (sp10__law_agrees K) := ⟨_, fd__law_agrees, ok__law_agrees T F__law_agrees c__law_book c__law_papers_fit c__law_verdict_fits c_verdict, T.gf__law_agrees, F__law_agrees.kp, FunD.bindsN (ps := ["size", "deeds", "places", "bag"]) F__law_agrees fun _ _ _ _ _ _ us hl => match us, hl with | [_, _, _, _], _ => rfl⟩
  have c__law_bag : Cal P w K mg base 1 "_law_bag" ["script", "lane"] (sp__law_bag K) := ⟨_, fd__law_bag, ok__law_bag T F__law_bag , T.gf__law_bag, F__law_bag.kp, FunD.bindsN (ps := ["script", "lane"]) F__law_bag fun _ _ _ _ _ _ us hl => match us, hl with | [_, _], _ => rfl⟩
  have c__law_planted : Cal P w K mg base 2 "_law_planted" ["bag", "size"] (sp__law_planted K) := ⟨_, fd__law_planted, ok__law_planted T F__law_planted c__law_draw, T.gf__law_planted, F__law_planted.kp, FunD.bindsN (ps := ["bag", "size"]) F__law_planted fun _ _ _ _ _ _ us hl => match us, hl with | [_, _], _ => rfl⟩
  have c__law_log : Cal P w K mg base 3 "_law_log" ["bag", "size"] (sp__law_log K) := ⟨_, fd__law_log, ok__law_log T F__law_log c__law_draw c__law_planted, T.gf__law_log, F__law_log.kp, FunD.bindsN (ps := ["bag", "size"]) F__law_log fun _ _ _ _ _ _ us hl => match us, hl with | [_, _], _ => rfl⟩
  have c__law_made : Cal P w K mg base 4 "_law_made" ["gone", "place", "k"] (sp__law_made K) := ⟨_, fd__law_made, ok__law_made T F__law_made m_Verdict c__law_bears, T.gf__law_made, F__law_made.kp, FunD.bindsN (ps := ["gone", "place", "k"]) F__law_made fun _ _ _ _ _ _ us hl => match us, hl with | [_, _, _], _ => rfl⟩
  have c__law_places : Cal P w K mg base 2 "_law_places" ["bag", "size", "deeds"] (sp10__law_places K) := ⟨_, fd__law_places, ok__law_places T F__law_places c__law_draw, T.gf__law_places, F__law_places.kp, FunD.bindsN (ps := ["bag", "size", "deeds"]) F__law_places fun _ _ _ _ _ _ us hl => match us, hl with | [_, _, _], _ => rfl⟩
  have c__law_answer : Cal P w K mg base 11 "_law_answer" ["way", "size", "deeds", "place"] (sp10__law_answer K) := ⟨_, fd__law_answer, ok__law_answer T F__law_answer c_gap_certificate c_is_gap_certificate c_verdict h__law_whole_number, T.gf__law_answer, F__law_answer.kp, FunD.bindsN (ps := ["way", "size", "deeds", "place"]) F__law_answer fun _ _ _ _ _ _ us hl => match us, hl with | [_, _, _, _], _ => rfl⟩
  have c__law_fault : Cal P w K mg base 1 "_law_fault" ["size", "deeds", "place"] (sp__law_fault K) := ⟨_, fd__law_fault, ok__law_fault T F__law_fault , T.gf__law_fault, F__law_fault.kp, FunD.bindsN (ps := ["size", "deeds", "place"]) F__law_fault fun _ _ _ _ _ _ us hl => match us, hl with | [_, _, _], _ => rfl⟩
  have c__law_refuses : Cal P w K mg base 12 "_law_refuses" ["trials"] (sp__law_refuses K) := ⟨_, fd__law_refuses, ok__law_refuses T F__law_refuses c__law_answer c__law_fault, T.gf__law_refuses, F__law_refuses.kp, FunD.bindsN (ps := ["trials"]) F__law_refuses fun _ _ _ _ _ _ us hl => match us, hl with | [_], _ => rfl⟩
  have c__law_size : Cal P w K mg base 2 "_law_size" ["bag"] (sp__law_size K) := ⟨_, fd__law_size, ok__law_size T F__law_size c__law_draw, T.gf__law_size, F__law_size.kp, FunD.bindsN (ps := ["bag"]) F__law_size fun _ _ _ _ _ _ us hl => match us, hl with | [_], _ => rfl⟩
  have c__law_spoilt : Cal P w K mg base 2 "_law_spoilt" ["bag", "size", "deeds"] (sp__law_spoilt K) := ⟨_, fd__law_spoilt, ok__law_spoilt T F__law_spoilt c__law_draw, T.gf__law_spoilt, F__law_spoilt.kp, FunD.bindsN (ps := ["bag", "size", "deeds"]) F__law_spoilt fun _ _ _ _ _ _ us hl => match us, hl with | [_, _, _], _ => rfl⟩
  have c__law_trials : Cal P w K mg base 3 "_law_trials" ["bag", "size", "deeds"] (sp__law_trials K) := ⟨_, fd__law_trials, ok__law_trials T F__law_trials c__law_draw c__law_spoilt, T.gf__law_trials, F__law_trials.kp, FunD.bindsN (ps := ["bag", "size", "deeds"]) F__law_trials fun _ _ _ _ _ _ us hl => match us, hl with | [_, _, _], _ => rfl⟩
  exact ok_law T F_law c__law_agrees c__law_bag c__law_draw c__law_log c__law_made c__law_places c__law_refuses c__law_size c__law_trials
end G
open PySem PySem.W PySem.Calls PyProof.Rows
set_option maxRecDepth 100000 in
set_option maxHeartbeats 0 in
theorem PySem.Challenge.cw_latelink_k10_whole_verdicts_of_logs_holds : PySem.Challenge.rw_latelink_k10_whole_verdicts_of_logs.Holds := by
  w_on; o_law
  refine HandSHeadRun.head_any (r := OpenLaw.row PySem.Challenge.rw_latelink_k10_whole_verdicts_of_logs) (q := view (OpenLaw.row PySem.Challenge.rw_latelink_k10_whole_verdicts_of_logs).prog [67]) (H := G.hk) (ob := G.ob) (M := 8000) (loose := G.loose) (d := HandSHeadRun.topDef (OpenLaw.row PySem.Challenge.rw_latelink_k10_whole_verdicts_of_logs).prog 67) (kwd := []) G.ob_eq
    (by kernel_rfl) (fun s => by kernel_rfl) G.run (by kernel_rfl) (by kernel_rfl) (by kernel_rfl) (by rfl) (by first | assumption | decide +kernel) (by decide +kernel) ⟨rfl, rfl, rfl, rfl, rfl, by decide +kernel⟩ ?hw ?hc
  case hw => w_witness2
  case hc =>
    refine L2.walk_ofE (l := PySem.Challenge.rw_latelink_k10_whole_verdicts_of_logs) (n := 63) (k := 14) (x := "script") (CX := L2.CX0) rfl (by decide) (by kernel_rfl) ⟨rfl, by decide, by decide⟩ ?F (fun _ _ _ _ z => z)
    case F =>
      intro w mg fa h Y Gm hmg0
      obtain ⟨K, KX, c⟩ := Y
      have hmg : mg ("law" : PySem.Str) = some (.ref fa) := by
        have e : (HandSHeadRun.topDef (OpenLaw.row PySem.Challenge.rw_latelink_k10_whole_verdicts_of_logs).prog 67).name = ("law" : PySem.Str) := by kernel_rfl
        rw [← e]
        exact hmg0
      obtain ⟨fd, hb, hF⟩ := G.facts (P := (PySem.Challenge.rw_latelink_k10_whole_verdicts_of_logs).prog) (w := w) KX Gm hmg c
      exact ⟨K, fd, _, KX, hb, fun H a ns hl _ hS => ⟨a, ns, rfl, hS, hl, fun _ => rfl⟩, fun base h1 h2 => G.noX (hF base h1 h2)⟩
