import PyProof.Rows.All
import Wide.All
import OpenK.AllK
import Wide.FinOn
import KE.KStateDown
import KE.KExcIs
import HandS.ForMost
import HandS.Exc
import HandS.ExcOwn
import HandS.ExcCtx
import HandS.ExcInit
import HandS.ExcField
import HandS.HotCalls
import HandS.WordsExc
import HandS.IsInst
import HandS.Conv
import HandS.Defaults
import HandS.Evl
import HandS.Head0
import HandS.Head1
import HandS.Head2
import HandS.HeadEnd
import HandS.HeadHook1
import HandS.HeadHook2
import HandS.ClsMeth
import HandS.ExcInitHot
import HandS.OwnEq
import HandS.HeadNt
import HandS.NoneIn
import HandS.Text
import HandS.Steps
import HandS.Strs
import HandS.TupAny
import PySem.Challenge.RW_latelink_k22_late_writes
set_option Elab.async false
set_option linter.all false
set_option maxRecDepth 100000
set_option maxHeartbeats 4000000
/-! Calls by bundles, own exceptions with fields, raised, caught, asked. -/
namespace G
open PySem PySem.Spec PyProof.Rows L2

/-! ### a def, a method of the text, ready to be called -/
structure Cal (P : Program) (w : World) (K : PySem.W.Frag) (mg : Str → Option Value) (base : Heap) (k : Nat) (x : Str) (ps : List Str) (sp : Sp) : Prop where
  ex : ∃ (f : Addr) (fd : FuncData), FnOk P w K mg base (L2N.CX P w) k f fd ps sp ∧ mg x = some (.ref f) ∧ PySem.W.keepIn K (.ref f) = true ∧ Binds K fd ps []
structure Met (P : Program) (w : World) (K : PySem.W.Frag) (mg : Str → Option Value) (base : Heap) (k : Nat) (C : Addr) (m : Str) (ps : List Str) (sp : Sp) : Prop where
  ex : ∃ (f : Addr) (fd : FuncData), FnOk P w K mg base (L2N.CX P w) k f fd ps sp ∧ Meth K C m f ∧ Binds K fd ps []
structure Mak (P : Program) (w : World) (K : PySem.W.Frag) (mg : Str → Option Value) (base : Heap) (k : Nat) (x : Str) (C : Addr) (ps : List Str) (sp : Sp) : Prop where
  ex : ∃ (f : Addr) (fd : FuncData), FnOk P w K mg base (L2N.CX P w) k f fd ps sp ∧ Mk K C f ∧ mg x = some (.ref C) ∧ Binds K fd ps []
/-- the same where an exception is handled -/
structure CalH (P : Program) (w : World) (K : PySem.W.Frag) (mg : Str → Option Value) (base : Heap) (k : Nat) (x : Str) (ps : List Str) (sp : Sp) : Prop where
  ex : ∃ (f : Addr) (fd : FuncData), L2H.FnH P w K mg base (L2N.CX P w) k f fd ps sp ∧ mg x = some (.ref f) ∧ PySem.W.keepIn K (.ref f) = true ∧ Binds K fd ps []
section
variable {X : Cx} {j k : Nat} {x m : Str} {ps : List Str} {sp : Sp} {E : XK} {C : Addr} {p pos apos : Pos} {e o : Expr} {es : List Expr} {t : TA} {ta : TE}
/-- f(..): what leaves it as an exception is wished for by E -/
def tCl (sp : Sp) (E : L2.St → XK) (t : TA) : TE := fun σ H Q => t σ H fun vs H1 => sp vs H1 Q (E σ)
def tMt (C : Addr) (m : Str) (sp : Sp) (E : L2.St → XK) (ta : TE) (t : TA) : TE := fun σ H Q => ta σ H fun x H1 => ∃ a dx fs, x = .ref a ∧ H1 a = some (.ins C dx fs) ∧ fs.lookup m = none ∧ t σ H1 fun vs H2 => sp (x :: vs) H2 Q (E σ)
def tMk (C : Addr) (sp : Sp) (E : L2.St → XK) (t : TA) : TE := fun σ H Q => t σ H fun vs H1 => ∀ x dx, H1 x = none → H1 dx = none → dx ≠ x → sp (.ref x :: vs) (upd (upd H1 dx (.own x)) x (.ins C dx [])) (fun v H2 => v = .non ∧ Q (.ref x) H2) (E σ)
abbrev PAt (X : Cx) (E : L2.St → XK) : Prop := ∀ σ, PassesAt (L2N.CX X.prog X.w) X σ (E σ)
theorem pat_of {X : Cx} {W : WX} (tk : L2N.Takes X W) : PAt X (WE W) := fun σ => L2N.passAt tk σ
/-- where nothing may be let out -/
theorem pat_no {X : Cx} : PAt X (fun _ => L2.E0) := fun σ pins H s e s' I c => by
  obtain ⟨_, _, _, _, _, _, _, _, _, _, _, _, z⟩ := c
  exact z.elim
variable {E : L2.St → XK}
theorem pe_cl (c : Cal X.prog X.w X.K X.mg X.base k x ps sp) (hr : Room j X.A) (hk : k ≤ j) (hx : PAt X E) (ha : PA X (e :: es) t) (hg : Gl X x := by rfl) (hdb : (x == ("__debug__" : Str)) = false := by decide)
    (he : starEach (e :: es) X.env = (false, eval e X.env) :: starEach es X.env := by rfl) (hpl : (backTo pos (starEach es X.env)).any (·.1) = false := by rfl) : PE X (.Call (.Name x p) (e :: es) [] pos) (tCl sp E t) := by
  obtain ⟨f, fd, F, hm, kp, hb⟩ := c.ex
  refine ⟨fun pins s σ H Q I h => ?_⟩
  exact (pe_callS (E := E) F (hr.mono hk) hg hm kp hb hx ha hdb he hpl).run pins s σ H Q I h
theorem pe_cl0 (c : Cal X.prog X.w X.K X.mg X.base k x ps sp) (hr : Room j X.A) (hk : k ≤ j) (hx : PAt X E) (hg : Gl X x := by rfl) (hdb : (x == ("__debug__" : Str)) = false := by decide) : PE X (.Call (.Name x p) [] [] pos) (tCl sp E tNil) := by
  obtain ⟨f, fd, F, hm, kp, hb⟩ := c.ex
  refine ⟨fun pins s σ H Q I h => wpAny_Call_Name_kw (ld_glob I hg hm ?_ hdb)⟩
  exact PySem.W.callWith_K0 I.kIn kp (run_fnS (E := E) (us := []) (vs := []) F (hr.mono hk) hb (hx σ) I .nil h)
theorem run_mt {pins : List (Addr × Obj)} {s : Shared} {σ : L2.St} {H : Hp} {Q : VK} {f : Addr} {fd : FuncData} {us : List Value} {vs : List V} (F : FnOk X.prog X.w X.K X.mg X.base (L2N.CX X.prog X.w) k f fd ps sp) (hr : Room k X.A) (hb : Binds X.K fd ps []) (hx : PAt X E) (I : Inv X pins σ H s) (r : Vals vs us)
    (h : sp vs H Q (E σ)) : wpAny (model X.prog X.w) X.A (call (.ref f) us) (EP X pins σ Q) X.xe s := run_fnS F hr hb (hx σ) I r h
theorem pe_mt {pl : Sem Bool} (c : Met X.prog X.w X.K X.mg X.base k C m ps sp) (cl : Cls X.K C) (hr : Room j X.A) (hk : k ≤ j) (hx : PAt X E) (he : PE X o ta) (ha : PA X (e :: es) t)
    (hst : starEach (e :: es) X.env = (false, eval e X.env) :: starEach es X.env := by rfl) (hpl : (backTo pos (starEach es X.env)).any (·.1) = false := by rfl)
    (ht : eval (.Call (.Attribute o m apos) (e :: es) [] pos) X.env = (do
      let ov ← eval o X.env
      standAt apos.atName
      let (f, first) ← holding [ov] (getMethod ov m pl)
      callWith pos f first (backTo pos (starEach (e :: es) X.env)) (backToKw pos (keywordEach [] X.env))) := by rfl) : PE X (.Call (.Attribute o m apos) (e :: es) [] pos) (tMt C m sp E ta t) := by
  obtain ⟨f, fd, F, hm, hb⟩ := c.ex
  refine ⟨fun pins s σ H Q I h => PySem.W.methodCall_KW (pl := pl) (thn (he.run pins s σ H _ I h) fun u s1 hh => ?_) ht⟩
  obtain ⟨x, H1, I1, rx, a, dx, fs, ex, ea, l, q⟩ := hh
  subst ex
  obtain rfl : u = Value.ref a := rx
  refine getmeth_ok I1 ea cl hm l (PySem.W.callWith_K (first := [.ref a]) (h₀ := X.base) I.ok.mod.kin hm.kp (thn (ha.run pos pins s1 σ H1 _ I1 q) fun us s2 hh => ?_) hst hpl)
  obtain ⟨vs, H2, I2, r, q2⟩ := hh
  exact ⟨I2.kIn, run_fnS (us := .ref a :: us) (vs := .ref a :: vs) F (hr.mono hk) hb (hx σ) I2 (.cons rfl r) q2⟩
theorem pe_mt0 {pl : Sem Bool} (c : Met X.prog X.w X.K X.mg X.base k C m ps sp) (cl : Cls X.K C) (hr : Room j X.A) (hk : k ≤ j) (hx : PAt X E) (he : PE X o ta)
    (ht : eval (.Call (.Attribute o m apos) [] [] pos) X.env = (do
      let ov ← eval o X.env
      standAt apos.atName
      let (f, first) ← holding [ov] (getMethod ov m pl)
      callWith pos f first (backTo pos (starEach [] X.env)) (backToKw pos (keywordEach [] X.env))) := by rfl) : PE X (.Call (.Attribute o m apos) [] [] pos) (tMt C m sp E ta tNil) := by
  obtain ⟨f, fd, F, hm, hb⟩ := c.ex
  refine ⟨fun pins s σ H Q I h => PySem.W.methodCall_KW (pl := pl) (thn (he.run pins s σ H _ I h) fun u s1 hh => ?_) ht⟩
  obtain ⟨x, H1, I1, rx, a, dx, fs, ex, ea, l, q⟩ := hh
  subst ex
  obtain rfl : u = Value.ref a := rx
  refine getmeth_ok I1 ea cl hm l ?_
  exact PySem.W.callWith_K0 (first := [.ref a]) I1.kIn hm.kp (run_fnS (us := [.ref a]) (vs := [.ref a]) F (hr.mono hk) hb (hx σ) I1 (.cons rfl .nil) q)
/-- an instance is made, what its __init__ lets out is wished for at the slots σ -/
theorem run_mk {pn : List (Addr × Obj)} {τ : L2.St} {H0 : Hp} {sh : Shared} {R : VK} {f : Addr} {fd : FuncData} {uu : List Value} {vv : List V} (M : Mk X.K C f) (F : FnOk X.prog X.w X.K X.mg X.base (L2N.CX X.prog X.w) k f fd ps sp)
    (hr : Room (k + 1) X.A) (hb : Binds X.K fd ps []) (hx : PAt X E) (I : Inv X pn τ H0 sh) (r : Vals vv uu)
    (h : ∀ x dx, H0 x = none → H0 dx = none → dx ≠ x → sp (.ref x :: vv) (upd (upd H0 dx (.own x)) x (.ins C dx [])) (fun v H2 => v = .non ∧ R (.ref x) H2) (E τ)) :
    wpAny (model X.prog X.w) X.A (call (.ref C) uu) (EP X pn τ R) X.xe sh := by
  have q0 := h (sh.heap.objs.size + 1) sh.heap.objs.size (I.hok.fresh (Nat.le_succ _)) (I.hok.fresh (Nat.le_refl _)) (Nat.ne_of_lt (Nat.lt_succ_self _))
  have J := Inv.made (C := C) I
  have rr : Vals (V.ref (sh.heap.objs.size + 1) :: vv) (Value.ref (sh.heap.objs.size + 1) :: uu) := .cons rfl r
  have ln : (Value.ref (sh.heap.objs.size + 1) :: uu ++ []).length = ps.length := by
    rw [List.append_nil, ← rr.length]
    exact F.len _ _ _ _ q0
  have bb := hb _ (Value.ref (sh.heap.objs.size + 1) :: uu) J.kIn ln
  rw [List.append_nil] at bb
  have go := F.run _ X.stack _ _ ⟨Value.ref (sh.heap.objs.size + 1) :: uu, []⟩ _ _ _ (E τ) (hr.make C uu []) (J.env0.make C uu []) bb rr q0
  refine wpAny_call (make_map (f := f) I.kIn M.makes M.init (beq_iff_eq.mp M.fn) (codeAny_mono go fun rs s2 w => ?_))
  cases rs with
  | error er => exact hx τ pn _ _ er s2 J w
  | ok fl =>
    cases fl with
    | ret u =>
      obtain ⟨v, H2, J2, rv, ev, w2⟩ := J.after w
      subst ev
      exact ⟨rv, V.ref (sh.heap.objs.size + 1), H2, J2, rfl, w2⟩
    | next => exact w.elim
    | brk => exact w.elim
    | cont => exact w.elim
theorem pe_mk (c : Mak X.prog X.w X.K X.mg X.base k x C ps sp) (hr : Room j X.A) (hk : k + 1 ≤ j) (hx : PAt X E) (ha : PA X (e :: es) t) (hg : Gl X x := by rfl) (hdb : (x == ("__debug__" : Str)) = false := by decide)
    (he : starEach (e :: es) X.env = (false, eval e X.env) :: starEach es X.env := by rfl) (hpl : (backTo pos (starEach es X.env)).any (·.1) = false := by rfl) : PE X (.Call (.Name x p) (e :: es) [] pos) (tMk C sp E t) := by
  obtain ⟨f, fd, F, M, hm, hb⟩ := c.ex
  refine ⟨fun pn s τ H Q I h => wpAny_Call_Name_kw (ld_glob I hg hm ?_ hdb)⟩
  refine PySem.W.callWith_K (h₀ := X.base) I.ok.mod.kin M.kp (thn (ha.run pos pn s τ H _ I h) fun us s1 hh => ?_) he hpl
  obtain ⟨vs, H1, I1, r, q⟩ := hh
  exact ⟨I1.kIn, run_mk M F (hr.mono hk) hb hx I1 r q⟩
end

/-! ### calls where an exception is handled -/
section
variable {X : Cx} {j k : Nat} {x : Str} {ps : List Str} {sp : Sp} {p pos : Pos} {e : Expr} {es : List Expr} {t : TA} {E : L2.St → XK}
theorem pe_clH (c : CalH X.prog X.w X.K X.mg X.base k x ps sp) (hr : L2H.RoomH j X.A) (hk : k ≤ j) (hc : L2H.HotC X) (hx : PAt X E) (ha : PA X (e :: es) t) (hg : Gl X x := by rfl) (hdb : (x == ("__debug__" : Str)) = false := by decide)
    (he : starEach (e :: es) X.env = (false, eval e X.env) :: starEach es X.env := by rfl) (hpl : (backTo pos (starEach es X.env)).any (·.1) = false := by rfl) : PE X (.Call (.Name x p) (e :: es) [] pos) (tCl sp E t) := by
  obtain ⟨f, fd, F, hm, kp, hb⟩ := c.ex
  refine ⟨fun pins s σ H Q I h => ?_⟩
  exact (L2H.pe_callH (E := E) F (hr.mono hk) hc hg hm kp hb hx ha hdb he hpl).run pins s σ H Q I h
/-- the suite of a clause is such a place -/
theorem hot_suite {X : Cx} {a : Addr} {oe : Obj} {cls : Value} {d : Option Addr} {pn : List (Addr × Obj)} (hz : L2N.Zn cls d oe) (hf : ∃ vs, oe.data = .fields vs) : L2H.HotC (X.suite a ((a, oe) :: pn)) := by
  obtain ⟨vs, hv⟩ := hf
  exact ⟨(a, oe), ⟨rfl, vs, hv, hz.2.2 vs hv⟩, List.mem_cons_self⟩
end

/-! ### own exceptions with fields -/
/-- what a class of errors must be for its instances to be asked and read -/
structure ExK (K : PySem.W.Frag) (C : Addr) : Prop where
  cl : (PySem.W.clsIn K C).isSome = true
  ga : PySem.W.findIn K (.ref C) "__getattribute__" = some (some (.builtin "BaseException.__getattribute__"))
  gg : PySem.W.findIn K (.ref C) "__getattr__" = some none
  be : PySem.W.subIn K (.ref C) (.type "BaseException") = some true
  hd : PySem.W.hasDictIn K C = true
  cc : PySem.W.findIn K (.ref C) "__class__" = some (some (.builtin "object.__class__"))
  gs : PySem.W.specialIn K (.builtin "object.__class__") "__get__" = some (some (.builtin "getset_descriptor.__get__"))
  tk : PySem.W.takesIn K (.builtin "object.__class__") = some true
  mo : PySem.W.mroIn K C (.type "object") = some true
/-- isinstance(raised, c) -/
def rIsX (K : PySem.W.Frag) (cls : Value) (d : Option Addr) (a : Addr) : List V → Hp → VK → Prop := fun xs H Q => ∃ (D dd : Addr) (fs : List (Str × V)) (c : V) (u : Value) (b : Bool),
  cls = .ref D ∧ d = some dd ∧ H dd = some (.xd fs) ∧ ExK K D ∧ xs = [.ref a, c] ∧ ClsV c u ∧ PySem.W.kitOne K (.ref D) u = some b ∧ Q (.bl b) H
section
variable {X : Cx} {a : Addr} {oe : Obj} {cls : Value} {d : Option Addr} {pn : List (Addr × Obj)}
theorem exc_at {pins : List (Addr × Obj)} {s : Shared} {σ : L2.St} {H : Hp} {D dd : Addr} {fs : List (Str × V)} (I : Inv (X.suite a ((a, oe) :: pn)) pins σ H s) (hz : Zc cls d oe) (hf : ∃ vs, oe.data = .fields vs) (ec : cls = .ref D) (ed : d = some dd)
    (hd : H dd = some (.xd fs)) : ∃ (od : Obj) (mA : Str → Option Value), PySem.W.InstAt s.heap a oe D (some od) ∧ (∀ f, RelO (fs.lookup f) (mA f)) ∧ ∀ n, PySem.W.lookIn n od = some (mA n) := by
  obtain ⟨hget, _⟩ := I.pin (a, oe) (List.mem_append_left _ List.mem_cons_self)
  obtain ⟨vs, hv⟩ := hf
  obtain ⟨mA, hns, hr⟩ := (show ObjOk X.prog X.w H s.heap dd (.xd fs) from I.hok dd _ hd)
  obtain ⟨od, ho, hl⟩ := lookIn_ns hns
  refine ⟨od, mA, ⟨hget, hz.1.trans ec, ?_, ?_⟩, hr, hl⟩
  · unfold PySem.W.notCls
    rw [hv] <;> rfl
  · rw [hz.2, ed]
    exact ho
theorem call_isX (hz : Zc cls d oe) (hf : ∃ vs, oe.data = .fields vs) : CallR (X.suite a ((a, oe) :: pn)) (.builtin "isinstance") (rIsX X.K cls d a) := by
  intro pins s σ H xs us Q I r h
  obtain ⟨D, dd, fs, c, u, b, ec, ed, hd, T, rfl, k, e, q⟩ := h
  obtain ⟨u1, u2, rfl, r1, r2⟩ := vals2 r
  cases (show u1 = Value.ref a from r1)
  have e2 := k.eq r2
  subst e2
  obtain ⟨od, mA, J, _, _⟩ := exc_at I hz hf ec ed hd
  exact PySem.W.kia_one (PySem.W.kitx_exc T.cl T.ga T.gg T.be T.cc T.gs T.tk T.mo) I.kIn J e (fun z => nomatch z) fun tk => ⟨.bl b, H, I.tok tk, rfl, q⟩
/-- raised.f -/
def tXat (K : PySem.W.Frag) (a : Addr) (cls : Value) (d : Option Addr) (f : Str) (te : TE) : TE := fun σ H Q => te σ H fun x H1 => ∃ (D dd : Addr) (fs : List (Str × V)) (v : V),
  cls = .ref D ∧ d = some dd ∧ H1 dd = some (.xd fs) ∧ ExK K D ∧ x = .ref a ∧ PySem.W.findIn K (.ref D) f = some none ∧ fs.lookup f = some v ∧ Q v H1
theorem pe_xat {e : Expr} {te : TE} {pos : Pos} {n : Str} (hz : Zc cls d oe) (hf : ∃ vs, oe.data = .fields vs) (he : PE (X.suite a ((a, oe) :: pn)) e te) (hb : attributeBase e n X.env (eval e X.env) = eval e X.env := by rfl) :
    PE (X.suite a ((a, oe) :: pn)) (.Attribute e n pos) (tXat X.K a cls d n te) := by
  refine ⟨fun pins s σ H Q I h => attr_of hb (thn (he.run pins s σ H _ I h) fun u s1 hh => ?_)⟩
  obtain ⟨x, H1, I1, rx, D, dd, fs, v, ec, ed, hd, T, ex, hno, l, q⟩ := hh
  subst ex
  obtain rfl : u = Value.ref a := rx
  obtain ⟨od, mA, J, hr, hl⟩ := exc_at I1 hz hf ec ed hd
  obtain ⟨u, hu, ru⟩ := RelO.some_of (v := v) (o := mA n) (by rw [← l]; exact hr n)
  exact HandSPX.exc_get I1.kIn J T.ga T.gg T.be (PySem.W.findObj_own T.hd hno rfl (by rw [hl, hu])) (handed_of ru) ⟨v, H1, I1.tok _, ru, q⟩
end
end G

set_option Elab.async false
set_option linter.all false
set_option maxRecDepth 100000
set_option maxHeartbeats 4000000
/-! Own errors made and raised where nothing is handled. -/
namespace G
open PySem PySem.Spec PyProof.Rows L2

/-- what an error's __init__ leaves: its fields fs hold the values us -/
def spIn (K : PySem.W.Frag) (fs : List Str) : Sp := fun vs H Q _ => ∃ (a C : Addr) (us : List V), vs = .ref a :: us ∧ us.length = fs.length ∧ OexC K C ∧ (∀ f ∈ fs, PySem.W.findIn K (.ref C) f = some none) ∧ H a = some (exo a C none) ∧
  ∀ (dx : Addr) (H' : Hp), H dx = none → dx ≠ a → H' a = some (exo a C (some dx)) → H' dx = some (exd dx (fs.zip us).reverse) → (∀ b, b ≠ a → b ≠ dx → H' b = H b) → Q .non H'
theorem spIn_len {K : PySem.W.Frag} {fs ps : List Str} (h : ps.length = fs.length + 1) : ∀ vs H Q E, spIn K fs vs H Q E → vs.length = ps.length := by
  rintro vs H Q E ⟨a, C, us, rfl, hl, _⟩
  rw [h, List.length_cons, hl]
/-- an own class of errors -/
structure ExM (P : Program) (w : World) (K : PySem.W.Frag) (mg : Str → Option Value) (base : Heap) (k : Nat) (x : Str) (C : Addr) (fs : List Str) : Prop where
  oex : OexC K C
  no : ∀ f ∈ fs, PySem.W.findIn K (.ref C) f = some none
  gl : mg x = some (.ref C)
  ex : ∃ (fI : Addr) (fd : FuncData) (ps : List Str), FnOk P w K mg base (L2N.CX P w) k fI fd ps (spIn K fs) ∧ PySem.W.findIn K (.ref C) "__init__" = some (some (.ref fI)) ∧ PySem.W.typeIn K (.ref fI) = some (.type "function") ∧ Binds K fd ps []
theorem heap_mk {H H2 : Hp} {a d : Addr} {o : HO} (ha : H a = none) (hd : d ≠ a) (k : ∀ b, b ≠ a → b ≠ d → H2 b = H b) : upd (del H2 a) d o = upd H d o := by
  funext b
  by_cases hb : b = d
  · rw [hb, upd_same, upd_same]
  · rw [upd_ne hb, upd_ne hb]
    by_cases hba : b = a
    · rw [hba, del_same, ha]
    · rw [del_ne hba, k b hba hb]
theorem mk_go {K : PySem.W.Frag} {C : Addr} {fs : List Str} {us : List V} {H : Hp} {Q : XK} (T : OexC K C) (hf : ∀ f ∈ fs, PySem.W.findIn K (.ref C) f = some none) (hl : us.length = fs.length) (h : ∀ d, H d = none → Q (.ref C) (some d) (upd H d (.xd (fs.zip us).reverse))) :
    ∀ a, H a = none → spIn K fs (.ref a :: us) (upd H a (exo a C none)) (fun v H2 => v = .non ∧ ∃ (d : Addr) (gs : List (Str × V)), H2 a = some (exo a C (some d)) ∧ H2 d = some (exd d gs) ∧ H d = none ∧ Q (.ref C) (some d) (upd (del H2 a) d (.xd gs))) (fun _ _ _ => False) := by
  intro a ha
  refine ⟨a, C, us, rfl, hl, T, hf, upd_same, fun dx H' nd ne e1 e2 k => ⟨rfl, dx, _, e1, e2, ?_, ?_⟩⟩
  · rw [upd_ne ne] at nd
    exact nd
  · have nd' : H dx = none := by
      rw [upd_ne ne] at nd
      exact nd
    rw [heap_mk ha ne fun b h1 h2 => (k b h1 h2).trans (upd_ne h1)]
    exact h dx nd'
/-- x(e, ..), x a class of errors -/
def tRz (C : Addr) (fs : List Str) (W : WX) (ta : TA) : TS := fun _ σ H => ta σ H fun us H1 => us.length = fs.length ∧ us.length ≤ 1000 ∧ ∀ d, H1 d = none → W (.ref C) (some d) σ (upd H1 d (.xd (fs.zip us).reverse))
section
variable {X : Cx} {j k : Nat} {x : Str} {C : Addr} {fs : List Str} {p pos pos2 : Pos} {e : Expr} {es : List Expr} {ta : TA}
theorem pmk_x (c : ExM X.prog X.w X.K X.mg X.base k x C fs) (hr : Room j X.A) (hk : k + 1 ≤ j) (ha : PA X (e :: es) ta) (hg : Gl X x) (hdb : (x == ("__debug__" : Str)) = false)
    (he : starEach (e :: es) X.env = (false, eval e X.env) :: starEach es X.env) (hpl : (backTo pos (starEach es X.env)).any (·.1) = false) :
    L2N.PMk X (.Call (.Name x p) (e :: es) [] pos) (fun σ H Q => ta σ H fun us H1 => us.length = fs.length ∧ us.length ≤ 1000 ∧ ∀ d, H1 d = none → Q (.ref C) (some d) (upd H1 d (.xd (fs.zip us).reverse))) := by
  obtain ⟨T, hno, hm, fI, fd, ps, F1, iC, tI, hb⟩ := c
  intro pn s τ H Q I h
  obtain ⟨nm, qn, N, bs, bm, sn, sub, ab, col, dd, k0, k1, k2, k3, k5, hC, hbm⟩ := T.cls
  refine wpAny_Call_Name_kw (ld_glob I hg hm (PySem.W.callWith_K (h₀ := X.base) I.ok.mod.kin T.kC (thn (ha.run pos pn s τ H _ I h) fun us s1 hh => ?_) he hpl) hdb)
  obtain ⟨vs, H1, I1, r1, hl, hz, q1⟩ := hh
  refine ⟨I1.kIn, ?_⟩
  obtain ⟨hp, g, dr, tk, os⟩ := s1
  show wpAny _ _ (call (.ref C) us) _ _ _
  have hle := Nat.le_succ hp.objs.size
  have hn : H1 (hp.objs.size + 1) = none := I1.hok.fresh hle
  have hq := mk_go (Q := Q) T hno hl q1 (hp.objs.size + 1) hn
  have up : ∀ b o, hp.get? b = some o → ((hp.push (PySem.W.kdv_tup us)).push (PySem.HandSPX.excO C hp.objs.size)).get? b = some o := fun b o z => Heap.get?_push_of_some _ (Heap.get?_push_of_some _ z)
  have new : ((hp.push (PySem.W.kdv_tup us)).push (PySem.HandSPX.excO C hp.objs.size)).get? (hp.objs.size + 1) = some (PySem.HandSPX.excO C hp.objs.size) := by heap_get
  have J := I1.laid (t' := tk) (a := hp.objs.size + 1) (o := exo (hp.objs.size + 1) C none) up hle (exo_ok new)
  have rr : Vals (V.ref (hp.objs.size + 1) :: vs) (Value.ref (hp.objs.size + 1) :: us) := .cons rfl r1
  have ln : (Value.ref (hp.objs.size + 1) :: us ++ []).length = ps.length := by
    rw [List.append_nil, ← rr.length]
    exact F1.len _ _ _ _ hq
  have bb := hb _ (Value.ref (hp.objs.size + 1) :: us) J.kIn ln
  rw [List.append_nil] at bb
  have sz : us.length ≤ sizeLine := by
    rw [← r1.length, sizeLine_eq]
    omega
  have hr' : Room (k + 1) X.A := hr.mono hk
  have go := F1.run _ X.stack _ _ ⟨Value.ref (hp.objs.size + 1) :: us, []⟩ _ _ _ _ (hr'.make C us []) (J.env0.make C us []) bb rr hq
  refine wpAny_call (PySem.HandSPX.call_own F.excBase_ValueError (fun Y => PySem.HandSPX.refsVE_contains Y bm hbm) (I1.kIn _ _ hC) (PySem.W.looks_findIn I1.kIn iC) (fun self => PySem.W.bind_fn I1.kIn self tI) sz (codeAny_mono go fun rs s2 w => ?_))
  cases rs with
  | error er =>
    obtain ⟨_, _, _, _, _, _, _, _, _, _, _, _, z⟩ := w
    exact z.elim
  | ok fl =>
    cases fl with
    | ret u =>
      obtain ⟨v, H2, os2, ba, un, hok, rv, ev, d, gs, ea, ed, hd1, q2⟩ := w
      subst ev
      obtain ⟨h2, g2, d2, t2, os'⟩ := s2
      obtain ⟨t0, HG, J2, kG, ge, hoe, na⟩ := mk_end0 (d2 := d2) (t2 := t2) I1 hle up un hok os2 ba ea ed hd1
      exact ⟨rv, hp.objs.size + 1, _, _, ⟨HG, g2, d2, t2, os'⟩, _, .ref C, some d, rfl, J2, kG, ge, hoe, ⟨rfl, rfl, fun zs hv => by cases hv; rfl⟩, rfl, rfl, na, rfl, ba, raises_own T.exC T.tyC, q2⟩
    | next => exact w.elim
    | brk => exact w.elim
    | cont => exact w.elim
/-- raise x(e, ..) -/
theorem ps_rz {W : WX} (c : ExM X.prog X.w X.K X.mg X.base k x C fs) (hc : X.calm = true) (tk : L2N.Takes X W) (hr : Room j X.A) (hk : k + 1 ≤ j) (ha : PA X (e :: es) ta) (hg : Gl X x := by rfl) (hdb : (x == ("__debug__" : Str)) = false := by decide)
    (he : starEach (e :: es) X.env = (false, eval e X.env) :: starEach es X.env := by rfl) (hpl : (backTo pos (starEach es X.env)).any (·.1) = false := by rfl) : PS X (.Raise (some (.Call (.Name x p) (e :: es) [] pos)) none pos2) (tRz C fs W ta) :=
  L2N.ps_raise hc tk (pmk_x c hr hk ha hg hdb he hpl)
end
/-! ### the __init__ of one field, of two -/
theorem ini1 {K : PySem.W.Frag} {f : Str} {vs : List V} {H : Hp} {Q : VK} {E : XK} {N : List Str} (hN : N.length = 2) (h : spIn K [f] vs H Q E) : (tOst K f (tVar 0) (tVar 1)) { nx := fun _ H' => Q .non H', rt := Q } (start N vs) H := by
  obtain ⟨a, C, us, rfl, hl, T, hno, ha, q⟩ := h
  match us, hl with
  | [v], _ =>
    match N, hN with
    | [_, _], _ =>
      refine ⟨_, rfl, _, rfl, a, C, rfl, T, hno f (List.mem_singleton.mpr rfl), Or.inl ⟨ha, fun dx hd ne => ?_⟩⟩
      refine q dx _ hd ne upd_same ?_ fun b h1 h2 => ?_
      · rw [upd_ne ne, upd_same] <;> rfl
      · rw [upd_ne h1, upd_ne h2]
theorem ini2 {K : PySem.W.Frag} {f g : Str} {vs : List V} {H : Hp} {Q : VK} {E : XK} {N : List Str} (hN : N.length = 3) (h : spIn K [f, g] vs H Q E) :
    (tSeq (tOst K f (tVar 0) (tVar 1)) (tOst K g (tVar 0) (tVar 2))) { nx := fun _ H' => Q .non H', rt := Q } (start N vs) H := by
  obtain ⟨a, C, us, rfl, hl, T, hno, ha, q⟩ := h
  match us, hl with
  | [v, v2], _ =>
    match N, hN with
    | [_, _, _], _ =>
      refine ⟨_, rfl, _, rfl, a, C, rfl, T, hno f List.mem_cons_self, Or.inl ⟨ha, fun dx hd ne => ?_⟩⟩
      refine ⟨_, rfl, _, rfl, a, C, rfl, T, hno g (List.mem_cons_of_mem _ List.mem_cons_self), Or.inr ⟨dx, [(f, v)], upd_same, ?_, by show 1 ≤ 900; decide, ?_⟩⟩
      · rw [upd_ne ne, upd_same]
      · refine q dx _ hd ne ?_ upd_same fun b h1 h2 => ?_
        · rw [upd_ne (Ne.symm ne), upd_same]
        · rw [upd_ne h2, upd_ne h1, upd_ne h2]
end G

set_option Elab.async false
set_option linter.all false
set_option maxRecDepth 100000
set_option maxHeartbeats 4000000
/-! Operators that take what comes, and the steps of a reading, from the front. -/
namespace G
open PySem PySem.Spec PyProof.Rows L2

/-! ### operators by values -/
def rAddA : R2 := fun x y H Q => (∃ i j, x = .int i ∧ y = .int j ∧ Q (.int (i + j)) H) ∨ (∃ i j : Str, x = .str i ∧ y = .str j ∧ i.length + j.length ≤ sizeLine ∧ Q (.str (i ++ j)) H) ∨ rCat x y H Q
def rMulA : R2 := fun x y H Q => (∃ i j, x = .int i ∧ y = .int j ∧ CMul i j ∧ Q (.int (i * j)) H) ∨ rRep x y H Q
def rEqA (K : PySem.W.Frag) : R2 := fun x y H Q => rEq x y H Q ∨ rEqD K x y H Q
def rNeA (K : PySem.W.Frag) : R2 := fun x y H Q => rNe x y H Q ∨ rNeD K x y H Q
def rLenA (K : PySem.W.Frag) : List V → Hp → VK → Prop := fun xs H Q => ∃ x n, xs = [x] ∧ LenV K x H n ∧ Q (.int n) H
def rListA (K : PySem.W.Frag) : List V → Hp → VK → Prop := fun xs H Q => ∃ p ys, xs = [.ref p] ∧ (SqL K H p ys ∨ SqT K H p ys) ∧ ∀ l, H l = none → Q (.ref l) (upd H l (.lst ys))
def rIntA : List V → Hp → VK → Prop := fun xs H Q => (∃ i, xs = [.int i] ∧ Q (.int i) H) ∨ ∃ k, xs = [.bl k] ∧ Q (.int (if k then 1 else 0)) H
def rAbsA : List V → Hp → VK → Prop := fun xs H Q => ∃ i, xs = [.int i] ∧ Q (.int (if i < 0 then -i else i)) H
def rMin2A : List V → Hp → VK → Prop := fun xs H Q => ∃ i j, xs = [.int i, .int j] ∧ Q (.int (if j < i then j else i)) H
def rMax2A : List V → Hp → VK → Prop := fun xs H Q => ∃ i j, xs = [.int i, .int j] ∧ Q (.int (if j > i then j else i)) H
def rIsNA : R2 := fun x y H Q => y = .non ∧ Q (.bl (decide (x = .non))) H
def rNotNA : R2 := fun x y H Q => y = .non ∧ Q (.bl (!decide (x = .non))) H
abbrev rSubA : R2 := rI0 fun i j => .int (i - j)
abbrev rModA : R2 := rI (fun _ j => 0 < j) fun i j => .int (i % j)
abbrev rDivA : R2 := rI CDiv fun i j => .int (i / j)
abbrev rPowA : R2 := rI CPow fun i j => .int (i ^ j.toNat)
abbrev rLtA : R2 := rI0 fun i j => .bl (decide (i < j))
abbrev rLeA : R2 := rI0 fun i j => .bl (decide (i ≤ j))
abbrev rGtA : R2 := rI0 fun i j => .bl (decide (j < i))
abbrev rGeA : R2 := rI0 fun i j => .bl (decide (j ≤ i))
abbrev rNegA : V → Hp → VK → Prop := rU fun i => .int (-i)
section
variable {X : Cx}
theorem op_addA : OpR X (binaryOp .Add) rAddA := OpR.or op_add (OpR.or op_add_str op_cat)
theorem op_mulA : OpR X (binaryOp .Mult) rMulA := OpR.or op_mul op_rep
theorem op_eqA {k : Nat} (hr : Room k X.A) : OpR X (compareOp .Eq) (rEqA X.K) := OpR.or op_eq (op_eqD hr.units)
theorem op_neA {k : Nat} (hr : Room k X.A) : OpR X (compareOp .NotEq) (rNeA X.K) := OpR.or op_ne (op_neD hr.units)
theorem call_lenA : CallR X (.builtin "len") (rLenA X.K) := call_len
theorem call_listA : CallR X (.type "list") (rListA X.K) := call_list_of
theorem call_intA : CallR X (.type "int") rIntA := call_int1
theorem call_absA : CallR X (.builtin "abs") rAbsA := call_abs
theorem call_min2A (hc : X.calm = true) : CallR X (.builtin "min") rMin2A := call_min2 hc
theorem call_max2A (hc : X.calm = true) : CallR X (.builtin "max") rMax2A := call_max2 hc
theorem op_isNA : OpR X (compareOp .Is) rIsNA := op_isN
theorem op_notNA : OpR X (compareOp .IsNot) rNotNA := op_notN
end

/-! ### what frames a step: all that was tracked but the addresses of S -/
def Kp (S : List Addr) (H H' : Hp) : Prop := ∀ b o, b ∉ S → H b = some o → H' b = some o
theorem Kp.refl (S : List Addr) (H : Hp) : Kp S H H := fun _ _ _ h => h
theorem Kp.trans {S : List Addr} {H H1 H2 : Hp} (a : Kp S H H1) (b : Kp S H1 H2) : Kp S H H2 := fun c o n h => b c o n (a c o n h)
theorem Kp.mono {S S' : List Addr} {H H1 : Hp} (a : Kp S H H1) (h : ∀ b ∈ S, b ∈ S') : Kp S' H H1 := fun c o n e => a c o (fun z => n (h c z)) e
theorem Kp.all {S : List Addr} {H H1 : Hp} (a : Kp [] H H1) : Kp S H H1 := fun c o _ e => a c o (by simp) e
theorem Kp.new {S : List Addr} {H : Hp} {p : Addr} {o : HO} (n : H p = none) : Kp S H (upd H p o) := fun b u _ e => by
  rw [upd_ne (ne_of_none e n)]
  exact e
theorem Kp.put {S : List Addr} {H : Hp} {p : Addr} {o : HO} (h : p ∈ S) : Kp S H (upd H p o) := fun b u n e => by
  have ne : b ≠ p := fun z => n (by rw [z]; exact h)
  rw [upd_ne ne]
  exact e
/-- an object that H does not know may change -/
theorem Kp.mut {S : List Addr} {H H1 : Hp} {p : Addr} {o : HO} (e : Kp S H H1) (n : H p = none) : Kp S H (upd H1 p o) := fun b u h z => by
  rw [upd_ne (ne_of_none z n)]
  exact e b u h z
theorem Kp.at0 {H H' : Hp} {b : Addr} {o : HO} (k : Kp [] H H') (h : H b = some o) : H' b = some o := k b o (by simp) h
theorem Kp.at1 {H H' : Hp} {a b : Addr} {o : HO} (k : Kp [a] H H') (n : b ≠ a) (h : H b = some o) : H' b = some o := k b o (by simpa using n) h
theorem Kp.free {S : List Addr} {H H' : Hp} {b : Addr} (k : Kp S H H') (n : b ∉ S) (h : H' b = none) : H b = none := by
  cases e : H b with
  | none => rfl
  | some o =>
    rw [k b o n e] at h
    cases h
theorem Kp.free0 {H H' : Hp} {b : Addr} (k : Kp [] H H') (h : H' b = none) : H b = none := k.free (by simp) h
theorem Kp.sql {S : List Addr} {K : PySem.W.Frag} {H H' : Hp} {a : Addr} {xs : List V} (e : Kp S H H') (n : a ∉ S) (h : SqL K H a xs) : SqL K H' a xs := by
  rcases h with (h | ⟨o, h⟩) | h
  · exact .inl (.inl (e _ _ n h))
  · exact .inl (.inr ⟨o, e _ _ n h⟩)
  · exact .inr h
theorem Kp.sqt {S : List Addr} {K : PySem.W.Frag} {H H' : Hp} {a : Addr} {xs : List V} (e : Kp S H H') (n : a ∉ S) (h : SqT K H a xs) : SqT K H' a xs := by
  rcases h with (h | ⟨o, h⟩) | h
  · exact .inl (.inl (e _ _ n h))
  · exact .inl (.inr ⟨o, e _ _ n h⟩)
  · exact .inr h

/-! ### the steps -/
section
variable {K : PySem.W.Frag} {σ : L2.St} {H : Hp} {Q : VK} {ta tb tc te : TE} {t u : TT} {x y v : V} {QB : Bool → Hp → Prop} {QA : List V → Hp → Prop} {D : Ends} {s1 s2 : TS} {tl tr : TA} {i j : Int} {n m : Nat} {p q : Addr} {xs ys : List V}
theorem w_var {k : Nat} (h : σ[k]? = some (some v)) (g : Q v H) : tVar k σ H Q := ⟨v, h, g⟩
theorem w_c (g : Q v H) : tC v σ H Q := g
theorem w_op {r : R2} (g : ta σ H fun x H1 => tb σ H1 fun y H2 => r x y H2 Q) : tOp r ta tb σ H Q := g
theorem w_un {r : V → Hp → VK → Prop} (g : ta σ H fun x H1 => r x H1 Q) : tUn r ta σ H Q := g
theorem w_test (g : te σ H fun x H1 => ∃ k, x = .bl k ∧ QB k H1) : tTest te σ H QB := g
theorem w_tb (g : te σ H fun x H1 => ∃ k, x = .bl k ∧ QB k H1) : tB te σ H QB := g
theorem w_and (g : t σ H fun c H1 => if c = true then u σ H1 QB else QB false H1) : tAnd t u σ H QB := g
theorem w_or (g : t σ H fun c H1 => if c = true then QB true H1 else u σ H1 QB) : tOr t u σ H QB := g
theorem w_not (g : t σ H fun c H1 => QB (!c) H1) : tNot t σ H QB := g
theorem w_andV (g : ta σ H fun x H1 => ∃ c, x = .bl c ∧ if c = true then tb σ H1 Q else Q (.bl false) H1) : tAndV ta tb σ H Q := g
theorem w_orV (g : ta σ H fun x H1 => ∃ c, x = .bl c ∧ if c = true then Q (.bl true) H1 else tb σ H1 Q) : tOrV ta tb σ H Q := g
theorem w_notV (g : ta σ H fun x H1 => ∃ c, x = .bl c ∧ Q (.bl (!c)) H1) : tNotV ta σ H Q := g
theorem w_ifE (g : t σ H fun c H1 => if c = true then ta σ H1 Q else tb σ H1 Q) : tIf t ta tb σ H Q := g
theorem w_chain {r r' : R2} (g : ta σ H fun x H1 => tb σ H1 fun y H2 => r x y H2 fun z H3 => ∃ k, z = .bl k ∧ (if k = true then tc σ H3 fun w' H4 => r' y w' H4 Q else Q (.bl false) H3)) : tChain r r' ta tb tc σ H Q := g
theorem w_nil (g : QA [] H) : tNil σ H QA := g
theorem w_cons (g : ta σ H fun x H1 => tr σ H1 fun xs H2 => QA (x :: xs) H2) : tCons ta tr σ H QA := g
theorem w_cb {r : List V → Hp → VK → Prop} (g : tl σ H fun vs H1 => r vs H1 Q) : tCB r tl σ H Q := g
theorem w_cl {sp : Sp} {E : L2.St → XK} (g : tl σ H fun vs H1 => sp vs H1 Q (E σ)) : tCl sp E tl σ H Q := g
theorem w_tup (g : tl σ H fun xs H1 => xs.length ≤ sizeLine ∧ ∀ p, H1 p = none → Q (.ref p) (upd H1 p (.tup xs))) : tTup tl σ H Q := g
theorem w_lst (g : tl σ H fun xs H1 => xs.length ≤ sizeLine ∧ ∀ p, H1 p = none → Q (.ref p) (upd H1 p (.lst xs))) : tLst tl σ H Q := g
theorem w_bm {T : String} {r : V → List V → Hp → VK → Prop} (g : te σ H fun x H1 => tyV K T x H1 ∧ tl σ H1 fun xs H2 => r x xs H2 Q) : tBM K T r te tl σ H Q := g
theorem w_bm0 {T : String} {r : V → List V → Hp → VK → Prop} (g : te σ H fun x H1 => tyV K T x H1 ∧ r x [] H1 Q) : tBM0 K T r te σ H Q := g
theorem w_fld {f : Str} (g : ta σ H fun x H1 => ∃ a C dx fs v, x = .ref a ∧ H1 a = some (.ins C dx fs) ∧ Cls K C ∧ NoAttr K C f ∧ fs.lookup f = some v ∧ Q v H1) : tFld K ta f σ H Q := g
theorem w_mt {C : Addr} {m : Str} {sp : Sp} {E : L2.St → XK} (g : ta σ H fun x H1 => ∃ a dx fs, x = .ref a ∧ H1 a = some (.ins C dx fs) ∧ fs.lookup m = none ∧ tl σ H1 fun vs H2 => sp (x :: vs) H2 Q (E σ)) : tMt C m sp E ta tl σ H Q := g
theorem w_seq (g : s1 { D with nx := s2 D } σ H) : tSeq s1 s2 D σ H := g
theorem w_next (g : D.nx σ H) : tNext D σ H := g
theorem w_if (g : t σ H fun b H1 => if b = true then s1 D σ H1 else s2 D σ H1) : tIfS t s1 s2 D σ H := g
theorem w_ret (g : te σ H D.rt) : tRet te D σ H := g
theorem w_drop (g : te σ H fun _ H1 => D.nx σ H1) : tDrop te D σ H := g
theorem w_asg {k : Nat} (g : te σ H fun x H1 => D.nx (σ.set k (some x)) H1) : tAsg te (gName k) D σ H := g
theorem w_asgS {to ti : TE} {r : TSet} (g : te σ H fun v H0 => to σ H0 fun o H1 => ti σ H1 fun i H2 => r o i v H2 fun H3 => D.nx σ H3) : tAsg te (gSub to ti r) D σ H := g
theorem w_ast {k : Nat} {ts : TGs} (g : te σ H fun v H0 => ∃ a xs, v = .ref a ∧ SqT K H0 a xs ∧ xs.length = k ∧ ts xs σ H0 D.nx) : tAsg te (gTup K k ts) D σ H := g
theorem w_asf {f : Str} (g : te σ H fun y H1 => ta σ H1 fun x H2 => ∃ a C dx fs, x = .ref a ∧ H2 a = some (.ins C dx fs) ∧ Cls K C ∧ NoAttr K C f ∧ fs.length < 1000 ∧ D.nx σ (upd H2 a (.ins C dx (putF f y fs)))) : sFld K ta te f D σ H := g
theorem w_ex1 {P : Bool → Prop} {b : Bool} (g : P b) : ∃ k, V.bl b = .bl k ∧ P k := ⟨b, rfl, g⟩
theorem w_iteD {c A B : Prop} [Decidable c] (h1 : c → A) (h2 : ¬ c → B) : if decide c = true then A else B := by
  by_cases h : c
  · rw [decide_eq_true h]
    exact iteT (h1 h)
  · rw [decide_eq_false h]
    exact iteF (h2 h)
theorem w_iteN {c A B : Prop} [Decidable c] (h1 : ¬ c → A) (h2 : c → B) : if (!decide c) = true then A else B := by
  by_cases h : c
  · rw [decide_eq_true h]
    exact iteF (h2 h)
  · rw [decide_eq_false h]
    exact iteT (h1 h)
theorem w_iteB {b : Bool} {A B : Prop} (h1 : b = true → A) (h2 : b = false → B) : if b = true then A else B := by
  cases b with
  | true => exact iteT (h1 rfl)
  | false => exact iteF (h2 rfl)
theorem w_iteBN {b : Bool} {A B : Prop} (h1 : b = false → A) (h2 : b = true → B) : if (!b) = true then A else B := by
  cases b with
  | true => exact iteF (h2 rfl)
  | false => exact iteT (h1 rfl)
theorem w_addI (g : Q (.int (i + j)) H) : rAddA (.int i) (.int j) H Q := .inl ⟨i, j, rfl, rfl, g⟩
theorem w_addS {a b : Str} (h : a.length + b.length ≤ sizeLine) (g : Q (.str (a ++ b)) H) : rAddA (.str a) (.str b) H Q := .inr (.inl ⟨a, b, rfl, rfl, h, g⟩)
theorem w_addL (h1 : H p = some (.lst xs)) (h2 : H q = some (.lst ys)) (h : xs.length + ys.length ≤ sizeLine) (g : ∀ r, H r = none → Q (.ref r) (upd H r (.lst (xs ++ ys)))) : rAddA (.ref p) (.ref q) H Q :=
  .inr (.inr ⟨p, q, xs, ys, rfl, rfl, h1, h2, h, g⟩)
theorem w_mulI (h : CMul i j) (g : Q (.int (i * j)) H) : rMulA (.int i) (.int j) H Q := .inl ⟨i, j, rfl, rfl, h, g⟩
theorem w_mulL (h1 : H p = some (.lst xs)) (h2 : -(2 ^ 63) ≤ j) (h3 : j < 2 ^ 63) (h : xs.length * j.toNat ≤ sizeLine) (g : ∀ r, H r = none → Q (.ref r) (upd H r (.lst (List.replicate j.toNat xs).flatten))) : rMulA (.ref p) (.int j) H Q :=
  .inr ⟨p, j, xs, rfl, rfl, h1, h2, h3, h, g⟩
theorem w_i0 {f : Int → Int → V} (g : Q (f i j) H) : rI0 f (.int i) (.int j) H Q := ⟨i, j, rfl, rfl, g⟩
theorem w_ic {C : Int → Int → Prop} {f : Int → Int → V} (h : C i j) (g : Q (f i j) H) : rI C f (.int i) (.int j) H Q := ⟨i, j, rfl, rfl, h, g⟩
theorem w_u1 {f : Int → V} (g : Q (f i) H) : rU f (.int i) H Q := ⟨i, rfl, g⟩
theorem dec_I : decide (V.int i = V.int j) = decide (i = j) := by
  rw [Bool.eq_iff_iff]
  simp
theorem dec_S {a b : Str} : decide (V.str a = V.str b) = decide (a = b) := by
  rw [Bool.eq_iff_iff]
  simp
theorem dec_B {a b : Bool} : decide (V.bl a = V.bl b) = decide (a = b) := by
  rw [Bool.eq_iff_iff]
  simp
theorem w_eqI (g : Q (.bl (decide (i = j))) H) : rEqA K (.int i) (.int j) H Q := .inl ⟨rfl, by rw [dec_I]; exact g⟩
theorem w_eqS {a b : Str} (g : Q (.bl (decide (a = b))) H) : rEqA K (.str a) (.str b) H Q := .inl ⟨rfl, by rw [dec_S]; exact g⟩
theorem w_eqB {a b : Bool} (g : Q (.bl (decide (a = b))) H) : rEqA K (.bl a) (.bl b) H Q := .inl ⟨rfl, by rw [dec_B]; exact g⟩
theorem w_neI (g : Q (.bl (!decide (i = j))) H) : rNeA K (.int i) (.int j) H Q := .inl ⟨rfl, by rw [dec_I]; exact g⟩
theorem w_neS {a b : Str} (g : Q (.bl (!decide (a = b))) H) : rNeA K (.str a) (.str b) H Q := .inl ⟨rfl, by rw [dec_S]; exact g⟩
theorem w_neB {a b : Bool} (g : Q (.bl (!decide (a = b))) H) : rNeA K (.bl a) (.bl b) H Q := .inl ⟨rfl, by rw [dec_B]; exact g⟩
theorem w_eqD {d e : PyData} (h1 : Dp K H x d) (h2 : Dp K H y e) (h3 : SeqAt.shaped d = true) (h4 : SeqAt.shaped e = true) (g : Q (.bl (PyData.eqv d e)) H) : rEqA K x y H Q := .inr ⟨d, e, h1, h2, h3, h4, g⟩
theorem w_neD {d e : PyData} (h1 : Dp K H x d) (h2 : Dp K H y e) (h3 : SeqAt.shaped d = true) (h4 : SeqAt.shaped e = true) (g : Q (.bl (!PyData.eqv d e)) H) : rNeA K x y H Q := .inr ⟨d, e, h1, h2, h3, h4, g⟩
theorem w_isN0 (g : Q (.bl true) H) : rIsNA .non .non H Q := ⟨rfl, g⟩
theorem w_isN1 (h : x ≠ .non) (g : Q (.bl false) H) : rIsNA x .non H Q := ⟨rfl, by rw [decide_eq_false h]; exact g⟩
theorem w_notN0 (g : Q (.bl false) H) : rNotNA .non .non H Q := ⟨rfl, g⟩
theorem w_notN1 (h : x ≠ .non) (g : Q (.bl true) H) : rNotNA x .non H Q := ⟨rfl, by rw [decide_eq_false h]; exact g⟩
theorem w_lenL (h : SqL K H p xs) (g : Q (.int (xs.length : Int)) H) : rLenA K [.ref p] H Q := ⟨_, _, rfl, .inl ⟨xs, h, rfl⟩, g⟩
theorem w_lenT (h : SqT K H p xs) (g : Q (.int (xs.length : Int)) H) : rLenA K [.ref p] H Q := ⟨_, _, rfl, .inr ⟨xs, h, rfl⟩, g⟩
theorem w_lenS {a : Str} (h : a.length ≤ sizeLine) (g : Q (.int (a.length : Int)) H) : rLenA K [.str a] H Q := ⟨_, _, rfl, ⟨h, rfl⟩, g⟩
theorem w_listL (h : SqL K H p xs) (g : ∀ l, H l = none → Q (.ref l) (upd H l (.lst xs))) : rListA K [.ref p] H Q := ⟨p, xs, rfl, .inl h, g⟩
theorem w_listT (h : SqT K H p xs) (g : ∀ l, H l = none → Q (.ref l) (upd H l (.lst xs))) : rListA K [.ref p] H Q := ⟨p, xs, rfl, .inr h, g⟩
theorem w_intI (g : Q (.int i) H) : rIntA [.int i] H Q := .inl ⟨i, rfl, g⟩
theorem w_abs (g : Q (.int (if i < 0 then -i else i)) H) : rAbsA [.int i] H Q := ⟨i, rfl, g⟩
theorem w_min2 (g : Q (.int (if j < i then j else i)) H) : rMin2A [.int i, .int j] H Q := ⟨i, j, rfl, g⟩
theorem w_max2 (g : Q (.int (if j > i then j else i)) H) : rMax2A [.int i, .int j] H Q := ⟨i, j, rfl, g⟩
theorem w_ixL (h : SqL K H p xs) (ha : atI xs i = some v) (g : Q v H) : rIx K (.ref p) (.int i) H Q := .inl ⟨p, xs, i, v, rfl, rfl, h, ha, g⟩
theorem w_ixT (h : SqT K H p xs) (ha : atI xs i = some v) (g : Q v H) : rIx K (.ref p) (.int i) H Q := .inr (.inl ⟨p, xs, i, v, rfl, rfl, h, ha, g⟩)
theorem w_ixS {a : Str} {c : Nat} (h : a.length ≤ sizeLine) (ha : atI a.cps.toList i = some c) (g : Q (.str ⟨#[c]⟩) H) : rIx K (.str a) (.int i) H Q := .inr (.inr ⟨a, i, c, rfl, rfl, h, ha, g⟩)
theorem w_setL {R : Hp → Prop} (h : H p = some (.lst xs)) (ha : ixN xs.length i = some n) (g : R (upd H p (.lst (xs.set n v)))) : rSetL (.ref p) (.int i) v H R := ⟨p, xs, i, n, rfl, rfl, h, ha, g⟩
theorem w_app (h : H p = some (.lst xs)) (hl : xs.length < sizeLine) (g : Q .non (upd H p (.lst (xs ++ [v])))) : tyV K "list" (.ref p) H ∧ rAppend (.ref p) [v] H Q := ⟨.inl ⟨rfl, xs, SqL.of h⟩, p, xs, v, rfl, rfl, h, hl, g⟩
theorem w_ty (h : SqL K H p xs) : tyV K "list" (.ref p) H := .inl ⟨rfl, xs, h⟩
theorem w_append (h : H p = some (.lst xs)) (hl : xs.length < sizeLine) (g : Q .non (upd H p (.lst (xs ++ [v])))) : rAppend (.ref p) [v] H Q := ⟨p, xs, v, rfl, rfl, h, hl, g⟩
end
end G

set_option Elab.async false
set_option linter.all false
set_option maxRecDepth 100000
set_option maxHeartbeats 4000000
/-! Loops, comprehensions by words; the head's own facts. -/
namespace G
open PySem PySem.Spec PyProof.Rows L2

/-! ### what a loop wants of its walk J -/
def LoopG (J : It) (g : TG) (tb : TS) (D : Ends) (σ : L2.St) (H1 : Hp) : Prop := ∃ W : Nat → Nat → L2.St → Hp → Prop, (∃ m, W 0 m σ H1) ∧ ∀ i m σ H, W i m σ H →
  (J.stop i H ∧ D.nx σ H) ∨ (J.go i H ∧ ∃ N : L2.St → Hp → Prop, (∀ σ' H', N σ' H' → ∃ m', m' < m ∧ W (i + 1) m' σ' H') ∧ ∀ x H', J.yld i H x H' → g x σ H' fun σ2 H2 => tb { D with nx := N, ct := N, bk := D.nx } σ2 H2)
def CompG (J : It) (g : TG) (tt : TT) (te : TE) (vs : List Nat) (σ : L2.St) (Q : VK) (H1 : Hp) : Prop := ∀ D, H1 D = none → ∃ W : Nat → Nat → Hp → Prop, (∃ m, W 0 m (upd H1 D (.lst []))) ∧ ∀ i m H, W i m H →
  (J.stop i H ∧ Q (.ref D) H) ∨ (J.go i H ∧ ∃ Nx : Hp → Prop, (∀ H', Nx H' → ∃ m', m' < m ∧ W (i + 1) m' H') ∧ ∀ x H', J.yld i H x H' → g x (wipe σ vs) H' fun σ2 H2 => wipe σ2 vs = wipe σ vs ∧ tt σ2 H2 fun b H3 =>
    if b = true then te σ2 H3 fun y H4 => ∃ acc, H4 D = some (.lst acc) ∧ acc.length < sizeLine ∧ Nx (upd H4 D (.lst (acc ++ [y]))) else Nx H3)
section
variable {K : PySem.W.Frag} {σ : L2.St} {H : Hp} {Q : VK} {ta : TA} {te tl : TE} {tt : TT} {D : Ends} {tb : TS} {g : TG} {wi : TI} {j : Nat} {R : It → Hp → Prop} {vs : List Nat}
theorem w_for (h : wi σ H fun J H1 => LoopG J g tb D σ H1) : tFor wi g tb D σ H := h
theorem w_lc (h : wi σ H fun J H1 => CompG J g tt te vs σ Q H1) : tLc wi g tt te vs σ H Q := h
theorem w_iR1 (h : ta σ H fun vs H1 => ∃ j : Int, vs = [.int j] ∧ -(2 ^ 62) ≤ j ∧ j < 2 ^ 62 ∧ R (Itr 0 j.toNat) H1) : iRng1 ta σ H R := h
theorem w_iR2 (h : ta σ H fun vs H1 => ∃ i j : Int, vs = [.int i, .int j] ∧ (-(2 ^ 62) ≤ i ∧ i < 2 ^ 62 ∧ -(2 ^ 62) ≤ j ∧ j < 2 ^ 62) ∧ R (Itr i (j - i).toNat) H1) : iRng2 ta σ H R := h
theorem w_rng1 {n : Int} (h : -(2 ^ 62) ≤ n ∧ n < 2 ^ 62) (g : R (Itr 0 n.toNat) H) : ∃ j : Int, [V.int n] = [.int j] ∧ -(2 ^ 62) ≤ j ∧ j < 2 ^ 62 ∧ R (Itr 0 j.toNat) H := ⟨n, rfl, h.1, h.2, g⟩
theorem w_rng2 {a b : Int} (h : -(2 ^ 62) ≤ a ∧ a < 2 ^ 62 ∧ -(2 ^ 62) ≤ b ∧ b < 2 ^ 62) (g : R (Itr a (b - a).toNat) H) :
    ∃ i j : Int, [V.int a, V.int b] = [.int i, .int j] ∧ (-(2 ^ 62) ≤ i ∧ i < 2 ^ 62 ∧ -(2 ^ 62) ≤ j ∧ j < 2 ^ 62) ∧ R (Itr i (j - i).toNat) H := ⟨a, b, rfl, h, g⟩
theorem w_iL (h : tl σ H fun x H1 => ∃ a, x = .ref a ∧ (∃ xs, SqL K H1 a xs) ∧ R (Itl K a) H1) : iList K tl σ H R := h
theorem w_iT (h : tl σ H fun x H1 => ∃ a, x = .ref a ∧ (∃ xs, SqT K H1 a xs) ∧ R (Itt K a) H1) : iTup K tl σ H R := h
theorem w_lst1 {a : Addr} {xs : List V} (h : SqL K H a xs) (g : R (Itl K a) H) : ∃ b, V.ref a = .ref b ∧ (∃ xs, SqL K H b xs) ∧ R (Itl K b) H := ⟨a, rfl, ⟨xs, h⟩, g⟩
theorem w_tup1 {a : Addr} {xs : List V} (h : SqT K H a xs) (g : R (Itt K a) H) : ∃ b, V.ref a = .ref b ∧ (∃ xs, SqT K H b xs) ∧ R (Itt K b) H := ⟨a, rfl, ⟨xs, h⟩, g⟩
theorem w_iE (h : ta σ H fun vs H1 => ∃ a xs, vs = [.ref a] ∧ SqL K H1 a xs ∧ R (Ite K a) H1) : iEnum K ta σ H R := h
theorem w_iZ (h : ta σ H fun vs H1 => ∃ a b xs ys, vs = [.ref a, .ref b] ∧ SqL K H1 a xs ∧ SqL K H1 b ys ∧ R (Itz K a b) H1) : iZip K ta σ H R := h

/-! ### loops -/
theorem lp_rng {lo : Int} {n : Nat} (Pv : Nat → L2.St → Hp → Prop) (h0 : Pv 0 σ H) (hs : ∀ (i : Nat) σ' H', i < n → Pv i σ' H' → g (.int (lo + (i : Int))) σ' H' fun σ2 H2 => tb { D with nx := Pv (i + 1), ct := Pv (i + 1), bk := D.nx } σ2 H2)
    (hd : ∀ σ' H', Pv n σ' H' → D.nx σ' H') : LoopG (Itr lo n) g tb D σ H := for_range Pv h0 hs hd
theorem lp_rng0 {n : Nat} (Pv : Nat → L2.St → Hp → Prop) (h0 : Pv 0 σ H) (hs : ∀ (i : Nat) σ' H', i < n → Pv i σ' H' → g (.int (i : Int)) σ' H' fun σ2 H2 => tb { D with nx := Pv (i + 1), ct := Pv (i + 1), bk := D.nx } σ2 H2)
    (hd : ∀ σ' H', Pv n σ' H' → D.nx σ' H') : LoopG (Itr 0 n) g tb D σ H := for_range Pv h0 (fun i σ' H' hi p => by rw [Int.zero_add]; exact hs i σ' H' hi p) hd
theorem lp_lst {a : Addr} {xs : List V} (Pv : Nat → L2.St → Hp → Prop) (h0 : Pv 0 σ H) (hl : ∀ i σ' H', i ≤ xs.length → Pv i σ' H' → SqL K H' a xs)
    (hs : ∀ i x σ' H', xs[i]? = some x → Pv i σ' H' → g x σ' H' fun σ2 H2 => tb { D with nx := Pv (i + 1), ct := Pv (i + 1), bk := D.nx } σ2 H2) (hd : ∀ σ' H', Pv xs.length σ' H' → D.nx σ' H') : LoopG (Itl K a) g tb D σ H := for_list Pv h0 hl hs hd
theorem lp_tup {a : Addr} {xs : List V} (Pv : Nat → L2.St → Hp → Prop) (h0 : Pv 0 σ H) (hl : ∀ i σ' H', i ≤ xs.length → Pv i σ' H' → SqT K H' a xs)
    (hs : ∀ i x σ' H', xs[i]? = some x → Pv i σ' H' → g x σ' H' fun σ2 H2 => tb { D with nx := Pv (i + 1), ct := Pv (i + 1), bk := D.nx } σ2 H2) (hd : ∀ σ' H', Pv xs.length σ' H' → D.nx σ' H') : LoopG (Itt K a) g tb D σ H := for_tup Pv h0 hl hs hd
theorem lp_enum {a : Addr} {xs : List V} (Pv : Nat → L2.St → Hp → Prop) (h0 : Pv 0 σ H) (hl : ∀ i σ' H', i ≤ xs.length → Pv i σ' H' → SqL K H' a xs)
    (hs : ∀ (i : Nat) (x : V) (T : Addr) σ' H', xs[i]? = some x → Pv i σ' H' → H' T = none → g (.ref T) σ' (upd H' T (.tup [.int (i : Int), x])) fun σ2 H2 => tb { D with nx := Pv (i + 1), ct := Pv (i + 1), bk := D.nx } σ2 H2)
    (hd : ∀ σ' H', Pv xs.length σ' H' → D.nx σ' H') : LoopG (Ite K a) g tb D σ H := by
  refine ⟨fun i m σ H => m = xs.length - i ∧ i ≤ xs.length ∧ Pv i σ H, ⟨xs.length, by simp, Nat.zero_le _, h0⟩, ?_⟩
  rintro i m σ H ⟨rfl, hi, p⟩
  have q := hl i σ H hi p
  by_cases lt : i < xs.length
  · refine .inr ⟨⟨xs, xs[i], q, by simp [lt]⟩, Pv (i + 1), fun σ' H' p' => ⟨xs.length - (i + 1), by omega, rfl, lt, p'⟩, fun v H' y => ?_⟩
    obtain ⟨T, x, rfl, nT, rfl, hx⟩ := y
    exact hs i x T σ H (hx xs q) p nT
  · have e : i = xs.length := by omega
    subst e
    exact .inl ⟨⟨xs, q, Nat.le_refl _⟩, hd σ H p⟩

/-! ### comprehensions: items i is what stands behind i turns -/
theorem cp_go {J : It} {n : Nat} (items : Nat → List V) (Ok : Hp → Prop) (hz : ∀ i, i < n → (items i).length < sizeLine) (h0 : items 0 = []) (ok0 : ∀ H', Kp [] H H' → Ok H') (hgo : ∀ i H', i < n → Ok H' → J.go i H') (hst : ∀ H', Ok H' → J.stop n H')
    (hs : ∀ (i : Nat) (x : V) (H' H'' : Hp) (S : V → Hp → Prop) (N : Hp → Prop), i < n → Kp [] H H' → J.yld i H' x H'' → (∀ y H4, Kp [] H' H4 → items (i + 1) = items i ++ [y] → S y H4) → (∀ H4, Kp [] H' H4 → items (i + 1) = items i → N H4) →
      g x (wipe σ vs) H'' fun σ2 H2 => wipe σ2 vs = wipe σ vs ∧ tt σ2 H2 fun b H3 => if b = true then te σ2 H3 S else N H3)
    (hd : ∀ D H', H D = none → Kp [] H H' → H' D = some (.lst (items n)) → Q (.ref D) H') : CompG J g tt te vs σ Q H := by
  intro D nD
  refine ⟨fun i m H' => m = n - i ∧ i ≤ n ∧ Kp [] H H' ∧ H' D = some (.lst (items i)), ⟨n, by simp, Nat.zero_le _, Kp.new nD, by rw [h0]; exact upd_same⟩, ?_⟩
  rintro i m H' ⟨rfl, hi, k, e⟩
  by_cases lt : i < n
  · refine .inr ⟨hgo i H' lt (ok0 H' k), fun H'' => Kp [] H H'' ∧ H'' D = some (.lst (items (i + 1))), fun H'' p => ⟨n - (i + 1), by omega, rfl, lt, p.1, p.2⟩, fun x H'' y => ?_⟩
    refine hs i x H' H'' _ _ lt k y (fun y H4 k4 ei => ⟨items i, k4.at0 e, hz i lt, ?_, ?_⟩) (fun H4 k4 ei => ⟨k.trans k4, ?_⟩)
    · exact Kp.mut (k.trans k4) nD
    · rw [ei]
      exact upd_same
    · rw [ei]
      exact k4.at0 e
  · have ei : i = n := by omega
    subst ei
    exact .inl ⟨hst H' (ok0 H' k), hd D H' nD k e⟩
theorem cp_rng {lo : Int} {n : Nat} (items : Nat → List V) (hz : ∀ i, i < n → (items i).length < sizeLine) (h0 : items 0 = [])
    (hs : ∀ (i : Nat) (H' : Hp) (S : V → Hp → Prop) (N : Hp → Prop), i < n → Kp [] H H' → (∀ y H4, Kp [] H' H4 → items (i + 1) = items i ++ [y] → S y H4) → (∀ H4, Kp [] H' H4 → items (i + 1) = items i → N H4) →
      g (.int (lo + (i : Int))) (wipe σ vs) H' fun σ2 H2 => wipe σ2 vs = wipe σ vs ∧ tt σ2 H2 fun b H3 => if b = true then te σ2 H3 S else N H3)
    (hd : ∀ D H', H D = none → Kp [] H H' → H' D = some (.lst (items n)) → Q (.ref D) H') : CompG (Itr lo n) g tt te vs σ Q H :=
  cp_go items (fun _ => True) hz h0 (fun _ _ => trivial) (fun i H' hi _ => hi) (fun H' _ => Nat.le_refl n) (fun i x H' H'' S N hi k y a b => by
    obtain ⟨rfl, rfl⟩ := y
    exact hs i H'' S N hi k a b) hd
theorem cp_lst {a : Addr} {xs : List V} (h : SqL K H a xs) (items : Nat → List V) (hz : ∀ i, i < xs.length → (items i).length < sizeLine) (h0 : items 0 = [])
    (hs : ∀ (i : Nat) (x : V) (H' : Hp) (S : V → Hp → Prop) (N : Hp → Prop), xs[i]? = some x → Kp [] H H' → (∀ y H4, Kp [] H' H4 → items (i + 1) = items i ++ [y] → S y H4) → (∀ H4, Kp [] H' H4 → items (i + 1) = items i → N H4) →
      g x (wipe σ vs) H' fun σ2 H2 => wipe σ2 vs = wipe σ vs ∧ tt σ2 H2 fun b H3 => if b = true then te σ2 H3 S else N H3)
    (hd : ∀ D H', H D = none → Kp [] H H' → H' D = some (.lst (items xs.length)) → Q (.ref D) H') : CompG (Itl K a) g tt te vs σ Q H :=
  cp_go (n := xs.length) items (fun H' => SqL K H' a xs) hz h0 (fun _ k => k.sql (by simp) h) (fun i H' hi q => ⟨xs, xs[i], q, by simp [hi]⟩) (fun H' q => ⟨xs, q, Nat.le_refl _⟩) (fun i x H' H'' S N hi k y a b => by
    obtain ⟨rfl, hx⟩ := y
    exact hs i x H'' S N (hx xs (k.sql (by simp) h)) k a b) hd
theorem cp_tup {a : Addr} {xs : List V} (h : SqT K H a xs) (items : Nat → List V) (hz : ∀ i, i < xs.length → (items i).length < sizeLine) (h0 : items 0 = [])
    (hs : ∀ (i : Nat) (x : V) (H' : Hp) (S : V → Hp → Prop) (N : Hp → Prop), xs[i]? = some x → Kp [] H H' → (∀ y H4, Kp [] H' H4 → items (i + 1) = items i ++ [y] → S y H4) → (∀ H4, Kp [] H' H4 → items (i + 1) = items i → N H4) →
      g x (wipe σ vs) H' fun σ2 H2 => wipe σ2 vs = wipe σ vs ∧ tt σ2 H2 fun b H3 => if b = true then te σ2 H3 S else N H3)
    (hd : ∀ D H', H D = none → Kp [] H H' → H' D = some (.lst (items xs.length)) → Q (.ref D) H') : CompG (Itt K a) g tt te vs σ Q H :=
  cp_go (n := xs.length) items (fun H' => SqT K H' a xs) hz h0 (fun _ k => k.sqt (by simp) h) (fun i H' hi q => ⟨xs, xs[i], q, by simp [hi]⟩) (fun H' q => ⟨xs, q, Nat.le_refl _⟩) (fun i x H' H'' S N hi k y a b => by
    obtain ⟨rfl, hx⟩ := y
    exact hs i x H'' S N (hx xs (k.sqt (by simp) h)) k a b) hd
theorem cp_enum {a : Addr} {xs : List V} (h : SqL K H a xs) (items : Nat → List V) (hz : ∀ i, i < xs.length → (items i).length < sizeLine) (h0 : items 0 = [])
    (hs : ∀ (i : Nat) (x : V) (T : Addr) (H' : Hp) (S : V → Hp → Prop) (N : Hp → Prop), xs[i]? = some x → Kp [] H H' → H' T = none → (∀ y H4, Kp [] H' H4 → items (i + 1) = items i ++ [y] → S y H4) → (∀ H4, Kp [] H' H4 → items (i + 1) = items i → N H4) →
      g (.ref T) (wipe σ vs) (upd H' T (.tup [.int (i : Int), x])) fun σ2 H2 => wipe σ2 vs = wipe σ vs ∧ tt σ2 H2 fun b H3 => if b = true then te σ2 H3 S else N H3)
    (hd : ∀ D H', H D = none → Kp [] H H' → H' D = some (.lst (items xs.length)) → Q (.ref D) H') : CompG (Ite K a) g tt te vs σ Q H :=
  cp_go (n := xs.length) items (fun H' => SqL K H' a xs) hz h0 (fun _ k => k.sql (by simp) h) (fun i H' hi q => ⟨xs, xs[i], q, by simp [hi]⟩) (fun H' q => ⟨xs, q, Nat.le_refl _⟩) (fun i v H' H'' S N hi k y a b => by
    obtain ⟨T, x, rfl, nT, rfl, hx⟩ := y
    exact hs i x T H' S N (hx xs (k.sql (by simp) h)) k nT a b) hd
end

/-! ### the head's facts: any tests of the written part -/
abbrev Chk := PySem.W.Frag → Bool
def obsX (fa : List Chk) (fn : List He.DefD) (K : PySem.W.Frag) : He.AlD := ((fa.all fun f => f K) && fn.all fun d => d.ok K, fn.map fun d => He.fnW K d.at_)
def SaysX (fa : List Chk) (fn : List He.DefD) (K : PySem.W.Frag) : Prop := obsX fa fn K = He.valD fn
def obsXG (n : Nat) (fa : List Chk) (fn : List He.DefD) (g : Addr → Option Obj) : He.AlD := obsX fa fn (He.frG g (He.asD g n ++ [cStatics]))
def hookX (n : Nat) (fa : List Chk) (fn : List He.DefD) : PySem.W.Hook where
  α := He.AlD
  obs := fun s => obsXG n fa fn s.heap.get?
  val := fun _ => He.valD fn
  says := fun _ h => ∃ K : PySem.W.Frag, K.In h ∧ SaysX fa fn K
  of := fun _ _ e => ⟨_, He.frG_in, e⟩
  keeps := fun _ _ _ ⟨K, hK, c⟩ k => ⟨K, PySem.W.Frag.In.keeps hK k, c⟩
theorem obsXG_eq {n : Nat} {fa : List Chk} {fn : List He.DefD} {g : Addr → Option Obj} {s : Shared} (h : ∀ a, g a = s.heap.get? a) : obsXG n fa fn g = (hookX n fa fn).obs s := by
  have e : g = s.heap.get? := funext h
  rw [e] <;> rfl
section
variable {fa : List Chk} {fn : List He.DefD} {K : PySem.W.Frag}
theorem SaysX.fact (c : SaysX fa fn K) (i : Nat) {f : Chk} (h : fa[i]? = some f := by rfl) : f K = true := by
  have c1 := (He.ba (show ((fa.all fun f => f K) && fn.all fun d => d.ok K) = true from congrArg (fun z : He.AlD => z.1) c)).1
  exact List.all_eq_true.mp c1 f (List.mem_of_getElem? h)
theorem SaysX.def_ (c : SaysX fa fn K) (i : Nat) {d : He.DefD} (h : fn[i]? = some d := by rfl) : ∃ fd, FunD K d.name d.qual d.params d.body d.scope (d.dvs K) (d.kws K) (He.fAd K d.at_) fd := by
  have c2 := (He.ba (show ((fa.all fun f => f K) && fn.all fun d => d.ok K) = true from congrArg (fun z : He.AlD => z.1) c)).2
  have e : fn.map (fun d => He.fnW K d.at_) = fn.map He.DefD.val := congrArg (fun z : He.AlD => z.2) c
  have e2 : (fn.map fun d => He.fnW K d.at_)[i]? = (fn.map He.DefD.val)[i]? := by rw [e]
  rw [List.getElem?_map, List.getElem?_map, h] at e2
  exact He.DefD.funD (Option.some.inj e2) (List.all_eq_true.mp c2 d (List.mem_of_getElem? h))
/-- a plain fact of He -/
abbrev fa_ (f : He.Fa) : Chk := fun K => f.ok K
/-- a class of errors, as it is made -/
def oexB (C : Addr) (K : PySem.W.Frag) : Bool := match K.lookup C with
  | some ⟨.type "type", _, .cls cd, sl⟩ => (match cd.mro, sl.toList with
    | .ref C1 :: bm, [_, _, _, _, some (.builtin n), _] => C1 == C && n == "ValueError.__new__" && !cd.hasDel && cd.hasDict && PySem.HandSPX.refsVE bm
    | _, _ => false)
  | _ => false
theorem oexB_ok {C : Addr} (q : oexB C K = true) : ∃ nm qn N bs bm sn sub ab col dd k0 k1 k2 k3 k5, K.lookup C = some (excClassObj nm qn C N bs bm true sn sub ab col dd k0 k1 k2 k3 k5 "ValueError.__new__") ∧ PySem.HandSPX.refsVE bm = true := by
  unfold oexB at q
  split at q
  · rename_i dd cd sl ho
    split at q
    · rename_i C1 bm k0 k1 k2 k3 n k5 hm hs
      simp only [Bool.and_eq_true, beq_iff_eq, Bool.not_eq_true'] at q
      obtain ⟨⟨⟨⟨rfl, rfl⟩, del⟩, hd⟩, hr⟩ := q
      obtain ⟨nm, bs, mro, ns, qn, hdd, sn, sub, ab, col, dl⟩ := cd
      dsimp only at hm del hd
      subst hm del hd
      have es : sl = #[k0, k1, k2, k3, some (.builtin "ValueError.__new__"), k5] := by
        obtain ⟨l⟩ := sl
        exact congrArg Array.mk hs
      subst es
      exact ⟨nm, qn, ns, bs, bm, sn, sub, ab, col, dd, k0, k1, k2, k3, k5, ho, hr⟩
    · cases q
  · cases q
def eqT (a b : Option Bool) : Bool := decide (a = b)
/-- all that an own class of errors C with the fields fs is asked -/
def excB (x : Str) (fs : List Str) (K : PySem.W.Frag) : Bool := oexB (He.ga K x) K && (He.eqO (PySem.W.findIn K (.ref (He.ga K x)) "__setattr__") (some (some (.builtin "object.__setattr__"))) &&
  (eqT (PySem.W.subIn K (.ref (He.ga K x)) (.type "BaseException")) (some true) && (decide (PySem.W.typeIn K (.ref (He.ga K x)) = some (.type "type")) && (PySem.W.keepIn K (.ref (He.ga K x)) &&
  (fs.all fun f => He.eqO (PySem.W.findIn K (.ref (He.ga K x)) f) (some none))))))
/-- .. and its instances are asked -/
def askB (x : Str) (K : PySem.W.Frag) : Bool := (PySem.W.clsIn K (He.ga K x)).isSome && (He.eqO (PySem.W.findIn K (.ref (He.ga K x)) "__getattribute__") (some (some (.builtin "BaseException.__getattribute__"))) &&
  (He.eqO (PySem.W.findIn K (.ref (He.ga K x)) "__getattr__") (some none) && (eqT (PySem.W.subIn K (.ref (He.ga K x)) (.type "BaseException")) (some true) && (PySem.W.hasDictIn K (He.ga K x) &&
  (He.eqO (PySem.W.findIn K (.ref (He.ga K x)) "__class__") (some (some (.builtin "object.__class__"))) && (He.eqO (PySem.W.specialIn K (.builtin "object.__class__") "__get__") (some (some (.builtin "getset_descriptor.__get__"))) &&
  (eqT (PySem.W.takesIn K (.builtin "object.__class__")) (some true) && eqT (PySem.W.mroIn K (He.ga K x) (.type "object")) (some true))))))))
theorem excB_ok {x : Str} {fs : List Str} (q : excB x fs K = true) : OexC K (He.ga K x) ∧ ∀ f ∈ fs, PySem.W.findIn K (.ref (He.ga K x)) f = some none := by
  obtain ⟨q1, q⟩ := He.ba q
  obtain ⟨q2, q⟩ := He.ba q
  obtain ⟨q3, q⟩ := He.ba q
  obtain ⟨q4, q⟩ := He.ba q
  obtain ⟨q5, q6⟩ := He.ba q
  exact ⟨⟨oexB_ok q1, He.eqO_ok q2, of_decide_eq_true q3, of_decide_eq_true q4, q5⟩, fun f hf => He.eqO_ok (List.all_eq_true.mp q6 f hf)⟩
theorem askB_ok {x : Str} (q : askB x K = true) : ExK K (He.ga K x) := by
  obtain ⟨q1, q⟩ := He.ba q
  obtain ⟨q2, q⟩ := He.ba q
  obtain ⟨q3, q⟩ := He.ba q
  obtain ⟨q4, q⟩ := He.ba q
  obtain ⟨q5, q⟩ := He.ba q
  obtain ⟨q6, q⟩ := He.ba q
  obtain ⟨q7, q⟩ := He.ba q
  obtain ⟨q8, q9⟩ := He.ba q
  exact ⟨q1, He.eqO_ok q2, He.eqO_ok q3, of_decide_eq_true q4, q5, He.eqO_ok q6, He.eqO_ok q7, of_decide_eq_true q8, of_decide_eq_true q9⟩
/-- isinstance of an instance of x by the class y, by a built-in one -/
def kitB2 (x y : Str) (b : Bool) (K : PySem.W.Frag) : Bool := eqT (PySem.W.kitOne K (.ref (He.ga K x)) (.ref (He.ga K y))) (some b)
def kitT2 (x : Str) (y : String) (b : Bool) (K : PySem.W.Frag) : Bool := eqT (PySem.W.kitOne K (.ref (He.ga K x)) (.type y)) (some b)
/-- except y takes an x -/
def exmB (x y : Str) (b : Bool) (K : PySem.W.Frag) : Bool := eqT (PySem.W.exmOne K (.ref (He.ga K x)) (.ref (He.ga K y))) (some b)
/-- the __init__ that is found, a function -/
def iniB (x : Str) (K : PySem.W.Frag) : Bool := He.eqO (PySem.W.findIn K (.ref (He.ga K x)) "__init__") (some (some (.ref (He.ma K (He.ga K x) "__init__")))) && decide (PySem.W.typeIn K (.ref (He.ma K (He.ga K x) "__init__")) = some (.type "function"))
theorem iniB_ok {x : Str} (q : iniB x K = true) : PySem.W.findIn K (.ref (He.ga K x)) "__init__" = some (some (.ref (He.ma K (He.ga K x) "__init__"))) ∧ PySem.W.typeIn K (.ref (He.ma K (He.ga K x) "__init__")) = some (.type "function") := by
  obtain ⟨q1, q2⟩ := He.ba q
  exact ⟨He.eqO_ok q1, of_decide_eq_true q2⟩
end
end G

set_option Elab.async false
set_option linter.all false
set_option maxRecDepth 100000
set_option maxHeartbeats 4000000
/-! Constants of a class; truth; two things more. -/
namespace G
open PySem PySem.Spec PyProof.Rows L2
section
variable {X : Cx} {C : Addr} {mc u : Value} {v : V} {e : Expr} {f : Str} {pos : Pos} {ta : TE}
theorem pe_cc (k : ∃ mc u, ClX.CRead X.K C mc ∧ ClX.CVal X.K C mc f v u) (he : PE X e (tC (.ref C))) (hb : attributeBase e f X.env (eval e X.env) = eval e X.env := by rfl) : PE X (.Attribute e f pos) (tC v) := by
  obtain ⟨mc, u, r, k⟩ := k
  exact ⟨fun pins s σ H Q I h => (ClX.pe_cval he hb).run pins s σ H Q I ⟨C, mc, v, u, rfl, r, k, h⟩⟩
def tTr (K : PySem.W.Frag) (ta : TE) : TT := fun σ H Q => ta σ H fun x H' => ∃ k, TruV K x H' k ∧ Q k H'
theorem pt_tr (ha : PE X e ta) (he : ∀ whole, isTrue e X.env whole = (do let v ← whole; standAt e.pos; holding [v] (truthy v))) : PT X e (tTr X.K ta) := pt_truth ha he
end
/-- x.f is the whole number i -/
def ccB (x f : Str) (i : Int) (K : PySem.W.Frag) : Bool := PySem.W.readsIn K (He.ga K x) (.type "type") && (He.eqO (PySem.W.specialIn K (.ref (He.ga K x)) "__getattribute__") (some (some (.builtin "type.__getattribute__"))) &&
  (match PySem.W.findCls K (.ref (He.ga K x)) (.type "type") f with
  | some (.val (.int j _)) => decide (j = i)
  | _ => false))
theorem ccB_ok {K : PySem.W.Frag} {x f : Str} {i : Int} (q : ccB x f i K = true) : ∃ mc u, ClX.CRead K (He.ga K x) mc ∧ ClX.CVal K (He.ga K x) mc f (.int i) u := by
  obtain ⟨q1, q⟩ := He.ba q
  obtain ⟨q2, q3⟩ := He.ba q
  have q4 : (match PySem.W.findCls K (.ref (He.ga K x)) (.type "type") f with
    | some (.val (.int j _)) => decide (j = i)
    | _ => false) = true := q3
  split at q4
  · rename_i j t e
    have ej : j = i := of_decide_eq_true q4
    subst ej
    exact ⟨.type "type", .int j t, ⟨q1, He.eqO_ok q2⟩, ⟨e, t, rfl⟩⟩
  · cases q4
/-- a fact's list is looked up -/
theorem glf_ok {K : PySem.W.Frag} {h : Heap} {mg : Str → Option Value} {x : Str} (X : K.In h) (G : h.Ns mainGlobals mg) (c : (He.Fa.glo x).ok K = true) : mg x = some (.ref (He.ga K x)) := He.glo_ok X G c
end G
namespace G
open PySem PySem.Spec PyProof.Rows L2
/-- a built-in class as a value -/
theorem pe_ty {X : Cx} {x : Str} (n : String) {pos : Pos} (hm : X.mg x = none) (hv : bootBuiltins x = some (.type n)) (hg : Gl X x := by rfl) (hn : x ≠ "__name__" := by decide) (hd : (x == ("__debug__" : Str)) = false := by decide) : PE X (.Name x pos) (tC (.ty n)) :=
  pe_bltn hg hm hv rfl hn hd
/-- an own class as a value -/
theorem pe_own {X : Cx} {x : Str} {C : Addr} {pos : Pos} (hm : X.mg x = some (.ref C)) (hg : Gl X x := by rfl) (hd : (x == ("__debug__" : Str)) = false := by decide) : PE X (.Name x pos) (tC (.ref C)) := pe_glob hg hm rfl hd
end G
namespace G
open PySem PySem.Spec PyProof.Rows L2
/-- a def of the text where an exception is handled -/
theorem okH {P : Program} {w : World} {K : PySem.W.Frag} {mg : Str → Option Value} {base : Heap} {CX : CXT} {x qual : Str} {params : Arguments} {body : List Stmt} {scope : Scope} {dvs : List V} {kws : List (Str × V)} {f : Addr} {fd : FuncData} {N ps : List Str} {k : Nat} {sp : Sp}
    (F : FunD K x qual params body scope dvs kws f fd) (S : FnScope N ps scope) (len : ∀ vs H Q E, sp vs H Q E → vs.length = ps.length)
    (hb : ∀ (cdv : Value) (A : Around) (outer : List Env) (s : Shared) (H : Hp) (vs : List V) (Q : VK) (E : XK) (p : Addr × Obj), L2H.Hot1 A p → L2H.RoomH k (A.deeper (envOfC qual scope s.heap.objs.size f cdv)) → sp vs H Q E →
      ∃ t, PSs (L2H.cxH CX P w K mg base N qual scope f cdv A outer s H E p) body t ∧ t { nx := fun _ H' => Q .non H', rt := Q } (start N vs) H) : L2H.FnH P w K mg base CX (k + 1) f fd ps sp := by
  obtain ⟨oc, od, dV, kV, doc, pm, an, cdv, ct, osl, rfl, lk, hcd, _, _⟩ := F.ex
  exact L2H.fn_ofH lk hcd S len fun A outer s H vs Q E p h1 h2 h3 => hb cdv A outer s H vs Q E p h1 h2 h3
/-- a def called there -/
theorem hotC {CX : CXT} {P : Program} {w : World} {K : PySem.W.Frag} {mg : Str → Option Value} {base : Heap} {N : List Str} {qual : Str} {scope : Scope} {f : Addr} {cd : Value} {A : Around} {outer : List Env} {s : Shared} {H : Hp} {E : XK} {p : Addr × Obj} (h : L2H.Hot1 A p) :
    L2H.HotC (L2H.cxH CX P w K mg base N qual scope f cd A outer s H E p) := ⟨p, h, List.mem_cons_self⟩
end G
namespace G
open PySem PySem.Spec PyProof.Rows L2
/-- what lets nothing out -/
theorem noX {P : Program} {w : World} {K : PySem.W.Frag} {mg : Str → Option Value} {base : Heap} {k : Nat} {f : Addr} {fd : FuncData} {ps : List Str} {sp : Sp} (F : FnOk P w K mg base (L2N.CX P w) k f fd ps sp) :
    FnOk P w K mg base L2.CX0 k f fd ps (fun vs H Q _ => sp vs H Q L2.E0) := by
  refine ⟨fun vs H Q E h => F.len vs H Q _ h, fun A outer s H args us vs Q E hr e0 hb r h => codeAny_mono (F.run A outer s H args us vs Q _ hr e0 hb r h) fun rs s2 q => ?_⟩
  cases rs with
  | error e =>
    obtain ⟨_, _, _, _, _, _, _, _, _, _, _, _, z⟩ := q
    exact z.elim
  | ok fl => cases fl <;> exact q
end G

set_option Elab.async false
set_option linter.all false
set_option maxRecDepth 100000
set_option maxHeartbeats 4000000
/-! Standings as plain lists, and what operations do to them. -/
namespace G
open PySem PySem.Spec PyProof.Rows L2

/-! ### lists by place -/
def gI (l : List Int) (i : Nat) : Int := l.getD i 0
def gB (l : List Bool) (i : Nat) : Bool := l.getD i false
theorem gI_at {l : List Int} {i : Nat} (h : i < l.length) : l[i]? = some (gI l i) := by
  unfold gI
  rw [List.getElem?_eq_getElem h, List.getD_eq_getElem?_getD, List.getElem?_eq_getElem h] <;> rfl
theorem gB_at {l : List Bool} {i : Nat} (h : i < l.length) : l[i]? = some (gB l i) := by
  unfold gB
  rw [List.getElem?_eq_getElem h, List.getD_eq_getElem?_getD, List.getElem?_eq_getElem h] <;> rfl
theorem gI_of {l : List Int} {i : Nat} {v : Int} (h : l[i]? = some v) : gI l i = v := by
  unfold gI
  rw [List.getD_eq_getElem?_getD, h] <;> rfl
theorem gB_of {l : List Bool} {i : Nat} {v : Bool} (h : l[i]? = some v) : gB l i = v := by
  unfold gB
  rw [List.getD_eq_getElem?_getD, h] <;> rfl
theorem gI_set {l : List Int} {i j : Nat} {v : Int} (h : i < l.length) : gI (l.set i v) j = if j = i then v else gI l j := by
  unfold gI
  rw [List.getD_eq_getElem?_getD, List.getD_eq_getElem?_getD]
  by_cases e : j = i
  · rw [if_pos e, e, List.getElem?_set_self h] <;> rfl
  · rw [if_neg e, List.getElem?_set_ne (Ne.symm e)]
theorem gB_set {l : List Bool} {i j : Nat} {v : Bool} (h : i < l.length) : gB (l.set i v) j = if j = i then v else gB l j := by
  unfold gB
  rw [List.getD_eq_getElem?_getD, List.getD_eq_getElem?_getD]
  by_cases e : j = i
  · rw [if_pos e, e, List.getElem?_set_self h] <;> rfl
  · rw [if_neg e, List.getElem?_set_ne (Ne.symm e)]
theorem atI_pos {α : Type} {l : List α} {i : Int} (h0 : 0 ≤ i) (h1 : i < (l.length : Int)) : atI l i = l[i.toNat]? := by
  unfold atI ixN
  rw [if_pos h0, if_pos h1] <;> rfl
theorem ixN_pos {n : Nat} {i : Int} (h0 : 0 ≤ i) (h1 : i < (n : Int)) : ixN n i = some i.toNat := by
  unfold ixN
  rw [if_pos h0, if_pos h1]
theorem at_I {l : List Int} {i : Int} (h0 : 0 ≤ i) (h1 : i < (l.length : Int)) : atI (l.map V.int) i = some (.int (gI l i.toNat)) := by
  rw [atI_pos h0 (by rw [List.length_map]; exact h1), List.getElem?_map, gI_at (by omega)] <;> rfl
theorem at_B {l : List Bool} {i : Int} (h0 : 0 ≤ i) (h1 : i < (l.length : Int)) : atI (l.map V.bl) i = some (.bl (gB l i.toNat)) := by
  rw [atI_pos h0 (by rw [List.length_map]; exact h1), List.getElem?_map, gB_at (by omega)] <;> rfl
theorem at_last {α : Type} {l : List α} {x : α} (h : l.getLast? = some x) : atI l (-1) = some x := by
  have hne : l ≠ [] := by
    intro e
    rw [e] at h
    cases h
  have hl : 0 < l.length := List.length_pos_iff.mpr hne
  unfold atI ixN
  rw [if_neg (by decide), if_pos (by omega)]
  show l[(-1 + (l.length : Int)).toNat]? = some x
  rw [show (-1 + (l.length : Int)).toNat = l.length - 1 by omega, ← List.getLast?_eq_getElem?]
  exact h
theorem set_I {l : List Int} {k : Nat} {v : Int} : (l.map V.int).set k (V.int v) = (l.set k v).map V.int := by rw [List.map_set]
theorem set_B {l : List Bool} {k : Nat} {v : Bool} : (l.map V.bl).set k (V.bl v) = (l.set k v).map V.bl := by rw [List.map_set]
theorem sz_ok {n : Nat} (h : n ≤ 1000000) : n ≤ sizeLine := by
  rw [sizeLine_eq]
  omega
theorem sz_lt {n : Nat} (h : n < 1000000) : n < sizeLine := by
  rw [sizeLine_eq]
  omega
theorem map_inj_I : ∀ {a b : List Int}, a.map V.int = b.map V.int → a = b
  | [], [], _ => rfl
  | [], _ :: _, h => by cases h
  | _ :: _, [], h => by cases h
  | x :: a, y :: b, h => by
    have h' : V.int x :: a.map V.int = V.int y :: b.map V.int := h
    injection h' with h1 h2
    injection h1 with h1
    rw [h1, map_inj_I h2]

/-! ### standings -/
structure Sd where
  n : Nat
  R : List Int
  L : List Int
  O : List Bool
structure Wf (s : Sd) : Prop where
  n60 : s.n ≤ 60
  lR : s.R.length = s.n + 1
  lL : s.L.length = s.n + 2
  lO : s.O.length = s.n + 2
  rb : ∀ v : Nat, v ≤ s.n → (v : Int) < gI s.R v ∧ gI s.R v ≤ (s.n : Int) + 1
  lb : ∀ v : Nat, 1 ≤ v → v ≤ s.n + 1 → 0 ≤ gI s.L v ∧ gI s.L v < (v : Int)
def stepS (s : Sd) (op : Int) : Sd :=
  let x := op.natAbs
  let l := (gI s.L x).toNat
  let r := (gI s.R x).toNat
  ⟨s.n, s.R.set l (if op < 0 then gI s.R x else (x : Int)), s.L.set r (if op < 0 then gI s.L x else (x : Int)), s.O.set x (decide (op < 0))⟩
/-- an operation for the size; a legal one -/
def IsOp (n : Nat) (op : Int) : Prop := 1 ≤ op.natAbs ∧ op.natAbs ≤ n
def OkOp (s : Sd) (op : Int) : Prop := IsOp s.n op ∧ gB s.O op.natAbs = decide (0 < op)
instance (n : Nat) (op : Int) : Decidable (IsOp n op) := by unfold IsOp; infer_instance
instance (s : Sd) (op : Int) : Decidable (OkOp s op) := by unfold OkOp; infer_instance
theorem Wf.step {s : Sd} (w : Wf s) {op : Int} (h : IsOp s.n op) : Wf (stepS s op) := by
  obtain ⟨h1, h2⟩ := h
  obtain ⟨r1, r2⟩ := w.rb op.natAbs (by omega)
  obtain ⟨l1, l2⟩ := w.lb op.natAbs h1 (by omega)
  have e1 : (gI s.L op.natAbs).toNat < s.R.length := by rw [w.lR]; omega
  have e2 : (gI s.R op.natAbs).toNat < s.L.length := by rw [w.lL]; omega
  refine ⟨w.n60, ?_, ?_, ?_, fun v hv => ?_, fun v hv hv2 => ?_⟩
  · show (s.R.set _ _).length = _
    rw [List.length_set]
    exact w.lR
  · show (s.L.set _ _).length = _
    rw [List.length_set]
    exact w.lL
  · show (s.O.set _ _).length = _
    rw [List.length_set]
    exact w.lO
  · show (v : Int) < gI (s.R.set _ _) v ∧ gI (s.R.set _ _) v ≤ (s.n : Int) + 1
    rw [gI_set e1]
    by_cases e : v = (gI s.L op.natAbs).toNat
    · rw [if_pos e]
      by_cases o : op < 0
      · rw [if_pos o]
        omega
      · rw [if_neg o]
        omega
    · rw [if_neg e]
      exact w.rb v hv
  · show 0 ≤ gI (s.L.set _ _) v ∧ gI (s.L.set _ _) v < (v : Int)
    rw [gI_set e2]
    by_cases e : v = (gI s.R op.natAbs).toNat
    · rw [if_pos e]
      by_cases o : op < 0
      · rw [if_pos o]
        omega
      · rw [if_neg o]
        omega
    · rw [if_neg e]
      exact w.lb v hv hv2
/-- its own links stay -/
theorem step_R {s : Sd} (w : Wf s) {op : Int} (h : IsOp s.n op) : gI (stepS s op).R op.natAbs = gI s.R op.natAbs := by
  obtain ⟨l1, l2⟩ := w.lb op.natAbs h.1 (by have := h.2; omega)
  show gI (s.R.set _ _) _ = _
  rw [gI_set (by rw [w.lR]; have := h.2; omega), if_neg (by omega)]
theorem step_L {s : Sd} (w : Wf s) {op : Int} (h : IsOp s.n op) : gI (stepS s op).L op.natAbs = gI s.L op.natAbs := by
  obtain ⟨l1, l2⟩ := w.rb op.natAbs (by have := h.2; omega)
  show gI (s.L.set _ _) _ = _
  rw [gI_set (by rw [w.lL]; omega), if_neg (by omega)]
/-- a, a + 1, .. n of them -/
def rgI (a : Int) (n : Nat) : List Int := (List.range n).map fun (i : Nat) => a + (i : Int)
theorem rgI_len (a : Int) (n : Nat) : (rgI a n).length = n := by simp [rgI]
def wholeS (n : Nat) : Sd := ⟨n, rgI 1 (n + 1), 0 :: rgI 0 (n + 1), List.replicate (n + 2) false⟩
theorem gI_range {n i : Nat} {a : Int} (h : i < n) : gI (rgI a n) i = a + (i : Int) := by
  refine gI_of ?_
  unfold rgI
  rw [List.getElem?_map, List.getElem?_range h] <;> rfl
theorem Wf.whole {n : Nat} (h : n ≤ 60) : Wf (wholeS n) := by
  refine ⟨h, rgI_len _ _, congrArg Nat.succ (rgI_len _ _), List.length_replicate, fun v hv => ?_, fun v h1 h2 => ?_⟩
  · show (v : Int) < gI (rgI 1 (n + 1)) v ∧ gI (rgI 1 (n + 1)) v ≤ (n : Int) + 1
    have hv' : v ≤ n := hv
    rw [gI_range (by omega)]
    omega
  · show 0 ≤ gI (0 :: rgI 0 (n + 1)) v ∧ gI (0 :: rgI 0 (n + 1)) v < (v : Int)
    have h2' : v ≤ n + 1 := h2
    obtain ⟨u, rfl⟩ : ∃ u, v = u + 1 := ⟨v - 1, by omega⟩
    have e : gI (0 :: rgI 0 (n + 1)) (u + 1) = gI (rgI 0 (n + 1)) u := rfl
    rw [e, gI_range (by omega)]
    omega
theorem snoc_ind {α : Type} {P : List α → Prop} (h0 : P []) (h1 : ∀ l x, P l → P (l ++ [x])) (l : List α) : P l := by
  have key : ∀ r : List α, P r.reverse := by
    intro r
    induction r with
    | nil => exact h0
    | cons x r ih =>
      rw [List.reverse_cons]
      exact h1 _ _ ih
  have e := key l.reverse
  rwa [List.reverse_reverse] at e
def runS (s : Sd) (log : List Int) : Sd := log.foldl stepS s
theorem runS_snoc (s : Sd) (log : List Int) (op : Int) : runS s (log ++ [op]) = stepS (runS s log) op := by
  unfold runS
  rw [List.foldl_append] <;> rfl
theorem stepS_n (s : Sd) (op : Int) : (stepS s op).n = s.n := rfl
theorem runS_n (s : Sd) : ∀ log : List Int, (runS s log).n = s.n := by
  intro log
  induction log using snoc_ind with
  | h0 => rfl
  | h1 l x ih => rw [runS_snoc]; exact ih
/-- every operation is legal in turn -/
def Leg (s : Sd) (log : List Int) : Prop := ∀ i op, log[i]? = some op → OkOp (runS s (log.take i)) op
theorem Leg.snoc {s : Sd} {log : List Int} {op : Int} (h : Leg s log) (o : OkOp (runS s log) op) : Leg s (log ++ [op]) := by
  intro i p hp
  by_cases hi : i < log.length
  · rw [List.getElem?_append_left hi] at hp
    rw [List.take_append_of_le_length (by omega)]
    exact h i p hp
  · rw [List.getElem?_append_right (by omega)] at hp
    have e : i = log.length := by
      have := (List.getElem?_eq_some_iff.mp hp).1
      simp at this
      omega
    subst e
    have : p = op := by simpa using hp.symm
    subst this
    rw [List.take_left']
    · exact o
    · rfl
theorem Leg.take {s : Sd} {log : List Int} (h : Leg s log) (k : Nat) : Leg s (log.take k) := by
  intro i op hp
  have hi : i < (log.take k).length := (List.getElem?_eq_some_iff.mp hp).1
  rw [List.length_take] at hi
  rw [List.getElem?_take_of_lt (by omega)] at hp
  rw [List.take_take, Nat.min_eq_left (by omega)]
  exact h i op hp
theorem Leg.wf {s : Sd} (w : Wf s) : ∀ {log : List Int}, Leg s log → Wf (runS s log) := by
  intro log
  induction log using snoc_ind with
  | h0 => exact fun _ => w
  | h1 l x ih =>
    intro h
    have h1 : Leg s l := by
      have := h.take l.length
      rwa [List.take_left' rfl] at this
    have h2 := h l.length x (by simp)
    rw [List.take_left' rfl] at h2
    rw [runS_snoc]
    exact (ih h1).step h2.1
end G

set_option Elab.async false
set_option linter.all false
set_option maxRecDepth 100000
set_option maxHeartbeats 4000000
/-! What the program's own defs promise: standings, logs, gaps. -/
namespace G
open PySem PySem.Spec PyProof.Rows L2

/-! ### a standing in the heap -/
def fl (n r l o : V) : List (Str × V) := putF "_out" o (putF "_lefts" l (putF "_rights" r (putF "size" n [])))
theorem n1 : ¬ (("size" : Str) = "_rights") := by decide +kernel
theorem n2 : ¬ (("size" : Str) = "_lefts") := by decide +kernel
theorem n3 : ¬ (("size" : Str) = "_out") := by decide +kernel
theorem n4 : ¬ (("_rights" : Str) = "_lefts") := by decide +kernel
theorem n5 : ¬ (("_rights" : Str) = "_out") := by decide +kernel
theorem n6 : ¬ (("_lefts" : Str) = "_out") := by decide +kernel
theorem fl_size (n r l o : V) : (fl n r l o).lookup ("size" : Str) = some n := by
  unfold fl
  rw [lookup_putF, if_neg n3, lookup_putF, if_neg n2, lookup_putF, if_neg n1, lookup_putF, if_pos rfl]
theorem fl_R (n r l o : V) : (fl n r l o).lookup ("_rights" : Str) = some r := by
  unfold fl
  rw [lookup_putF, if_neg n5, lookup_putF, if_neg n4, lookup_putF, if_pos rfl]
theorem fl_L (n r l o : V) : (fl n r l o).lookup ("_lefts" : Str) = some l := by
  unfold fl
  rw [lookup_putF, if_neg n6, lookup_putF, if_pos rfl]
theorem fl_O (n r l o : V) : (fl n r l o).lookup ("_out" : Str) = some o := by
  unfold fl
  rw [lookup_putF, if_pos rfl]
theorem fl_no {m : Str} (n r l o : V) (h1 : ¬ m = "size") (h2 : ¬ m = "_rights") (h3 : ¬ m = "_lefts") (h4 : ¬ m = "_out") : (fl n r l o).lookup m = none := by
  unfold fl
  rw [lookup_putF, if_neg h4, lookup_putF, if_neg h3, lookup_putF, if_neg h2, lookup_putF, if_neg h1]
  rfl
theorem fl_eq (n r l o : V) : fl n r l o = [(("size" : Str), n), ("_rights", r), ("_lefts", l), ("_out", o)] := by
  unfold fl
  simp only [putF, if_neg n1, if_neg n2, if_neg n3, if_neg n4, if_neg n5, if_neg n6]
theorem fl_len (n r l o : V) : (fl n r l o).length < 1000 := by
  rw [fl_eq]
  show 4 < 1000
  decide
theorem fl_putR (n r l o r2 : V) : putF "_rights" r2 (fl n r l o) = fl n r2 l o := by
  rw [fl_eq, fl_eq]
  simp only [putF]
  rw [if_neg n1, if_pos trivial]
theorem fl_putL (n r l o l2 : V) : putF "_lefts" l2 (fl n r l o) = fl n r l2 o := by
  rw [fl_eq, fl_eq]
  simp only [putF]
  rw [if_neg n2, if_neg n4, if_pos trivial]
theorem fl_putO (n r l o o2 : V) : putF "_out" o2 (fl n r l o) = fl n r l o2 := by
  rw [fl_eq, fl_eq]
  simp only [putF]
  rw [if_neg n3, if_neg n5, if_neg n6, if_pos trivial]
structure LinksAt (K : PySem.W.Frag) (H : Hp) (p r l o : Addr) (s : Sd) : Prop where
  ob : ∃ dx, H p = some (.ins (He.ga K "Links") dx (fl (.int s.n) (.ref r) (.ref l) (.ref o)))
  hr : H r = some (.lst (s.R.map V.int))
  hl : H l = some (.lst (s.L.map V.int))
  ho : H o = some (.lst (s.O.map V.bl))
  rl : r ≠ l
  ro : r ≠ o
  lo : l ≠ o
  wf : Wf s
theorem LinksAt.pr {K : PySem.W.Frag} {H : Hp} {p r l o : Addr} {s : Sd} (a : LinksAt K H p r l o s) : p ≠ r ∧ p ≠ l ∧ p ≠ o := by
  obtain ⟨dx, h⟩ := a.ob
  exact ⟨ne_of h a.hr (by intro z; cases z), ne_of h a.hl (by intro z; cases z), ne_of h a.ho (by intro z; cases z)⟩
theorem LinksAt.kp {K : PySem.W.Frag} {H H' : Hp} {p r l o : Addr} {s : Sd} {S : List Addr} (a : LinksAt K H p r l o s) (k : Kp S H H') (h1 : p ∉ S) (h2 : r ∉ S) (h3 : l ∉ S) (h4 : o ∉ S) : LinksAt K H' p r l o s := by
  obtain ⟨dx, h⟩ := a.ob
  exact ⟨⟨dx, k _ _ h1 h⟩, k _ _ h2 a.hr, k _ _ h3 a.hl, k _ _ h4 a.ho, a.rl, a.ro, a.lo, a.wf⟩
theorem LinksAt.k0 {K : PySem.W.Frag} {H H' : Hp} {p r l o : Addr} {s : Sd} (a : LinksAt K H p r l o s) (k : Kp [] H H') : LinksAt K H' p r l o s := a.kp k (by simp) (by simp) (by simp) (by simp)

/-! ### errors -/
/-- an error of the class x leaves, new, with these fields -/
def Ex (K : PySem.W.Frag) (x : Str) (fs : List (Str × V)) (E : XK) (H : Hp) : Prop := ∀ d, H d = none → E (.ref (He.ga K x)) (some d) (upd H d (.xd fs))
def OpE (K : PySem.W.Frag) (n : Nat) (op : Int) (i : Int) (E : XK) (H : Hp) : Prop := Ex K (if IsOp n op then "Illegal" else "BadOperation") [("index", .int i), ("operation", .int op)] E H
/-- .. the first wrong operation of a log -/
def LogE (K : PySem.W.Frag) (s : Sd) (log : List Int) (E : XK) (H : Hp) : Prop := ∀ (i : Nat) (op : Int), log[i]? = some op → Leg s (log.take i) → ¬ OkOp (runS s (log.take i)) op → ∀ H', Kp [] H H' → OpE K s.n op i E H'
def SizeOk (size : Int) : Prop := 0 ≤ size ∧ size ≤ 60
instance (size : Int) : Decidable (SizeOk size) := by unfold SizeOk; infer_instance

/-! ### gaps -/
def stT (s : Sd) (v : Nat) : Str := if gI s.R v = (v : Int) + 1 then (if gI s.L (v + 1) = (v : Int) then "joined" else "left") else (if gI s.L (v + 1) = (v : Int) then "right" else "lost")
def lostL (s : Sd) : List Nat := (List.range (s.n + 1)).filter fun v => decide (stT s v = "lost")

/-! ### promises -/
section
variable (K : PySem.W.Frag)
def sp_check_size : Sp := fun vs H Q E => ∃ size : Int, vs = [.int size] ∧ (SizeOk size → Q .non H) ∧ (¬ SizeOk size → Ex K "BadSize" [("size", .int size)] E H)
def sp_check_operation : Sp := fun vs H Q E => ∃ (n : Nat) (op i : Int), vs = [.int n, .int op, .int i] ∧ (IsOp n op → Q .non H) ∧ (¬ IsOp n op → Ex K "BadOperation" [("index", .int i), ("operation", .int op)] E H)
def sp_check_gap : Sp := fun vs H Q E => ∃ (n : Nat) (g : Int), vs = [.int n, .int g] ∧ (0 ≤ g ∧ g ≤ n → Q .non H) ∧ (¬ (0 ≤ g ∧ g ≤ n) → Ex K "BadGap" [("gap", .int g)] E H)
def sp_Links___init__ : Sp := fun vs H Q E => ∃ (p dx : Addr) (size : Int), vs = [.ref p, .int size] ∧ H p = some (.ins (He.ga K "Links") dx []) ∧
  (SizeOk size → ∀ (r l o : Addr) (H' : Hp), H r = none → H l = none → H o = none → Kp [p] H H' → LinksAt K H' p r l o (wholeS size.toNat) → Q .non H') ∧ (¬ SizeOk size → Ex K "BadSize" [("size", .int size)] E H)
def sp_Links_is_legal : Sp := fun vs H Q E => ∃ (p r l o : Addr) (s : Sd) (op : Int), vs = [.ref p, .int op] ∧ LinksAt K H p r l o s ∧ IsOp s.n op ∧ Q (.bl (decide (gB s.O op.natAbs = decide (0 < op)))) H
def sp_Links_check : Sp := fun vs H Q E => ∃ (p r l o : Addr) (s : Sd) (op i : Int), vs = [.ref p, .int op, .int i] ∧ LinksAt K H p r l o s ∧ (OkOp s op → Q .non H) ∧ (¬ OkOp s op → OpE K s.n op i E H)
def sp_Links_apply_at : Sp := fun vs H Q E => ∃ (p r l o : Addr) (s : Sd) (op i : Int), vs = [.ref p, .int op, .int i] ∧ LinksAt K H p r l o s ∧ (OkOp s op → ∀ H', Kp [r, l, o] H H' → LinksAt K H' p r l o (stepS s op) → Q .non H') ∧ (¬ OkOp s op → OpE K s.n op i E H)
def sp_Links_apply : Sp := fun vs H Q E => ∃ (p r l o : Addr) (s : Sd) (op : Int), vs = [.ref p, .int op] ∧ LinksAt K H p r l o s ∧ (OkOp s op → ∀ H', Kp [r, l, o] H H' → LinksAt K H' p r l o (stepS s op) → Q .non H') ∧ (¬ OkOp s op → OpE K s.n op 0 E H)
def sp_Links_left : Sp := fun vs H Q E => ∃ (p r l o : Addr) (s : Sd) (v : Nat), vs = [.ref p, .int v] ∧ LinksAt K H p r l o s ∧ 1 ≤ v ∧ v ≤ s.n + 1 ∧ Q (.int (gI s.L v)) H
def sp_Links_right : Sp := fun vs H Q E => ∃ (p r l o : Addr) (s : Sd) (v : Nat), vs = [.ref p, .int v] ∧ LinksAt K H p r l o s ∧ v ≤ s.n ∧ Q (.int (gI s.R v)) H
/-- a new standing s -/
def NewS (H : Hp) (s : Sd) (Q : VK) : Prop := ∀ (p r l o : Addr) (H' : Hp), H p = none → H r = none → H l = none → H o = none → Kp [] H H' → LinksAt K H' p r l o s → Q (.ref p) H'
def sp_Links_copy : Sp := fun vs H Q E => ∃ (p r l o : Addr) (s : Sd), vs = [.ref p] ∧ LinksAt K H p r l o s ∧ NewS K H s Q
def sp_play : Sp := fun vs H Q E => ∃ (p r l o a : Addr) (s : Sd) (log : List Int), vs = [.ref p, .ref a] ∧ LinksAt K H p r l o s ∧ SqL K H a (log.map V.int) ∧ (Leg s log → NewS K H (runS s log) Q) ∧ LogE K s log E H
def sp_replay : Sp := fun vs H Q E => ∃ (a : Addr) (size : Int) (log : List Int), vs = [.int size, .ref a] ∧ SqL K H a (log.map V.int) ∧ (SizeOk size → Leg (wholeS size.toNat) log → NewS K H (runS (wholeS size.toNat) log) Q) ∧
  (SizeOk size → LogE K (wholeS size.toNat) log E H) ∧ (¬ SizeOk size → ∀ H', Kp [] H H' → Ex K "BadSize" [("size", .int size)] E H')
def sp_gap_state : Sp := fun vs H Q E => ∃ (p r l o : Addr) (s : Sd) (g : Int), vs = [.ref p, .int g] ∧ LinksAt K H p r l o s ∧ (0 ≤ g ∧ g ≤ s.n → Q (.str (stT s g.toNat)) H) ∧ (¬ (0 ≤ g ∧ g ≤ s.n) → Ex K "BadGap" [("gap", .int g)] E H)
def sp_gap_states : Sp := fun vs H Q E => ∃ (p r l o : Addr) (s : Sd), vs = [.ref p] ∧ LinksAt K H p r l o s ∧ ∀ (q : Addr) (H' : Hp), H q = none → Kp [] H H' → H' q = some (.lst ((List.range (s.n + 1)).map fun (v : Nat) => V.str (stT s v))) → Q (.ref q) H'
def sp_lost_gaps : Sp := fun vs H Q E => ∃ (p r l o : Addr) (s : Sd), vs = [.ref p] ∧ LinksAt K H p r l o s ∧ ∀ (q : Addr) (H' : Hp), H q = none → Kp [] H H' → H' q = some (.lst ((lostL s).map fun (v : Nat) => V.int (v : Int))) → Q (.ref q) H'
end
end G

set_option Elab.async false
set_option linter.all false
set_option maxRecDepth 100000
set_option maxHeartbeats 4000000
/-! More steps. -/
namespace G
open PySem PySem.Spec PyProof.Rows L2
section
variable {K : PySem.W.Frag} {σ : L2.St} {H : Hp} {Q : VK} {ta tb tc te : TE} {x y v : V} {D : Ends} {tl : TA} {i j : Int} {n m : Nat} {p q : Addr} {xs ys : List V} {A B : Prop}
theorem w_tT (a : A) : if true = true then A else B := iteT a
theorem w_tF (b : B) : if false = true then A else B := iteF b
theorem w_nT (a : A) : if (!false) = true then A else B := iteT a
theorem w_nF (b : B) : if (!true) = true then A else B := iteF b
theorem w_rz {C : Addr} {fs : List Str} {W : WX} (g : tl σ H fun us H1 => us.length = fs.length ∧ us.length ≤ 1000 ∧ ∀ d, H1 d = none → W (.ref C) (some d) σ (upd H1 d (.xd (fs.zip us).reverse))) : tRz C fs W tl D σ H := g
theorem w_mk {C : Addr} {sp : Sp} {E : L2.St → XK} (g : tl σ H fun vs H1 => ∀ x dx, H1 x = none → H1 dx = none → dx ≠ x → sp (.ref x :: vs) (upd (upd H1 dx (.own x)) x (.ins C dx [])) (fun v H2 => v = .non ∧ Q (.ref x) H2) (E σ)) : tMk C sp E tl σ H Q := g
theorem w_lrg {t : L2.St → Hp → (Int → Int → Hp → Prop) → Prop} (g : t σ H fun a b H1 => RgOk a b ∧ ∀ q, H1 q = none → Q (.ref q) (upd H1 q (.lst (rgV a b)))) : tLstRg t σ H Q := g
theorem w_rg1 {R : Int → Int → Hp → Prop} (g : te σ H fun x H1 => ∃ n, x = .int n ∧ R 0 n H1) : tRg1 te σ H R := g
theorem w_rg2 {R : Int → Int → Hp → Prop} (g : ta σ H fun x H1 => tb σ H1 fun y H2 => ∃ i j, x = .int i ∧ y = .int j ∧ R i j H2) : tRg2 ta tb σ H R := g
theorem w_n1 {R : Int → Prop} (g : R i) : ∃ n, V.int i = .int n ∧ R n := ⟨i, rfl, g⟩
theorem w_n2 {R : Int → Int → Prop} (g : R i j) : ∃ a b, V.int i = .int a ∧ V.int j = .int b ∧ R a b := ⟨i, j, rfl, rfl, g⟩
theorem w_sl {r : V → Option Int → Option Int → Hp → VK → Prop} {tlo thi : TO} (g : te σ H fun x H1 => tlo σ H1 fun l H2 => thi σ H2 fun u H3 => r x l u H3 Q) : tSl r te tlo thi σ H Q := g
theorem w_np {R : Option Int → Hp → Prop} (g : R none H) : tNoPart σ H R := g
theorem w_pt {R : Option Int → Hp → Prop} (g : te σ H fun x H1 => ∃ i, x = .int i ∧ R (some i) H1) : tPart te σ H R := g
theorem w_tr {R : Bool → Hp → Prop} (g : te σ H fun x H' => ∃ k, TruV K x H' k ∧ R k H') : tTr K te σ H R := g
theorem w_truL {R : Bool → Prop} (h : SqL K H p xs) (g : R (!xs.isEmpty)) : ∃ k, TruV K (.ref p) H k ∧ R k := ⟨_, .inl ⟨xs, h, rfl⟩, g⟩
theorem w_gn {k : Nat} {R : L2.St → Hp → Prop} (g : R (σ.set k (some v)) H) : gName k v σ H R := g
theorem w_g2 {T : Addr} {g1 g2 : TG} {R : L2.St → Hp → Prop} (h : SqT K H T [x, y]) (g : g1 x σ H fun σ1 H1 => g2 y σ1 H1 R) : gTup K 2 (gCons g1 (gCons g2 gNil)) (.ref T) σ H R :=
  ⟨T, [x, y], rfl, h, rfl, x, [y], rfl, by
    show g1 x σ H _
    exact (funext fun σ1 => funext fun H1 => propext ⟨fun z => ⟨y, [], rfl, by
      show g2 y σ1 H1 _
      exact (funext fun σ2 => funext fun H2 => propext ⟨fun z => ⟨rfl, z⟩, fun z => z.2⟩ : R = fun σ2 H2 => ([] : List V) = [] ∧ R σ2 H2) ▸ z⟩, fun ⟨v, r, e, z⟩ => by
      injection e with e1 e2
      subst e1 e2
      exact (funext fun σ2 => funext fun H2 => propext ⟨fun z => z.2, fun z => ⟨rfl, z⟩⟩ : (fun σ2 H2 => ([] : List V) = [] ∧ R σ2 H2) = R) ▸ z⟩ : (fun σ1 H1 => g2 y σ1 H1 R) = fun σ1 H1 => gCons g2 gNil [y] σ1 H1 R) ▸ g⟩
theorem w_g1 {g1 : TG} {R : L2.St → Hp → Prop} (g : g1 x σ H R) : gCons g1 gNil [x] σ H R := ⟨x, [], rfl, by
  have e : (fun σ2 H2 => gNil [] σ2 H2 R) = R := funext fun σ2 => funext fun H2 => propext ⟨fun z => z.2, fun z => ⟨rfl, z⟩⟩
  rw [e]
  exact g⟩
theorem w_gc {g1 : TG} {ts : TGs} {R : L2.St → Hp → Prop} (g : g1 x σ H fun σ1 H1 => ts (y :: xs) σ1 H1 R) : gCons g1 ts (x :: y :: xs) σ H R := ⟨x, y :: xs, rfl, g⟩
theorem w_gt {T : Addr} {k : Nat} {ts : TGs} {R : L2.St → Hp → Prop} (h : SqT K H T xs) (hl : xs.length = k) (g : ts xs σ H R) : gTup K k ts (.ref T) σ H R := ⟨T, xs, rfl, h, hl, g⟩
/-- a new object: the heap goes on under a name -/
def NwU (o : HO) (H : Hp) (Q : VK) : Prop := ∀ q, H q = none → Q (.ref q) (upd H q o)
theorem nw {o : HO} (g : ∀ q H', H q = none → Kp [] H H' → H' q = some o → Q (.ref q) H') : NwU o H Q := fun q n => g q _ n (Kp.new n) upd_same
theorem nwu {o : HO} (g : ∀ q, H q = none → Q (.ref q) (upd H q o)) : NwU o H Q := g
theorem w_lstN (g : tl σ H fun xs H1 => xs.length ≤ sizeLine ∧ NwU (.lst xs) H1 Q) : tLst tl σ H Q := g
theorem w_tupN (g : tl σ H fun xs H1 => xs.length ≤ sizeLine ∧ NwU (.tup xs) H1 Q) : tTup tl σ H Q := g
theorem w_lrgN {t : L2.St → Hp → (Int → Int → Hp → Prop) → Prop} (g : t σ H fun a b H1 => RgOk a b ∧ NwU (.lst (rgV a b)) H1 Q) : tLstRg t σ H Q := g
theorem w_addLN (h1 : H p = some (.lst xs)) (h2 : H q = some (.lst ys)) (h : xs.length + ys.length ≤ sizeLine) (g : ∀ r H', H r = none → Kp [] H H' → H' r = some (.lst (xs ++ ys)) → Q (.ref r) H') : rAddA (.ref p) (.ref q) H Q := w_addL h1 h2 h (nw g)
theorem w_mulLN (h1 : H p = some (.lst xs)) (h2 : -(2 ^ 63) ≤ j) (h3 : j < 2 ^ 63) (h : xs.length * j.toNat ≤ sizeLine) (g : ∀ r H', H r = none → Kp [] H H' → H' r = some (.lst (List.replicate j.toNat xs).flatten) → Q (.ref r) H') : rMulA (.ref p) (.int j) H Q := w_mulL h1 h2 h3 h (nw g)
theorem w_listLN (h : SqL K H p xs) (g : ∀ l H', H l = none → Kp [] H H' → H' l = some (.lst xs) → Q (.ref l) H') : rListA K [.ref p] H Q := w_listL h (nw g)
theorem w_listTN (h : SqT K H p xs) (g : ∀ l H', H l = none → Kp [] H H' → H' l = some (.lst xs) → Q (.ref l) H') : rListA K [.ref p] H Q := w_listT h (nw g)
theorem w_sT {C dx : Addr} {fs : List (Str × V)} {f : Str} {R : Hp → Prop} {v : V} (cl : Cls K C) (na : NoAttr K C f) (h : H p = some (.ins C dx fs)) (hl : fs.length < 1000) (g : ∀ H', Kp [p] H H' → H' p = some (.ins C dx (putF f v fs)) → R H') :
    ∃ a C dx fs, V.ref p = .ref a ∧ H a = some (.ins C dx fs) ∧ Cls K C ∧ NoAttr K C f ∧ fs.length < 1000 ∧ R (upd H a (.ins C dx (putF f v fs))) := ⟨p, C, dx, fs, rfl, h, cl, na, hl, g _ (Kp.put (by simp)) upd_same⟩
theorem w_seT {R : Hp → Prop} (h : H p = some (.lst xs)) (ha : ixN xs.length i = some n) (g : ∀ H', Kp [p] H H' → H' p = some (.lst (xs.set n v)) → R H') : rSetL (.ref p) (.int i) v H R := w_setL h ha (g _ (Kp.put (by simp)) upd_same)
theorem w_apT (h : H p = some (.lst xs)) (hl : xs.length < sizeLine) (g : ∀ H', Kp [p] H H' → H' p = some (.lst (xs ++ [v])) → Q .non H') : rAppend (.ref p) [v] H Q := w_append h hl (g _ (Kp.put (by simp)) upd_same)
/-- an object of a class, made: its dict, the object -/
def MkU (C : Addr) (sp : Sp) (E : XK) (vs : List V) (H : Hp) (Q : VK) : Prop := ∀ x dx, H x = none → H dx = none → dx ≠ x → sp (.ref x :: vs) (upd (upd H dx (.own x)) x (.ins C dx [])) (fun v H2 => v = .non ∧ Q (.ref x) H2) E
theorem w_mkN {C : Addr} {sp : Sp} {E : L2.St → XK} (g : tl σ H fun vs H1 => MkU C sp (E σ) vs H1 Q) : tMk C sp E tl σ H Q := g
theorem mk {C : Addr} {sp : Sp} {E : XK} {vs : List V} (g : ∀ x dx H', H x = none → H' x = some (.ins C dx []) → Kp [] H H' → sp (.ref x :: vs) H' (fun v H2 => v = .non ∧ Q (.ref x) H2) E) : MkU C sp E vs H Q :=
  fun x dx n1 n2 ne => g x dx _ n1 upd_same ((Kp.new n2).trans (Kp.new (by rw [upd_ne (Ne.symm ne)]; exact n1)))
theorem w_r1 {R : Int → Prop} {n : Int} (h : -(2 ^ 62) ≤ n ∧ n < 2 ^ 62) (g : R n) : ∃ j : Int, [V.int n] = [.int j] ∧ -(2 ^ 62) ≤ j ∧ j < 2 ^ 62 ∧ R j := ⟨n, rfl, h.1, h.2, g⟩
theorem w_r2 {R : Int → Int → Prop} {a b : Int} (h : -(2 ^ 62) ≤ a ∧ a < 2 ^ 62 ∧ -(2 ^ 62) ≤ b ∧ b < 2 ^ 62) (g : R a b) : ∃ i j : Int, [V.int a, V.int b] = [.int i, .int j] ∧ (-(2 ^ 62) ≤ i ∧ i < 2 ^ 62 ∧ -(2 ^ 62) ≤ j ∧ j < 2 ^ 62) ∧ R i j := ⟨a, b, rfl, h, g⟩
theorem w_yes {R : Bool → Hp → Prop} (g : R true H) : tYes σ H R := g
theorem ref_ne : V.ref p ≠ .non := fun z => by cases z
theorem int_ne : V.int i ≠ .non := fun z => by cases z
theorem at_0 : atI (x :: xs) 0 = some x := by
  rw [atI_pos (by omega) (by rw [List.length_cons]; omega)] <;> rfl
theorem w_l1 {R : Addr → Prop} (h : SqL K H p xs) (g : R p) : ∃ a, V.ref p = .ref a ∧ (∃ xs, SqL K H a xs) ∧ R a := ⟨p, rfl, ⟨xs, h⟩, g⟩
/-- a field of a standing -/
theorem w_fR {r l o : Addr} {s : Sd} {R : V → Prop} (cl : Cls K (He.ga K "Links")) (na : NoAttr K (He.ga K "Links") "_rights") (a : LinksAt K H p r l o s) (g : R (.ref r)) :
    ∃ a C dx fs v, V.ref p = .ref a ∧ H a = some (.ins C dx fs) ∧ Cls K C ∧ NoAttr K C "_rights" ∧ fs.lookup ("_rights" : Str) = some v ∧ R v := by
  obtain ⟨dx, h⟩ := a.ob
  exact ⟨p, _, dx, _, _, rfl, h, cl, na, fl_R _ _ _ _, g⟩
theorem w_fL {r l o : Addr} {s : Sd} {R : V → Prop} (cl : Cls K (He.ga K "Links")) (na : NoAttr K (He.ga K "Links") "_lefts") (a : LinksAt K H p r l o s) (g : R (.ref l)) :
    ∃ a C dx fs v, V.ref p = .ref a ∧ H a = some (.ins C dx fs) ∧ Cls K C ∧ NoAttr K C "_lefts" ∧ fs.lookup ("_lefts" : Str) = some v ∧ R v := by
  obtain ⟨dx, h⟩ := a.ob
  exact ⟨p, _, dx, _, _, rfl, h, cl, na, fl_L _ _ _ _, g⟩
theorem w_fO {r l o : Addr} {s : Sd} {R : V → Prop} (cl : Cls K (He.ga K "Links")) (na : NoAttr K (He.ga K "Links") "_out") (a : LinksAt K H p r l o s) (g : R (.ref o)) :
    ∃ a C dx fs v, V.ref p = .ref a ∧ H a = some (.ins C dx fs) ∧ Cls K C ∧ NoAttr K C "_out" ∧ fs.lookup ("_out" : Str) = some v ∧ R v := by
  obtain ⟨dx, h⟩ := a.ob
  exact ⟨p, _, dx, _, _, rfl, h, cl, na, fl_O _ _ _ _, g⟩
theorem w_fS {r l o : Addr} {s : Sd} {R : V → Prop} (cl : Cls K (He.ga K "Links")) (na : NoAttr K (He.ga K "Links") "size") (a : LinksAt K H p r l o s) (g : R (.int s.n)) :
    ∃ a C dx fs v, V.ref p = .ref a ∧ H a = some (.ins C dx fs) ∧ Cls K C ∧ NoAttr K C "size" ∧ fs.lookup ("size" : Str) = some v ∧ R v := by
  obtain ⟨dx, h⟩ := a.ob
  exact ⟨p, _, dx, _, _, rfl, h, cl, na, fl_size _ _ _ _, g⟩
/-- .. of an object with the fields of a standing -/
theorem w_oR {dx : Addr} {n r l o : V} {R : V → Prop} (cl : Cls K (He.ga K "Links")) (na : NoAttr K (He.ga K "Links") "_rights") (h : H p = some (.ins (He.ga K "Links") dx (fl n r l o))) (g : R r) :
    ∃ a C dx fs v, V.ref p = .ref a ∧ H a = some (.ins C dx fs) ∧ Cls K C ∧ NoAttr K C "_rights" ∧ fs.lookup ("_rights" : Str) = some v ∧ R v := ⟨p, _, dx, _, _, rfl, h, cl, na, fl_R _ _ _ _, g⟩
theorem w_oL {dx : Addr} {n r l o : V} {R : V → Prop} (cl : Cls K (He.ga K "Links")) (na : NoAttr K (He.ga K "Links") "_lefts") (h : H p = some (.ins (He.ga K "Links") dx (fl n r l o))) (g : R l) :
    ∃ a C dx fs v, V.ref p = .ref a ∧ H a = some (.ins C dx fs) ∧ Cls K C ∧ NoAttr K C "_lefts" ∧ fs.lookup ("_lefts" : Str) = some v ∧ R v := ⟨p, _, dx, _, _, rfl, h, cl, na, fl_L _ _ _ _, g⟩
theorem w_oO {dx : Addr} {n r l o : V} {R : V → Prop} (cl : Cls K (He.ga K "Links")) (na : NoAttr K (He.ga K "Links") "_out") (h : H p = some (.ins (He.ga K "Links") dx (fl n r l o))) (g : R o) :
    ∃ a C dx fs v, V.ref p = .ref a ∧ H a = some (.ins C dx fs) ∧ Cls K C ∧ NoAttr K C "_out" ∧ fs.lookup ("_out" : Str) = some v ∧ R v := ⟨p, _, dx, _, _, rfl, h, cl, na, fl_O _ _ _ _, g⟩
/-- a field of an object is set -/
theorem w_st {C dx : Addr} {fs : List (Str × V)} {f : Str} {R : Hp → Prop} {v : V} (cl : Cls K C) (na : NoAttr K C f) (h : H p = some (.ins C dx fs)) (hl : fs.length < 1000) (g : R (upd H p (.ins C dx (putF f v fs)))) :
    ∃ a C dx fs, V.ref p = .ref a ∧ H a = some (.ins C dx fs) ∧ Cls K C ∧ NoAttr K C f ∧ fs.length < 1000 ∧ R (upd H a (.ins C dx (putF f v fs))) := ⟨p, C, dx, fs, rfl, h, cl, na, hl, g⟩
/-- a method of a standing -/
theorem w_me {r l o : Addr} {s : Sd} {m : Str} {R : Prop} (a : LinksAt K H p r l o s) (hm : ∀ n r l o : V, (fl n r l o).lookup m = none) (g : R) : ∃ a dx fs, V.ref p = .ref a ∧ H a = some (.ins (He.ga K "Links") dx fs) ∧ fs.lookup m = none ∧ R := by
  obtain ⟨dx, h⟩ := a.ob
  exact ⟨p, dx, _, rfl, h, hm _ _ _ _, g⟩
end
/-- a method's name is none of the fields -/
theorem no_m {m : Str} (h1 : ¬ m = "size" := by decide +kernel) (h2 : ¬ m = "_rights" := by decide +kernel) (h3 : ¬ m = "_lefts" := by decide +kernel) (h4 : ¬ m = "_out" := by decide +kernel) (n r l o : V) : (fl n r l o).lookup m = none := fl_no n r l o h1 h2 h3 h4
theorem natAbs_if (i : Int) : (if i < 0 then -i else i) = (i.natAbs : Int) := by
  split <;> omega
end G

set_option Elab.async false
set_option linter.all false
set_option maxRecDepth 100000
set_option maxHeartbeats 4000000
/-! == by an own __eq__, any answer. -/
namespace G
open PySem PySem.Spec PyProof.Rows L2
section
variable {X : Cx} {j k : Nat} {ps : List Str} {sp : Sp} {E : XK} {C f : Addr} {fd : FuncData}
def rOwn (C : Addr) (sp : Sp) (E : XK) : R2 := fun x y H Q => ∃ a b dx dy fs gs, x = .ref a ∧ y = .ref b ∧ H a = some (.ins C dx fs) ∧ H b = some (.ins C dy gs) ∧ sp [.ref a, .ref b] H (fun v H' => (∃ k, v = .bl k) ∧ Q v H') E
theorem op_own (F : FnOk X.prog X.w X.K X.mg X.base (L2N.CX X.prog X.w) k f fd ps sp) (hb : Binds X.K fd ps []) (hr : Room j X.A) (hk : k ≤ j) (hx : PAt X (fun _ => E))
    (hs : PySem.W.findIn X.K (.ref C) "__eq__" = some (some (.ref f))) (hf : PySem.W.isFn X.K (.ref f) = true) : OpR X (compareOp .Eq) (rOwn C sp E) := by
  intro pins s σ H x y u v Q I rx ry hq
  obtain ⟨a, b, dx, dy, fs, gs, rfl, rfl, ha, hb', q⟩ := hq
  cases rx
  cases ry
  obtain ⟨mA, J, _⟩ := ins_get I.hok ha
  obtain ⟨mB, J', _⟩ := ins_get I.hok hb'
  obtain ⟨od, J, _⟩ := J.look
  obtain ⟨od', J', _⟩ := J'.look
  obtain ⟨m, hF⟩ := I.fr
  show wpAny (model X.prog X.w) X.A (richCompare .Eq (.ref a) (.ref b)) (EP X pins σ Q) X.xe s
  refine PySem.W.cmp_K (op := .Eq) (tb := .ref C) hr.units0 hF I.ok.mod.kin J J'.type (by simp [PySem.W.notFirst]) hs hf ?_
  refine wpAny_mono (run_fnS (E := fun _ => E) (us := [.ref a, .ref b]) (vs := [.ref a, .ref b]) F (hr.mono hk) hb (hx σ) I (.cons rfl (.cons rfl .nil)) q) (fun r s' z => ?_) fun _ _ x => x
  obtain ⟨w, H', I', rw_, ⟨kk, rfl⟩, qq⟩ := z
  cases rw_
  exact ⟨.bl kk, H', I', rfl, qq⟩
end
end G
namespace G
open PySem PySem.Spec PyProof.Rows L2
section
variable {X : Cx} {j k : Nat} {ps : List Str} {sp : Sp} {E : XK} {C : Addr}
/-- == of data, or by the own __eq__ of the class at C -/
def rEqO (K : PySem.W.Frag) (C : Addr) (sp : Sp) (E : XK) : R2 := fun x y H Q => rEqA K x y H Q ∨ rOwn C sp E x y H Q
theorem op_eqO {i : Nat} (c : Met X.prog X.w X.K X.mg X.base k C "__eq__" ps sp) (hr : Room j X.A) (hk : k ≤ j) (hx : PAt X (fun _ => E)) : OpR X (compareOp .Eq) (rEqO X.K C sp E) := by
  obtain ⟨f, fd, F, hm, hb⟩ := c.ex
  exact OpR.or (op_eqA hr) (op_own F hb hr hk hx hm.at_ hm.fn)
end
end G
namespace G
open PySem PySem.Spec PyProof.Rows L2
/-- isinstance of an instance of an own class -/
def tyB (x : Str) (K : PySem.W.Frag) : Bool := He.eqO (PySem.W.findIn K (.ref (He.ga K x)) "__class__") (some (some (.builtin "object.__class__"))) && eqT (PySem.W.mroIn K (He.ga K x) (.type "object")) (some true)
theorem tyB_ok {x : Str} {K : PySem.W.Frag} (q : tyB x K = true) : PySem.W.findIn K (.ref (He.ga K x)) "__class__" = some (some (.builtin "object.__class__")) ∧ PySem.W.mroIn K (He.ga K x) (.type "object") = some true := by
  obtain ⟨q1, q2⟩ := He.ba q
  exact ⟨He.eqO_ok q1, of_decide_eq_true q2⟩
end G

set_option Elab.async false
set_option linter.all false
set_option maxRecDepth 100000
set_option maxHeartbeats 4000000
/-! More built-ins: str, tuple, is True, pop, insert, extend. -/
namespace G
open PySem PySem.Spec PyProof.Rows L2
def rStrA : List V → Hp → VK → Prop := fun xs H Q => ∃ i, xs = [.int i] ∧ i.natAbs.log2 < 1920 ∧ Q (.str (toString i)) H
def rTupA (K : PySem.W.Frag) : List V → Hp → VK → Prop := fun xs H Q => ∃ p ys, xs = [.ref p] ∧ ((SqL K H p ys ∧ ∀ l, H l = none → Q (.ref l) (upd H l (.tup ys))) ∨ (SqT K H p ys ∧ Q (.ref p) H))
/-- x is True, x is False, of a truth value -/
def rIsB (neg : Bool) : R2 := fun x y H Q => ∃ b c, x = .bl b ∧ y = .bl c ∧ Q (.bl (neg != decide (b = c))) H
section
variable {X : Cx}
theorem call_strA : CallR X (.type "str") rStrA := call_str_int
theorem call_tupA : CallR X (.type "tuple") (rTupA X.K) := call_tuple_of
theorem op_isB : OpR X (compareOp .Is) (rIsB false) := by
  intro pins s σ H x y v u Q I rx ry h
  obtain ⟨b, c, rfl, rfl, q⟩ := h
  cases rx
  cases ry
  show wpAny _ _ ((isSame (Value.bool b) (Value.bool c)) >>= fun z => pure (Value.bool z)) _ _ s
  refine wpAny_bind (wpAny_isSame_plain rfl (wpAny_pure (fin_bl I q ?_)))
  cases b <;> cases c <;> rfl
theorem op_isnotB : OpR X (compareOp .IsNot) (rIsB true) := by
  intro pins s σ H x y v u Q I rx ry h
  obtain ⟨b, c, rfl, rfl, q⟩ := h
  cases rx
  cases ry
  show wpAny _ _ ((isSame (Value.bool b) (Value.bool c)) >>= fun z => pure (Value.bool (!z))) _ _ s
  refine wpAny_bind (wpAny_isSame_plain rfl (wpAny_pure (fin_bl I q ?_)))
  cases b <;> cases c <;> rfl
end
section
variable {K : PySem.W.Frag} {σ : L2.St} {H : Hp} {Q : VK} {ta tb tc te : TE} {x y v : V} {i j : Int} {n m : Nat} {p q : Addr} {xs ys : List V} {b c : Bool}
theorem w_str (h : i.natAbs.log2 < 1920) (g : Q (.str (toString i)) H) : rStrA [.int i] H Q := ⟨i, rfl, h, g⟩
theorem w_tuA (h : SqL K H p xs) (g : ∀ l H', H l = none → Kp [] H H' → H' l = some (.tup xs) → Q (.ref l) H') : rTupA K [.ref p] H Q := ⟨p, xs, rfl, .inl ⟨h, nw g⟩⟩
theorem w_isB (g : Q (.bl (decide (b = c))) H) : rIsB false (.bl b) (.bl c) H Q := ⟨b, c, rfl, rfl, by
  have e : (false != decide (b = c)) = decide (b = c) := by cases decide (b = c) <;> rfl
  rw [e]; exact g⟩
theorem w_isnB (g : Q (.bl (!decide (b = c))) H) : rIsB true (.bl b) (.bl c) H Q := ⟨b, c, rfl, rfl, by
  have e : (true != decide (b = c)) = !decide (b = c) := by cases decide (b = c) <;> rfl
  rw [e]; exact g⟩
theorem w_pop (h : H p = some (.lst xs)) (hy : xs[xs.length - 1]? = some y) (g : ∀ H', Kp [p] H H' → H' p = some (.lst xs.dropLast) → Q y H') : rPop (.ref p) [] H Q := ⟨p, xs, y, rfl, rfl, h, hy, g _ (Kp.put (by simp)) upd_same⟩
theorem w_popAt {k : Nat} (h : H p = some (.lst xs)) (h1 : -(2 ^ 63) ≤ i) (h2 : i < 2 ^ 63) (hk : seqIndex? i xs.length = some k) (hy : xs[k]? = some y) (g : ∀ H', Kp [p] H H' → H' p = some (.lst (xs.eraseIdx k)) → Q y H') : rPopAt (.ref p) [.int i] H Q :=
  ⟨p, xs, i, k, y, rfl, rfl, h, h1, h2, hk, hy, g _ (Kp.put (by simp)) upd_same⟩
theorem w_inL {neg : Bool} (h : SqL K H p xs) (hx : flatV x = true) (ha : xs.all flatV = true) (g : Q (.bl (if neg then !inV x xs else inV x xs)) H) : rIn K neg x (.ref p) H Q := ⟨p, xs, rfl, .inl h, hx, ha, g⟩
theorem w_inT {neg : Bool} (h : SqT K H p xs) (hx : flatV x = true) (ha : xs.all flatV = true) (g : Q (.bl (if neg then !inV x xs else inV x xs)) H) : rIn K neg x (.ref p) H Q := ⟨p, xs, rfl, .inr h, hx, ha, g⟩
theorem flatI : ∀ l : List Int, (l.map V.int).all flatV = true
  | [] => rfl
  | a :: l => by rw [List.map_cons, List.all_cons, flatI l]; rfl
end
theorem strOk_of (s : String) : PyData.strOk (Str.ofString s) = true := by
  rw [Str.ofString_eq_toList]
  unfold PyData.strOk
  rw [Array.all_eq_true]
  intro i h
  have h' : i < s.toList.length := by simpa using h
  simp only [List.getElem_toArray, List.getElem_map, decide_eq_true_eq]
  have v := (s.toList[i]'h').valid
  rcases v with v | v
  · show (s.toList[i]'h').val.toNat < _
    have : (s.toList[i]'h').val.toNat < 0xd800 := v
    omega
  · exact v.2
end G

set_option Elab.async false
set_option linter.all false
set_option maxRecDepth 100000
set_option maxHeartbeats 4000000
/-! Static methods, texts, more in a handler; a head with defs at any address. -/
namespace G
open PySem PySem.Spec PyProof.Rows L2

/-! ### a static method by its class -/
structure Smt (P : Program) (w : World) (K : PySem.W.Frag) (mg : Str → Option Value) (base : Heap) (k : Nat) (C : Addr) (m : Str) (ps : List Str) (sp : Sp) : Prop where
  ex : ∃ (f p : Addr) (fd : FuncData) (rest : List Value), FnOk P w K mg base (L2N.CX P w) k f fd ps sp ∧ ClX.CRead K C (.type "type") ∧ PySem.W.findCls K (.ref C) (.type "type") m = some (.get (.builtin "staticmethod.__get__") (.ref p) .none (.ref C)) ∧
    PySem.W.recIn K p "staticmethod" = some (.ref f :: rest) ∧ PySem.W.keepIn K (.ref f) = true ∧ Binds K fd ps []
section
variable {X : Cx} {j k : Nat} {m : Str} {ps : List Str} {sp : Sp} {C : Addr} {pos apos : Pos} {e o : Expr} {es : List Expr} {t : TA} {E : L2.St → XK}
theorem pe_sm {pl : Sem Bool} (c : Smt X.prog X.w X.K X.mg X.base k C m ps sp) (hr : Room j X.A) (hk : k ≤ j) (hx : PAt X E) (he : PE X o (tC (.ref C))) (ha : PA X (e :: es) t)
    (hst : starEach (e :: es) X.env = (false, eval e X.env) :: starEach es X.env := by rfl) (hpl : (backTo pos (starEach es X.env)).any (·.1) = false := by rfl)
    (ht : eval (.Call (.Attribute o m apos) (e :: es) [] pos) X.env = (do
      let ov ← eval o X.env
      standAt apos.atName
      let (f, first) ← holding [ov] (getMethod ov m pl)
      callWith pos f first (backTo pos (starEach (e :: es) X.env)) (backToKw pos (keywordEach [] X.env))) := by rfl) : PE X (.Call (.Attribute o m apos) (e :: es) [] pos) (tCl sp E t) := by
  obtain ⟨f, p, fd, rest, F, r, e1, e2, kp, hb⟩ := c.ex
  refine ⟨fun pins s σ H Q I h => PySem.W.methodCall_KW (pl := pl) (thn (he.run pins s σ H (fun x H1 => x = V.ref C ∧ tCl sp E t σ H1 Q) I ⟨rfl, h⟩) fun u s1 hh => ?_) ht⟩
  obtain ⟨x, H1, I1, rx, ex, q⟩ := hh
  subst ex
  obtain rfl : u = Value.ref C := rx
  refine PySem.W.method_cls I1.kIn r.ga (PySem.W.cls_bind I1.kIn r.rd e1 (wpAny_call (PySem.W.sm_get (s := { s1 with toks := s1.toks + 1 }) I1.kIn e2 (PySem.W.handed_on rfl ?_))))
  have I2 := I1.tok (s1.toks + 1)
  refine PySem.W.callWith_K (first := []) (h₀ := X.base) I2.ok.mod.kin kp (thn (ha.run pos pins _ σ H1 _ I2 q) fun us s2 hh => ?_) hst hpl
  obtain ⟨vs, H2, I3, rv, q2⟩ := hh
  exact ⟨I3.kIn, run_fnS (E := E) (us := us) (vs := vs) F (hr.mono hk) hb (hx σ) I3 rv q2⟩
end
/-- C.m is a staticmethod -/
def smB (x m : Str) (K : PySem.W.Frag) : Bool := PySem.W.readsIn K (He.ga K x) (.type "type") && (He.eqO (PySem.W.specialIn K (.ref (He.ga K x)) "__getattribute__") (some (some (.builtin "type.__getattribute__"))) &&
  He5.wrapB K (He.ga K x) "staticmethod" "staticmethod.__get__" m)
theorem smB_ok {K : PySem.W.Frag} {x m : Str} (q : smB x m K = true) : ClX.CRead K (He.ga K x) (.type "type") ∧ ∃ (p : Addr) (rest : List Value), PySem.W.findCls K (.ref (He.ga K x)) (.type "type") m = some (.get (.builtin "staticmethod.__get__") (.ref p) .none (.ref (He.ga K x))) ∧
    PySem.W.recIn K p "staticmethod" = some (.ref (He5.wf K (He.ga K x) "staticmethod" m) :: rest) := by
  obtain ⟨q1, q⟩ := He.ba q
  obtain ⟨q2, q3⟩ := He.ba q
  obtain ⟨h1, rest, h2⟩ := He5.wrapB_ok q3
  exact ⟨⟨q1, He.eqO_ok q2⟩, _, rest, h1, h2⟩
theorem smt_of {P : Program} {w : World} {K : PySem.W.Frag} {mg : Str → Option Value} {base : Heap} {k : Nat} {x m : Str} {ps : List Str} {sp : Sp} {fd : FuncData} (q : ClX.CRead K (He.ga K x) (.type "type") ∧ ∃ (p : Addr) (rest : List Value), PySem.W.findCls K (.ref (He.ga K x)) (.type "type") m = some (.get (.builtin "staticmethod.__get__") (.ref p) .none (.ref (He.ga K x))) ∧
    PySem.W.recIn K p "staticmethod" = some (.ref (He5.wf K (He.ga K x) "staticmethod" m) :: rest)) (F : FnOk P w K mg base (L2N.CX P w) k (He5.wf K (He.ga K x) "staticmethod" m) fd ps sp) (kp : PySem.W.keepIn K (.ref (He5.wf K (He.ga K x) "staticmethod" m)) = true) (hb : Binds K fd ps []) :
    Smt P w K mg base k (He.ga K x) m ps sp := by
  obtain ⟨r, p, rest, h1, h2⟩ := q
  exact ⟨_, p, fd, rest, F, r, h1, h2, kp, hb⟩

/-! ### the head, defs at any address -/
def obsY (fa : List Chk) (fn : List He5.DefA) (K : PySem.W.Frag) : He.AlD := ((fa.all fun f => f K) && fn.all fun d => d.ok K, fn.map fun d => He5.fnA K (d.at_ K))
def valY (fn : List He5.DefA) : He.AlD := (true, fn.map He5.DefA.val)
def SaysY (fa : List Chk) (fn : List He5.DefA) (K : PySem.W.Frag) : Prop := obsY fa fn K = valY fn
def obsYG (n : Nat) (fa : List Chk) (fn : List He5.DefA) (g : Addr → Option Obj) : He.AlD := obsY fa fn (He.frG g (He.asD g n ++ [cStatics]))
def hookY (n : Nat) (fa : List Chk) (fn : List He5.DefA) : PySem.W.Hook where
  α := He.AlD
  obs := fun s => obsYG n fa fn s.heap.get?
  val := fun _ => valY fn
  says := fun _ h => ∃ K : PySem.W.Frag, K.In h ∧ SaysY fa fn K
  of := fun _ _ e => ⟨_, He.frG_in, e⟩
  keeps := fun _ _ _ ⟨K, hK, c⟩ k => ⟨K, PySem.W.Frag.In.keeps hK k, c⟩
theorem obsYG_eq {n : Nat} {fa : List Chk} {fn : List He5.DefA} {g : Addr → Option Obj} {s : Shared} (h : ∀ a, g a = s.heap.get? a) : obsYG n fa fn g = (hookY n fa fn).obs s := by
  have e : g = s.heap.get? := funext h
  rw [e] <;> rfl
section
variable {fa : List Chk} {fn : List He5.DefA} {K : PySem.W.Frag}
theorem SaysY.fact (c : SaysY fa fn K) (i : Nat) {f : Chk} (h : fa[i]? = some f := by rfl) : f K = true := by
  have c1 := (He.ba (show ((fa.all fun f => f K) && fn.all fun d => d.ok K) = true from congrArg (fun z : He.AlD => z.1) c)).1
  exact List.all_eq_true.mp c1 f (List.mem_of_getElem? h)
theorem SaysY.def_ (c : SaysY fa fn K) (i : Nat) {d : He5.DefA} (h : fn[i]? = some d := by rfl) : ∃ fd, FunD K d.name d.qual d.params d.body d.scope (d.dvs K) (d.kws K) (d.at_ K) fd := by
  have c2 := (He.ba (show ((fa.all fun f => f K) && fn.all fun d => d.ok K) = true from congrArg (fun z : He.AlD => z.1) c)).2
  have e : fn.map (fun d => He5.fnA K (d.at_ K)) = fn.map He5.DefA.val := congrArg (fun z : He.AlD => z.2) c
  have e2 : (fn.map fun d => He5.fnA K (d.at_ K))[i]? = (fn.map He5.DefA.val)[i]? := by rw [e]
  rw [List.getElem?_map, List.getElem?_map, h] at e2
  exact He5.DefA.funD (Option.some.inj e2) (List.all_eq_true.mp c2 d (List.mem_of_getElem? h))
end

/-! ### where an exception is handled -/
section
variable {X : Cx}
theorem op_eqAH {k : Nat} (hr : L2H.RoomH k X.A) : OpR X (compareOp .Eq) (rEqA X.K) := OpR.or op_eq (op_eqD (by have := hr.un; omega))
theorem op_neAH {k : Nat} (hr : L2H.RoomH k X.A) : OpR X (compareOp .NotEq) (rNeA X.K) := OpR.or op_ne (op_neD (by have := hr.un; omega))
end

/-! ### texts -/
def rJoin (K : PySem.W.Frag) : V → List V → Hp → VK → Prop := fun x xs H Q => ∃ a p, ∃ ys : List Str, x = .str a ∧ xs = [.ref p] ∧ (SqL K H p (ys.map V.str) ∨ SqT K H p (ys.map V.str)) ∧
    (ys.map (·.length)).sum + ys.length * a.length ≤ 16777216 ∧ Q (.str (Txt.join a ys)) H
def rSplit : V → List V → Hp → VK → Prop := fun x xs H Q => ∃ a b, x = .str a ∧ xs = [.str b] ∧ (b.length == 0) = false ∧ a.length + 2 ≤ sizeLine ∧ rNewStrs (Txt.split a b) H Q
def rIntS : List V → Hp → VK → Prop := fun xs H Q => ∃ a n, xs = [.str a] ∧ PySem.intText? a = some n ∧ a.length ≤ 640 ∧ Q (.int n) H
section
variable {X : Cx} {o e : Expr} {to te : TE}
theorem pe_joinA {apos pos : Pos} (ho : PE X o to) (he : PE X e te) (hs : starEach [e] X.env = [(false, eval e X.env)] := by rfl) (hbase : attributeBase o "join" X.env (eval o X.env) = eval o X.env := by rfl) (hline : (apos.endLine == pos.line) = true := by rfl) :
    PE X (.Call (.Attribute o "join" apos) [e] [] pos) (tM1 (rJoin X.K) to te) := pe_join ho he hs hbase hline
theorem pe_splitA {apos pos : Pos} (ho : PE X o to) (he : PE X e te) (hs : starEach [e] X.env = [(false, eval e X.env)] := by rfl) (hbase : attributeBase o "split" X.env (eval o X.env) = eval o X.env := by rfl) (hline : (apos.endLine == pos.line) = true := by rfl) :
    PE X (.Call (.Attribute o "split" apos) [e] [] pos) (tM1 rSplit to te) := pe_split ho he hs hbase hline
theorem call_intS : CallR X (.type "int") rIntS := call_int_str
end
section
variable {K : PySem.W.Frag} {σ : L2.St} {H : Hp} {Q : VK} {ta tb tc te : TE} {x y v : V} {i j : Int} {n m : Nat} {p q : Addr} {xs ys : List V} {b c : Bool}
theorem w_m1 {r : V → List V → Hp → VK → Prop} (g : ta σ H fun x H1 => (∃ a, x = .str a) ∧ te σ H1 fun y H2 => r x [y] H2 Q) : tM1 r ta te σ H Q := g
theorem w_joinL {a : Str} {ss : List Str} (h : SqL K H p (ss.map V.str)) (hl : (ss.map (·.length)).sum + ss.length * a.length ≤ 16777216) (g : Q (.str (Txt.join a ss)) H) : rJoin K (.str a) [.ref p] H Q := ⟨a, p, ss, rfl, rfl, .inl h, hl, g⟩
theorem w_split {a b : Str} (hb : (b.length == 0) = false) (hl : a.length + 2 ≤ sizeLine) (g : ∀ l H', H l = none → Kp [] H H' → H' l = some (.lst ((Txt.split a b).map V.str)) → Q (.ref l) H') : rSplit (.str a) [.str b] H Q := ⟨a, b, rfl, rfl, hb, hl, nw g⟩
theorem w_intS {a : Str} {k : Int} (h : PySem.intText? a = some k) (hl : a.length ≤ 640) (g : Q (.int k) H) : rIntS [.str a] H Q := ⟨a, k, rfl, h, hl, g⟩
theorem w_exS {P : Prop} {a : Str} (g : P) : (∃ b, V.str a = .str b) ∧ P := ⟨⟨a, rfl⟩, g⟩
theorem w_inS {c : Nat} {z : Str} (g : Q (.bl (decide (c ∈ z.cps.toList))) H) : rInS (.str ⟨#[c]⟩) (.str z) H Q := ⟨c, z, rfl, rfl, g⟩
theorem w_iS {R : It → Hp → Prop} (g : ta σ H fun v H1 => ∃ x, v = .str x ∧ R (Its x) H1) : iStr ta σ H R := g
theorem w_gu {T : Addr} {k : Nat} {ts : TGs} {R : L2.St → Hp → Prop} (h : SqL K H T xs) (hl : xs.length = k) (g : ts xs σ H R) : gUnl K k ts (.ref T) σ H R := ⟨T, xs, rfl, h, hl, g⟩
end
end G

set_option Elab.async false
set_option linter.all false
set_option maxRecDepth 100000
set_option maxHeartbeats 4000000
/-! What a log writes down: last writes, last changes, the first loss. Promises of the defs that read logs. -/
namespace G
open PySem PySem.Spec PyProof.Rows L2

/-! ### the book -/
structure Bk where
  s : Sd
  k : Nat
  wr : List Int
  wl : List Int
  de : List Int
  ls : Option (Nat × Nat)
def lowN (s : Sd) (op : Int) : Nat := (gI s.L op.natAbs).toNat
def hiN (s : Sd) (op : Int) : Nat := (gI s.R op.natAbs).toNat - 1
def deS (s s' : Sd) (k : Nat) (de : List Int) (g : Nat) : List Int := if stT s g = stT s' g then de else de.set g (k : Int)
def lsS (s s' : Sd) (k g : Nat) (ls : Option (Nat × Nat)) : Option (Nat × Nat) := if ls = none ∧ stT s g ≠ stT s' g ∧ stT s' g = "lost" then some (k, g) else ls
def bstep (b : Bk) (op : Int) : Bk :=
  let s' := stepS b.s op
  ⟨s', b.k + 1, b.wr.set (lowN b.s op) (b.k : Int), b.wl.set (hiN b.s op) (b.k : Int), deS b.s s' b.k (deS b.s s' b.k b.de (lowN b.s op)) (hiN b.s op), lsS b.s s' b.k (hiN b.s op) (lsS b.s s' b.k (lowN b.s op) b.ls)⟩
def bk0 (n : Nat) : Bk := ⟨wholeS n, 0, List.replicate (n + 1) (-1), List.replicate (n + 1) (-1), List.replicate (n + 1) (-1), none⟩
def bkR (n : Nat) (log : List Int) : Bk := log.foldl bstep (bk0 n)
theorem bkR_snoc (n : Nat) (log : List Int) (op : Int) : bkR n (log ++ [op]) = bstep (bkR n log) op := by
  unfold bkR
  rw [List.foldl_append] <;> rfl
theorem bkR_s (n : Nat) (log : List Int) : (bkR n log).s = runS (wholeS n) log := by
  induction log using snoc_ind with
  | h0 => rfl
  | h1 l x ih => rw [bkR_snoc, runS_snoc, ← ih] <;> rfl
theorem bkR_k (n : Nat) (log : List Int) : (bkR n log).k = log.length := by
  induction log using snoc_ind with
  | h0 => rfl
  | h1 l x ih =>
    rw [bkR_snoc, List.length_append]
    show (bkR n l).k + 1 = _
    rw [ih] <;> rfl
theorem deS_len (s s' : Sd) (k : Nat) (de : List Int) (g : Nat) : (deS s s' k de g).length = de.length := by
  unfold deS
  split
  · rfl
  · exact List.length_set
theorem bkR_len (n : Nat) (log : List Int) : (bkR n log).wr.length = n + 1 ∧ (bkR n log).wl.length = n + 1 ∧ (bkR n log).de.length = n + 1 := by
  induction log using snoc_ind with
  | h0 => exact ⟨List.length_replicate, List.length_replicate, List.length_replicate⟩
  | h1 l x ih =>
    rw [bkR_snoc]
    obtain ⟨a, b, c⟩ := ih
    refine ⟨?_, ?_, ?_⟩
    · show (List.set _ _ _).length = _
      rw [List.length_set, a]
    · show (List.set _ _ _).length = _
      rw [List.length_set, b]
    · show (deS _ _ _ _ _).length = _
      rw [deS_len, deS_len, c]
/-- bounds of the two touched gaps -/
theorem touch_bd {s : Sd} (w : Wf s) {op : Int} (h : IsOp s.n op) : lowN s op < op.natAbs ∧ op.natAbs ≤ hiN s op ∧ hiN s op ≤ s.n ∧ gI s.L op.natAbs = (lowN s op : Int) ∧ gI s.R op.natAbs = (hiN s op : Int) + 1 := by
  unfold lowN hiN
  obtain ⟨r1, r2⟩ := w.rb op.natAbs h.2
  obtain ⟨l1, l2⟩ := w.lb op.natAbs h.1 (by have := h.2; omega)
  refine ⟨by omega, by omega, by omega, by omega, by omega⟩
/-- no other gap changes -/
theorem step_st {s : Sd} (w : Wf s) {op : Int} (h : IsOp s.n op) {g : Nat} (hl : g ≠ lowN s op) (hh : g ≠ hiN s op) : stT (stepS s op) g = stT s g := by
  obtain ⟨t1, t2, t3, t4, t5⟩ := touch_bd w h
  have e1 : gI (stepS s op).R g = gI s.R g := by
    show gI (s.R.set _ _) g = _
    rw [gI_set (by rw [w.lR, t4]; have := h.2; omega), t4, if_neg (by rw [Int.toNat_natCast]; exact hl)]
  have e2 : gI (stepS s op).L (g + 1) = gI s.L (g + 1) := by
    show gI (s.L.set _ _) (g + 1) = _
    rw [gI_set (by rw [w.lL, t5]; omega), t5, if_neg (by omega)]
  unfold stT
  rw [e1, e2]
/-- the lost gaps, ascending -/
theorem mem_lost {s : Sd} {g : Nat} : g ∈ lostL s ↔ g ≤ s.n ∧ stT s g = "lost" := by
  unfold lostL
  rw [List.mem_filter, List.mem_range]
  constructor
  · exact fun ⟨a, b⟩ => ⟨by omega, of_decide_eq_true b⟩
  · exact fun ⟨a, b⟩ => ⟨by omega, decide_eq_true b⟩
theorem lost_sorted (s : Sd) : (lostL s).Pairwise (· < ·) := by
  unfold lostL
  exact List.Pairwise.filter _ List.pairwise_lt_range
theorem lost_head {s : Sd} {g : Nat} {r : List Nat} (h : lostL s = g :: r) : g ≤ s.n ∧ stT s g = "lost" ∧ ∀ x, x ≤ s.n → stT s x = "lost" → g ≤ x := by
  have m : g ∈ lostL s := by rw [h]; exact List.mem_cons_self
  obtain ⟨a, b⟩ := mem_lost.mp m
  refine ⟨a, b, fun x h1 h2 => ?_⟩
  have mx : x ∈ lostL s := mem_lost.mpr ⟨h1, h2⟩
  have so := lost_sorted s
  rw [h] at mx so
  rcases List.mem_cons.mp mx with rfl | q
  · exact Nat.le_refl _
  · exact Nat.le_of_lt ((List.pairwise_cons.mp so).1 x q)
/-- while nothing is lost, a loss stands at a touched gap -/
theorem ls_step {s : Sd} (w : Wf s) {op : Int} (h : IsOp s.n op) (k : Nat) (e : lostL s = []) :
    lsS s (stepS s op) k (hiN s op) (lsS s (stepS s op) k (lowN s op) none) = ((lostL (stepS s op)).head?.map fun g => (k, g)) := by
  obtain ⟨t1, t2, t3, t4, t5⟩ := touch_bd w h
  have no : ∀ x, x ≤ s.n → stT s x ≠ "lost" := fun x h1 h2 => by
    have := mem_lost.mpr ⟨h1, h2⟩
    rw [e] at this
    cases this
  have nl := no (lowN s op) (by have := h.2; omega)
  have nh := no (hiN s op) t3
  have key : ∀ g, g ≤ s.n → ∀ l0, lsS s (stepS s op) k g l0 = if l0 = none ∧ stT (stepS s op) g = "lost" then some (k, g) else l0 := by
    intro g hg l0
    unfold lsS
    by_cases c1 : l0 = none
    · by_cases c2 : stT (stepS s op) g = "lost"
      · rw [if_pos ⟨c1, by rw [c2]; exact no g hg, c2⟩, if_pos ⟨c1, c2⟩]
      · rw [if_neg (fun z => c2 z.2.2), if_neg (fun z => c2 z.2)]
    · rw [if_neg (fun z => c1 z.1), if_neg (fun z => c1 z.1)]
  have kl := key (lowN s op) (by have := h.2; omega) none
  have only : ∀ x, x ≤ s.n → stT (stepS s op) x = "lost" → x = lowN s op ∨ x = hiN s op := by
    intro x hx hl
    by_cases c1 : x = lowN s op
    · exact .inl c1
    · by_cases c2 : x = hiN s op
      · exact .inr c2
      · rw [step_st w h c1 c2] at hl
        exact absurd hl (no x hx)
  cases hL : lostL (stepS s op) with
  | nil =>
    have n1 : stT (stepS s op) (lowN s op) ≠ "lost" := fun z => by
      have := mem_lost.mpr ⟨show lowN s op ≤ (stepS s op).n by rw [stepS_n]; have := h.2; omega, z⟩
      rw [hL] at this
      cases this
    have n2 : stT (stepS s op) (hiN s op) ≠ "lost" := fun z => by
      have := mem_lost.mpr ⟨show hiN s op ≤ (stepS s op).n by rw [stepS_n]; exact t3, z⟩
      rw [hL] at this
      cases this
    rw [kl, if_neg (fun z => n1 z.2), key _ t3, if_neg (fun z => n2 z.2)] <;> rfl
  | cons g r =>
    obtain ⟨g1, g2, g3⟩ := lost_head hL
    rw [stepS_n] at g1 g3
    show _ = some (k, g)
    by_cases c : stT (stepS s op) (lowN s op) = "lost"
    · have := g3 _ (by have := h.2; omega) c
      have eg : g = lowN s op := by
        rcases only g g1 g2 with q | q
        · exact q
        · omega
      rw [kl, if_pos ⟨rfl, c⟩, key _ t3, if_neg (fun z => by cases z.1), eg]
    · have eg : g = hiN s op := by
        rcases only g g1 g2 with q | q
        · exact absurd (q ▸ g2) c
        · exact q
      rw [kl, if_neg (fun z => c z.2), key _ t3, if_pos ⟨rfl, eg ▸ g2⟩, eg]
/-- the last change of a gap, when one more operation comes -/
theorem de_step {s : Sd} (w : Wf s) {op : Int} (h : IsOp s.n op) (k : Nat) {de : List Int} (hl : de.length = s.n + 1) {g : Nat} (hg : g ≤ s.n) :
    gI (deS s (stepS s op) k (deS s (stepS s op) k de (lowN s op)) (hiN s op)) g = if stT s g = stT (stepS s op) g then gI de g else (k : Int) := by
  obtain ⟨t1, t2, t3, t4, t5⟩ := touch_bd w h
  have key : ∀ de' : List Int, de'.length = s.n + 1 → ∀ x, x ≤ s.n → gI (deS s (stepS s op) k de' x) g = if g = x ∧ ¬ stT s g = stT (stepS s op) g then (k : Int) else gI de' g := by
    intro de' hl' x hx
    unfold deS
    by_cases c : stT s x = stT (stepS s op) x
    · rw [if_pos c, if_neg]
      rintro ⟨rfl, n⟩
      exact n c
    · rw [if_neg c, gI_set (by omega)]
      by_cases e : g = x
      · rw [if_pos e, if_pos ⟨e, by rw [e]; exact c⟩]
      · rw [if_neg e, if_neg (fun z => e z.1)]
  rw [key _ (by rw [deS_len, hl]) _ t3, key _ hl _ (by have := h.2; omega)]
  by_cases c : stT s g = stT (stepS s op) g
  · rw [if_pos c, if_neg (fun z => z.2 c), if_neg (fun z => z.2 c)]
  · rw [if_neg c]
    by_cases e2 : g = hiN s op
    · rw [if_pos ⟨e2, c⟩]
    · rw [if_neg (fun z => e2 z.1)]
      by_cases e1 : g = lowN s op
      · rw [if_pos ⟨e1, c⟩]
      · exact absurd (step_st w h e1 e2).symm c

/-! ### promises -/
section
variable (K : PySem.W.Frag)
/-- the errors of a log from the whole list -/
structure RepE (H : Hp) (size : Int) (log : List Int) (E : XK) : Prop where
  op : SizeOk size → LogE K (wholeS size.toNat) log E H
  sz : ¬ SizeOk size → ∀ H', Kp [] H H' → Ex K "BadSize" [("size", .int size)] E H'
theorem RepE.kp {K : PySem.W.Frag} {H H1 : Hp} {size : Int} {log : List Int} {E : XK} (r : RepE K H size log E) (k : Kp [] H H1) : RepE K H1 size log E :=
  ⟨fun ok i op h l b H' k' => r.op ok i op h l b H' (k.trans k'), fun b H' k' => r.sz b H' (k.trans k')⟩
def TouchAt (H : Hp) (n : Nat) (log : List Int) (xs : List V) : Prop := xs.length = log.length ∧ ∀ (i : Nat) (op : Int), log[i]? = some op → ∃ t, xs[i]? = some (.ref t) ∧ H t = some (.tup [.int (op.natAbs : Int), .int (gI (runS (wholeS n) (log.take i)).L op.natAbs), .int (gI (runS (wholeS n) (log.take i)).R op.natAbs)])
def sp__links_of_operations : Sp := fun vs H Q E => ∃ (a : Addr) (size : Int) (log : List Int), vs = [.int size, .ref a] ∧ SqL K H a (log.map V.int) ∧ log.length ≤ 1000 ∧ RepE K H size log E ∧
  (SizeOk size → Leg (wholeS size.toNat) log → ∀ q H' xs, H q = none → Kp [] H H' → H' q = some (.lst xs) → TouchAt H' size.toNat log xs → Q (.ref q) H')
def sp_writers : Sp := fun vs H Q E => ∃ (a : Addr) (size : Int) (log : List Int), vs = [.int size, .ref a] ∧ SqL K H a (log.map V.int) ∧ log.length ≤ 1000 ∧ RepE K H size log E ∧
  (SizeOk size → Leg (wholeS size.toNat) log → ∀ t r l H', Kp [] H H' → H' t = some (.tup [.ref r, .ref l]) → H' r = some (.lst ((bkR size.toNat log).wr.map V.int)) → H' l = some (.lst ((bkR size.toNat log).wl.map V.int)) → Q (.ref t) H')
def sp_decided_by : Sp := fun vs H Q E => ∃ (a : Addr) (size g : Int) (log : List Int), vs = [.int size, .ref a, .int g] ∧ SqL K H a (log.map V.int) ∧ RepE K H size log E ∧
  (SizeOk size → Leg (wholeS size.toNat) log → ¬ (0 ≤ g ∧ g ≤ size) → ∀ H', Kp [] H H' → Ex K "BadGap" [("gap", .int g)] E H') ∧
  (SizeOk size → Leg (wholeS size.toNat) log → 0 ≤ g → g ≤ size → ∀ H', Kp [] H H' → Q (.int (gI (bkR size.toNat log).de g.toNat)) H')
/-- None or a pair -/
def OptP (H : Hp) (v : V) : Option (Nat × Nat) → Prop
  | none => v = .non
  | some (k, g) => ∃ t, v = .ref t ∧ H t = some (.tup [.int (k : Int), .int (g : Int)])
def sp_first_loss : Sp := fun vs H Q E => ∃ (a : Addr) (size : Int) (log : List Int), vs = [.int size, .ref a] ∧ SqL K H a (log.map V.int) ∧ RepE K H size log E ∧
  (SizeOk size → Leg (wholeS size.toNat) log → ∀ v H', Kp [] H H' → OptP H' v (bkR size.toNat log).ls → Q v H')
end
end G

set_option Elab.async false
set_option linter.all false
set_option maxRecDepth 100000
set_option maxHeartbeats 4000000
/-! What the law's own defs promise. -/
namespace G
open PySem PySem.Spec PyProof.Rows L2
def Bag (H : Hp) (b : Addr) : Prop := ∃ c m t : Int, H b = some (.lst [.int c, .int m, .int t])
/-- the law's own standing: a list of a size and three lists -/
structure LW (H : Hp) (w r l o : Addr) (s : Sd) : Prop where
  ob : H w = some (.lst [.int s.n, .ref r, .ref l, .ref o])
  hr : H r = some (.lst (s.R.map V.int))
  hl : ∃ L' : List Int, H l = some (.lst (L'.map V.int)) ∧ L'.length = s.n + 2 ∧ ∀ v, 1 ≤ v → gI L' v = gI s.L v
  ho : H o = some (.lst (s.O.map V.bl))
  ne : r ≠ l ∧ r ≠ o ∧ l ≠ o ∧ w ≠ r ∧ w ≠ l ∧ w ≠ o
  wf : Wf s
theorem LW.kp {H H' : Hp} {w r l o : Addr} {s : Sd} {S : List Addr} (a : LW H w r l o s) (k : Kp S H H') (h1 : w ∉ S) (h2 : r ∉ S) (h3 : l ∉ S) (h4 : o ∉ S) : LW H' w r l o s := by
  obtain ⟨L', e1, e2⟩ := a.hl
  exact ⟨k _ _ h1 a.ob, k _ _ h2 a.hr, ⟨L', k _ _ h3 e1, e2⟩, k _ _ h4 a.ho, a.ne, a.wf⟩
theorem LW.k0 {H H' : Hp} {w r l o : Addr} {s : Sd} (a : LW H w r l o s) (k : Kp [] H H') : LW H' w r l o s := a.kp k (by simp) (by simp) (by simp) (by simp)
/-- out, by the last operation of the node -/
def outF (log : List Int) (v : Nat) : Bool := match log.reverse.find? (fun x => decide (x.natAbs = v)) with
  | some x => decide (x < 0)
  | none => false
theorem outF_snoc (log : List Int) (op : Int) (v : Nat) : outF (log ++ [op]) v = if op.natAbs = v then decide (op < 0) else outF log v := by
  unfold outF
  rw [List.reverse_append, List.reverse_singleton, List.singleton_append, List.find?_cons]
  by_cases h : op.natAbs = v
  · rw [decide_eq_true h, if_pos h]
  · rw [decide_eq_false h, if_neg h]
theorem run_out {n : Nat} (hn : n ≤ 60) : ∀ log : List Int, (∀ x ∈ log, IsOp n x) → ∀ v, gB (runS (wholeS n) log).O v = outF log v := by
  intro log
  induction log using snoc_ind with
  | h0 =>
    intro _ v
    show gB (List.replicate (n + 2) false) v = false
    unfold gB
    rw [List.getD_eq_getElem?_getD]
    by_cases h : v < n + 2
    · rw [List.getElem?_replicate_of_lt h] <;> rfl
    · rw [List.getElem?_eq_none (by rw [List.length_replicate]; omega)] <;> rfl
  | h1 l x ih =>
    intro h v
    have hx := h x (by simp)
    have lo : (runS (wholeS n) l).O.length = n + 2 := by
      clear ih h hx
      induction l using snoc_ind with
      | h0 => exact List.length_replicate
      | h1 l y ih =>
        rw [runS_snoc]
        show (List.set _ _ _).length = _
        rw [List.length_set, ih]
    rw [runS_snoc, outF_snoc]
    show gB ((runS (wholeS n) l).O.set x.natAbs (decide (x < 0))) v = _
    rw [gB_set (by rw [lo]; have := hx.2; omega), ih (fun y hy => h y (by simp [hy]))]
    by_cases e : x.natAbs = v
    · rw [if_pos e.symm, if_pos e]
    · rw [if_neg (fun z => e z.symm), if_neg e]
/-- each operation turns its node -/
def Alt (log : List Int) : Prop := ∀ i op, log[i]? = some op → outF (log.take i) op.natAbs = decide (0 < op)
theorem leg_of {n : Nat} (hn : n ≤ 60) {log : List Int} (h : ∀ x ∈ log, IsOp n x) (a : Alt log) : Leg (wholeS n) log := by
  intro i op hi
  refine ⟨by rw [runS_n]; exact h op (List.mem_of_getElem? hi), ?_⟩
  rw [run_out hn _ (fun x hx => h x (List.mem_of_mem_take hx))]
  exact a i op hi
theorem Leg.isop {n : Nat} {log : List Int} (h : Leg (wholeS n) log) : ∀ x ∈ log, IsOp n x := by
  intro x hx
  obtain ⟨i, hi⟩ := List.getElem?_of_mem hx
  have := (h i x hi).1
  rwa [runS_n] at this
theorem ok_out {n : Nat} (hn : n ≤ 60) {log : List Int} (h : Leg (wholeS n) log) {op : Int} : OkOp (runS (wholeS n) log) op ↔ IsOp n op ∧ outF log op.natAbs = decide (0 < op) := by
  unfold OkOp
  rw [run_out hn log h.isop, runS_n] <;> rfl

/-- what is due for a size, a log and a gap -/
def FltV (size : Int) (log : List Int) (g : Int) (xs : List V) : Prop :=
  (¬ SizeOk size ∧ xs = [.str "size", .int size]) ∨
  (SizeOk size ∧ ∃ (i : Nat) (op : Int), log[i]? = some op ∧ Leg (wholeS size.toNat) (log.take i) ∧ ¬ OkOp (runS (wholeS size.toNat) (log.take i)) op ∧ xs = [.str (if IsOp size.toNat op then "illegal" else "operation"), .int op, .int (i : Int)]) ∨
  (SizeOk size ∧ Leg (wholeS size.toNat) log ∧ ¬ (0 ≤ g ∧ g ≤ size) ∧ xs = [.str "gap", .int g]) ∨
  (SizeOk size ∧ Leg (wholeS size.toNat) log ∧ (0 ≤ g ∧ g ≤ size) ∧ xs = [.str "done"])
theorem bad_uniq {s : Sd} {log : List Int} {i j : Nat} {a b : Int} (hi : log[i]? = some a) (hj : log[j]? = some b) (li : Leg s (log.take i)) (lj : Leg s (log.take j)) (ni : ¬ OkOp (runS s (log.take i)) a) (nj : ¬ OkOp (runS s (log.take j)) b) : i = j ∧ a = b := by
  have lt : ∀ {i j : Nat} {a : Int}, log[i]? = some a → Leg s (log.take j) → ¬ OkOp (runS s (log.take i)) a → ¬ i < j := by
    intro i j a hi lj ni h
    have := lj i a (by rw [List.getElem?_take_of_lt h]; exact hi)
    rw [List.take_take, Nat.min_eq_left (by omega)] at this
    exact ni this
  have e : i = j := by
    have := lt hi lj ni
    have := lt hj li nj
    omega
  subst e
  exact ⟨rfl, by rw [hi] at hj; injection hj⟩
theorem bad_leg {s : Sd} {log : List Int} {i : Nat} {a : Int} (hi : log[i]? = some a) (ni : ¬ OkOp (runS s (log.take i)) a) (l : Leg s log) : False := ni (l i a hi)
theorem FltV.uniq {size : Int} {log : List Int} {g : Int} {xs ys : List V} (a : FltV size log g xs) (b : FltV size log g ys) : xs = ys := by
  rcases a with ⟨a1, rfl⟩ | ⟨a1, i, op, a2, a3, a4, rfl⟩ | ⟨a1, a2, a3, rfl⟩ | ⟨a1, a2, a3, rfl⟩ <;> rcases b with ⟨b1, rfl⟩ | ⟨b1, j, oq, b2, b3, b4, rfl⟩ | ⟨b1, b2, b3, rfl⟩ | ⟨b1, b2, b3, rfl⟩
  all_goals first
    | rfl
    | exact absurd b1 a1
    | exact absurd a1 b1
    | exact absurd b3 a3
    | exact absurd a3 b3
    | exact (bad_leg a2 a4 b2).elim
    | exact (bad_leg b2 b4 a2).elim
    | (obtain ⟨rfl, rfl⟩ := bad_uniq a2 b2 a3 b3 a4 b4; rfl)
section
def sp__law_bag (K : PySem.W.Frag) : Sp := fun vs H Q E => ∃ (a : Addr) (lane : Int) (ns : List Int), vs = [.ref a, .int lane] ∧ 0 ≤ lane ∧ lane ≤ 1 ∧ SqL K H a (ns.map V.int) ∧ ns.length ≤ 63 ∧ ∀ b H', H b = none → Kp [] H H' → Bag H' b → Q (.ref b) H'
def sp__law_draw (K : PySem.W.Frag) : Sp := fun vs H Q E => ∃ (b : Addr) (many : Int), vs = [.ref b, .int many] ∧ 0 < many ∧ many < 2 ^ 30 ∧ Bag H b ∧ ∀ (d : Int) H', 0 ≤ d → d < many → Kp [b] H H' → Bag H' b → Q (.int d) H'
def sp__law_size (K : PySem.W.Frag) : Sp := fun vs H Q E => ∃ b : Addr, vs = [.ref b] ∧ Bag H b ∧ ∀ (n : Nat) H', n ≤ 60 → Kp [b] H H' → Bag H' b → Q (.int (n : Int)) H'
def sp__law_whole (K : PySem.W.Frag) : Sp := fun vs H Q E => ∃ n : Nat, vs = [.int (n : Int)] ∧ n ≤ 60 ∧ ∀ w r l o H', H w = none → H r = none → H l = none → H o = none → Kp [] H H' → LW H' w r l o (wholeS n) → Q (.ref w) H'
def sp__law_planted (K : PySem.W.Frag) : Sp := fun vs H Q E => ∃ (b : Addr) (n : Nat), vs = [.ref b, .int (n : Int)] ∧ n ≤ 60 ∧ Bag H b ∧ ∀ (ds : List Int) (q : Addr) H', H q = none → (∀ x ∈ ds, IsOp n x) → Alt ds → ds.length ≤ 9 → Kp [b] H H' → Bag H' b → H' q = some (.lst (ds.map V.int)) → Q (.ref q) H'
def sp__law_log (K : PySem.W.Frag) : Sp := fun vs H Q E => ∃ (b : Addr) (n : Nat), vs = [.ref b, .int (n : Int)] ∧ n ≤ 60 ∧ Bag H b ∧ ∀ (ds : List Int) (q : Addr) H', H q = none → (∀ x ∈ ds, IsOp n x) → Alt ds → ds.length ≤ 200 → Kp [b] H H' → Bag H' b → H' q = some (.lst (ds.map V.int)) → Q (.ref q) H'
def sp__law_state (K : PySem.W.Frag) : Sp := fun vs H Q E => ∃ (w r l o : Addr) (s : Sd) (g : Nat), vs = [.ref w, .int (g : Int)] ∧ LW H w r l o s ∧ g ≤ s.n ∧ Q (.str (stT s g)) H
def sp__law_step (K : PySem.W.Frag) : Sp := fun vs H Q E => ∃ (w r l o : Addr) (s : Sd) (op : Int), vs = [.ref w, .int op] ∧ LW H w r l o s ∧ IsOp s.n op ∧ ∀ H', Kp [r, l, o] H H' → LW H' w r l o (stepS s op) → Q .non H'
def sp__law_whole_number (K : PySem.W.Frag) : Sp := fun vs H Q E => ∃ i : Int, vs = [.int i] ∧ Q (.bl true) H
def sp__law_numbers (K : PySem.W.Frag) : Sp := fun vs H Q E => ∃ (a b : Addr) (xs : List Int), vs = [.ref a, .ref b] ∧ xs.length ≤ 1000 ∧ H a = some (.lst (xs.map V.int)) ∧ H b = some (.lst (xs.map V.int)) ∧ Q (.bl true) H
def sp__law_pair (K : PySem.W.Frag) : Sp := fun vs H Q E => ∃ (x y : V) (p : Option (Nat × Nat)), vs = [x, y] ∧ OptP H x p ∧ OptP H y p ∧ Q (.bl true) H
def sp__law_book (K : PySem.W.Frag) : Sp := fun vs H Q E => ∃ (n : Nat) (a : Addr) (log : List Int), vs = [.int (n : Int), .ref a] ∧ n ≤ 60 ∧ SqL K H a (log.map V.int) ∧ log.length ≤ 1000 ∧ Leg (wholeS n) log ∧
  ∀ q r l d v H', Kp [] H H' → H' q = some (.lst [.ref r, .ref l, .ref d, v]) → H' r = some (.lst ((bkR n log).wr.map V.int)) → H' l = some (.lst ((bkR n log).wl.map V.int)) → H' d = some (.lst ((bkR n log).de.map V.int)) → OptP H' v (bkR n log).ls → Q (.ref q) H'
def sp__law_agrees (K : PySem.W.Frag) : Sp := fun vs H Q E => ∃ (n : Nat) (a c : Addr) (log gs : List Int), vs = [.int (n : Int), .ref a, .ref c] ∧ n ≤ 60 ∧ H a = some (.lst (log.map V.int)) ∧ log.length ≤ 1000 ∧ Leg (wholeS n) log ∧ SqL K H c (gs.map V.int) ∧ (∀ g ∈ gs, 0 ≤ g ∧ g ≤ n) ∧ gs.length ≤ 1000 ∧ ∀ H', Kp [] H H' → Q (.bl true) H'
def sp__law_fault (K : PySem.W.Frag) : Sp := fun vs H Q E => ∃ (size g : Int) (a : Addr) (log : List Int), vs = [.int size, .ref a, .int g] ∧ SqL K H a (log.map V.int) ∧ log.length ≤ 1000 ∧ ∀ xs t H', FltV size log g xs → Kp [] H H' → H' t = some (.tup xs) → Q (.ref t) H'
def sp__law_answer (K : PySem.W.Frag) : Sp := fun vs H Q E => ∃ (way size g : Int) (a : Addr) (log : List Int), vs = [.int way, .int size, .ref a, .int g] ∧ (way = 0 ∨ g = 0) ∧ 0 ≤ way ∧ way ≤ 2 ∧ SqL K H a (log.map V.int) ∧ log.length ≤ 1000 ∧ ∀ xs t H', FltV size log g xs → Kp [] H H' → H' t = some (.tup xs) → Q (.ref t) H'
def sp__law_spoilt (K : PySem.W.Frag) : Sp := fun vs H Q E => ∃ (b a : Addr) (n : Nat) (log : List Int), vs = [.ref b, .int (n : Int), .ref a] ∧ n ≤ 60 ∧ Bag H b ∧ a ≠ b ∧ H a = some (.lst (log.map V.int)) ∧ log.length ≤ 400 ∧ ∀ (ds : List Int) (q : Addr) H', H q = none → ds.length ≤ 2 * log.length + 2 → Kp [b] H H' → Bag H' b → H' q = some (.lst (ds.map V.int)) → Q (.ref q) H'
/-- a trial: a size, a log, a gap -/
def Trial (H : Hp) (x : V) : Prop := ∃ (t a : Addr) (size g : Int) (log : List Int), x = .ref t ∧ H t = some (.tup [.int size, .ref a, .int g]) ∧ H a = some (.lst (log.map V.int)) ∧ log.length ≤ 1000
def sp__law_trials (K : PySem.W.Frag) : Sp := fun vs H Q E => ∃ (b a : Addr) (n : Nat) (log : List Int), vs = [.ref b, .int (n : Int), .ref a] ∧ n ≤ 60 ∧ Bag H b ∧ a ≠ b ∧ H a = some (.lst (log.map V.int)) ∧ log.length ≤ 400 ∧ ∀ (xs : List V) (q : Addr) H', Kp [b] H H' → Bag H' b → H' q = some (.lst xs) → xs.length ≤ 100 → (∀ x ∈ xs, Trial H' x) → Q (.ref q) H'
def sp__law_places (K : PySem.W.Frag) : Sp := fun vs H Q E => ∃ (b a : Addr) (n : Nat) (log : List Int), vs = [.ref b, .int (n : Int), .ref a] ∧ n ≤ 60 ∧ Bag H b ∧ a ≠ b ∧ H a = some (.lst (log.map V.int)) ∧ log.length ≤ 500 ∧ (∀ x ∈ log, IsOp n x) ∧ ∀ (gs : List Int) (q : Addr) H', gs.length ≤ 100 → (∀ g ∈ gs, 0 ≤ g ∧ g ≤ n) → Kp [b] H H' → Bag H' b → H' q = some (.lst (gs.map V.int)) → Q (.ref q) H'
def sp__law_refuses (K : PySem.W.Frag) : Sp := fun vs H Q E => ∃ (q : Addr) (xs : List V), vs = [.ref q] ∧ H q = some (.lst xs) ∧ xs.length ≤ 100 ∧ (∀ x ∈ xs, Trial H x) ∧ ∀ H', Kp [] H H' → Q (.bl true) H'
def sp_law (K : PySem.W.Frag) : Sp := fun vs H Q E => ∃ (a : Addr) (ns : List Int), vs = [.ref a] ∧ SqL K H a (ns.map V.int) ∧ ns.length ≤ 63 ∧ ∀ H', Q (.bl true) H'
end
end G

set_option Elab.async false
set_option linter.all false
set_option maxRecDepth 100000
set_option maxHeartbeats 4000000
/-! k10: verdicts, certificates, values of many kinds. -/
namespace G
open PySem PySem.Spec PyProof.Rows L2
/-- a comprehension whose turns change the heap -/
theorem cp_mut {σ : L2.St} {H : Hp} {Q : VK} {te : TE} {tt : TT} {g : TG} {vs : List Nat} {lo : Int} {n : Nat} (Pv : Addr → Nat → List V → Hp → Prop) (hn : n < sizeLine)
    (h0 : ∀ D H', H D = none → Kp [] H H' → H' D = some (.lst []) → Pv D 0 [] H')
    (hs : ∀ (D : Addr) (i : Nat) (acc : List V) (H' : Hp) (S : V → Hp → Prop) (N : Hp → Prop), H D = none → i < n → H' D = some (.lst acc) → Pv D i acc H' →
      (∀ y H4, H4 D = some (.lst acc) → (∀ H5, Kp [D] H4 H5 → H5 D = some (.lst (acc ++ [y])) → Pv D (i + 1) (acc ++ [y]) H5) → S y H4) → (∀ H4, H4 D = some (.lst acc) → Pv D (i + 1) acc H4 → N H4) →
      g (.int (lo + (i : Int))) (wipe σ vs) H' fun σ2 H2 => wipe σ2 vs = wipe σ vs ∧ tt σ2 H2 fun b H3 => if b = true then te σ2 H3 S else N H3)
    (hd : ∀ D acc H', H D = none → H' D = some (.lst acc) → acc.length ≤ n → Pv D n acc H' → Q (.ref D) H') : CompG (Itr lo n) g tt te vs σ Q H := by
  intro D nD
  refine ⟨fun i m H' => m = n - i ∧ i ≤ n ∧ ∃ acc, acc.length ≤ i ∧ H' D = some (.lst acc) ∧ Pv D i acc H', ⟨n, by simp, Nat.zero_le _, [], Nat.le_refl _, upd_same, h0 D _ nD (Kp.new nD) upd_same⟩, ?_⟩
  rintro i m H' ⟨rfl, hi, acc, la, e, p⟩
  by_cases lt : i < n
  · refine .inr ⟨lt, fun H'' => ∃ acc, acc.length ≤ i + 1 ∧ H'' D = some (.lst acc) ∧ Pv D (i + 1) acc H'', fun H'' p => ⟨n - (i + 1), by omega, rfl, lt, p⟩, fun x H'' y => ?_⟩
    obtain ⟨rfl, rfl⟩ := y
    refine hs D i acc _ _ _ nD lt e p (fun y H4 h4 k4 => ⟨acc, h4, by omega, acc ++ [y], by rw [List.length_append]; show acc.length + 1 ≤ _; omega, upd_same, k4 _ (Kp.put (by simp)) upd_same⟩) (fun H4 h4 k4 => ⟨acc, by omega, h4, k4⟩)
  · have ei : i = n := by omega
    subst ei
    exact .inl ⟨Nat.le_refl _, hd D acc H' nD e la p⟩
/-- .. over a list -/
theorem cp_mutL {K : PySem.W.Frag} {σ : L2.St} {H : Hp} {Q : VK} {te : TE} {tt : TT} {g : TG} {vs : List Nat} {a : Addr} {xs : List V} (Pv : Addr → Nat → List V → Hp → Prop) (hn : xs.length < sizeLine)
    (h0 : ∀ D H', H D = none → Kp [] H H' → H' D = some (.lst []) → Pv D 0 [] H')
    (hl : ∀ D i acc H', H D = none → Pv D i acc H' → SqL K H' a xs)
    (hs : ∀ (D : Addr) (i : Nat) (x : V) (acc : List V) (H' : Hp) (S : V → Hp → Prop) (N : Hp → Prop), H D = none → xs[i]? = some x → H' D = some (.lst acc) → Pv D i acc H' →
      (∀ y H4, H4 D = some (.lst acc) → (∀ H5, Kp [D] H4 H5 → H5 D = some (.lst (acc ++ [y])) → Pv D (i + 1) (acc ++ [y]) H5) → S y H4) → (∀ H4, H4 D = some (.lst acc) → Pv D (i + 1) acc H4 → N H4) →
      g x (wipe σ vs) H' fun σ2 H2 => wipe σ2 vs = wipe σ vs ∧ tt σ2 H2 fun b H3 => if b = true then te σ2 H3 S else N H3)
    (hd : ∀ D acc H', H D = none → H' D = some (.lst acc) → acc.length ≤ xs.length → Pv D xs.length acc H' → Q (.ref D) H') : CompG (Itl K a) g tt te vs σ Q H := by
  intro D nD
  refine ⟨fun i m H' => m = xs.length - i ∧ i ≤ xs.length ∧ ∃ acc, acc.length ≤ i ∧ H' D = some (.lst acc) ∧ Pv D i acc H', ⟨xs.length, by simp, Nat.zero_le _, [], Nat.le_refl _, upd_same, h0 D _ nD (Kp.new nD) upd_same⟩, ?_⟩
  rintro i m H' ⟨rfl, hi, acc, la, e, p⟩
  have q := hl D i acc H' nD p
  by_cases lt : i < xs.length
  · refine .inr ⟨⟨xs, xs[i], q, by simp [lt]⟩, fun H'' => ∃ acc, acc.length ≤ i + 1 ∧ H'' D = some (.lst acc) ∧ Pv D (i + 1) acc H'', fun H'' p => ⟨xs.length - (i + 1), by omega, rfl, lt, p⟩, fun x H'' y => ?_⟩
    obtain ⟨rfl, hx⟩ := y
    refine hs D i x acc _ _ _ nD (hx xs q) e p (fun y H4 h4 k4 => ⟨acc, h4, by omega, acc ++ [y], by rw [List.length_append]; show acc.length + 1 ≤ _; omega, upd_same, k4 _ (Kp.put (by simp)) upd_same⟩) (fun H4 h4 k4 => ⟨acc, by omega, h4, k4⟩)
  · have ei : i = xs.length := by omega
    subst ei
    exact .inl ⟨⟨xs, q, Nat.le_refl _⟩, hd D acc H' nD e la p⟩
/-- the nodes that are out, from the least on -/
def outN (n : Nat) (O : List Bool) : List Int := (((List.range n).map fun (v : Nat) => v + 1).filter fun v => gB O v).map fun (v : Nat) => (v : Int)
theorem outN_len (n : Nat) (O : List Bool) : (outN n O).length ≤ n := by
  unfold outN
  rw [List.length_map]
  refine Nat.le_trans (List.length_filter_le _ _) ?_
  rw [List.length_map, List.length_range]
  exact Nat.le_refl _
/-- None or a whole number -/
def Isn (v : V) : Prop := v = .non ∨ ∃ i : Int, v = .int i
/-! a verdict in the heap -/
def vfl (g a b w : V) : List (Str × V) := putF "whole" w (putF "index" b (putF "gap" a (putF "out_nodes" g [])))
theorem m1 : ¬ (("out_nodes" : Str) = "gap") := by decide +kernel
theorem m2 : ¬ (("out_nodes" : Str) = "index") := by decide +kernel
theorem m3 : ¬ (("out_nodes" : Str) = "whole") := by decide +kernel
theorem m4 : ¬ (("gap" : Str) = "index") := by decide +kernel
theorem m5 : ¬ (("gap" : Str) = "whole") := by decide +kernel
theorem m6 : ¬ (("index" : Str) = "whole") := by decide +kernel
theorem vfl_g (g a b w : V) : (vfl g a b w).lookup ("out_nodes" : Str) = some g := by
  unfold vfl
  rw [lookup_putF, if_neg m3, lookup_putF, if_neg m2, lookup_putF, if_neg m1, lookup_putF, if_pos rfl]
theorem vfl_a (g a b w : V) : (vfl g a b w).lookup ("gap" : Str) = some a := by
  unfold vfl
  rw [lookup_putF, if_neg m5, lookup_putF, if_neg m4, lookup_putF, if_pos rfl]
theorem vfl_b (g a b w : V) : (vfl g a b w).lookup ("index" : Str) = some b := by
  unfold vfl
  rw [lookup_putF, if_neg m6, lookup_putF, if_pos rfl]
theorem vfl_w (g a b w : V) : (vfl g a b w).lookup ("whole" : Str) = some w := by
  unfold vfl
  rw [lookup_putF, if_pos rfl]
def whB (a : V) (gone : List Int) : Bool := match a with
  | .non => decide ((gone.length : Int) = 0)
  | _ => false
structure VdAt (K : PySem.W.Frag) (H : Hp) (x g : Addr) (gone : List Int) (a b : V) : Prop where
  ob : ∃ dx, H x = some (.ins (He.ga K "Verdict") dx (vfl (.ref g) a b (.bl (whB a gone))))
  hg : H g = some (.lst (gone.map V.int))
theorem VdAt.kp {K : PySem.W.Frag} {H H' : Hp} {x g : Addr} {gone : List Int} {a b : V} {S : List Addr} (v : VdAt K H x g gone a b) (k : Kp S H H') (h1 : x ∉ S) (h2 : g ∉ S) : VdAt K H' x g gone a b := by
  obtain ⟨dx, h⟩ := v.ob
  exact ⟨⟨dx, k _ _ h1 h⟩, k _ _ h2 v.hg⟩
theorem VdAt.k0 {K : PySem.W.Frag} {H H' : Hp} {x g : Addr} {gone : List Int} {a b : V} (v : VdAt K H x g gone a b) (k : Kp [] H H') : VdAt K H' x g gone a b := v.kp k (by simp) (by simp)
/-- what the verdict of a log is due to tell -/
def VF (n : Nat) (log : List Int) (v w : V) : Prop :=
  (∃ i : Nat, i ≤ n ∧ (∀ j, j < i → stT (runS (wholeS n) log) j = "joined") ∧ stT (runS (wholeS n) log) i ≠ "joined" ∧ v = .int (i : Int) ∧ w = .int (gI (bkR n log).de i)) ∨
  ((∀ j, j ≤ n → stT (runS (wholeS n) log) j = "joined") ∧ v = .non ∧ w = .non)
theorem VF.isn {n : Nat} {log : List Int} {v w : V} (h : VF n log v w) : Isn v ∧ Isn w := by
  rcases h with ⟨i, _, _, _, rfl, rfl⟩ | ⟨_, rfl, rfl⟩
  · exact ⟨.inr ⟨_, rfl⟩, .inr ⟨_, rfl⟩⟩
  · exact ⟨.inl rfl, .inl rfl⟩
/-- the certificate of a gap -/
def paper (n : Nat) (log : List Int) (i : Nat) : List V := [.str (stT (runS (wholeS n) log) i), .int (gI (bkR n log).wr i), .int (gI (bkR n log).wl i)]
def PapersAt (H : Hp) (p : Addr) (n : Nat) (log : List Int) : Prop := ∃ ps : List V, H p = some (.lst ps) ∧ ps.length = n + 1 ∧ ∀ i, i ≤ n → ∃ t, ps[i]? = some (.ref t) ∧ H t = some (.tup (paper n log i))
def outS (n : Nat) (log : List Int) : List Int := outN n (runS (wholeS n) log).O
def BookAt (H : Hp) (q : Addr) (n : Nat) (log : List Int) : Prop := ∃ p d g, H q = some (.lst [.ref p, .ref d, .ref g]) ∧ PapersAt H p n log ∧ H d = some (.lst ((bkR n log).de.map V.int)) ∧ H g = some (.lst ((outS n log).map V.int))
theorem PapersAt.k0 {H H' : Hp} {p : Addr} {n : Nat} {log : List Int} (a : PapersAt H p n log) (k : Kp [] H H') : PapersAt H' p n log := by
  obtain ⟨ps, h1, h2, h3⟩ := a
  refine ⟨ps, k.at0 h1, h2, fun i hi => ?_⟩
  obtain ⟨t, h4, h5⟩ := h3 i hi
  exact ⟨t, h4, k.at0 h5⟩
theorem PapersAt.k1 {H H' : Hp} {p b : Addr} {n : Nat} {log : List Int} (a : PapersAt H p n log) (hb : Bag H b) (ne : p ≠ b) (k : Kp [b] H H') : PapersAt H' p n log := by
  obtain ⟨ps, h1, h2, h3⟩ := a
  refine ⟨ps, k.at1 ne h1, h2, fun i hi => ?_⟩
  obtain ⟨t, h4, h5⟩ := h3 i hi
  obtain ⟨c, m, t', hb⟩ := hb
  exact ⟨t, h4, k.at1 (ne_of h5 hb (by intro z; cases z)) h5⟩
/-! values of many kinds, apart from b -/
mutual
inductive Vl (b : Addr) (H : Hp) : V → PyData → Prop
  | non : Vl b H .non .none
  | bl (k : Bool) : Vl b H (.bl k) (.bool k)
  | int (i : Int) : Vl b H (.int i) (.int i)
  | str (x : Str) : Vl b H (.str x) (.str x)
  | lst {a : Addr} {xs : List V} {ds : List PyData} : a ≠ b → H a = some (.lst xs) → VlA b H xs ds → Vl b H (.ref a) (.list ds)
  | tup {a : Addr} {xs : List V} {ds : List PyData} : a ≠ b → H a = some (.tup xs) → VlA b H xs ds → Vl b H (.ref a) (.tuple ds)
inductive VlA (b : Addr) (H : Hp) : List V → List PyData → Prop
  | nil : VlA b H [] []
  | cons {v : V} {vs : List V} {d : PyData} {ds : List PyData} : Vl b H v d → VlA b H vs ds → VlA b H (v :: vs) (d :: ds)
end
mutual
theorem Vl.dp {K : PySem.W.Frag} {b : Addr} {H : Hp} : ∀ (d : PyData) (v : V), Vl b H v d → Dp K H v d
  | .none, _, h => by cases h; exact .non
  | .bool b, _, h => by cases h; exact .bl b
  | .int i, _, h => by cases h; exact .int i
  | .str x, _, h => by cases h; exact .str x
  | .list ds, _, h => by
    cases h with
    | lst ne hs ha => exact .lst (SqL.of hs) (VlA.dp ds _ ha)
  | .tuple ds, _, h => by
    cases h with
    | tup ne hs ha => exact .tup (SqT.of hs) (VlA.dp ds _ ha)
  | .dict _, _, h => by cases h
theorem VlA.dp {K : PySem.W.Frag} {b : Addr} {H : Hp} : ∀ (ds : List PyData) (vs : List V), VlA b H vs ds → DpAll K H vs ds
  | [], _, h => by cases h; exact .nil
  | d :: ds, _, h => by
    cases h with
    | cons h1 h2 => exact .cons (Vl.dp d _ h1) (VlA.dp ds _ h2)
end
mutual
theorem Vl.kp {b : Addr} {H H' : Hp} (k : Kp [b] H H') : ∀ (d : PyData) (v : V), Vl b H v d → Vl b H' v d
  | .none, _, h => by cases h; exact .non
  | .bool b, _, h => by cases h; exact .bl b
  | .int i, _, h => by cases h; exact .int i
  | .str x, _, h => by cases h; exact .str x
  | .list ds, _, h => by
    cases h with
    | lst ne hs ha => exact .lst ne (k.at1 ne hs) (VlA.kp k ds _ ha)
  | .tuple ds, _, h => by
    cases h with
    | tup ne hs ha => exact .tup ne (k.at1 ne hs) (VlA.kp k ds _ ha)
  | .dict _, _, h => by cases h
theorem VlA.kp {b : Addr} {H H' : Hp} (k : Kp [b] H H') : ∀ (ds : List PyData) (vs : List V), VlA b H vs ds → VlA b H' vs ds
  | [], _, h => by cases h; exact .nil
  | d :: ds, _, h => by
    cases h with
    | cons h1 h2 => exact .cons (Vl.kp k d _ h1) (VlA.kp k ds _ h2)
end
theorem Vl.k0 {b : Addr} {H H' : Hp} {v : V} {d : PyData} (h : Vl b H v d) (k : Kp [] H H') : Vl b H' v d := Vl.kp k.all d v h
/-- no truth value stands where a whole number should -/
def okv : PyData → Bool
  | .tuple [_, .bool _, _] => false
  | .tuple [_, _, .bool _] => false
  | _ => true
structure Val (b : Addr) (H : Hp) (v : V) : Prop where
  ex : ∃ d, Vl b H v d ∧ SeqAt.shaped d = true ∧ okv d = true
theorem Val.k1 {b : Addr} {H H' : Hp} {v : V} (h : Val b H v) (k : Kp [b] H H') : Val b H' v := by
  obtain ⟨d, h1, h2⟩ := h.ex
  exact ⟨d, Vl.kp k d v h1, h2⟩
/-- the value is the certificate -/
def cerB (d : PyData) (s : Str) (i j : Int) : Bool := match d with
  | .tuple [.str t, .int k, .int l] => decide (t = s) && (decide (k = i) && decide (l = j))
  | _ => false
def isS : PyData → Bool
  | .str _ => true
  | _ => false
def isI : PyData → Bool
  | .int _ => true
  | _ => false
def isTu : PyData → Bool
  | .tuple _ => true
  | _ => false
theorem cer_of (a b c : PyData) (s : Str) (i j : Int) : cerB (.tuple [a, b, c]) s i j = (isS a && ((isI b && isI c) && PyData.eqv (.tuple [a, b, c]) (.tuple [.str s, .int i, .int j]))) := by
  cases a <;> cases b <;> cases c <;> simp [cerB, isS, isI, PyData.eqv, PyData.eqvAll, Bool.beq_eq_decide_eq]
theorem cer_okv {d : PyData} (h : okv d = true) (s : Str) (i j : Int) : cerB d s i j = PyData.eqv d (.tuple [.str s, .int i, .int j]) := by
  cases d with
  | tuple ds =>
    match ds with
    | [] => simp [cerB, PyData.eqv, PyData.eqvAll]
    | [a] => simp [cerB, PyData.eqv, PyData.eqvAll]
    | [a, b] => simp [cerB, PyData.eqv, PyData.eqvAll]
    | [a, b, c] =>
      rw [cer_of]
      cases a <;> cases b <;> cases c <;> simp_all [isS, isI, okv, PyData.eqv, PyData.eqvAll]
    | a :: b :: c :: d :: e => simp [cerB, PyData.eqv, PyData.eqvAll]
  | _ => simp [cerB, PyData.eqv]
theorem cer_len {ds : List PyData} (h : ds.length ≠ 3) (s : Str) (i j : Int) : cerB (.tuple ds) s i j = false := by
  match ds with
  | [] => rfl
  | [a] => simp [cerB]
  | [a, b] => simp [cerB]
  | [a, b, c] => exact absurd rfl h
  | a :: b :: c :: d :: e => simp [cerB]
theorem cer_tu {d : PyData} (h : isTu d = false) (s : Str) (i j : Int) : cerB d s i j = false := by
  cases d <;> simp_all [isTu, cerB]
/-! promises -/
section
def sp_Links_outs (K : PySem.W.Frag) : Sp := fun vs H Q E => ∃ (p r l o : Addr) (s : Sd), vs = [.ref p] ∧ LinksAt K H p r l o s ∧ ∀ q H', H q = none → Kp [] H H' → H' q = some (.lst ((outN s.n s.O).map V.int)) → Q (.ref q) H'
def sp_Verdict___init__ (K : PySem.W.Frag) : Sp := fun vs H Q E => ∃ (p l dx : Addr) (a b : V) (gone : List Int), vs = [.ref p, .ref l, a, b] ∧ H p = some (.ins (He.ga K "Verdict") dx []) ∧ p ≠ l ∧ SqL K H l (gone.map V.int) ∧ gone.length ≤ 1000 ∧ Isn a ∧
  ∀ g H', H g = none → Kp [p] H H' → VdAt K H' p g gone a b → Q .non H'
def sp_verdict (K : PySem.W.Frag) : Sp := fun vs H Q E => ∃ (a : Addr) (size : Int) (log : List Int), vs = [.int size, .ref a] ∧ SqL K H a (log.map V.int) ∧ log.length ≤ 1000 ∧ RepE K H size log E ∧
  (SizeOk size → Leg (wholeS size.toNat) log → ∀ x g v w H', Kp [] H H' → VdAt K H' x g (outS size.toNat log) v w → VF size.toNat log v w → Q (.ref x) H')
def sp__law_number_or_none (K : PySem.W.Frag) : Sp := fun vs H Q E => ∃ v : V, vs = [v, v] ∧ Isn v ∧ Q (.bl true) H
def sp__law_bears (K : PySem.W.Frag) : Sp := fun vs H Q E => ∃ (x g c : Addr) (gone : List Int) (v w : V), vs = [.ref x, .ref c, v, w] ∧ VdAt K H x g gone v w ∧ H c = some (.lst (gone.map V.int)) ∧ gone.length ≤ 1000 ∧ Isn v ∧ Isn w ∧ Q (.bl true) H
def sp10__law_book (K : PySem.W.Frag) : Sp := fun vs H Q E => ∃ (n : Nat) (a : Addr) (log : List Int), vs = [.int (n : Int), .ref a] ∧ n ≤ 60 ∧ SqL K H a (log.map V.int) ∧ log.length ≤ 1000 ∧ Leg (wholeS n) log ∧ ∀ q H', Kp [] H H' → BookAt H' q n log → Q (.ref q) H'
def sp__law_verdict_fits (K : PySem.W.Frag) : Sp := fun vs H Q E => ∃ (x g q : Addr) (n : Nat) (log : List Int) (v w : V), vs = [.ref x, .ref q] ∧ n ≤ 60 ∧ VdAt K H x g (outS n log) v w ∧ VF n log v w ∧ BookAt H q n log ∧ Q (.bl true) H
def sp__law_made (K : PySem.W.Frag) : Sp := fun vs H Q E => ∃ (c : Addr) (gone : List Int) (v w : V), vs = [.ref c, v, w] ∧ H c = some (.lst (gone.map V.int)) ∧ gone.length ≤ 10 ∧ Isn v ∧ Isn w ∧ ∀ H', Kp [] H H' → Q (.bl true) H'
def sp__law_is_paper (K : PySem.W.Frag) : Sp := fun vs H Q E => ∃ (t u : Addr) (s : Str) (i j : Int), vs = [.ref t, .ref u] ∧ H t = some (.tup [.str s, .int i, .int j]) ∧ H u = some (.tup [.str s, .int i, .int j]) ∧ Q (.bl true) H
def sp__law_bents (K : PySem.W.Frag) : Sp := fun vs H Q E => ∃ (b u o : Addr) (by_ i j i' j' : Int) (s s' : Str), vs = [.ref u, .ref o, .int by_] ∧ H u = some (.tup [.str s, .int i, .int j]) ∧ H o = some (.tup [.str s', .int i', .int j']) ∧ PyData.strOk s = true ∧ PyData.strOk s' = true ∧
  -2000 ≤ i ∧ i ≤ 2000 ∧ u ≠ b ∧ o ≠ b ∧ H b ≠ none ∧ ∀ q xs H', H q = none → Kp [] H H' → H' q = some (.lst xs) → 1 ≤ xs.length → xs.length ≤ 100 → (∀ x ∈ xs, Val b H' x) → Q (.ref q) H'
def sp_is_plain_integer (K : PySem.W.Frag) : Sp := fun vs H Q E => ∃ (b : Addr) (x : V) (d : PyData), vs = [x] ∧ Vl b H x d ∧ Q (.bl (isI d)) H
def sp_gap_certificate (K : PySem.W.Frag) : Sp := fun vs H Q E => ∃ (a : Addr) (size g : Int) (log : List Int), vs = [.int size, .ref a, .int g] ∧ SqL K H a (log.map V.int) ∧ log.length ≤ 1000 ∧ RepE K H size log E ∧
  (SizeOk size → Leg (wholeS size.toNat) log → ¬ (0 ≤ g ∧ g ≤ size) → ∀ H', Kp [] H H' → Ex K "BadGap" [("gap", .int g)] E H') ∧
  (SizeOk size → Leg (wholeS size.toNat) log → 0 ≤ g → g ≤ size → ∀ t H', Kp [] H H' → H' t = some (.tup (paper size.toNat log g.toNat)) → Q (.ref t) H')
def sp_is_gap_certificate (K : PySem.W.Frag) : Sp := fun vs H Q E => ∃ (a b : Addr) (size g : Int) (log : List Int) (x : V) (d : PyData), vs = [.int size, .ref a, .int g, x] ∧ SqL K H a (log.map V.int) ∧ log.length ≤ 1000 ∧ Vl b H x d ∧ SeqAt.shaped d = true ∧ RepE K H size log E ∧
  (SizeOk size → Leg (wholeS size.toNat) log → ¬ (0 ≤ g ∧ g ≤ size) → ∀ H', Kp [] H H' → Ex K "BadGap" [("gap", .int g)] E H') ∧
  (SizeOk size → Leg (wholeS size.toNat) log → 0 ≤ g → g ≤ size → ∀ H', Kp [] H H' → Q (.bl (cerB d (stT (runS (wholeS size.toNat) log) g.toNat) (gI (bkR size.toNat log).wr g.toNat) (gI (bkR size.toNat log).wl g.toNat))) H')
def sp__law_judged (K : PySem.W.Frag) : Sp := fun vs H Q E => ∃ (n g : Nat) (a b u : Addr) (log : List Int) (x : V) (d : PyData), vs = [.int (n : Int), .ref a, .int (g : Int), x, .ref u] ∧ n ≤ 60 ∧ g ≤ n ∧ SqL K H a (log.map V.int) ∧ log.length ≤ 1000 ∧ Leg (wholeS n) log ∧
  Vl b H x d ∧ SeqAt.shaped d = true ∧ okv d = true ∧ H u = some (.tup (paper n log g)) ∧ ∀ H', Kp [] H H' → Q (.bl true) H'
def sp__law_papers_fit (K : PySem.W.Frag) : Sp := fun vs H Q E => ∃ (n : Nat) (a c p b : Addr) (log gs : List Int), vs = [.int (n : Int), .ref a, .ref c, .ref p, .ref b] ∧ n ≤ 60 ∧ H a = some (.lst (log.map V.int)) ∧ log.length ≤ 1000 ∧ Leg (wholeS n) log ∧ H c = some (.lst (gs.map V.int)) ∧ gs ≠ [] ∧
  (∀ g ∈ gs, 0 ≤ g ∧ g ≤ n) ∧ gs.length ≤ 1000 ∧ PapersAt H p n log ∧ Bag H b ∧ a ≠ b ∧ c ≠ b ∧ p ≠ b ∧ ∀ H', Kp [b] H H' → Bag H' b → Q (.bl true) H'
def sp10__law_agrees (K : PySem.W.Frag) : Sp := fun vs H Q E => ∃ (n : Nat) (a c b : Addr) (log gs : List Int), vs = [.int (n : Int), .ref a, .ref c, .ref b] ∧ n ≤ 60 ∧ H a = some (.lst (log.map V.int)) ∧ log.length ≤ 1000 ∧ Leg (wholeS n) log ∧ H c = some (.lst (gs.map V.int)) ∧ gs ≠ [] ∧
  (∀ g ∈ gs, 0 ≤ g ∧ g ≤ n) ∧ gs.length ≤ 1000 ∧ Bag H b ∧ a ≠ b ∧ c ≠ b ∧ ∀ H', Kp [b] H H' → Bag H' b → Q (.bl true) H'
def sp10__law_answer (K : PySem.W.Frag) : Sp := fun vs H Q E => ∃ (way size g : Int) (a : Addr) (log : List Int), vs = [.int way, .int size, .ref a, .int g] ∧ (way ≤ 1 ∨ g = 0) ∧ 0 ≤ way ∧ way ≤ 2 ∧ SqL K H a (log.map V.int) ∧ log.length ≤ 1000 ∧ ∀ xs t H', FltV size log g xs → Kp [] H H' → H' t = some (.tup xs) → Q (.ref t) H'
def sp10__law_places (K : PySem.W.Frag) : Sp := fun vs H Q E => ∃ (b a : Addr) (n : Nat) (log : List Int), vs = [.ref b, .int (n : Int), .ref a] ∧ n ≤ 60 ∧ Bag H b ∧ a ≠ b ∧ H a = some (.lst (log.map V.int)) ∧ log.length ≤ 500 ∧ (∀ x ∈ log, IsOp n x) ∧ ∀ (gs : List Int) (q : Addr) H', H q = none → gs ≠ [] → gs.length ≤ 100 → (∀ g ∈ gs, 0 ≤ g ∧ g ≤ n) → Kp [b] H H' → Bag H' b → H' q = some (.lst (gs.map V.int)) → Q (.ref q) H'
end
end G

set_option Elab.async false
set_option linter.all false
set_option maxRecDepth 100000
set_option maxHeartbeats 4000000
/-! Texts of numbers, and of standings. -/
namespace G
open PySem PySem.Spec PyProof.Rows L2 TL
def numI (i : Int) : Str := Str.ofString (toString i)
def spS : Str := " "
def barS : Str := " | "
def joinI (l : List Int) : Str := Txt.join spS (l.map numI)
theorem tl_numI {i : Int} (h : 0 ≤ i) : tl (numI i) = numL i.toNat := by
  obtain ⟨n, rfl⟩ : ∃ n : Nat, i = (n : Int) := ⟨i.toNat, by omega⟩
  rw [Int.toNat_natCast]
  exact tl_num n
theorem tl_spS : tl spS = [32] := by decide +kernel
theorem tl_barS : tl barS = [32, 124, 32] := by decide +kernel
theorem numI_len {i : Int} (h : 0 ≤ i) (h2 : i < 1000000000) : (numI i).length ≤ 9 := by
  rw [len_tl, tl_numI h]
  exact numL_len (by decide) (by omega)
theorem numI_pos {i : Int} (h : 0 ≤ i) : 1 ≤ (numI i).length := by
  rw [len_tl, tl_numI h]
  exact List.length_pos_iff.mpr (numL_ne _)
theorem split_joinI {l : List Int} (hne : l ≠ []) (h : ∀ i ∈ l, 0 ≤ i) : Txt.split (joinI l) spS = l.map numI := by
  refine split_join (y := spS) (s := 32) (S := []) tl_spS (by decide +kernel) (by simpa using hne) fun p hp => ?_
  obtain ⟨i, hi, rfl⟩ := List.mem_map.mp hp
  rw [tl_numI (h i hi)]
  exact numL_free (by omega)
theorem joinL_len (S : List Nat) : ∀ ps : List (List Nat), (joinL S ps).length ≤ (ps.map List.length).sum + ps.length * S.length
  | [] => by simp [joinL]
  | [p] => by simp [joinL]
  | p :: q :: r => by
    have ih := joinL_len S (q :: r)
    show (p ++ (S ++ joinL S (q :: r))).length ≤ _
    simp only [List.length_append, List.map_cons, List.sum_cons, List.length_cons, Nat.add_mul, Nat.one_mul] at ih ⊢
    omega
theorem sum_le9 : ∀ {l : List Int}, (∀ i ∈ l, 0 ≤ i ∧ i < 1000000000) → ((l.map numI).map (·.length)).sum ≤ 9 * l.length
  | [], _ => by simp
  | i :: l, h => by
    have ih := sum_le9 (l := l) fun j hj => h j (List.mem_cons_of_mem _ hj)
    have h0 := h i List.mem_cons_self
    have := numI_len h0.1 h0.2
    simp only [List.map_cons, List.sum_cons, List.length_cons]
    omega
theorem joinI_len {l : List Int} (h : ∀ i ∈ l, 0 ≤ i ∧ i < 1000000000) : (joinI l).length ≤ 10 * l.length := by
  unfold joinI
  rw [len_tl, join_eq, tl_join]
  refine Nat.le_trans (joinL_len _ _) ?_
  have := sum_le9 h
  rw [tl_spS, List.map_map, List.length_map, List.length_map]
  have e : (List.map (List.length ∘ tl) (List.map numI l)).sum = ((l.map numI).map (·.length)).sum := by
    congr 1
  rw [e]
  show _ + l.length * 1 ≤ _
  omega
theorem join_cost {l : List Int} (h : ∀ i ∈ l, 0 ≤ i ∧ i < 1000000000) (hl : l.length ≤ 1000) : ((l.map numI).map (·.length)).sum + (l.map numI).length * spS.length ≤ 16777216 := by
  have := sum_le9 h
  have e : spS.length = 1 := by decide +kernel
  rw [e, List.length_map]
  omega
theorem intText_num {i : Int} (h : 0 ≤ i) (h2 : i < 1000000000) : intText? (numI i) = some i := by
  obtain ⟨n, rfl⟩ : ∃ n : Nat, i = (n : Int) := ⟨i.toNat, by omega⟩
  refine int_num ?_
  have := numL_len (n := n) (k := 9) (by decide) (by omega)
  omega
theorem numI_inj {i j : Int} (hi : 0 ≤ i) (hj : 0 ≤ j) (e : numI i = numI j) : i = j := by
  have e2 := congrArg tl e
  rw [tl_numI hi, tl_numI hj] at e2
  have := numL_inj e2
  omega
theorem zeroS : numI 0 = ("0" : Str) := by decide +kernel
theorem numI_ne0 {i : Int} (h : 1 ≤ i) : ¬ numI i = ("0" : Str) := fun e => by
  rw [← zeroS] at e
  have := numI_inj (by omega) (by omega) e
  omega
theorem numL_head : ∀ n : Nat, 1 ≤ n → ∀ c r, numL n = c :: r → c ≠ 48 := by
  intro n
  induction n using Nat.strongRecOn with
  | _ n ih =>
    intro h c r e
    by_cases h10 : n < 10
    · rw [numL_lt h10] at e
      injection e with e1 e2
      omega
    · rw [numL_step (by omega)] at e
      cases e2 : numL (n / 10) with
      | nil => exact absurd e2 (numL_ne _)
      | cons d t =>
        rw [e2, List.cons_append] at e
        injection e with e3 e4
        have := ih (n / 10) (by omega) (by omega) d t e2
        omega
def digS : Str := "0123456789"
theorem digs_mem {c : Nat} (h : 48 ≤ c ∧ c ≤ 57) : c ∈ digS.cps.toList := by
  have e : digS.cps.toList = [48, 49, 50, 51, 52, 53, 54, 55, 56, 57] := by decide +kernel
  rw [e]
  have : c = 48 ∨ c = 49 ∨ c = 50 ∨ c = 51 ∨ c = 52 ∨ c = 53 ∨ c = 54 ∨ c = 55 ∨ c = 56 ∨ c = 57 := by omega
  simp only [List.mem_cons, List.not_mem_nil, or_false]
  exact this
theorem numI_digits {i : Int} (h : 0 ≤ i) {c : Nat} (hc : c ∈ (numI i).cps.toList) : c ∈ digS.cps.toList := by
  have e : (numI i).cps.toList = numL i.toNat := tl_numI h
  rw [e] at hc
  exact digs_mem (numL_digits _ _ hc)
/-! ### a text's parts -/
def GoodP (p : List Nat) : Prop := 124 ∉ p ∧ ∀ q, p ≠ q ++ [32]
theorem pre_bar {x y : Nat} (r : List Nat) (h : y ≠ 124) : pre [32, 124, 32] (x :: y :: r) = false := by
  cases hp : pre [32, 124, 32] (x :: y :: r) with
  | false => rfl
  | true =>
    have e : (x :: y :: r).take 3 = [32, 124, 32] := eq_of_beq hp
    rw [List.take_succ_cons, List.take_succ_cons] at e
    injection e with e1 e2
    injection e2 with e3 e4
    exact absurd e3 h
theorem good_free {p rest : List Nat} (g : GoodP p) : ∀ i, i < p.length → pre [32, 124, 32] ((p ++ rest).drop i) = false := by
  intro i hi
  have h1 : i < (p ++ rest).length := by rw [List.length_append]; omega
  have e1 : (p ++ rest).drop i = (p ++ rest)[i] :: (p ++ rest).drop (i + 1) := List.drop_eq_getElem_cons h1
  have e2 : (p ++ rest)[i] = p[i] := List.getElem_append_left hi
  rw [e1, e2]
  by_cases c : p[i] = 32
  · have lt : i + 1 < p.length := by
      apply Classical.byContradiction
      intro nlt
      have ei : i = p.length - 1 := by omega
      refine g.2 p.dropLast ?_
      have hne : p ≠ [] := fun z => by rw [z] at hi; simp at hi
      have := List.dropLast_concat_getLast hne
      rw [← this]
      congr 1
      · rw [List.dropLast_concat]
      · congr 1
        rw [List.getLast_eq_getElem]
        subst ei
        exact c
    have h2 : i + 1 < (p ++ rest).length := by rw [List.length_append]; omega
    have e3 : (p ++ rest).drop (i + 1) = (p ++ rest)[i + 1] :: (p ++ rest).drop (i + 2) := List.drop_eq_getElem_cons h2
    have e4 : (p ++ rest)[i + 1] = p[i + 1] := List.getElem_append_left lt
    rw [e3, e4]
    exact pre_bar _ fun z => g.1 (by rw [← z]; exact List.getElem_mem lt)
  · exact pre_of_head _ _ c
theorem split_bar {a b c : Str} (ga : GoodP (tl a)) (gb : GoodP (tl b)) (gc : GoodP (tl c)) : Txt.split (Txt.join barS [a, b, c]) barS = [a, b, c] := by
  refine map_tl_inj ?_
  rw [split_spl _ barS (by rw [tl_barS]; simp) (kind_ok (by decide +kernel)), join_eq, tl_join, tl_barS]
  show spl [32, 124, 32] 0 [] (tl a ++ ([32, 124, 32] ++ (tl b ++ ([32, 124, 32] ++ tl c)))) = [tl a, tl b, tl c]
  rw [spl_part (by simp) (good_free ga), spl_part (by simp) (good_free gb), spl_last (fun i hi => by
    have := good_free (rest := []) gc i hi
    rw [List.append_nil] at this
    exact this)]
  rfl
theorem joinL_mem {S : List Nat} {c : Nat} : ∀ {ps : List (List Nat)}, c ∈ joinL S ps → c ∈ S ∨ ∃ p ∈ ps, c ∈ p
  | [], h => by cases h
  | [p], h => .inr ⟨p, List.mem_singleton.mpr rfl, h⟩
  | p :: q :: r, h => by
    have h : c ∈ p ++ (S ++ joinL S (q :: r)) := h
    rcases List.mem_append.mp h with h | h
    · exact .inr ⟨p, List.mem_cons_self, h⟩
    rcases List.mem_append.mp h with h | h
    · exact .inl h
    rcases joinL_mem h with h | ⟨z, hz, h⟩
    · exact .inl h
    · exact .inr ⟨z, List.mem_cons_of_mem _ hz, h⟩
theorem joinL_last {S : List Nat} : ∀ {ps : List (List Nat)}, ps ≠ [] → (∀ p ∈ ps, p ≠ [] ∧ ∀ q, p ≠ q ++ [32]) → joinL S ps ≠ [] ∧ ∀ q, joinL S ps ≠ q ++ [32]
  | [], h, _ => absurd rfl h
  | [p], _, h => h p (List.mem_singleton.mpr rfl)
  | p :: q :: r, _, h => by
    obtain ⟨i1, i2⟩ := joinL_last (S := S) (ps := q :: r) (by simp) fun z hz => h z (List.mem_cons_of_mem _ hz)
    have hj : joinL S (p :: q :: r) = (p ++ S) ++ joinL S (q :: r) := (List.append_assoc ..).symm
    rw [hj]
    refine ⟨fun z => i1 (List.append_eq_nil_iff.mp z).2, fun t ht => ?_⟩
    have e := congrArg List.getLast? ht
    rw [List.getLast?_append, List.getLast?_concat, List.getLast?_eq_some_getLast i1, Option.some_or] at e
    have d := List.dropLast_concat_getLast i1
    have gl : (joinL S (q :: r)).getLast i1 = 32 := by injection e
    rw [gl] at d
    exact i2 _ d.symm
theorem numL_last (n : Nat) : ∀ q, numL n ≠ q ++ [32] := fun q e => by
  have := numL_digits n 32 (by rw [e]; simp)
  omega
theorem good_joinI {l : List Int} (hne : l ≠ []) (h : ∀ i ∈ l, 0 ≤ i) : GoodP (tl (joinI l)) := by
  unfold joinI
  rw [join_eq, tl_join, tl_spS]
  have hp : ∀ p ∈ (l.map numI).map tl, ∃ n, p = numL n := by
    intro p hp
    obtain ⟨z, hz, rfl⟩ := List.mem_map.mp hp
    obtain ⟨i, hi, rfl⟩ := List.mem_map.mp hz
    exact ⟨_, tl_numI (h i hi)⟩
  refine ⟨fun hm => ?_, (joinL_last (by simpa using hne) fun p hq => ?_).2⟩
  · rcases joinL_mem hm with z | ⟨p, hq, z⟩
    · simp at z
    · obtain ⟨n, rfl⟩ := hp p hq
      have := numL_digits n _ z
      omega
  · obtain ⟨n, rfl⟩ := hp p hq
    exact ⟨numL_ne n, numL_last n⟩
def noneS : Str := "none"
theorem good_none : GoodP (tl noneS) := by
  have e : tl noneS = [110, 111, 110, 101] := by decide +kernel
  rw [e]
  refine ⟨by decide, fun q h => ?_⟩
  have := congrArg List.getLast? h
  rw [List.getLast?_concat] at this
  simp at this
/-! ### the dump -/
def outsT (l : List Int) : Str := if l = [] then noneS else joinI l
def dumpS (s : Sd) : Str := Txt.join barS [joinI s.R, joinI (s.L.drop 1), outsT (outN s.n s.O)]
theorem joinI_ne_none {l : List Int} (hne : l ≠ []) (h : ∀ i ∈ l, 0 ≤ i) : ¬ joinI l = noneS := fun e => by
  have e2 := split_joinI hne h
  rw [e] at e2
  have d : Txt.split noneS spS = [noneS] := by
    refine map_tl_inj ?_
    rw [split_spl _ spS (by rw [tl_spS]; simp) (kind_ok (by decide +kernel))]
    decide +kernel
  rw [d] at e2
  match l, hne with
  | i :: r, _ =>
    rw [List.map_cons] at e2
    injection e2 with e3 e4
    have hi := h i List.mem_cons_self
    have t := congrArg tl e3
    rw [tl_numI hi] at t
    have m : (110 : Nat) ∈ numL i.toNat := by
      rw [← t]
      decide +kernel
    have := numL_digits _ _ m
    omega
theorem outN_bd {n : Nat} {O : List Bool} {i : Int} (h : i ∈ outN n O) : 1 ≤ i ∧ i ≤ n ∧ gB O i.toNat = true := by
  unfold outN at h
  obtain ⟨v, hv, rfl⟩ := List.mem_map.mp h
  obtain ⟨h1, h2⟩ := List.mem_filter.mp hv
  obtain ⟨u, hu, rfl⟩ := List.mem_map.mp h1
  have := List.mem_range.mp hu
  refine ⟨by omega, by omega, ?_⟩
  rw [Int.toNat_natCast]
  exact h2
end G

set_option Elab.async false
set_option linter.all false
set_option maxRecDepth 100000
set_option maxHeartbeats 4000000
/-! k07, k06: standings read from texts; what an operation changes. -/
namespace G
open PySem PySem.Spec PyProof.Rows L2
/-- a standing that can be read back: no left link of the head, the sentinels in -/
structure Snd (s : Sd) : Prop where
  l0 : ∃ t, s.L = 0 :: t
  o0 : gB s.O 0 = false
  o1 : gB s.O (s.n + 1) = false
theorem stepS_snd {s : Sd} (w : Wf s) (d : Snd s) {op : Int} (h : IsOp s.n op) : Snd (stepS s op) := by
  obtain ⟨t, e⟩ := d.l0
  obtain ⟨r1, r2⟩ := w.rb op.natAbs (by have := h.2; omega)
  have h1 := h.1
  have h2 := h.2
  refine ⟨?_, ?_, ?_⟩
  · obtain ⟨k, ek⟩ : ∃ k, (gI s.R op.natAbs).toNat = k + 1 := ⟨(gI s.R op.natAbs).toNat - 1, by omega⟩
    refine ⟨t.set k (if op < 0 then gI s.L op.natAbs else (op.natAbs : Int)), ?_⟩
    show s.L.set (gI s.R op.natAbs).toNat _ = _
    rw [ek]
    generalize (if op < 0 then gI s.L op.natAbs else (op.natAbs : Int)) = v
    rw [e]
    rfl
  · show gB (s.O.set op.natAbs _) 0 = false
    rw [gB_set (by rw [w.lO]; omega), if_neg (by omega)]
    exact d.o0
  · show gB (s.O.set op.natAbs _) (s.n + 1) = false
    rw [gB_set (by rw [w.lO]; omega), if_neg (by omega)]
    exact d.o1
theorem runS_snd {s : Sd} (w : Wf s) (d : Snd s) : ∀ {log : List Int}, Leg s log → Snd (runS s log) := by
  intro log
  induction log using snoc_ind with
  | h0 => exact fun _ => d
  | h1 l x ih =>
    intro h
    have h1 : Leg s l := by
      have := h.take l.length
      rwa [List.take_left' rfl] at this
    have h2 := h l.length x (by simp)
    rw [List.take_left' rfl] at h2
    rw [runS_snoc]
    exact stepS_snd (h1.wf w) (ih h1) h2.1
theorem wholeS_snd (n : Nat) : Snd (wholeS n) := by
  refine ⟨⟨_, rfl⟩, ?_, ?_⟩
  · exact gB_of (by show (List.replicate (n + 2) false)[0]? = _; rw [List.getElem?_replicate_of_lt (by omega)])
  · exact gB_of (by show (List.replicate (n + 2) false)[n + 1]? = _; rw [List.getElem?_replicate_of_lt (by omega)])
/-! ### the gaps of foreign writes -/
def forW (s : Sd) (x : Nat) : List Int :=
  (if gI s.L x ≠ (x : Int) - 1 ∧ gI s.R (gI s.L x).toNat = gI s.L x + 1 then [gI s.L x] else []) ++
  (if gI s.R x ≠ (x : Int) + 1 ∧ gI s.L (gI s.R x).toNat = gI s.R x - 1 then [gI s.R x - 1] else [])
theorem forW_len (s : Sd) (x : Nat) : (forW s x).length ≤ 2 := by
  unfold forW
  rw [List.length_append]
  split <;> split <;> simp
/-! ### changes -/
abbrev Tr := Nat × Str × Str
def trV (t : Tr) : List V := [.int (t.1 : Int), .str t.2.1, .str t.2.2]
def chg (s s' : Sd) : List Tr := ((List.range (s.n + 1)).filter fun g => !decide (stT s g = stT s' g)).map fun g => (g, stT s g, stT s' g)
def TupsAt (H : Hp) (xs : List V) (ts : List Tr) : Prop := xs.length = ts.length ∧ ∀ (i : Nat) (t : Tr), ts[i]? = some t → ∃ a, xs[i]? = some (.ref a) ∧ H a = some (.tup (trV t))
theorem TupsAt.kp {S : List Addr} {H H' : Hp} {xs : List V} {ts : List Tr} (h : TupsAt H xs ts) (k : Kp S H H') (hS : ∀ b ∈ S, ∀ ys, H b ≠ some (.tup ys)) : TupsAt H' xs ts := by
  refine ⟨h.1, fun i t e => ?_⟩
  obtain ⟨a, h1, h2⟩ := h.2 i t e
  exact ⟨a, h1, k _ _ (fun z => hS a z _ h2) h2⟩
theorem TupsAt.k0 {H H' : Hp} {xs : List V} {ts : List Tr} (h : TupsAt H xs ts) (k : Kp [] H H') : TupsAt H' xs ts := h.kp k (by simp)
theorem TupsAt.snoc {H : Hp} {xs : List V} {ts : List Tr} {a : Addr} {t : Tr} (h : TupsAt H xs ts) (ha : H a = some (.tup (trV t))) : TupsAt H (xs ++ [.ref a]) (ts ++ [t]) := by
  refine ⟨by rw [List.length_append, List.length_append, h.1] <;> rfl, fun i u e => ?_⟩
  by_cases c : i < ts.length
  · rw [List.getElem?_append_left c] at e
    obtain ⟨b, h1, h2⟩ := h.2 i u e
    exact ⟨b, by rw [List.getElem?_append_left (by rw [h.1]; exact c)]; exact h1, h2⟩
  · have hl := (List.getElem?_eq_some_iff.mp e).1
    rw [List.length_append] at hl
    have ei : i = ts.length := by simp at hl; omega
    subst ei
    rw [List.getElem?_append_right (Nat.le_refl _), Nat.sub_self] at e
    have eu : t = u := by simpa using e
    subst eu
    exact ⟨a, by rw [List.getElem?_append_right (by rw [h.1]; exact Nat.le_refl _), h.1, Nat.sub_self] <;> rfl, ha⟩
theorem TupsAt.nil {H : Hp} : TupsAt H [] [] := ⟨rfl, fun i t e => by simp at e⟩
theorem chg_len (s s' : Sd) : (chg s s').length ≤ s.n + 1 := by
  unfold chg
  rw [List.length_map]
  have := List.length_filter_le (fun g => !decide (stT s g = stT s' g)) (List.range (s.n + 1))
  rw [List.length_range] at this
  exact this
/-- the two ends of an operation: the gap, its state behind it -/
structure Ends2 (s : Sd) (op : Int) (es : List (Nat × Str)) : Prop where
  ex : ∃ c1 c2 : Bool, es = (if c1 then [(lowN s op, stT (stepS s op) (lowN s op))] else []) ++ (if c2 then [(hiN s op, stT (stepS s op) (hiN s op))] else []) ∧
    (c1 = false → stT (stepS s op) (lowN s op) = stT s (lowN s op)) ∧ (c2 = false → stT (stepS s op) (hiN s op) = stT s (hiN s op))
def chE (s : Sd) (es : List (Nat × Str)) : List Tr := (es.filter fun e => !decide (stT s e.1 = e.2)).map fun e => (e.1, stT s e.1, e.2)
theorem filter_two {n a b : Nat} {p : Nat → Bool} (hab : a < b) (hb : b < n) (h : ∀ g, g < n → g ≠ a → g ≠ b → p g = false) : (List.range n).filter p = (if p a then [a] else []) ++ (if p b then [b] else []) := by
  have key : ∀ m, (List.range m).filter p = (if a < m ∧ p a = true then [a] else []) ++ (if b < m ∧ p b = true then [b] else []) ∨ n < m := by
    intro m
    induction m with
    | zero => left; rw [if_neg (by omega), if_neg (by omega)]; rfl
    | succ m ih =>
      by_cases hm : n < m + 1
      · exact .inr hm
      rcases ih with ih | ih
      · left
        rw [List.range_succ, List.filter_append, ih]
        by_cases e1 : m = a
        · subst e1
          rw [if_neg (by omega), if_neg (by omega : ¬ (b < m ∧ p b = true)), if_neg (by omega : ¬ (b < m + 1 ∧ p b = true))]
          cases hp : p m with
          | true => rw [List.filter_cons_of_pos hp, if_pos ⟨by omega, rfl⟩]; rfl
          | false => rw [List.filter_cons_of_neg (by rw [hp]; exact Bool.false_ne_true), if_neg (by simp)]; rfl
        · by_cases e2 : m = b
          · subst e2
            rw [if_neg (by omega : ¬ (m < m ∧ p m = true))]
            have i1 : (a < m ∧ p a = true) = (a < m + 1 ∧ p a = true) := by
              refine propext ⟨fun z => ⟨by omega, z.2⟩, fun z => ⟨by omega, z.2⟩⟩
            simp only [i1, List.append_nil]
            cases hp : p m with
            | true => rw [List.filter_cons_of_pos hp, if_pos (⟨by omega, rfl⟩ : m < m + 1 ∧ true = true)]; rfl
            | false => rw [List.filter_cons_of_neg (by rw [hp]; exact Bool.false_ne_true), if_neg (by simp : ¬ (m < m + 1 ∧ false = true))]; rfl
          · rw [List.filter_cons_of_neg (by rw [h m (by omega) e1 e2]; exact Bool.false_ne_true)]
            have i1 : (a < m ∧ p a = true) = (a < m + 1 ∧ p a = true) := by
              refine propext ⟨fun z => ⟨by omega, z.2⟩, fun z => ⟨by omega, z.2⟩⟩
            have i2 : (b < m ∧ p b = true) = (b < m + 1 ∧ p b = true) := by
              refine propext ⟨fun z => ⟨by omega, z.2⟩, fun z => ⟨by omega, z.2⟩⟩
            simp only [i1, i2]
            rw [List.filter_nil, List.append_nil]
      · omega
  rcases key n with k | k
  · rw [k]
    congr 1
    · by_cases c : p a = true
      · rw [if_pos ⟨by omega, c⟩, if_pos c]
      · rw [if_neg (fun z => c z.2), if_neg c]
    · by_cases c : p b = true
      · rw [if_pos ⟨by omega, c⟩, if_pos c]
      · rw [if_neg (fun z => c z.2), if_neg c]
  · omega
theorem ends_chg {s : Sd} (w : Wf s) {op : Int} (h : IsOp s.n op) {es : List (Nat × Str)} (e : Ends2 s op es) : chE s es = chg s (stepS s op) := by
  obtain ⟨t1, t2, t3, t4, t5⟩ := touch_bd w h
  unfold chg
  rw [filter_two (a := lowN s op) (b := hiN s op) (by omega) (by omega) (fun g hg g1 g2 => by rw [step_st w h g1 g2, decide_eq_true rfl]; rfl)]
  obtain ⟨c1, c2, rfl, h1, h2⟩ := e.ex
  unfold chE
  rw [List.filter_append, List.map_append, List.map_append]
  congr 1
  · cases c1 with
    | true =>
      by_cases d : stT s (lowN s op) = stT (stepS s op) (lowN s op)
      · rw [decide_eq_true d]
        simp [d]
      · rw [decide_eq_false d]
        simp [d]
    | false =>
      have d := h1 rfl
      rw [d, decide_eq_true rfl]
      rfl
  · cases c2 with
    | true =>
      by_cases d : stT s (hiN s op) = stT (stepS s op) (hiN s op)
      · rw [decide_eq_true d]
        simp [d]
      · rw [decide_eq_false d]
        simp [d]
    | false =>
      have d := h2 rfl
      rw [d, decide_eq_true rfl]
      rfl
theorem ne_w : ¬ ("joined" : Str) = "lost" ∧ ¬ ("left" : Str) = "lost" ∧ ¬ ("right" : Str) = "lost" ∧ ¬ ("left" : Str) = "joined" ∧ ¬ ("right" : Str) = "joined" ∧ ¬ ("lost" : Str) = "joined" ∧ ¬ ("right" : Str) = "left" ∧ ¬ ("lost" : Str) = "left" ∧ ¬ ("lost" : Str) = "right" ∧ ¬ ("joined" : Str) = "left" ∧ ¬ ("joined" : Str) = "right" ∧ ¬ ("left" : Str) = "right" := by
  decide +kernel
theorem stT_lost {s : Sd} {g : Nat} : stT s g = "lost" ↔ gI s.R g ≠ (g : Int) + 1 ∧ gI s.L (g + 1) ≠ (g : Int) := by
  obtain ⟨a, b, c, _⟩ := ne_w
  unfold stT
  by_cases h1 : gI s.R g = (g : Int) + 1 <;> by_cases h2 : gI s.L (g + 1) = (g : Int)
  · rw [if_pos h1, if_pos h2]
    exact ⟨fun z => absurd z a, fun z => absurd h1 z.1⟩
  · rw [if_pos h1, if_neg h2]
    exact ⟨fun z => absurd z b, fun z => absurd h1 z.1⟩
  · rw [if_neg h1, if_pos h2]
    exact ⟨fun z => absurd z c, fun z => absurd h2 z.2⟩
  · rw [if_neg h1, if_neg h2]
    exact ⟨fun _ => ⟨h1, h2⟩, fun _ => rfl⟩
theorem step_gR {s : Sd} (w : Wf s) {op : Int} (h : IsOp s.n op) (g : Nat) : gI (stepS s op).R g = if g = lowN s op then (if op < 0 then (hiN s op : Int) + 1 else (op.natAbs : Int)) else gI s.R g := by
  obtain ⟨t1, t2, t3, t4, t5⟩ := touch_bd w h
  show gI (s.R.set _ _) g = _
  rw [gI_set (by rw [w.lR, t4]; have := h.2; omega), t4, Int.toNat_natCast, t5]
theorem step_gL {s : Sd} (w : Wf s) {op : Int} (h : IsOp s.n op) (g : Nat) : gI (stepS s op).L (g + 1) = if g = hiN s op then (if op < 0 then (lowN s op : Int) else (op.natAbs : Int)) else gI s.L (g + 1) := by
  obtain ⟨t1, t2, t3, t4, t5⟩ := touch_bd w h
  show gI (s.L.set _ _) (g + 1) = _
  rw [gI_set (by rw [w.lL, t5]; omega), t5, t4, show ((hiN s op : Int) + 1).toNat = hiN s op + 1 by omega]
  by_cases c : g = hiN s op
  · rw [if_pos c, if_pos (by omega)]
  · rw [if_neg c, if_neg (by omega)]
/-- what is lost stays lost -/
theorem lost_stays {s : Sd} (w : Wf s) {op : Int} (h : IsOp s.n op) {g : Nat} (hl : stT s g = "lost") : stT (stepS s op) g = "lost" := by
  obtain ⟨t1, t2, t3, t4, t5⟩ := touch_bd w h
  obtain ⟨a, b⟩ := stT_lost.mp hl
  refine stT_lost.mpr ⟨?_, ?_⟩
  · rw [step_gR w h]
    by_cases c : g = lowN s op
    · rw [if_pos c]
      by_cases o : op < 0
      · rw [if_pos o]
        omega
      · rw [if_neg o]
        intro z
        have e : g + 1 = op.natAbs := by omega
        rw [e, t4] at b
        omega
    · rw [if_neg c]
      exact a
  · rw [step_gL w h]
    by_cases c : g = hiN s op
    · rw [if_pos c]
      by_cases o : op < 0
      · rw [if_pos o]
        omega
      · rw [if_neg o]
        intro z
        have e : g = op.natAbs := by omega
        rw [e, t5] at a
        omega
    · rw [if_neg c]
      exact b
/-- the state of the lower gap behind the operation -/
theorem st_low {s : Sd} (w : Wf s) {op : Int} (h : IsOp s.n op) : stT (stepS s op) (lowN s op) = if lowN s op + 1 = op.natAbs then (if 0 < op then ("joined" : Str) else "right") else (if gI s.L (lowN s op + 1) = (lowN s op : Int) then ("right" : Str) else "lost") := by
  obtain ⟨t1, t2, t3, t4, t5⟩ := touch_bd w h
  have h1 := h.1
  have eR : gI (stepS s op).R (lowN s op) = if op < 0 then (hiN s op : Int) + 1 else (op.natAbs : Int) := by rw [step_gR w h, if_pos rfl]
  have eL : gI (stepS s op).L (lowN s op + 1) = gI s.L (lowN s op + 1) := by rw [step_gL w h, if_neg (by omega)]
  unfold stT
  rw [eR, eL]
  by_cases c : lowN s op + 1 = op.natAbs
  · rw [if_pos c]
    have e : gI s.L (lowN s op + 1) = (lowN s op : Int) := by rw [c]; exact t4
    rw [if_pos e, if_pos e]
    by_cases o : op < 0
    · rw [if_pos o, if_neg (by omega), if_neg (by omega)]
    · rw [if_neg o, if_pos (by omega), if_pos (by omega)]
  · rw [if_neg c]
    by_cases o : op < 0
    · rw [if_pos o, if_neg (by omega)]
    · rw [if_neg o, if_neg (by omega)]
theorem st_hi {s : Sd} (w : Wf s) {op : Int} (h : IsOp s.n op) : stT (stepS s op) (hiN s op) = if hiN s op = op.natAbs then (if 0 < op then ("joined" : Str) else "left") else (if gI s.R (hiN s op) = (hiN s op : Int) + 1 then ("left" : Str) else "lost") := by
  obtain ⟨t1, t2, t3, t4, t5⟩ := touch_bd w h
  have h1 := h.1
  have eR : gI (stepS s op).R (hiN s op) = gI s.R (hiN s op) := by rw [step_gR w h, if_neg (by omega)]
  have eL : gI (stepS s op).L (hiN s op + 1) = if op < 0 then (lowN s op : Int) else (op.natAbs : Int) := by rw [step_gL w h, if_pos rfl]
  unfold stT
  rw [eR, eL]
  by_cases c : hiN s op = op.natAbs
  · rw [if_pos c]
    have e : gI s.R (hiN s op) = (hiN s op : Int) + 1 := by rw [c, t5, c]
    rw [if_pos e]
    by_cases o : op < 0
    · rw [if_pos o, if_neg (by omega), if_neg (by omega)]
    · rw [if_neg o, if_pos (by omega), if_pos (by omega)]
  · rw [if_neg c]
    have n1 : ¬ (if op < 0 then (lowN s op : Int) else (op.natAbs : Int)) = (hiN s op : Int) := by
      by_cases o : op < 0
      · rw [if_pos o]
        omega
      · rw [if_neg o]
        omega
    rw [if_neg n1, if_neg n1]
/-! ### promises -/
section
def Num9 (l : List Int) : Prop := ∀ i ∈ l, 0 ≤ i ∧ i < 1000000000
/-- a new list -/
def NewL (H : Hp) (xs : List V) (Q : VK) : Prop := ∀ a H', H a = none → Kp [] H H' → H' a = some (.lst xs) → Q (.ref a) H'
def Any (H : Hp) (v : V) (Q : VK) : Prop := ∀ H', Kp [] H H' → Q v H'
def sp_is_positive (K : PySem.W.Frag) : Sp := fun vs H Q E => ∃ i : Int, vs = [.str (numI i)] ∧ 1 ≤ i ∧ i < 1000000000 ∧ Any H (.bl true) Q
def sp__read_numbers (K : PySem.W.Frag) : Sp := fun vs H Q E => ∃ (l : List Int) (part : Int), vs = [.str (joinI l), .int part] ∧ l ≠ [] ∧ Num9 l ∧ l.length ≤ 100 ∧ NewL H (l.map V.int) Q
def sp__read_rights (K : PySem.W.Frag) : Sp := fun vs H Q E => ∃ (n : Nat) (l : List Int), vs = [.str (joinI l)] ∧ n ≤ 60 ∧ l.length = n + 1 ∧ (∀ v, v ≤ n → (v : Int) < gI l v ∧ gI l v ≤ (n : Int) + 1) ∧ NewL H (l.map V.int) Q
def sp__read_lefts (K : PySem.W.Frag) : Sp := fun vs H Q E => ∃ (n : Nat) (l : List Int), vs = [.str (joinI l), .int (n : Int)] ∧ n ≤ 60 ∧ l.length = n + 1 ∧ (∀ v, v ≤ n → 0 ≤ gI l v ∧ gI l v ≤ (v : Int)) ∧ NewL H (l.map V.int) Q
def sp__read_outs (K : PySem.W.Frag) : Sp := fun vs H Q E => ∃ (n : Nat) (O : List Bool), vs = [.str (outsT (outN n O)), .int (n : Int)] ∧ n ≤ 60 ∧ NewL H ((outN n O).map V.int) Q
def sp_Links_read (K : PySem.W.Frag) : Sp := fun vs H Q E => ∃ s : Sd, vs = [.str (dumpS s)] ∧ Wf s ∧ Snd s ∧ NewS K H s Q
def sp__joined (K : PySem.W.Frag) : Sp := fun vs H Q E => ∃ (a : Addr) (l : List Int), vs = [.ref a] ∧ SqL K H a (l.map V.int) ∧ Num9 l ∧ l.length ≤ 100 ∧ Any H (.str (joinI l)) Q
def sp_dump_of (K : PySem.W.Frag) : Sp := fun vs H Q E => ∃ (r l o : Addr) (R L O : List Int), vs = [.ref r, .ref l, .ref o] ∧ SqL K H r (R.map V.int) ∧ SqL K H l (L.map V.int) ∧ SqL K H o (O.map V.int) ∧ (Num9 R ∧ R.length ≤ 100) ∧ (Num9 L ∧ L.length ≤ 100) ∧ (Num9 O ∧ O.length ≤ 100) ∧
  Any H (.str (Txt.join barS [joinI R, joinI L, outsT O])) Q
def sp_Links_dump (K : PySem.W.Frag) : Sp := fun vs H Q E => ∃ (p r l o : Addr) (s : Sd), vs = [.ref p] ∧ LinksAt K H p r l o s ∧ Any H (.str (dumpS s)) Q
def sp_foreign_writes (K : PySem.W.Frag) : Sp := fun vs H Q E => ∃ (p r l o : Addr) (s : Sd) (op : Int), vs = [.ref p, .int op] ∧ LinksAt K H p r l o s ∧ (OkOp s op → NewL H ((forW s op.natAbs).map V.int) Q) ∧ (¬ OkOp s op → OpE K s.n op 0 E H)
def sp_gap_changes (K : PySem.W.Frag) : Sp := fun vs H Q E => ∃ (p r l o : Addr) (s : Sd) (op : Int), vs = [.ref p, .int op] ∧ LinksAt K H p r l o s ∧
  (OkOp s op → ∀ xs q H', H q = none → Kp [] H H' → H' q = some (.lst xs) → TupsAt H' xs (chg s (stepS s op)) → Q (.ref q) H') ∧ (¬ OkOp s op → ∀ H', Kp [] H H' → OpE K s.n op 0 E H')
def sp__law_standing (K : PySem.W.Frag) : Sp := fun vs H Q E => ∃ (b : Addr) (n : Nat), vs = [.ref b, .int (n : Int)] ∧ n ≤ 60 ∧ Bag H b ∧ ∀ (s : Sd) w r l o H', s.n = n → Snd s → H w = none → H r = none → H l = none → H o = none → Kp [b] H H' → Bag H' b → LW H' w r l o s → Q (.ref w) H'
def sp__law_text (K : PySem.W.Frag) : Sp := fun vs H Q E => ∃ (w r l o : Addr) (s : Sd), vs = [.ref w] ∧ LW H w r l o s ∧ Any H (.str (dumpS s)) Q
def sp__law_words (K : PySem.W.Frag) : Sp := fun vs H Q E => ∃ (a b : Addr) (xs : List Str), vs = [.ref a, .ref b] ∧ xs.length ≤ 1000 ∧ H a = some (.lst (xs.map V.str)) ∧ H b = some (.lst (xs.map V.str)) ∧ Q (.bl true) H
def sp__law_triples (K : PySem.W.Frag) : Sp := fun vs H Q E => ∃ (a b : Addr) (xs ys : List V) (ts : List Tr), vs = [.ref a, .ref b] ∧ ts.length ≤ 1000 ∧ H a = some (.lst xs) ∧ H b = some (.lst ys) ∧ TupsAt H xs ts ∧ TupsAt H ys ts ∧ (∀ t ∈ ts, PyData.strOk t.2.1 = true ∧ PyData.strOk t.2.2 = true) ∧ Q (.bl true) H
def sp__law_states (K : PySem.W.Frag) : Sp := fun vs H Q E => ∃ (w r l o : Addr) (s : Sd), vs = [.ref w] ∧ LW H w r l o s ∧ NewL H ((List.range (s.n + 1)).map fun (v : Nat) => V.str (stT s v)) Q
def legO (s : Sd) (v : Nat) : Int := if gB s.O v then (v : Int) else -(v : Int)
def sp__law_legal (K : PySem.W.Frag) : Sp := fun vs H Q E => ∃ (w r l o : Addr) (s : Sd) (v : Nat), vs = [.ref w, .int (v : Int)] ∧ LW H w r l o s ∧ 1 ≤ v ∧ v ≤ s.n ∧ Q (.int (legO s v)) H
def sp__law_foreign (K : PySem.W.Frag) : Sp := fun vs H Q E => ∃ (w r l o : Addr) (s : Sd) (v : Nat), vs = [.ref w, .int (v : Int)] ∧ LW H w r l o s ∧ 1 ≤ v ∧ v ≤ s.n ∧ NewL H ((forW s v).map V.int) Q
/-- the pairs of a gap and a state -/
def PrsAt (H : Hp) (xs : List V) (es : List (Nat × Str)) : Prop := xs.length = es.length ∧ ∀ (i : Nat) (e : Nat × Str), es[i]? = some e → ∃ a, xs[i]? = some (.ref a) ∧ H a = some (.tup [.int (e.1 : Int), .str e.2])
def sp__law_ends (K : PySem.W.Frag) : Sp := fun vs H Q E => ∃ (w r l o : Addr) (s : Sd) (op : Int), vs = [.ref w, .int op] ∧ LW H w r l o s ∧ IsOp s.n op ∧ ∀ es xs q H', Ends2 s op es → H q = none → Kp [] H H' → H' q = some (.lst xs) → PrsAt H' xs es → Q (.ref q) H'
def sp__law_changes (K : PySem.W.Frag) : Sp := fun vs H Q E => ∃ (w r l o : Addr) (s : Sd) (op : Int), vs = [.ref w, .int op] ∧ LW H w r l o s ∧ IsOp s.n op ∧ ∀ xs q H', H q = none → Kp [] H H' → H' q = some (.lst xs) → TupsAt H' xs (chg s (stepS s op)) → Q (.ref q) H'
def sp7__law_agrees (K : PySem.W.Frag) : Sp := fun vs H Q E => ∃ (p r l o w wr wl wo : Addr) (s : Sd) (v : Nat), vs = [.ref p, .ref w, .int (v : Int)] ∧ LinksAt K H p r l o s ∧ LW H w wr wl wo s ∧ 1 ≤ v ∧ v ≤ s.n ∧ Any H (.bl true) Q
def sp__law_all_agree (K : PySem.W.Frag) : Sp := fun vs H Q E => ∃ (p r l o w wr wl wo a : Addr) (s : Sd) (ns : List Int), vs = [.ref p, .ref w, .ref a] ∧ LinksAt K H p r l o s ∧ LW H w wr wl wo s ∧ SqL K H a (ns.map V.int) ∧ (∀ x ∈ ns, 1 ≤ x ∧ x ≤ s.n) ∧ Any H (.bl true) Q
def sp__law_refusal (K : PySem.W.Frag) : Sp := fun vs H Q E => ∃ (p r l o : Addr) (s : Sd) (way op : Int), vs = [.int way, .ref p, .int op] ∧ LinksAt K H p r l o s ∧ ¬ OkOp s op ∧ ∀ t H', Kp [] H H' → H' t = some (.tup [.str (if IsOp s.n op then "not legal" else "no operation"), .int op, .int 0]) → Q (.ref t) H'
def sp7__law_refuses (K : PySem.W.Frag) : Sp := fun vs H Q E => ∃ (p r l o w wr wl wo a : Addr) (s : Sd) (ns : List Int) (far : Int), vs = [.ref p, .ref w, .ref a, .int far] ∧ LinksAt K H p r l o s ∧ LW H w wr wl wo s ∧ SqL K H a (ns.map V.int) ∧ (∀ x ∈ ns, 1 ≤ x ∧ x ≤ s.n) ∧ 0 ≤ far ∧ Any H (.bl true) Q
def sp__law_nodes (K : PySem.W.Frag) : Sp := fun vs H Q E => ∃ (b : Addr) (n : Nat), vs = [.ref b, .int (n : Int)] ∧ n ≤ 60 ∧ Bag H b ∧ ∀ (ns : List Int) a H', (∀ x ∈ ns, 1 ≤ x ∧ x ≤ n) → H a = none → Kp [b] H H' → Bag H' b → H' a = some (.lst (ns.map V.int)) → Q (.ref a) H'
/-- what stands apart -/
structure Apart (p r l o w wr wl wo b : Addr) : Prop where
  a1 : r ≠ wr ∧ r ≠ wl ∧ r ≠ wo ∧ l ≠ wr ∧ l ≠ wl ∧ l ≠ wo ∧ o ≠ wr ∧ o ≠ wl ∧ o ≠ wo
  a2 : w ≠ r ∧ w ≠ l ∧ w ≠ o ∧ p ≠ wr ∧ p ≠ wl ∧ p ≠ wo
  a3 : b ≠ p ∧ b ≠ r ∧ b ≠ l ∧ b ≠ o ∧ b ≠ w ∧ b ≠ wr ∧ b ≠ wl ∧ b ≠ wo
def sp__law_run (K : PySem.W.Frag) : Sp := fun vs H Q E => ∃ (p r l o w wr wl wo b : Addr) (s : Sd), vs = [.ref p, .ref w, .ref b] ∧ LinksAt K H p r l o s ∧ LW H w wr wl wo s ∧ Bag H b ∧ Apart p r l o w wr wl wo b ∧ 1 ≤ s.n ∧ Snd s ∧
  ∀ s' H', s'.n = s.n → LinksAt K H' p r l o s' → LW H' w wr wl wo s' → Kp [b, r, l, o, wr, wl, wo] H H' → Q (.bl true) H'
end
end G

set_option Elab.async false
set_option linter.all false
set_option maxRecDepth 100000
set_option maxHeartbeats 4000000
/-! Comprehensions over texts and pairs; cuts; all. -/
namespace G
open PySem PySem.Spec PyProof.Rows L2
section
variable {K : PySem.W.Frag} {σ : L2.St} {H : Hp} {Q : VK} {te : TE} {tt : TT} {g : TG} {vs : List Nat} {p : Addr} {xs ys : List V}
theorem cp_str {x : Str} (items : Nat → List V) (hz : ∀ i, i < x.cps.size → (items i).length < sizeLine) (h0 : items 0 = [])
    (hs : ∀ (i : Nat) (c : Nat) (H' : Hp) (S : V → Hp → Prop) (N : Hp → Prop), x.cps[i]? = some c → Kp [] H H' → (∀ y H4, Kp [] H' H4 → items (i + 1) = items i ++ [y] → S y H4) → (∀ H4, Kp [] H' H4 → items (i + 1) = items i → N H4) →
      g (.str ⟨#[c]⟩) (wipe σ vs) H' fun σ2 H2 => wipe σ2 vs = wipe σ vs ∧ tt σ2 H2 fun b H3 => if b = true then te σ2 H3 S else N H3)
    (hd : ∀ D H', H D = none → Kp [] H H' → H' D = some (.lst (items x.cps.size)) → Q (.ref D) H') : CompG (Its x) g tt te vs σ Q H :=
  cp_go (n := x.cps.size) items (fun _ => True) hz h0 (fun _ _ => trivial) (fun i H' hi _ => hi) (fun H' _ => Nat.le_refl _) (fun i v H' H'' S N hi k y a b => by
    obtain ⟨rfl, c, hc, rfl⟩ := y
    exact hs i c H'' S N hc k a b) hd
theorem cp_zip {a b : Addr} (h1 : SqL K H a xs) (h2 : SqL K H b ys) (hl : ys.length ≤ xs.length) (items : Nat → List V) (hz : ∀ i, i < ys.length → (items i).length < sizeLine) (h0 : items 0 = [])
    (hs : ∀ (i : Nat) (x y : V) (T : Addr) (H' : Hp) (S : V → Hp → Prop) (N : Hp → Prop), xs[i]? = some x → ys[i]? = some y → Kp [] H H' → H' T = none → (∀ z H4, Kp [] H' H4 → items (i + 1) = items i ++ [z] → S z H4) → (∀ H4, Kp [] H' H4 → items (i + 1) = items i → N H4) →
      g (.ref T) (wipe σ vs) (upd H' T (.tup [x, y])) fun σ2 H2 => wipe σ2 vs = wipe σ vs ∧ tt σ2 H2 fun b H3 => if b = true then te σ2 H3 S else N H3)
    (hd : ∀ D H', H D = none → Kp [] H H' → H' D = some (.lst (items ys.length)) → Q (.ref D) H') : CompG (Itz K a b) g tt te vs σ Q H :=
  cp_go (n := ys.length) items (fun H' => SqL K H' a xs ∧ SqL K H' b ys) hz h0 (fun _ k => ⟨k.sql (by simp) h1, k.sql (by simp) h2⟩)
    (fun i H' hi q => ⟨xs, ys, xs[i]'(by omega), ys[i], q.1, q.2, by simp [show i < xs.length by omega], by simp [hi]⟩) (fun H' q => ⟨xs, ys, q.1, q.2, .inr (Nat.le_refl _)⟩) (fun i v H' H'' S N hi k y e1 e2 => by
    obtain ⟨T, x, y, rfl, nT, rfl, hx, hy⟩ := y
    exact hs i x y T H' S N (hx xs (k.sql (by simp) h1)) (hy ys (k.sql (by simp) h2)) k nT e1 e2) hd
theorem w_slL {lo hi : Option Int} (h : SqL K H p xs) (g : ∀ q H', H q = none → Kp [] H H' → H' q = some (.lst (cutV xs lo hi)) → Q (.ref q) H') : rSlL K (.ref p) lo hi H Q := ⟨p, xs, rfl, h, nw g⟩
theorem cut_drop (xs : List V) (k : Nat) (h : k ≤ xs.length) : cutV xs (some (k : Int)) none = xs.drop k := by
  unfold cutV
  rw [HT.sIx_nat, HT.sIx_none, Nat.min_eq_left h]
  refine List.take_of_length_le ?_
  rw [List.length_drop] <;> omega
theorem cut_take (xs : List V) (k : Nat) (h : k ≤ xs.length) : cutV xs none (some (k : Int)) = xs.take k := by
  unfold cutV
  rw [HT.sIx_nat, HT.sIx_none, Nat.min_eq_left h, List.drop_zero, Nat.sub_zero]
theorem w_allT {n : Nat} (h : SqL K H p (List.replicate n (V.bl true))) (g : Q (.bl true) H) : rAll K [.ref p] H Q := ⟨p, List.replicate n true, rfl, by rw [List.map_replicate]; exact h, by
  have e : (List.replicate n true).all id = true := by
    rw [List.all_eq_true]
    intro x hx
    rw [(List.mem_replicate.mp hx).2] <;> rfl
  rw [e]
  exact g⟩
theorem w_asu {D : Ends} {k : Nat} {ts : TGs} (h : te σ H fun v H0 => gUnl K k ts v σ H0 D.nx) : tAsg te (gUnl K k ts) D σ H := h
theorem rep_snoc {α : Type} (n : Nat) (x : α) : List.replicate (n + 1) x = List.replicate n x ++ [x] := List.replicate_succ'
theorem map_snoc {l : List Int} {i : Nat} {x : Int} {f : Int → V} (h : l[i]? = some x) : (l.take (i + 1)).map f = (l.take i).map f ++ [f x] := by
  rw [List.take_succ, h, List.map_append] <;> rfl
end
/-! ### joins behind an if -/
section
variable {σ : L2.St} {H : Hp} {s1 s2 a b : TS} {t : TT} {D : Ends}
def SeqIf (t : TT) (a b s2 : TS) : TS := tSeq (tIfS t a b) s2
theorem w_seqI (g : SeqIf t a b s2 D σ H) : tSeq (tIfS t a b) s2 D σ H := g
theorem w_seqO (g : tSeq (tIfS t a b) s2 D σ H) : SeqIf t a b s2 D σ H := g
theorem w_ifK (P : Hp → Prop) (h1 : ∀ N : L2.St → Hp → Prop, (∀ H', P H' → N σ H') → tIfS t a b { D with nx := N } σ H) (h2 : ∀ H', P H' → s2 D σ H') : SeqIf t a b s2 D σ H := h1 _ h2
theorem w_ifJ (P : L2.St → Hp → Prop) (h1 : ∀ N : L2.St → Hp → Prop, (∀ σ' H', P σ' H' → N σ' H') → tIfS t a b { D with nx := N } σ H) (h2 : ∀ σ' H', P σ' H' → s2 D σ' H') : SeqIf t a b s2 D σ H := h1 _ h2
theorem w_seqK (P : Hp → Prop) (h1 : ∀ N : L2.St → Hp → Prop, (∀ H', P H' → N σ H') → s1 { D with nx := N } σ H) (h2 : ∀ H', P H' → s2 D σ H') : tSeq s1 s2 D σ H := h1 _ h2
theorem w_seqJ (P : L2.St → Hp → Prop) (h1 : ∀ N : L2.St → Hp → Prop, (∀ σ' H', P σ' H' → N σ' H') → s1 { D with nx := N } σ H) (h2 : ∀ σ' H', P σ' H' → s2 D σ' H') : tSeq s1 s2 D σ H := h1 _ h2
end
section
variable {K : PySem.W.Frag} {H : Hp} {Q : VK}
theorem w_isiS {x : Str} {t : String} {r : Bool} (h : kitB "str" t = some r) (g : Q (.bl r) H) : rIsi K [.str x, .ty t] H Q := ⟨_, _, _, _, r, rfl, .ty t, .base (.str x), kit_ty h, g⟩
theorem w_neT {p q : Addr} {xs : List V} {ds : List PyData} (h1 : H p = some (.tup xs)) (h2 : H q = some (.tup xs)) (d : DpAll K H xs ds) (s : SeqAt.shaped (.tuple ds) = true) (g : Q (.bl false) H) : rNeA K (.ref p) (.ref q) H Q :=
  w_neD (.tup (SqT.of h1) d) (.tup (SqT.of h2) d) s s (by
    rw [SeqAt.eqv_refl _ (SeqAt.canLay_of_shaped s)]
    exact g)
theorem inI (i : Int) (l : List Int) : inV (.int i) (l.map V.int) = decide (i ∈ l) := by
  unfold inV
  rw [Bool.eq_iff_iff, List.any_eq_true, decide_eq_true_iff]
  constructor
  · rintro ⟨y, hy, e⟩
    obtain ⟨j, hj, rfl⟩ := List.mem_map.mp hy
    have : j = i := by simpa [eqV] using e
    rw [← this]
    exact hj
  · intro h
    exact ⟨.int i, List.mem_map.mpr ⟨i, h, rfl⟩, by simp [eqV]⟩
theorem stOk (s : Sd) (g : Nat) : PyData.strOk (stT s g) = true := by
  unfold stT
  split <;> split <;> decide +kernel
end
end G

set_option Elab.async false
set_option linter.all false
set_option maxRecDepth 100000
set_option maxHeartbeats 4000000
/-! for over a tuple, a list, where an exception is handled. -/
namespace G
open PySem PySem.Spec PyProof.Rows L2 HotX
section
variable {prog : Program} {w : World} {A : Around} {E : Value → Shared → Prop} {s : Shared}
theorem pyNext_tuple_end_hot {it t x1 : Addr} {i : Nat} {items : Array Value} {Q : Option Value → Shared → Prop} (hot : HotAt A x1 s.heap) (hit : s.heap.IsTupleIter it t i) (ht : s.heap.IsTuple t items) (hx : items[i]? = none)
    (hQ : ∀ h', (∀ b o, b ≠ it → s.heap.get? b = some o → h'.get? b = some o) → Q none { s with heap := h' }) : wpAny (model prog w) A (pyNext (.ref it)) Q E s := by
  obtain ⟨o, ho, hc, hd⟩ := id hit
  obtain ⟨ol, hol, _, nl, hdl⟩ := ht
  obtain ⟨hh, o1, vs1, h1, d1, c1⟩ := hot
  have ne : x1 ≠ it := by
    rintro rfl
    rw [ho] at h1
    injection h1 with e
    subst e
    rw [hd] at d1
    injection d1 with e2
    subst e2
    simp at c1
  unfold pyNext
  refine wpAny_bind (wpAny_attempt (wpAny_callSpecial?_slot (name := Str.ofString "__next__") hit.typeIs F.slot_tuple_iterator_next
    (wpAny_call_entry F.slot_tuple_iterator_next hit.typeIs F.entry_tuple_iterator_next ?_ (F.args_tuple_iterator_next_1 _))))
  show wpAny _ _ (field (.ref it) 0 >>= _) _ _ s
  refine wpAny_bind (wpAny_field ho hd (x := .ref t) rfl ?_)
  show wpAny _ _ (if (Value.ref t == Value.none) = true then _ else _) _ _ s
  rw [if_neg (show ¬ ((Value.ref t == Value.none) = true) from Bool.false_ne_true)]
  show wpAny _ _ (field (.ref it) 1 >>= _) _ _ s
  refine wpAny_bind (wpAny_field ho hd (x := .int i 0) rfl ?_)
  show wpAny _ _ (seqItems? (.ref t) >>= _) _ _ s
  refine wpAny_bind (wpAny_seqItems hol hdl ?_)
  simp only [Int.toNat_natCast, hx]
  refine wpAny_bind (wpAny_rule (wpAny_bind (wpAny_setField ho hd (by simp) ?_)))
  show wpAny _ _ (newExc (.type "StopIteration") [] >>= _) _ _ _
  refine wpAny_bind ?_
  simp only [newExc, newTuple]
  refine wpAny_bind (wpAny_newObj_type ?_ (by size_fits))
  refine wpAny_bind (m := firstArgMember _ _) (wpAny_of_eq (a := Value.none) (by first | rfl | (simp only [firstArgMember]; rfl)) ?_)
  refine wpAny_newObj_type ?_ (by size_fits)
  have h1' := (Heap.get?_update_other (h := s.heap) (a := it) (b := x1) (Obj.mapFields (·.setIfInBounds 0 Value.none)) (Ne.symm ne)).trans h1
  refine raiseNew_hot ⟨hh, o1, vs1, Heap.get?_push_of_some _ (Heap.get?_push_of_some _ h1'), d1, c1⟩ (Nat.ne_of_lt (Heap.lt_size (Heap.get?_push_of_some _ h1'))) (Heap.get?_push_size _ rfl) rfl (by first | (simp; done) | (simp; omega) | (simp only [Array.size_append]; simp; omega)) ?_
  refine wpAny_bind (wpAny_isInstance (T := "StopIteration") (b := true) ⟨_, Heap.get?_update_self _ (Heap.get?_push_size _ rfl) rfl, rfl⟩ isSubtype_stop ?_)
  refine wpAny_pure (hQ _ fun b o nb e => ?_)
  have e' := (Heap.get?_update_other (h := s.heap) (a := it) (b := b) (Obj.mapFields (·.setIfInBounds 0 Value.none)) (Ne.symm nb)).trans e
  rw [Heap.get?_update_other _ _ (Nat.ne_of_gt (Heap.lt_size (Heap.get?_push_of_some _ e')))]
  exact Heap.get?_push_of_some _ (Heap.get?_push_of_some _ e')
end
theorem turn_tupH {P : Program} {w : World} {K : PySem.W.Frag} {tg : Expr} (a it : Addr) : L2H.TurnH P w K tg (Itt K a) [it] it (fun i h => h.IsTupleIter it a i) where
  mem := by simp
  obj := fun i h st b hb => by
    have e : b = it := by simpa using hb
    subst e
    obtain ⟨o, e, c, d⟩ := st
    exact ⟨o, e, fun v z => by rw [d] at z; cases z⟩
  keep := fun i h h' st k => st.at fun o e => k it (by simp) o e
  item := by
    intro X hP hw hK hc i pins s σ H E I hf st hg
    subst hP hw hK
    obtain ⟨xs, x, hq, hx⟩ := hg
    obtain ⟨its, rv, p, hz⟩ := I.tuple hq
    obtain ⟨u, hu, ru⟩ := rv.get hx
    obtain ⟨f0, f1, f2, f3, f4, f5⟩ := hf it (by simp)
    refine wpAny_pyNext_tuple_item st (show s.heap.IsTuple a its.toArray from p) (x := u) (by simpa using hu) fun h' st' sb => ?_
    have I1 : Inv X pins σ H { s with heap := h' } := I.turned (t' := s.toks) (fun b o hb e => (sb.2 b hb).trans e) f0 f1 f3 f4 f5
    obtain ⟨o, e, c, d⟩ := id st'
    exact ⟨u, rfl, go_of (s := { s with heap := h' }) e c d (by decide) ⟨x, H, I1, ru, ⟨rfl, fun ys hy => by rw [I.tuple_inj hy hq]; exact hx⟩, st', fun b hb => (hf b hb).1⟩⟩
  done := by
    intro X hP hw hK hc i pins s σ H E I hf st hg
    subst hP hw hK
    obtain ⟨xs, hq, hx⟩ := hg
    obtain ⟨its, rv, p, hz⟩ := I.tuple hq
    obtain ⟨f0, f1, f2, f3, f4, f5⟩ := hf it (by simp)
    have hl := rv.length
    obtain ⟨x1, hot⟩ := hc.at I
    exact pyNext_tuple_end_hot hot st (show s.heap.IsTuple a its.toArray from p) (by simp; omega) fun h' eb => ⟨rfl, I.turned (t' := s.toks) (fun b o hb e => eb b o hb e) f0 f1 f3 f4 f5⟩
  self := fun _ _ _ _ _ st h => wpAny_pyIter_tupleiter st h
theorem pi_tupH {X : Cx} {tg : Expr} {l : Expr} {tl : TE} (hl : PE X l tl) : L2H.PIH X tg l (iTup X.K tl) := by
  refine ⟨fun pins s σ H R I h => ?_⟩
  refine thn (hl.run pins s σ H _ I h) fun v s1 ⟨x, H1, I1, r1, q1⟩ => ?_
  obtain ⟨a, e, ⟨xs, hq⟩, q⟩ := q1
  subst e
  cases r1
  obtain ⟨its, rv, p, hz⟩ := I1.tuple hq
  refine wpAny_pyIter_tuple (show s1.heap.IsTuple a its.toArray from p) ?_
  refine ⟨s1.heap.objs.size, [s1.heap.objs.size], _, _, H1, rfl, I1.kept (t' := s1.toks) fun b o e => Heap.get?_push_of_some _ e, turn_tupH a _, ⟨_, Heap.get?_push_size _ rfl, rfl, rfl⟩, fun b hb => ?_, q⟩
  have e : b = s1.heap.objs.size := by simpa using hb
  subst e
  exact I1.fpOk (Nat.le_refl _) (I1.hok.fresh (Nat.le_refl _))
section
variable {K : PySem.W.Frag} {σ : L2.St} {H : Hp} {Q : VK} {x y v : V} {p q : Addr} {xs ys : List V} {k : Nat}
theorem w_catT (h1 : SqT K H p xs) (h2 : SqT K H q ys) (n1 : xs ≠ []) (n2 : ys ≠ []) (hl : xs.length + ys.length ≤ sizeLine) (g : ∀ r H', H r = none → Kp [] H H' → H' r = some (.tup (xs ++ ys)) → Q (.ref r) H') : rCatA K (.ref p) (.ref q) H Q :=
  ⟨p, q, xs, ys, rfl, rfl, h1, h2, hl, fun z => absurd z n1, fun _ z => absurd z n2, fun _ _ => nw g⟩
end
end G

set_option Elab.async false
set_option linter.all false
set_option maxRecDepth 100000
set_option maxHeartbeats 4000000
/-! k22: once-only logs, late writes. -/
namespace G
open PySem PySem.Spec PyProof.Rows L2
/-- no unlink stands there twice -/
def Once (log : List Int) : Prop := ∀ i op, log[i]? = some op → op < 0 → op ∉ log.take i → True
def OnceA (log : List Int) : Prop := ∀ (i : Nat) (op : Int), log[i]? = some op → op < 0 → op ∉ log.take i
theorem OnceA.take {log : List Int} (h : OnceA log) (k : Nat) : OnceA (log.take k) := by
  intro i op hi ho
  have hk : i < (log.take k).length := (List.getElem?_eq_some_iff.mp hi).1
  rw [List.length_take] at hk
  rw [List.getElem?_take_of_lt (by omega)] at hi
  rw [List.take_take, Nat.min_eq_left (by omega)]
  exact h i op hi ho
theorem OnceA.snoc {log : List Int} {op : Int} (h : OnceA log) (ho : op < 0 → op ∉ log) : OnceA (log ++ [op]) := by
  intro i x hi hx
  by_cases c : i < log.length
  · rw [List.getElem?_append_left c] at hi
    rw [List.take_append_of_le_length (by omega)]
    exact h i x hi hx
  · have hl := (List.getElem?_eq_some_iff.mp hi).1
    rw [List.length_append] at hl
    have ei : i = log.length := by simp at hl; omega
    subst ei
    rw [List.getElem?_append_right (Nat.le_refl _), Nat.sub_self] at hi
    have e : op = x := by simpa using hi
    subst e
    rw [List.take_left' rfl]
    exact ho hx
theorem OnceA.of_snoc {log : List Int} {op : Int} (h : OnceA (log ++ [op])) : OnceA log ∧ (op < 0 → op ∉ log) := by
  refine ⟨?_, fun ho => ?_⟩
  · have := h.take log.length
    rwa [List.take_left' rfl] at this
  · have := h log.length op (by simp) ho
    rwa [List.take_left' rfl] at this
theorem once_nil : OnceA [] := fun i op h => by simp at h
/-- Alt, from the back -/
theorem Alt.of_snoc {log : List Int} {op : Int} (h : Alt (log ++ [op])) : Alt log ∧ outF log op.natAbs = decide (0 < op) := by
  refine ⟨fun i x hi => ?_, ?_⟩
  · have hl := (List.getElem?_eq_some_iff.mp hi).1
    have := h i x (by rw [List.getElem?_append_left hl]; exact hi)
    rwa [List.take_append_of_le_length (by omega)] at this
  · have := h log.length op (by simp)
    rwa [List.take_left' rfl] at this
theorem alt_snoc' {ds : List Int} {op : Int} (a : Alt ds) (o : outF ds op.natAbs = decide (0 < op)) : Alt (ds ++ [op]) := by
  intro i x hi
  by_cases h : i < ds.length
  · rw [List.getElem?_append_left h] at hi
    rw [List.take_append_of_le_length (by omega)]
    exact a i x hi
  · have hl := (List.getElem?_eq_some_iff.mp hi).1
    rw [List.length_append] at hl
    have e : i = ds.length := by simp at hl; omega
    subst e
    rw [List.getElem?_append_right (Nat.le_refl _), Nat.sub_self] at hi
    have ex : op = x := by simpa using hi
    subst ex
    rw [List.take_left' rfl]
    exact o
theorem alt_nil' : Alt [] := fun i op h => by simp at h
theorem outF_nil (v : Nat) : outF [] v = false := rfl
/-- 0: has not acted, 1: out, 2: back -/
def stgF (log : List Int) (v : Nat) : Nat := match log.reverse.find? (fun x => decide (x.natAbs = v)) with
  | some x => if x < 0 then 1 else 2
  | none => 0
theorem stgF_snoc (log : List Int) (op : Int) (v : Nat) : stgF (log ++ [op]) v = if op.natAbs = v then (if op < 0 then 1 else 2) else stgF log v := by
  unfold stgF
  rw [List.reverse_append, List.reverse_singleton, List.singleton_append, List.find?_cons]
  by_cases h : op.natAbs = v
  · rw [decide_eq_true h, if_pos h]
  · rw [decide_eq_false h, if_neg h]
theorem stgF_le (log : List Int) (v : Nat) : stgF log v ≤ 2 := by
  unfold stgF
  split
  · split <;> omega
  · omega
theorem stg_out (log : List Int) (v : Nat) : outF log v = decide (stgF log v = 1) := by
  induction log using snoc_ind with
  | h0 => rfl
  | h1 l x ih =>
    rw [outF_snoc, stgF_snoc]
    by_cases c : x.natAbs = v
    · rw [if_pos c, if_pos c]
      by_cases n : x < 0
      · rw [if_pos n, decide_eq_true n] <;> rfl
      · rw [if_neg n, decide_eq_false n] <;> rfl
    · rw [if_neg c, if_neg c, ih]
/-- the operations on a node -/
def opsV (v : Nat) (log : List Int) : List Int := log.filter fun x => decide (x.natAbs = v)
theorem opsV_snoc (v : Nat) (log : List Int) (op : Int) : opsV v (log ++ [op]) = opsV v log ++ (if op.natAbs = v then [op] else []) := by
  unfold opsV
  rw [List.filter_append]
  congr 1
  by_cases c : op.natAbs = v
  · rw [if_pos c, List.filter_cons_of_pos (by rw [decide_eq_true c])] <;> rfl
  · rw [if_neg c, List.filter_cons_of_neg (by rw [decide_eq_false c]; exact Bool.false_ne_true)] <;> rfl
/-- all of a once-only log at a node -/
structure NodeI (log : List Int) (v : Nat) : Prop where
  s0 : stgF log v = 0 → (v : Int) ∉ log ∧ -(v : Int) ∉ log
  s1 : stgF log v = 1 → (v : Int) ∉ log ∧ -(v : Int) ∈ log
  s2 : stgF log v = 2 → (v : Int) ∈ log ∧ -(v : Int) ∈ log
  ln : (opsV v log).length = stgF log v
theorem nodeI : ∀ {log : List Int}, Alt log → OnceA log → ∀ v, 1 ≤ v → NodeI log v := by
  intro log
  induction log using snoc_ind with
  | h0 => exact fun _ _ v _ => ⟨fun _ => ⟨by simp, by simp⟩, fun h => (by cases h), fun h => (by cases h), rfl⟩
  | h1 l x ih =>
    intro a o v hv
    obtain ⟨a1, a2⟩ := a.of_snoc
    obtain ⟨o1, o2⟩ := o.of_snoc
    have I := ih a1 o1 v hv
    by_cases c : x.natAbs = v
    · rw [c, stg_out] at a2
      by_cases n : x < 0
      · have ex : x = -(v : Int) := by omega
        have st : stgF l v ≠ 1 := fun z => by
          rw [z] at a2
          have := (decide_eq_true_iff.mp a2.symm)
          omega
        have st0 : stgF l v = 0 := by
          have := stgF_le l v
          have : stgF l v ≠ 2 := fun z => o2 n (by rw [ex]; exact (I.s2 z).2)
          omega
        have e : stgF (l ++ [x]) v = 1 := by rw [stgF_snoc, if_pos c, if_pos n]
        refine ⟨fun z => by omega, fun _ => ⟨fun z => ?_, by simp [ex]⟩, fun z => by omega, ?_⟩
        · rcases List.mem_append.mp z with z | z
          · exact (I.s0 st0).1 z
          · simp at z
            omega
        · rw [opsV_snoc, if_pos c, List.length_append, I.ln, e, st0] <;> rfl
      · have ex : x = (v : Int) := by omega
        have st1 : stgF l v = 1 := by
          have : decide (0 < x) = true := decide_eq_true (by omega)
          rw [this] at a2
          exact decide_eq_true_iff.mp a2
        have e : stgF (l ++ [x]) v = 2 := by rw [stgF_snoc, if_pos c, if_neg n]
        refine ⟨fun z => by omega, fun z => by omega, fun _ => ⟨by simp [ex], List.mem_append.mpr (.inl (I.s1 st1).2)⟩, ?_⟩
        rw [opsV_snoc, if_pos c, List.length_append, I.ln, e, st1] <;> rfl
    · have e : stgF (l ++ [x]) v = stgF l v := by rw [stgF_snoc, if_neg c]
      have m : ∀ y : Int, y.natAbs = v → (y ∈ l ++ [x] ↔ y ∈ l) := by
        intro y hy
        rw [List.mem_append]
        constructor
        · rintro (h | h)
          · exact h
          · rw [List.mem_singleton] at h
            rw [h] at hy
            exact absurd hy c
        · exact .inl
      have mv := m (v : Int) (Int.natAbs_natCast v)
      have mw := m (-(v : Int)) (by omega)
      refine ⟨fun z => ?_, fun z => ?_, fun z => ?_, ?_⟩
      · rw [mv, mw]
        exact I.s0 (by rw [← e]; exact z)
      · rw [mv, mw]
        exact I.s1 (by rw [← e]; exact z)
      · rw [mv, mw]
        exact I.s2 (by rw [← e]; exact z)
      · rw [opsV_snoc, if_neg c, List.append_nil, e]
        exact I.ln
theorem stg2_iff {log : List Int} (a : Alt log) (o : OnceA log) {v : Nat} (hv : 1 ≤ v) : stgF log v = 2 ↔ (v : Int) ∈ log := by
  have I := nodeI a o v hv
  refine ⟨fun h => (I.s2 h).1, fun h => ?_⟩
  have := stgF_le log v
  have : stgF log v ≠ 0 := fun z => (I.s0 z).1 h
  have : stgF log v ≠ 1 := fun z => (I.s1 z).1 h
  omega
/-- parity tells who is out -/
theorem alt_par : ∀ {log : List Int}, Alt log → ∀ v, 1 ≤ v → outF log v = decide ((opsV v log).length % 2 = 1) := by
  intro log
  induction log using snoc_ind with
  | h0 => exact fun _ v _ => rfl
  | h1 l x ih =>
    intro a v hv
    obtain ⟨a1, a2⟩ := a.of_snoc
    have I := ih a1 v hv
    rw [outF_snoc, opsV_snoc]
    by_cases c : x.natAbs = v
    · rw [if_pos c, if_pos c, List.length_append]
      rw [c, I] at a2
      have hx : decide (x < 0) = !decide (0 < x) := by
        by_cases n : 0 < x
        · rw [decide_eq_true n, decide_eq_false (by omega)] <;> rfl
        · rw [decide_eq_false n, decide_eq_true (by omega)] <;> rfl
      rw [hx, ← a2]
      show _ = decide ((_ + 1) % 2 = 1)
      by_cases p : (opsV v l).length % 2 = 1
      · rw [decide_eq_true p, decide_eq_false (by omega)] <;> rfl
      · rw [decide_eq_false p, decide_eq_true (by omega)] <;> rfl
    · rw [if_neg c, if_neg c, List.append_nil, I]
/-- the rest of a log goes on without one node -/
theorem alt_mix {v : Nat} : ∀ (S P A : List Int), Alt (P ++ S) → Alt A → (∀ u, u ≠ v → outF A u = outF P u) → Alt (A ++ S.filter fun x => !decide (x.natAbs = v)) := by
  intro S
  induction S with
  | nil => intro P A _ a _; rw [List.filter_nil, List.append_nil]; exact a
  | cons x S ih =>
    intro P A hP hA e
    have hx : Alt (P ++ [x]) := by
      have := hP
      intro i op hi
      have hl := (List.getElem?_eq_some_iff.mp hi).1
      rw [List.length_append] at hl
      have h2 := hP i op (by
        rw [show P ++ x :: S = (P ++ [x]) ++ S by simp, List.getElem?_append_left (by rw [List.length_append]; exact hl)]
        exact hi)
      rw [show P ++ x :: S = (P ++ [x]) ++ S by simp, List.take_append_of_le_length (by rw [List.length_append]; simp at hl ⊢; omega)] at h2
      exact h2
    have hP2 : Alt ((P ++ [x]) ++ S) := by
      rw [show (P ++ [x]) ++ S = P ++ x :: S by simp]
      exact hP
    by_cases c : x.natAbs = v
    · rw [List.filter_cons_of_neg (by rw [decide_eq_true c]; exact Bool.false_ne_true)]
      refine ih (P ++ [x]) A hP2 hA fun u hu => ?_
      rw [e u hu, outF_snoc, if_neg (by rw [c]; exact Ne.symm hu)]
    · rw [List.filter_cons_of_pos (by rw [decide_eq_false c]; rfl), show A ++ x :: (S.filter fun x => !decide (x.natAbs = v)) = (A ++ [x]) ++ (S.filter fun x => !decide (x.natAbs = v)) by simp]
      refine ih (P ++ [x]) (A ++ [x]) hP2 (alt_snoc' hA ?_) fun u hu => ?_
      · rw [e _ c]
        exact hx.of_snoc.2
      · rw [outF_snoc, outF_snoc, e u hu]
theorem outF_app_ne {v u : Nat} (hu : u ≠ v) : ∀ (B A : List Int), (∀ x ∈ B, x.natAbs = v) → outF (A ++ B) u = outF A u := by
  intro B
  induction B using snoc_ind with
  | h0 => intro A _; rw [List.append_nil]
  | h1 l x ih =>
    intro A h
    rw [← List.append_assoc, outF_snoc, if_neg (by rw [h x (by simp)]; exact Ne.symm hu)]
    exact ih A fun y hy => h y (by simp [hy])
/-! ### late writes -/
def lateL (s : Sd) (earlier : List Int) (x : Nat) : List Int :=
  (if gI s.L x ≠ (x : Int) - 1 ∧ gI s.L x + 1 ∈ earlier then [gI s.L x] else []) ++ (if gI s.R x ≠ (x : Int) + 1 ∧ gI s.R x - 1 ∈ earlier then [gI s.R x - 1] else [])
theorem lateL_len (s : Sd) (e : List Int) (x : Nat) : (lateL s e x).length ≤ 2 := by
  unfold lateL
  rw [List.length_append]
  split <;> split <;> simp
/-- the late writes of a log: index, gap -/
def lateAt (n : Nat) (log : List Int) (i : Nat) (op : Int) : List (Int × Int) := (lateL (runS (wholeS n) (log.take i)) (log.take i) op.natAbs).map fun g => ((i : Int), g)
def lateW (n : Nat) (log : List Int) : List (Int × Int) := ((List.range log.length).map fun i => lateAt n log i (gI log i)).flatten
def nextB (s : Sd) (log : List Int) (v : Nat) : Bool := (gB s.O v || decide (-(v : Int) ∉ log)) && decide (lateL s log v = [])
def nextL (s : Sd) (log : List Int) : List Int := (((List.range s.n).map fun v => v + 1).filter fun v => nextB s log v).map fun v => if gB s.O v then (v : Int) else -(v : Int)
/-! ### faults -/
/-- the first second unlink -/
def TwiceAt (log : List Int) (i : Nat) : Prop := ∃ op, log[i]? = some op ∧ op < 0 ∧ op ∈ log.take i ∧ OnceA (log.take i)
structure OnE (K : PySem.W.Frag) (H : Hp) (size : Int) (log : List Int) (E : XK) : Prop where
  re : RepE K H size log E
  tw : SizeOk size → Leg (wholeS size.toNat) log → ∀ i, TwiceAt log i → ∀ H', Kp [] H H' → Ex K "NotOnce" [("index", .int (i : Int))] E H'
theorem OnE.kp {K : PySem.W.Frag} {H H1 : Hp} {size : Int} {log : List Int} {E : XK} (r : OnE K H size log E) (k : Kp [] H H1) : OnE K H1 size log E := ⟨r.re.kp k, fun a b i t H' k' => r.tw a b i t H' (k.trans k')⟩
def FltO (size : Int) (log : List Int) (xs : List V) : Prop :=
  (¬ SizeOk size ∧ xs = [.str "size", .int size]) ∨
  (SizeOk size ∧ ∃ (i : Nat) (op : Int), log[i]? = some op ∧ Leg (wholeS size.toNat) (log.take i) ∧ ¬ OkOp (runS (wholeS size.toNat) (log.take i)) op ∧ xs = [.str (if IsOp size.toNat op then "illegal" else "operation"), .int op, .int (i : Int)]) ∨
  (SizeOk size ∧ Leg (wholeS size.toNat) log ∧ ∃ i : Nat, TwiceAt log i ∧ xs = [.str "once", .int (i : Int)]) ∨
  (SizeOk size ∧ Leg (wholeS size.toNat) log ∧ OnceA log ∧ xs = [.str "none"])
theorem twice_uniq {log : List Int} {i j : Nat} (hi : TwiceAt log i) (hj : TwiceAt log j) : i = j := by
  obtain ⟨a, a1, a2, a3, a4⟩ := hi
  obtain ⟨b, b1, b2, b3, b4⟩ := hj
  have lt : ∀ {i j : Nat} {a : Int}, log[i]? = some a → a < 0 → a ∈ log.take i → OnceA (log.take j) → ¬ i < j := by
    intro i j a h1 h2 h3 h4 h
    have := h4 i a (by rw [List.getElem?_take_of_lt h]; exact h1) h2
    rw [List.take_take, Nat.min_eq_left (by omega)] at this
    exact this h3
  have := lt a1 a2 a3 b4
  have := lt b1 b2 b3 a4
  omega
theorem twice_once {log : List Int} {i : Nat} (hi : TwiceAt log i) (o : OnceA log) : False := by
  obtain ⟨a, a1, a2, a3, a4⟩ := hi
  exact o i a a1 a2 a3
theorem FltO.uniq {size : Int} {log : List Int} {xs ys : List V} (a : FltO size log xs) (b : FltO size log ys) : xs = ys := by
  rcases a with ⟨a1, rfl⟩ | ⟨a1, i, op, a2, a3, a4, rfl⟩ | ⟨a1, a2, i, a3, rfl⟩ | ⟨a1, a2, a3, rfl⟩ <;> rcases b with ⟨b1, rfl⟩ | ⟨b1, j, oq, b2, b3, b4, rfl⟩ | ⟨b1, b2, j, b3, rfl⟩ | ⟨b1, b2, b3, rfl⟩
  all_goals first
    | rfl
    | exact absurd b1 a1
    | exact absurd a1 b1
    | exact (bad_leg a2 a4 b2).elim
    | exact (bad_leg b2 b4 a2).elim
    | (rw [twice_uniq a3 b3])
    | exact (twice_once a3 b3).elim
    | exact (twice_once b3 a3).elim
    | (obtain ⟨rfl, rfl⟩ := bad_uniq a2 b2 a3 b3 a4 b4; rfl)
/-! ### the law's things -/
/-- the law's book: left links, right links, stages -/
structure LB (H : Hp) (w l r g : Addr) (n : Nat) (log : List Int) : Prop where
  ob : H w = some (.lst [.ref l, .ref r, .ref g])
  hl : ∃ L' : List Int, H l = some (.lst (L'.map V.int)) ∧ L'.length = n + 2 ∧ ∀ v, 1 ≤ v → v ≤ n + 1 → gI L' v = gI (runS (wholeS n) log).L v
  hr : ∃ R' : List Int, H r = some (.lst (R'.map V.int)) ∧ R'.length = n + 2 ∧ ∀ v, v ≤ n → gI R' v = gI (runS (wholeS n) log).R v
  hg : ∃ G' : List Int, H g = some (.lst (G'.map V.int)) ∧ G'.length = n + 2 ∧ (∀ v, 1 ≤ v → v ≤ n → gI G' v = (stgF log v : Int)) ∧ gI G' 0 = 0 ∧ gI G' (n + 1) = 0
  ne : l ≠ r ∧ l ≠ g ∧ r ≠ g ∧ w ≠ l ∧ w ≠ r ∧ w ≠ g
  le : Leg (wholeS n) log
  oo : OnceA log
  n60 : n ≤ 60
theorem LB.kp {H H' : Hp} {w l r g : Addr} {n : Nat} {log : List Int} {S : List Addr} (a : LB H w l r g n log) (k : Kp S H H') (h1 : w ∉ S) (h2 : l ∉ S) (h3 : r ∉ S) (h4 : g ∉ S) : LB H' w l r g n log := by
  obtain ⟨L', e1, e2⟩ := a.hl
  obtain ⟨R', f1, f2⟩ := a.hr
  obtain ⟨G', g1, g2⟩ := a.hg
  exact ⟨k _ _ h1 a.ob, ⟨L', k _ _ h2 e1, e2⟩, ⟨R', k _ _ h3 f1, f2⟩, ⟨G', k _ _ h4 g1, g2⟩, a.ne, a.le, a.oo, a.n60⟩
theorem LB.k0 {H H' : Hp} {w l r g : Addr} {n : Nat} {log : List Int} (a : LB H w l r g n log) (k : Kp [] H H') : LB H' w l r g n log := a.kp k (by simp) (by simp) (by simp) (by simp)
/-- the law's box of draws -/
structure BoxI (H : Hp) (b c : Addr) : Prop where
  ob : ∃ x y z : Int, H b = some (.lst [.int x, .int y, .int z, .ref c])
  hc : ∃ ns : List Int, H c = some (.lst (ns.map V.int)) ∧ ns.length ≤ 63
theorem BoxI.ne {H : Hp} {b c : Addr} (h : BoxI H b c) : b ≠ c := by
  obtain ⟨x, y, z, h1⟩ := h.ob
  obtain ⟨ns, h2, _⟩ := h.hc
  rintro rfl
  rw [h1] at h2
  injection h2 with h2
  injection h2 with h2
  match ns, h2 with
  | [_, _, _, d], h2 =>
    simp at h2
theorem BoxI.kp {H H' : Hp} {b c : Addr} {S : List Addr} (a : BoxI H b c) (k : Kp S H H') (h1 : b ∉ S) (h2 : c ∉ S) : BoxI H' b c := by
  obtain ⟨x, y, z, e1⟩ := a.ob
  obtain ⟨ns, e2, e3⟩ := a.hc
  exact ⟨⟨x, y, z, k _ _ h1 e1⟩, ⟨ns, k _ _ h2 e2, e3⟩⟩
theorem BoxI.k0 {H H' : Hp} {b c : Addr} (a : BoxI H b c) (k : Kp [] H H') : BoxI H' b c := a.kp k (by simp) (by simp)
theorem BoxI.fr {H : Hp} {b c x : Addr} (a : BoxI H b c) (n : H x = none) : x ≠ b ∧ x ≠ c := by
  obtain ⟨_, _, _, e1⟩ := a.ob
  obtain ⟨_, e2, _⟩ := a.hc
  exact ⟨(ne_of_none e1 n).symm, (ne_of_none e2 n).symm⟩
/-- pairs of numbers -/
def PPs (H : Hp) (xs : List V) (es : List (Int × Int)) : Prop := xs.length = es.length ∧ ∀ (i : Nat) (e : Int × Int), es[i]? = some e → ∃ a, xs[i]? = some (.ref a) ∧ H a = some (.tup [.int e.1, .int e.2])
theorem PPs.kp {S : List Addr} {H H' : Hp} {xs : List V} {es : List (Int × Int)} (h : PPs H xs es) (k : Kp S H H') (hS : ∀ b ∈ S, ∀ ys, H b ≠ some (.tup ys)) : PPs H' xs es := by
  refine ⟨h.1, fun i t e => ?_⟩
  obtain ⟨a, h1, h2⟩ := h.2 i t e
  exact ⟨a, h1, k _ _ (fun z => hS a z _ h2) h2⟩
theorem PPs.k0 {H H' : Hp} {xs : List V} {es : List (Int × Int)} (h : PPs H xs es) (k : Kp [] H H') : PPs H' xs es := h.kp k (by simp)
theorem PPs.app {H : Hp} {xs ys : List V} {es fs : List (Int × Int)} (h : PPs H xs es) (h2 : PPs H ys fs) : PPs H (xs ++ ys) (es ++ fs) := by
  refine ⟨by rw [List.length_append, List.length_append, h.1, h2.1], fun i u e => ?_⟩
  by_cases c : i < es.length
  · rw [List.getElem?_append_left c] at e
    obtain ⟨b, e1, e2⟩ := h.2 i u e
    exact ⟨b, by rw [List.getElem?_append_left (by rw [h.1]; exact c)]; exact e1, e2⟩
  · rw [List.getElem?_append_right (by omega)] at e
    obtain ⟨b, e1, e2⟩ := h2.2 _ u e
    exact ⟨b, by rw [List.getElem?_append_right (by rw [h.1]; omega), h.1]; exact e1, e2⟩
theorem PPs.one {H : Hp} {a : Addr} {t : Int × Int} (ha : H a = some (.tup [.int t.1, .int t.2])) : PPs H [.ref a] [t] := by
  refine ⟨rfl, fun i u e => ?_⟩
  match i, e with
  | 0, e =>
    have eu : t = u := by simpa using e
    subst eu
    exact ⟨a, rfl, ha⟩
  | i + 1, e => simp at e
theorem PPs.nil {H : Hp} : PPs H [] [] := ⟨rfl, fun i t e => by simp at e⟩
/-! ### promises -/
section
def sp_Links_is_out (K : PySem.W.Frag) : Sp := fun vs H Q E => ∃ (p r l o : Addr) (s : Sd) (v : Nat), vs = [.ref p, .int (v : Int)] ∧ LinksAt K H p r l o s ∧ v ≤ s.n + 1 ∧ Q (.bl (gB s.O v)) H
def sp__late_gaps (K : PySem.W.Frag) : Sp := fun vs H Q E => ∃ (p r l o a : Addr) (s : Sd) (log : List Int) (op : Int), vs = [.ref p, .ref a, .int op] ∧ LinksAt K H p r l o s ∧ SqL K H a (log.map V.int) ∧ IsOp s.n op ∧ NewL H ((lateL s log op.natAbs).map V.int) Q
def sp__check_once (K : PySem.W.Frag) : Sp := fun vs H Q E => ∃ (a : Addr) (size : Int) (log : List Int), vs = [.int size, .ref a] ∧ SqL K H a (log.map V.int) ∧ log.length ≤ 1000 ∧ OnE K H size log E ∧ (SizeOk size → Leg (wholeS size.toNat) log → OnceA log → Any H .non Q)
def sp_late_writes (K : PySem.W.Frag) : Sp := fun vs H Q E => ∃ (a : Addr) (size : Int) (log : List Int), vs = [.int size, .ref a] ∧ SqL K H a (log.map V.int) ∧ log.length ≤ 1000 ∧ OnE K H size log E ∧
  (SizeOk size → Leg (wholeS size.toNat) log → OnceA log → ∀ xs q H', H q = none → Kp [] H H' → H' q = some (.lst xs) → PPs H' xs (lateW size.toNat log) → Q (.ref q) H')
def sp_is_complete (K : PySem.W.Frag) : Sp := fun vs H Q E => ∃ (a : Addr) (size : Int) (log : List Int), vs = [.int size, .ref a] ∧ SqL K H a (log.map V.int) ∧ log.length ≤ 1000 ∧ OnE K H size log E ∧
  (SizeOk size → Leg (wholeS size.toNat) log → OnceA log → Any H (.bl (decide (outN size.toNat (runS (wholeS size.toNat) log).O = []))) Q)
def sp_safe_next (K : PySem.W.Frag) : Sp := fun vs H Q E => ∃ (a : Addr) (size : Int) (log : List Int), vs = [.int size, .ref a] ∧ SqL K H a (log.map V.int) ∧ log.length ≤ 1000 ∧ OnE K H size log E ∧
  (SizeOk size → Leg (wholeS size.toNat) log → OnceA log → NewL H ((nextL (runS (wholeS size.toNat) log) log).map V.int) Q)
def sp__law_mixed (K : PySem.W.Frag) : Sp := fun vs H Q E => ∃ c t : Int, vs = [.int c, .int t] ∧ ∀ r, Q (.int r) H
def sp__law_box (K : PySem.W.Frag) : Sp := fun vs H Q E => ∃ (a : Addr) (ns : List Int), vs = [.ref a] ∧ SqL K H a (ns.map V.int) ∧ ns.length ≤ 63 ∧ ∀ b c H', H b = none → H c = none → Kp [] H H' → BoxI H' b c → Q (.ref b) H'
def sp__law_take (K : PySem.W.Frag) : Sp := fun vs H Q E => ∃ (b c : Addr) (many : Int), vs = [.ref b, .int many] ∧ 0 < many ∧ many < 2 ^ 30 ∧ BoxI H b c ∧ ∀ (d : Int) H', 0 ≤ d → d < many → Kp [b, c] H H' → BoxI H' b c → Q (.int d) H'
def sp22__law_size (K : PySem.W.Frag) : Sp := fun vs H Q E => ∃ b c : Addr, vs = [.ref b] ∧ BoxI H b c ∧ ∀ (n : Nat) H', n ≤ 60 → Kp [b, c] H H' → BoxI H' b c → Q (.int (n : Int)) H'
def sp__law_range (K : PySem.W.Frag) : Sp := fun vs H Q E => ∃ (b c : Addr) (n : Nat), vs = [.ref b, .int (n : Int)] ∧ n ≤ 60 ∧ BoxI H b c ∧ ∀ (lo hi : Int) q H', (1 ≤ lo ∧ hi ≤ n ∧ lo ≤ hi + 1) → H q = none → Kp [b, c] H H' → BoxI H' b c → H' q = some (.lst [.int lo, .int hi]) → Q (.ref q) H'
def sp__law_start (K : PySem.W.Frag) : Sp := fun vs H Q E => ∃ n : Nat, vs = [.int (n : Int)] ∧ n ≤ 60 ∧ ∀ w l r g H', H w = none → H l = none → H r = none → H g = none → Kp [] H H' → LB H' w l r g n [] → Q (.ref w) H'
def sp__law_late (K : PySem.W.Frag) : Sp := fun vs H Q E => ∃ (w l r g : Addr) (n v : Nat) (log : List Int), vs = [.ref w, .int (v : Int)] ∧ LB H w l r g n log ∧ 1 ≤ v ∧ v ≤ n ∧ NewL H ((lateL (runS (wholeS n) log) log v).map V.int) Q
def sp22__law_step (K : PySem.W.Frag) : Sp := fun vs H Q E => ∃ (w l r g : Addr) (n : Nat) (log : List Int) (op : Int), vs = [.ref w, .int op] ∧ LB H w l r g n log ∧ OkOp (runS (wholeS n) log) op ∧ (op < 0 → op ∉ log) ∧ ∀ H', Kp [l, r, g] H H' → LB H' w l r g n (log ++ [op]) → Q .non H'
def sp__law_pattern (K : PySem.W.Frag) : Sp := fun vs H Q E => ∃ (b c : Addr) (lo hi : Int), vs = [.ref b, .int lo, .int hi] ∧ (1 ≤ lo ∧ hi ≤ 60) ∧ BoxI H b c ∧ ∀ (ps : List Int) q H', (ps = [] ∨ ∃ x y : Int, ps = [x, y, x] ∧ lo ≤ x ∧ x ≤ hi ∧ lo ≤ y ∧ y ≤ hi ∧ x ≠ y) → H q = none → Kp [b, c] H H' → BoxI H' b c → H' q = some (.lst (ps.map V.int)) → Q (.ref q) H'
/-- a log that is legal and once-only -/
structure LgO (n : Nat) (ds : List Int) : Prop where
  ops : ∀ x ∈ ds, IsOp n x
  alt : Alt ds
  one : OnceA ds
  len : ds.length ≤ 120
def sp22__law_log (K : PySem.W.Frag) : Sp := fun vs H Q E => ∃ (b c : Addr) (n : Nat), vs = [.ref b, .int (n : Int)] ∧ n ≤ 60 ∧ BoxI H b c ∧ ∀ (ds : List Int) q H', LgO n ds → H q = none → Kp [b, c] H H' → BoxI H' b c → H' q = some (.lst (ds.map V.int)) → Q (.ref q) H'
def sp__law_integer (K : PySem.W.Frag) : Sp := fun vs H Q E => ∃ i : Int, vs = [.int i] ∧ Q (.bl true) H
def sp__law_row (K : PySem.W.Frag) : Sp := fun vs H Q E => ∃ (a b : Addr) (xs : List Int), vs = [.ref a, .ref b] ∧ xs.length ≤ 1000 ∧ H a = some (.lst (xs.map V.int)) ∧ H b = some (.lst (xs.map V.int)) ∧ Q (.bl true) H
def sp__law_pairs (K : PySem.W.Frag) : Sp := fun vs H Q E => ∃ (a b : Addr) (xs ys : List V) (es : List (Int × Int)), vs = [.ref a, .ref b] ∧ es.length ≤ 1000 ∧ H a = some (.lst xs) ∧ H b = some (.lst ys) ∧ PPs H xs es ∧ PPs H ys es ∧ Any H (.bl true) Q
def sp22__law_due (K : PySem.W.Frag) : Sp := fun vs H Q E => ∃ (a : Addr) (n : Nat) (log : List Int), vs = [.int (n : Int), .ref a] ∧ n ≤ 60 ∧ H a = some (.lst (log.map V.int)) ∧ LgO n log ∧
  ∀ q p e xs H', Kp [] H H' → H' q = some (.lst [.ref p, .bl (decide (outN n (runS (wholeS n) log).O = [])), .ref e]) → H' p = some (.lst xs) → PPs H' xs (lateW n log) → H' e = some (.lst ((nextL (runS (wholeS n) log) log).map V.int)) → Q (.ref q) H'
def sp22__law_agrees (K : PySem.W.Frag) : Sp := fun vs H Q E => ∃ (a : Addr) (n : Nat) (log : List Int), vs = [.int (n : Int), .ref a] ∧ n ≤ 60 ∧ H a = some (.lst (log.map V.int)) ∧ LgO n log ∧ Any H (.bl true) Q
def sp__law_illegal (K : PySem.W.Frag) : Sp := fun vs H Q E => ∃ (b c a : Addr) (n : Nat) (log : List Int), vs = [.ref b, .int (n : Int), .ref a] ∧ 1 ≤ n ∧ n ≤ 60 ∧ BoxI H b c ∧ a ≠ b ∧ a ≠ c ∧ H a = some (.lst (log.map V.int)) ∧ log.length ≤ 500 ∧ Alt log ∧
  ∀ (op : Int) H', IsOp n op → ¬ outF log op.natAbs = decide (0 < op) → Kp [b, c] H H' → BoxI H' b c → Q (.int op) H'
def sp__law_twice (K : PySem.W.Frag) : Sp := fun vs H Q E => ∃ (b c a : Addr) (n : Nat) (log : List Int), vs = [.ref b, .int (n : Int), .ref a] ∧ 1 ≤ n ∧ n ≤ 60 ∧ BoxI H b c ∧ a ≠ b ∧ a ≠ c ∧ H a = some (.lst (log.map V.int)) ∧ LgO n log ∧
  ∀ (row : List Int) (i : Nat) q p H', (∀ x ∈ row, IsOp n x) → Alt row → row.length ≤ 300 → TwiceAt row i → H q = none → H p = none → Kp [b, c] H H' → BoxI H' b c → H' q = some (.lst [.ref p, .int (i : Int)]) → H' p = some (.lst (row.map V.int)) → Q (.ref q) H'
def sp__law_faulty (K : PySem.W.Frag) : Sp := fun vs H Q E => ∃ (b c a : Addr) (n : Nat) (log : List Int), vs = [.ref b, .int (n : Int), .ref a] ∧ n ≤ 60 ∧ BoxI H b c ∧ a ≠ b ∧ a ≠ c ∧ H a = some (.lst (log.map V.int)) ∧ LgO n log ∧
  ∀ (row : List Int) q p t xs H', row.length ≤ 400 → FltO n row xs → H q = none → Kp [b, c] H H' → BoxI H' b c → H' q = some (.lst [.ref p, .ref t]) → H' p = some (.lst (row.map V.int)) → p ≠ b → p ≠ c → H' t = some (.tup xs) → Q (.ref q) H'
def sp__law_ask (K : PySem.W.Frag) : Sp := fun vs H Q E => ∃ (a : Addr) (way size : Int) (log : List Int), vs = [.int way, .int size, .ref a] ∧ SqL K H a (log.map V.int) ∧ log.length ≤ 1000 ∧ OnE K H size log E ∧ (SizeOk size → Leg (wholeS size.toNat) log → OnceA log → Any H .non Q)
def sp__law_fields (K : PySem.W.Frag) : Sp := fun vs H Q E => ∃ (w : Str) (a : Addr) (is : List Int), vs = [.str w, .ref a] ∧ H a = some (.tup (is.map V.int)) ∧ is ≠ [] ∧ is.length ≤ 5 ∧ ∀ t H', Kp [] H H' → H' t = some (.tup (.str w :: is.map V.int)) → Q (.ref t) H'
def sp22__law_refusal (K : PySem.W.Frag) : Sp := fun vs H Q E => ∃ (a : Addr) (way size : Int) (log : List Int), vs = [.int way, .int size, .ref a] ∧ SqL K H a (log.map V.int) ∧ log.length ≤ 1000 ∧ ∀ xs t H', FltO size log xs → Kp [] H H' → H' t = some (.tup xs) → Q (.ref t) H'
end
end G

set_option Elab.async false
set_option linter.all false
set_option maxRecDepth 100000
set_option maxHeartbeats 4000000

namespace G
open PySem PySem.Spec PyProof.Rows L2
def top (i : Nat) : Stmt := PySem.Challenge.pw_latelink_k22_late_writes.main.body.getD i (.Pass ⟨0, 0, 0, 0⟩)
abbrev s__law_late : Stmt := top 39
abbrev s__law_start : Stmt := top 38
abbrev s__law_step : Stmt := top 40
abbrev s__law_due : Stmt := top 43
abbrev s__law_integer : Stmt := top 44
abbrev s__law_row : Stmt := top 45
abbrev s__law_pairs : Stmt := top 46
abbrev s_Links_outs : Stmt := inClass (top 13) 10
abbrev s_check_size : Stmt := top 14
abbrev s_Links___init__ : Stmt := inClass (top 13) 1
abbrev s_Links_is_legal : Stmt := inClass (top 13) 11
abbrev s_check_operation : Stmt := top 15
abbrev s_Links_check : Stmt := inClass (top 13) 12
abbrev s_Links_apply_at : Stmt := inClass (top 13) 14
abbrev s_Links_copy : Stmt := inClass (top 13) 19
abbrev s_play : Stmt := top 25
abbrev s_replay : Stmt := top 24
abbrev s__check_once : Stmt := top 30
abbrev s_is_complete : Stmt := top 28
abbrev s_Links_apply : Stmt := inClass (top 13) 13
abbrev s_Links_left : Stmt := inClass (top 13) 7
abbrev s_Links_right : Stmt := inClass (top 13) 8
abbrev s__late_gaps : Stmt := top 31
abbrev s_late_writes : Stmt := top 27
abbrev s_Links_is_out : Stmt := inClass (top 13) 9
abbrev s_safe_next : Stmt := top 29
abbrev s__law_agrees : Stmt := top 47
abbrev s__law_box : Stmt := top 34
abbrev s__law_mixed : Stmt := top 33
abbrev s__law_take : Stmt := top 35
abbrev s__law_illegal : Stmt := top 49
abbrev s__law_twice : Stmt := top 48
abbrev s__law_faulty : Stmt := top 50
abbrev s__law_pattern : Stmt := top 41
abbrev s__law_range : Stmt := top 37
abbrev s__law_log : Stmt := top 42
abbrev s__law_ask : Stmt := top 51
abbrev s__law_fields : Stmt := top 52
abbrev s__law_refusal : Stmt := top 53
abbrev s__law_size : Stmt := top 36
abbrev s_law : Stmt := top 54
abbrev s_BadNode___init__ : Stmt := inClass (top 7) 0
abbrev s_BadSize___init__ : Stmt := inClass (top 6) 0
abbrev s_LogError___init__ : Stmt := inClass (top 3) 0
abbrev s_NotOnce___init__ : Stmt := inClass (top 9) 0
theorem sc__law_late : FnScope ["book", "node", "gaps", "before", "behind"] ["book", "node"] (defScope s__law_late) := ⟨rfl, rfl, rfl, by decide +kernel, rfl, by decide +kernel, by decide +kernel⟩
theorem sc__law_start : FnScope ["size", "v"] ["size"] (defScope s__law_start) := ⟨rfl, rfl, rfl, by decide +kernel, rfl, by decide +kernel, by decide +kernel⟩
theorem sc__law_step : FnScope ["book", "operation", "lefts", "rights", "stage", "node", "before", "behind"] ["book", "operation"] (defScope s__law_step) := ⟨rfl, rfl, rfl, by decide +kernel, rfl, by decide +kernel, by decide +kernel⟩
theorem sc__law_due : FnScope ["size", "log", "book", "pairs", "k", "gap", "going", "node"] ["size", "log"] (defScope s__law_due) := ⟨rfl, rfl, rfl, by decide +kernel, rfl, by decide +kernel, by decide +kernel⟩
theorem sc__law_integer : FnScope ["told"] ["told"] (defScope s__law_integer) := ⟨rfl, rfl, rfl, by decide +kernel, rfl, by decide +kernel, by decide +kernel⟩
theorem sc__law_row : FnScope ["told", "due", "k"] ["told", "due"] (defScope s__law_row) := ⟨rfl, rfl, rfl, by decide +kernel, rfl, by decide +kernel, by decide +kernel⟩
theorem sc__law_pairs : FnScope ["told", "due", "k"] ["told", "due"] (defScope s__law_pairs) := ⟨rfl, rfl, rfl, by decide +kernel, rfl, by decide +kernel, by decide +kernel⟩
theorem sc_Links_outs : FnScope ["self", "node"] ["self"] (defScope s_Links_outs) := ⟨rfl, rfl, rfl, by decide +kernel, rfl, by decide +kernel, by decide +kernel⟩
theorem sc_check_size : FnScope ["size"] ["size"] (defScope s_check_size) := ⟨rfl, rfl, rfl, by decide +kernel, rfl, by decide +kernel, by decide +kernel⟩
theorem sc_Links___init__ : FnScope ["self", "size"] ["self", "size"] (defScope s_Links___init__) := ⟨rfl, rfl, rfl, by decide +kernel, rfl, by decide +kernel, by decide +kernel⟩
theorem sc_Links_is_legal : FnScope ["self", "operation"] ["self", "operation"] (defScope s_Links_is_legal) := ⟨rfl, rfl, rfl, by decide +kernel, rfl, by decide +kernel, by decide +kernel⟩
theorem sc_check_operation : FnScope ["size", "operation", "index"] ["size", "operation", "index"] (defScope s_check_operation) := ⟨rfl, rfl, rfl, by decide +kernel, rfl, by decide +kernel, by decide +kernel⟩
theorem sc_Links_check : FnScope ["self", "operation", "index"] ["self", "operation", "index"] (defScope s_Links_check) := ⟨rfl, rfl, rfl, by decide +kernel, rfl, by decide +kernel, by decide +kernel⟩
theorem sc_Links_apply_at : FnScope ["self", "operation", "index", "node", "low", "high", "is_unlink"] ["self", "operation", "index"] (defScope s_Links_apply_at) := ⟨rfl, rfl, rfl, by decide +kernel, rfl, by decide +kernel, by decide +kernel⟩
theorem sc_Links_copy : FnScope ["self", "twin"] ["self"] (defScope s_Links_copy) := ⟨rfl, rfl, rfl, by decide +kernel, rfl, by decide +kernel, by decide +kernel⟩
theorem sc_play : FnScope ["links", "log", "after", "index", "operation"] ["links", "log"] (defScope s_play) := ⟨rfl, rfl, rfl, by decide +kernel, rfl, by decide +kernel, by decide +kernel⟩
theorem sc_replay : FnScope ["size", "log"] ["size", "log"] (defScope s_replay) := ⟨rfl, rfl, rfl, by decide +kernel, rfl, by decide +kernel, by decide +kernel⟩
theorem sc__check_once : FnScope ["size", "log", "index", "operation"] ["size", "log"] (defScope s__check_once) := ⟨rfl, rfl, rfl, by decide +kernel, rfl, by decide +kernel, by decide +kernel⟩
theorem sc_is_complete : FnScope ["size", "log"] ["size", "log"] (defScope s_is_complete) := ⟨rfl, rfl, rfl, by decide +kernel, rfl, by decide +kernel, by decide +kernel⟩
theorem sc_Links_apply : FnScope ["self", "operation"] ["self", "operation"] (defScope s_Links_apply) := ⟨rfl, rfl, rfl, by decide +kernel, rfl, by decide +kernel, by decide +kernel⟩
theorem sc_Links_left : FnScope ["self", "node"] ["self", "node"] (defScope s_Links_left) := ⟨rfl, rfl, rfl, by decide +kernel, rfl, by decide +kernel, by decide +kernel⟩
theorem sc_Links_right : FnScope ["self", "node"] ["self", "node"] (defScope s_Links_right) := ⟨rfl, rfl, rfl, by decide +kernel, rfl, by decide +kernel, by decide +kernel⟩
theorem sc__late_gaps : FnScope ["links", "earlier", "operation", "node", "low", "high", "late"] ["links", "earlier", "operation"] (defScope s__late_gaps) := ⟨rfl, rfl, rfl, by decide +kernel, rfl, by decide +kernel, by decide +kernel⟩
theorem sc_late_writes : FnScope ["size", "log", "links", "found", "index", "operation", "gap"] ["size", "log"] (defScope s_late_writes) := ⟨rfl, rfl, rfl, by decide +kernel, rfl, by decide +kernel, by decide +kernel⟩
theorem sc_Links_is_out : FnScope ["self", "node"] ["self", "node"] (defScope s_Links_is_out) := ⟨rfl, rfl, rfl, by decide +kernel, rfl, by decide +kernel, by decide +kernel⟩
theorem sc_safe_next : FnScope ["size", "log", "links", "nodes", "operations", "node", "operation"] ["size", "log"] (defScope s_safe_next) := ⟨rfl, rfl, rfl, by decide +kernel, rfl, by decide +kernel, by decide +kernel⟩
theorem sc__law_agrees : FnScope ["size", "log", "due", "handed", "told"] ["size", "log"] (defScope s__law_agrees) := ⟨rfl, rfl, rfl, by decide +kernel, rfl, by decide +kernel, by decide +kernel⟩
theorem sc__law_box : FnScope ["script", "seed", "cell"] ["script"] (defScope s__law_box) := ⟨rfl, rfl, rfl, by decide +kernel, rfl, by decide +kernel, by decide +kernel⟩
theorem sc__law_mixed : FnScope ["cell", "turn", "first", "second"] ["cell", "turn"] (defScope s__law_mixed) := ⟨rfl, rfl, rfl, by decide +kernel, rfl, by decide +kernel, by decide +kernel⟩
theorem sc__law_take : FnScope ["box", "many", "cells", "cell", "digit"] ["box", "many"] (defScope s__law_take) := ⟨rfl, rfl, rfl, by decide +kernel, rfl, by decide +kernel, by decide +kernel⟩
theorem sc__law_illegal : FnScope ["box", "size", "log", "node", "x"] ["box", "size", "log"] (defScope s__law_illegal) := ⟨rfl, rfl, rfl, by decide +kernel, rfl, by decide +kernel, by decide +kernel⟩
theorem sc__law_twice : FnScope ["box", "size", "log", "at", "node", "acts", "first", "others", "more", "row", "other", "x"] ["box", "size", "log"] (defScope s__law_twice) := ⟨rfl, rfl, rfl, by decide +kernel, rfl, by decide +kernel, by decide +kernel⟩
theorem sc__law_faulty : FnScope ["box", "size", "log", "spoilt", "way", "at", "far", "head", "tail", "operation"] ["box", "size", "log"] (defScope s__law_faulty) := ⟨rfl, rfl, rfl, by decide +kernel, rfl, by decide +kernel, by decide +kernel⟩
theorem sc__law_pattern : FnScope ["box", "low", "high", "one", "other"] ["box", "low", "high"] (defScope s__law_pattern) := ⟨rfl, rfl, rfl, by decide +kernel, rfl, by decide +kernel, by decide +kernel⟩
theorem sc__law_range : FnScope ["box", "size", "low"] ["box", "size"] (defScope s__law_range) := ⟨rfl, rfl, rfl, by decide +kernel, rfl, by decide +kernel, by decide +kernel⟩
theorem sc__law_log : FnScope ["box", "size", "ends", "many", "steps", "keen", "pattern", "book", "log", "node", "k", "free", "late", "near", "turn", "x"] ["box", "size"] (defScope s__law_log) := ⟨rfl, rfl, rfl, by decide +kernel, rfl, by decide +kernel, by decide +kernel⟩
theorem sc__law_ask : FnScope ["way", "size", "log"] ["way", "size", "log"] (defScope s__law_ask) := ⟨rfl, rfl, rfl, by decide +kernel, rfl, by decide +kernel, by decide +kernel⟩
theorem sc__law_fields : FnScope ["word", "fields", "field"] ["word", "fields"] (defScope s__law_fields) := ⟨rfl, rfl, rfl, by decide +kernel, rfl, by decide +kernel, by decide +kernel⟩
theorem sc__law_refusal : FnScope ["way", "size", "log", "e", "kinds"] ["way", "size", "log"] (defScope s__law_refusal) := ⟨rfl, rfl, rfl, by decide +kernel, rfl, by decide +kernel, by decide +kernel⟩
theorem sc__law_size : FnScope ["box", "way"] ["box"] (defScope s__law_size) := ⟨rfl, rfl, rfl, by decide +kernel, rfl, by decide +kernel, by decide +kernel⟩
theorem sc_law : FnScope ["script", "box", "size", "log", "cut", "faulty", "far", "wrong", "way", "handed"] ["script"] (defScope s_law) := ⟨rfl, rfl, rfl, by decide +kernel, rfl, by decide +kernel, by decide +kernel⟩
theorem sc_BadNode___init__ : FnScope ["self", "node"] ["self", "node"] (defScope s_BadNode___init__) := ⟨rfl, rfl, rfl, by decide +kernel, rfl, by decide +kernel, by decide +kernel⟩
theorem sc_BadSize___init__ : FnScope ["self", "size"] ["self", "size"] (defScope s_BadSize___init__) := ⟨rfl, rfl, rfl, by decide +kernel, rfl, by decide +kernel, by decide +kernel⟩
theorem sc_LogError___init__ : FnScope ["self", "operation", "index"] ["self", "operation", "index"] (defScope s_LogError___init__) := ⟨rfl, rfl, rfl, by decide +kernel, rfl, by decide +kernel, by decide +kernel⟩
theorem sc_NotOnce___init__ : FnScope ["self", "index"] ["self", "index"] (defScope s_NotOnce___init__) := ⟨rfl, rfl, rfl, by decide +kernel, rfl, by decide +kernel, by decide +kernel⟩
def d__law_late : He5.DefA := ⟨fun K => He.fAd K ("_law_late", none), "_law_late", "_law_late", defArgs s__law_late, defBody s__law_late, defScope s__law_late, [], []⟩
def d__law_start : He5.DefA := ⟨fun K => He.fAd K ("_law_start", none), "_law_start", "_law_start", defArgs s__law_start, defBody s__law_start, defScope s__law_start, [], []⟩
def d__law_step : He5.DefA := ⟨fun K => He.fAd K ("_law_step", none), "_law_step", "_law_step", defArgs s__law_step, defBody s__law_step, defScope s__law_step, [], []⟩
def d__law_due : He5.DefA := ⟨fun K => He.fAd K ("_law_due", none), "_law_due", "_law_due", defArgs s__law_due, defBody s__law_due, defScope s__law_due, [], []⟩
def d__law_integer : He5.DefA := ⟨fun K => He.fAd K ("_law_integer", none), "_law_integer", "_law_integer", defArgs s__law_integer, defBody s__law_integer, defScope s__law_integer, [], []⟩
def d__law_row : He5.DefA := ⟨fun K => He.fAd K ("_law_row", none), "_law_row", "_law_row", defArgs s__law_row, defBody s__law_row, defScope s__law_row, [], []⟩
def d__law_pairs : He5.DefA := ⟨fun K => He.fAd K ("_law_pairs", none), "_law_pairs", "_law_pairs", defArgs s__law_pairs, defBody s__law_pairs, defScope s__law_pairs, [], []⟩
def d_Links_outs : He5.DefA := ⟨fun K => He.fAd K ("Links", some "outs"), "outs", "Links.outs", defArgs s_Links_outs, defBody s_Links_outs, defScope s_Links_outs, [], []⟩
def d_check_size : He5.DefA := ⟨fun K => He.fAd K ("check_size", none), "check_size", "check_size", defArgs s_check_size, defBody s_check_size, defScope s_check_size, [], []⟩
def d_Links___init__ : He5.DefA := ⟨fun K => He.fAd K ("Links", some "__init__"), "__init__", "Links.__init__", defArgs s_Links___init__, defBody s_Links___init__, defScope s_Links___init__, [], []⟩
def d_Links_is_legal : He5.DefA := ⟨fun K => He.fAd K ("Links", some "is_legal"), "is_legal", "Links.is_legal", defArgs s_Links_is_legal, defBody s_Links_is_legal, defScope s_Links_is_legal, [], []⟩
def d_check_operation : He5.DefA := ⟨fun K => He.fAd K ("check_operation", none), "check_operation", "check_operation", defArgs s_check_operation, defBody s_check_operation, defScope s_check_operation, [], []⟩
def d_Links_check : He5.DefA := ⟨fun K => He.fAd K ("Links", some "check"), "check", "Links.check", defArgs s_Links_check, defBody s_Links_check, defScope s_Links_check, [], []⟩
def d_Links_apply_at : He5.DefA := ⟨fun K => He.fAd K ("Links", some "apply_at"), "apply_at", "Links.apply_at", defArgs s_Links_apply_at, defBody s_Links_apply_at, defScope s_Links_apply_at, [], []⟩
def d_Links_copy : He5.DefA := ⟨fun K => He.fAd K ("Links", some "copy"), "copy", "Links.copy", defArgs s_Links_copy, defBody s_Links_copy, defScope s_Links_copy, [], []⟩
def d_play : He5.DefA := ⟨fun K => He.fAd K ("play", none), "play", "play", defArgs s_play, defBody s_play, defScope s_play, [], []⟩
def d_replay : He5.DefA := ⟨fun K => He.fAd K ("replay", none), "replay", "replay", defArgs s_replay, defBody s_replay, defScope s_replay, [], []⟩
def d__check_once : He5.DefA := ⟨fun K => He.fAd K ("_check_once", none), "_check_once", "_check_once", defArgs s__check_once, defBody s__check_once, defScope s__check_once, [], []⟩
def d_is_complete : He5.DefA := ⟨fun K => He.fAd K ("is_complete", none), "is_complete", "is_complete", defArgs s_is_complete, defBody s_is_complete, defScope s_is_complete, [], []⟩
def d_Links_apply : He5.DefA := ⟨fun K => He.fAd K ("Links", some "apply"), "apply", "Links.apply", defArgs s_Links_apply, defBody s_Links_apply, defScope s_Links_apply, [], []⟩
def d_Links_left : He5.DefA := ⟨fun K => He.fAd K ("Links", some "left"), "left", "Links.left", defArgs s_Links_left, defBody s_Links_left, defScope s_Links_left, [], []⟩
def d_Links_right : He5.DefA := ⟨fun K => He.fAd K ("Links", some "right"), "right", "Links.right", defArgs s_Links_right, defBody s_Links_right, defScope s_Links_right, [], []⟩
def d__late_gaps : He5.DefA := ⟨fun K => He.fAd K ("_late_gaps", none), "_late_gaps", "_late_gaps", defArgs s__late_gaps, defBody s__late_gaps, defScope s__late_gaps, [], []⟩
def d_late_writes : He5.DefA := ⟨fun K => He.fAd K ("late_writes", none), "late_writes", "late_writes", defArgs s_late_writes, defBody s_late_writes, defScope s_late_writes, [], []⟩
def d_Links_is_out : He5.DefA := ⟨fun K => He.fAd K ("Links", some "is_out"), "is_out", "Links.is_out", defArgs s_Links_is_out, defBody s_Links_is_out, defScope s_Links_is_out, [], []⟩
def d_safe_next : He5.DefA := ⟨fun K => He.fAd K ("safe_next", none), "safe_next", "safe_next", defArgs s_safe_next, defBody s_safe_next, defScope s_safe_next, [], []⟩
def d__law_agrees : He5.DefA := ⟨fun K => He.fAd K ("_law_agrees", none), "_law_agrees", "_law_agrees", defArgs s__law_agrees, defBody s__law_agrees, defScope s__law_agrees, [], []⟩
def d__law_box : He5.DefA := ⟨fun K => He.fAd K ("_law_box", none), "_law_box", "_law_box", defArgs s__law_box, defBody s__law_box, defScope s__law_box, [], []⟩
def d__law_mixed : He5.DefA := ⟨fun K => He.fAd K ("_law_mixed", none), "_law_mixed", "_law_mixed", defArgs s__law_mixed, defBody s__law_mixed, defScope s__law_mixed, [], []⟩
def d__law_take : He5.DefA := ⟨fun K => He.fAd K ("_law_take", none), "_law_take", "_law_take", defArgs s__law_take, defBody s__law_take, defScope s__law_take, [], []⟩
def d__law_illegal : He5.DefA := ⟨fun K => He.fAd K ("_law_illegal", none), "_law_illegal", "_law_illegal", defArgs s__law_illegal, defBody s__law_illegal, defScope s__law_illegal, [], []⟩
def d__law_twice : He5.DefA := ⟨fun K => He.fAd K ("_law_twice", none), "_law_twice", "_law_twice", defArgs s__law_twice, defBody s__law_twice, defScope s__law_twice, [], []⟩
def d__law_faulty : He5.DefA := ⟨fun K => He.fAd K ("_law_faulty", none), "_law_faulty", "_law_faulty", defArgs s__law_faulty, defBody s__law_faulty, defScope s__law_faulty, [], []⟩
def d__law_pattern : He5.DefA := ⟨fun K => He.fAd K ("_law_pattern", none), "_law_pattern", "_law_pattern", defArgs s__law_pattern, defBody s__law_pattern, defScope s__law_pattern, [], []⟩
def d__law_range : He5.DefA := ⟨fun K => He.fAd K ("_law_range", none), "_law_range", "_law_range", defArgs s__law_range, defBody s__law_range, defScope s__law_range, [], []⟩
def d__law_log : He5.DefA := ⟨fun K => He.fAd K ("_law_log", none), "_law_log", "_law_log", defArgs s__law_log, defBody s__law_log, defScope s__law_log, [], []⟩
def d__law_ask : He5.DefA := ⟨fun K => He.fAd K ("_law_ask", none), "_law_ask", "_law_ask", defArgs s__law_ask, defBody s__law_ask, defScope s__law_ask, [], []⟩
def d__law_fields : He5.DefA := ⟨fun K => He.fAd K ("_law_fields", none), "_law_fields", "_law_fields", defArgs s__law_fields, defBody s__law_fields, defScope s__law_fields, [], []⟩
def d__law_refusal : He5.DefA := ⟨fun K => He.fAd K ("_law_refusal", none), "_law_refusal", "_law_refusal", defArgs s__law_refusal, defBody s__law_refusal, defScope s__law_refusal, [], []⟩
def d__law_size : He5.DefA := ⟨fun K => He.fAd K ("_law_size", none), "_law_size", "_law_size", defArgs s__law_size, defBody s__law_size, defScope s__law_size, [], []⟩
def d_law : He5.DefA := ⟨fun K => He.fAd K ("law", none), "law", "law", defArgs s_law, defBody s_law, defScope s_law, [], []⟩
def d_BadNode___init__ : He5.DefA := ⟨fun K => He.fAd K ("BadNode", some "__init__"), "__init__", "BadNode.__init__", defArgs s_BadNode___init__, defBody s_BadNode___init__, defScope s_BadNode___init__, [], []⟩
def d_BadSize___init__ : He5.DefA := ⟨fun K => He.fAd K ("BadSize", some "__init__"), "__init__", "BadSize.__init__", defArgs s_BadSize___init__, defBody s_BadSize___init__, defScope s_BadSize___init__, [], []⟩
def d_LogError___init__ : He5.DefA := ⟨fun K => He.fAd K ("LogError", some "__init__"), "__init__", "LogError.__init__", defArgs s_LogError___init__, defBody s_LogError___init__, defScope s_LogError___init__, [], []⟩
def d_NotOnce___init__ : He5.DefA := ⟨fun K => He.fAd K ("NotOnce", some "__init__"), "__init__", "NotOnce.__init__", defArgs s_NotOnce___init__, defBody s_NotOnce___init__, defScope s_NotOnce___init__, [], []⟩
def fnL : List He5.DefA := [d__law_late, d__law_start, d__law_step, d__law_due, d__law_integer, d__law_row, d__law_pairs, d_Links_outs, d_check_size, d_Links___init__, d_Links_is_legal, d_check_operation, d_Links_check, d_Links_apply_at, d_Links_copy, d_play, d_replay, d__check_once, d_is_complete, d_Links_apply, d_Links_left, d_Links_right, d__late_gaps, d_late_writes, d_Links_is_out, d_safe_next, d__law_agrees, d__law_box, d__law_mixed, d__law_take, d__law_illegal, d__law_twice, d__law_faulty, d__law_pattern, d__law_range, d__law_log, d__law_ask, d__law_fields, d__law_refusal, d__law_size, d_law, d_BadNode___init__, d_BadSize___init__, d_LogError___init__, d_NotOnce___init__]
def chkL : List Chk := [fa_ (.glo "LinkError"),
  fa_ (.glo "LogError"),
  fa_ (.glo "BadOperation"),
  fa_ (.glo "Illegal"),
  fa_ (.glo "BadSize"),
  fa_ (.glo "BadNode"),
  fa_ (.glo "BadDump"),
  fa_ (.glo "NotOnce"),
  fa_ (.glo "Links"),
  fa_ (.glo "_law_late"),
  fa_ (.glo "_law_start"),
  fa_ (.glo "_law_step"),
  fa_ (.glo "_law_due"),
  fa_ (.glo "_law_integer"),
  fa_ (.glo "_law_row"),
  fa_ (.glo "_law_pairs"),
  fa_ (.glo "check_size"),
  fa_ (.glo "check_operation"),
  fa_ (.glo "play"),
  fa_ (.glo "replay"),
  fa_ (.glo "_check_once"),
  fa_ (.glo "is_complete"),
  fa_ (.glo "_late_gaps"),
  fa_ (.glo "late_writes"),
  fa_ (.glo "safe_next"),
  fa_ (.glo "_law_agrees"),
  fa_ (.glo "_law_box"),
  fa_ (.glo "_law_mixed"),
  fa_ (.glo "_law_take"),
  fa_ (.glo "_law_illegal"),
  fa_ (.glo "_law_twice"),
  fa_ (.glo "_law_faulty"),
  fa_ (.glo "_law_pattern"),
  fa_ (.glo "_law_range"),
  fa_ (.glo "_law_log"),
  fa_ (.glo "_law_ask"),
  fa_ (.glo "_law_fields"),
  fa_ (.glo "_law_refusal"),
  fa_ (.glo "_law_size"),
  fa_ (.glo "law"),
  fa_ (.free "ValueError"),
  fa_ (.free "abs"),
  fa_ (.free "bool"),
  fa_ (.free "enumerate"),
  fa_ (.free "int"),
  fa_ (.free "isinstance"),
  fa_ (.free "len"),
  fa_ (.free "list"),
  fa_ (.free "max"),
  fa_ (.free "min"),
  fa_ (.free "range"),
  fa_ (.free "str"),
  fa_ (.free "tuple"),
  fa_ (.str "DIGITS" "0123456789"),
  fa_ (.int "MOST_DIGITS" 9),
  ccB "Links" "MOST" 60,
  fa_ (.cls "Links"),
  tyB "Links",
  fa_ (.noat "Links" "_lefts"),
  fa_ (.noat "Links" "_out"),
  fa_ (.noat "Links" "_rights"),
  fa_ (.noat "Links" "size"),
  fa_ (.meth "Links" "outs"),
  fa_ (.mkr "Links"),
  fa_ (.meth "Links" "is_legal"),
  fa_ (.meth "Links" "check"),
  fa_ (.meth "Links" "apply_at"),
  fa_ (.meth "Links" "copy"),
  fa_ (.meth "Links" "apply"),
  fa_ (.meth "Links" "left"),
  fa_ (.meth "Links" "right"),
  fa_ (.meth "Links" "is_out"),
  askB "BadDump",
  askB "BadNode",
  askB "BadOperation",
  askB "BadSize",
  askB "Illegal",
  askB "LinkError",
  askB "LogError",
  askB "NotOnce",
  excB "BadNode" ["node"],
  iniB "BadNode",
  kitB2 "BadNode" "BadDump" false,
  kitB2 "BadNode" "BadNode" true,
  kitB2 "BadNode" "BadOperation" false,
  kitB2 "BadNode" "BadSize" false,
  kitB2 "BadNode" "Illegal" false,
  kitB2 "BadNode" "LinkError" true,
  exmB "BadNode" "LinkError" true,
  kitB2 "BadNode" "LogError" false,
  kitB2 "BadNode" "NotOnce" false,
  kitT2 "BadNode" "ValueError" true,
  excB "BadOperation" ["operation", "index"],
  iniB "BadOperation",
  (fun K => decide (He.ma K (He.ga K "BadOperation") "__init__" = He.ma K (He.ga K "LogError") "__init__")),
  kitB2 "BadOperation" "BadDump" false,
  kitB2 "BadOperation" "BadNode" false,
  kitB2 "BadOperation" "BadOperation" true,
  kitB2 "BadOperation" "BadSize" false,
  kitB2 "BadOperation" "Illegal" false,
  kitB2 "BadOperation" "LinkError" true,
  exmB "BadOperation" "LinkError" true,
  kitB2 "BadOperation" "LogError" true,
  kitB2 "BadOperation" "NotOnce" false,
  kitT2 "BadOperation" "ValueError" true,
  excB "BadSize" ["size"],
  iniB "BadSize",
  kitB2 "BadSize" "BadDump" false,
  kitB2 "BadSize" "BadNode" false,
  kitB2 "BadSize" "BadOperation" false,
  kitB2 "BadSize" "BadSize" true,
  kitB2 "BadSize" "Illegal" false,
  kitB2 "BadSize" "LinkError" true,
  exmB "BadSize" "LinkError" true,
  kitB2 "BadSize" "LogError" false,
  kitB2 "BadSize" "NotOnce" false,
  kitT2 "BadSize" "ValueError" true,
  excB "Illegal" ["operation", "index"],
  iniB "Illegal",
  (fun K => decide (He.ma K (He.ga K "Illegal") "__init__" = He.ma K (He.ga K "LogError") "__init__")),
  kitB2 "Illegal" "BadDump" false,
  kitB2 "Illegal" "BadNode" false,
  kitB2 "Illegal" "BadOperation" false,
  kitB2 "Illegal" "BadSize" false,
  kitB2 "Illegal" "Illegal" true,
  kitB2 "Illegal" "LinkError" true,
  exmB "Illegal" "LinkError" true,
  kitB2 "Illegal" "LogError" true,
  kitB2 "Illegal" "NotOnce" false,
  kitT2 "Illegal" "ValueError" true,
  excB "NotOnce" ["index"],
  iniB "NotOnce",
  kitB2 "NotOnce" "BadDump" false,
  kitB2 "NotOnce" "BadNode" false,
  kitB2 "NotOnce" "BadOperation" false,
  kitB2 "NotOnce" "BadSize" false,
  kitB2 "NotOnce" "Illegal" false,
  kitB2 "NotOnce" "LinkError" true,
  exmB "NotOnce" "LinkError" true,
  kitB2 "NotOnce" "LogError" false,
  kitB2 "NotOnce" "NotOnce" true,
  kitT2 "NotOnce" "ValueError" true]
abbrev R : PySem.W.OpenRow := PySem.W.OpenLaw.row PySem.Challenge.rw_latelink_k22_late_writes
abbrev hk : PySem.W.Hook := hookY 6 chkL fnL
def ob (s : PySem.W.SharedT) : He.AlD := obsYG 6 chkL fnL (HandSHeadRun.getT s)
theorem ob_eq (s : PySem.W.SharedT) : ob s = hk.obs s.abs := obsYG_eq (HandSHeadRun.getT_eq s)
def loose0 : List Str := ["_wall", "__name__", "LinkError", "LogError", "BadOperation", "Illegal", "BadSize", "BadNode", "BadDump", "NotOnce", "DIGITS", "MOST_DIGITS", "Links", "check_size", "check_operation", "is_positive", "dump_of", "_joined", "_read_numbers", "_read_rights"]
def loose1 : List Str := ["_read_lefts", "_read_outs", "replay", "play", "late_writes", "is_complete", "safe_next", "_check_once", "_late_gaps", "_law_mixed", "_law_box", "_law_take", "_law_size", "_law_range", "_law_start", "_law_late", "_law_step", "_law_pattern", "_law_log", "_law_due"]
def loose2 : List Str := ["_law_integer", "_law_row", "_law_pairs", "_law_agrees", "_law_twice", "_law_illegal", "_law_faulty", "_law_ask", "_law_fields", "_law_refusal"]
def loose : List Str := loose0 ++ loose1 ++ loose2
set_option maxHeartbeats 0 in
theorem run (w : World) : HandSHeadRun.RunEq R (PySem.W.view R.prog [54]) hk ob 8000 loose w := by
  intro os
  kernel_rfl
/-- what the top has written -/
structure Txt (K : PySem.W.Frag) (mg : Str → Option Value) : Prop where
  g_LinkError : mg "LinkError" = some (.ref (He.ga K "LinkError"))
  g_LogError : mg "LogError" = some (.ref (He.ga K "LogError"))
  g_BadOperation : mg "BadOperation" = some (.ref (He.ga K "BadOperation"))
  g_Illegal : mg "Illegal" = some (.ref (He.ga K "Illegal"))
  g_BadSize : mg "BadSize" = some (.ref (He.ga K "BadSize"))
  g_BadNode : mg "BadNode" = some (.ref (He.ga K "BadNode"))
  g_BadDump : mg "BadDump" = some (.ref (He.ga K "BadDump"))
  g_NotOnce : mg "NotOnce" = some (.ref (He.ga K "NotOnce"))
  g_Links : mg "Links" = some (.ref (He.ga K "Links"))
  gf__law_late : mg "_law_late" = some (.ref (He.ga K "_law_late"))
  gf__law_start : mg "_law_start" = some (.ref (He.ga K "_law_start"))
  gf__law_step : mg "_law_step" = some (.ref (He.ga K "_law_step"))
  gf__law_due : mg "_law_due" = some (.ref (He.ga K "_law_due"))
  gf__law_integer : mg "_law_integer" = some (.ref (He.ga K "_law_integer"))
  gf__law_row : mg "_law_row" = some (.ref (He.ga K "_law_row"))
  gf__law_pairs : mg "_law_pairs" = some (.ref (He.ga K "_law_pairs"))
  gf_check_size : mg "check_size" = some (.ref (He.ga K "check_size"))
  gf_check_operation : mg "check_operation" = some (.ref (He.ga K "check_operation"))
  gf_play : mg "play" = some (.ref (He.ga K "play"))
  gf_replay : mg "replay" = some (.ref (He.ga K "replay"))
  gf__check_once : mg "_check_once" = some (.ref (He.ga K "_check_once"))
  gf_is_complete : mg "is_complete" = some (.ref (He.ga K "is_complete"))
  gf__late_gaps : mg "_late_gaps" = some (.ref (He.ga K "_late_gaps"))
  gf_late_writes : mg "late_writes" = some (.ref (He.ga K "late_writes"))
  gf_safe_next : mg "safe_next" = some (.ref (He.ga K "safe_next"))
  gf__law_agrees : mg "_law_agrees" = some (.ref (He.ga K "_law_agrees"))
  gf__law_box : mg "_law_box" = some (.ref (He.ga K "_law_box"))
  gf__law_mixed : mg "_law_mixed" = some (.ref (He.ga K "_law_mixed"))
  gf__law_take : mg "_law_take" = some (.ref (He.ga K "_law_take"))
  gf__law_illegal : mg "_law_illegal" = some (.ref (He.ga K "_law_illegal"))
  gf__law_twice : mg "_law_twice" = some (.ref (He.ga K "_law_twice"))
  gf__law_faulty : mg "_law_faulty" = some (.ref (He.ga K "_law_faulty"))
  gf__law_pattern : mg "_law_pattern" = some (.ref (He.ga K "_law_pattern"))
  gf__law_range : mg "_law_range" = some (.ref (He.ga K "_law_range"))
  gf__law_log : mg "_law_log" = some (.ref (He.ga K "_law_log"))
  gf__law_ask : mg "_law_ask" = some (.ref (He.ga K "_law_ask"))
  gf__law_fields : mg "_law_fields" = some (.ref (He.ga K "_law_fields"))
  gf__law_refusal : mg "_law_refusal" = some (.ref (He.ga K "_law_refusal"))
  gf__law_size : mg "_law_size" = some (.ref (He.ga K "_law_size"))
  gf_law : mg "law" = some (.ref (He.ga K "law"))
  b_ValueError : mg "ValueError" = none
  b_abs : mg "abs" = none
  b_bool : mg "bool" = none
  b_enumerate : mg "enumerate" = none
  b_int : mg "int" = none
  b_isinstance : mg "isinstance" = none
  b_len : mg "len" = none
  b_list : mg "list" = none
  b_max : mg "max" = none
  b_min : mg "min" = none
  b_range : mg "range" = none
  b_str : mg "str" = none
  b_tuple : mg "tuple" = none
  k_DIGITS : ∃ t, mg "DIGITS" = some (.str "0123456789" t)
  k_MOST_DIGITS : ∃ t, mg "MOST_DIGITS" = some (.int 9 t)
  cc_Links_MOST : ∃ mc u, ClX.CRead K (He.ga K "Links") mc ∧ ClX.CVal K (He.ga K "Links") mc "MOST" (.int 60) u
  cl_Links : Cls K (He.ga K "Links")
  ty_Links : PySem.W.findIn K (.ref (He.ga K "Links")) "__class__" = some (some (.builtin "object.__class__")) ∧ PySem.W.mroIn K (He.ga K "Links") (.type "object") = some true
  na_Links__lefts : NoAttr K (He.ga K "Links") "_lefts"
  na_Links__out : NoAttr K (He.ga K "Links") "_out"
  na_Links__rights : NoAttr K (He.ga K "Links") "_rights"
  na_Links_size : NoAttr K (He.ga K "Links") "size"
  me_Links_outs : Meth K (He.ga K "Links") "outs" (He.ma K (He.ga K "Links") "outs")
  mk_Links : Mk K (He.ga K "Links") (He.ma K (He.ga K "Links") "__init__")
  me_Links_is_legal : Meth K (He.ga K "Links") "is_legal" (He.ma K (He.ga K "Links") "is_legal")
  me_Links_check : Meth K (He.ga K "Links") "check" (He.ma K (He.ga K "Links") "check")
  me_Links_apply_at : Meth K (He.ga K "Links") "apply_at" (He.ma K (He.ga K "Links") "apply_at")
  me_Links_copy : Meth K (He.ga K "Links") "copy" (He.ma K (He.ga K "Links") "copy")
  me_Links_apply : Meth K (He.ga K "Links") "apply" (He.ma K (He.ga K "Links") "apply")
  me_Links_left : Meth K (He.ga K "Links") "left" (He.ma K (He.ga K "Links") "left")
  me_Links_right : Meth K (He.ga K "Links") "right" (He.ma K (He.ga K "Links") "right")
  me_Links_is_out : Meth K (He.ga K "Links") "is_out" (He.ma K (He.ga K "Links") "is_out")
  ex_BadDump : ExK K (He.ga K "BadDump")
  ex_BadNode : ExK K (He.ga K "BadNode")
  ex_BadOperation : ExK K (He.ga K "BadOperation")
  ex_BadSize : ExK K (He.ga K "BadSize")
  ex_Illegal : ExK K (He.ga K "Illegal")
  ex_LinkError : ExK K (He.ga K "LinkError")
  ex_LogError : ExK K (He.ga K "LogError")
  ex_NotOnce : ExK K (He.ga K "NotOnce")
  oe_BadNode : OexC K (He.ga K "BadNode") ∧ ∀ f ∈ (["node"] : List Str), PySem.W.findIn K (.ref (He.ga K "BadNode")) f = some none
  in_BadNode : PySem.W.findIn K (.ref (He.ga K "BadNode")) "__init__" = some (some (.ref (He.ma K (He.ga K "BadNode") "__init__"))) ∧ PySem.W.typeIn K (.ref (He.ma K (He.ga K "BadNode") "__init__")) = some (.type "function")
  kit_BadNode_BadDump : PySem.W.kitOne K (.ref (He.ga K "BadNode")) (.ref (He.ga K "BadDump")) = some false
  kit_BadNode_BadNode : PySem.W.kitOne K (.ref (He.ga K "BadNode")) (.ref (He.ga K "BadNode")) = some true
  kit_BadNode_BadOperation : PySem.W.kitOne K (.ref (He.ga K "BadNode")) (.ref (He.ga K "BadOperation")) = some false
  kit_BadNode_BadSize : PySem.W.kitOne K (.ref (He.ga K "BadNode")) (.ref (He.ga K "BadSize")) = some false
  kit_BadNode_Illegal : PySem.W.kitOne K (.ref (He.ga K "BadNode")) (.ref (He.ga K "Illegal")) = some false
  kit_BadNode_LinkError : PySem.W.kitOne K (.ref (He.ga K "BadNode")) (.ref (He.ga K "LinkError")) = some true
  exm_BadNode_LinkError : PySem.W.exmOne K (.ref (He.ga K "BadNode")) (.ref (He.ga K "LinkError")) = some true
  kit_BadNode_LogError : PySem.W.kitOne K (.ref (He.ga K "BadNode")) (.ref (He.ga K "LogError")) = some false
  kit_BadNode_NotOnce : PySem.W.kitOne K (.ref (He.ga K "BadNode")) (.ref (He.ga K "NotOnce")) = some false
  kit_BadNode_ValueError : PySem.W.kitOne K (.ref (He.ga K "BadNode")) (.type "ValueError") = some true
  oe_BadOperation : OexC K (He.ga K "BadOperation") ∧ ∀ f ∈ (["operation", "index"] : List Str), PySem.W.findIn K (.ref (He.ga K "BadOperation")) f = some none
  in_BadOperation : PySem.W.findIn K (.ref (He.ga K "BadOperation")) "__init__" = some (some (.ref (He.ma K (He.ga K "BadOperation") "__init__"))) ∧ PySem.W.typeIn K (.ref (He.ma K (He.ga K "BadOperation") "__init__")) = some (.type "function")
  sm_BadOperation : He.ma K (He.ga K "BadOperation") "__init__" = He.ma K (He.ga K "LogError") "__init__"
  kit_BadOperation_BadDump : PySem.W.kitOne K (.ref (He.ga K "BadOperation")) (.ref (He.ga K "BadDump")) = some false
  kit_BadOperation_BadNode : PySem.W.kitOne K (.ref (He.ga K "BadOperation")) (.ref (He.ga K "BadNode")) = some false
  kit_BadOperation_BadOperation : PySem.W.kitOne K (.ref (He.ga K "BadOperation")) (.ref (He.ga K "BadOperation")) = some true
  kit_BadOperation_BadSize : PySem.W.kitOne K (.ref (He.ga K "BadOperation")) (.ref (He.ga K "BadSize")) = some false
  kit_BadOperation_Illegal : PySem.W.kitOne K (.ref (He.ga K "BadOperation")) (.ref (He.ga K "Illegal")) = some false
  kit_BadOperation_LinkError : PySem.W.kitOne K (.ref (He.ga K "BadOperation")) (.ref (He.ga K "LinkError")) = some true
  exm_BadOperation_LinkError : PySem.W.exmOne K (.ref (He.ga K "BadOperation")) (.ref (He.ga K "LinkError")) = some true
  kit_BadOperation_LogError : PySem.W.kitOne K (.ref (He.ga K "BadOperation")) (.ref (He.ga K "LogError")) = some true
  kit_BadOperation_NotOnce : PySem.W.kitOne K (.ref (He.ga K "BadOperation")) (.ref (He.ga K "NotOnce")) = some false
  kit_BadOperation_ValueError : PySem.W.kitOne K (.ref (He.ga K "BadOperation")) (.type "ValueError") = some true
  oe_BadSize : OexC K (He.ga K "BadSize") ∧ ∀ f ∈ (["size"] : List Str), PySem.W.findIn K (.ref (He.ga K "BadSize")) f = some none
  in_BadSize : PySem.W.findIn K (.ref (He.ga K "BadSize")) "__init__" = some (some (.ref (He.ma K (He.ga K "BadSize") "__init__"))) ∧ PySem.W.typeIn K (.ref (He.ma K (He.ga K "BadSize") "__init__")) = some (.type "function")
  kit_BadSize_BadDump : PySem.W.kitOne K (.ref (He.ga K "BadSize")) (.ref (He.ga K "BadDump")) = some false
  kit_BadSize_BadNode : PySem.W.kitOne K (.ref (He.ga K "BadSize")) (.ref (He.ga K "BadNode")) = some false
  kit_BadSize_BadOperation : PySem.W.kitOne K (.ref (He.ga K "BadSize")) (.ref (He.ga K "BadOperation")) = some false
  kit_BadSize_BadSize : PySem.W.kitOne K (.ref (He.ga K "BadSize")) (.ref (He.ga K "BadSize")) = some true
  kit_BadSize_Illegal : PySem.W.kitOne K (.ref (He.ga K "BadSize")) (.ref (He.ga K "Illegal")) = some false
  kit_BadSize_LinkError : PySem.W.kitOne K (.ref (He.ga K "BadSize")) (.ref (He.ga K "LinkError")) = some true
  exm_BadSize_LinkError : PySem.W.exmOne K (.ref (He.ga K "BadSize")) (.ref (He.ga K "LinkError")) = some true
  kit_BadSize_LogError : PySem.W.kitOne K (.ref (He.ga K "BadSize")) (.ref (He.ga K "LogError")) = some false
  kit_BadSize_NotOnce : PySem.W.kitOne K (.ref (He.ga K "BadSize")) (.ref (He.ga K "NotOnce")) = some false
  kit_BadSize_ValueError : PySem.W.kitOne K (.ref (He.ga K "BadSize")) (.type "ValueError") = some true
  oe_Illegal : OexC K (He.ga K "Illegal") ∧ ∀ f ∈ (["operation", "index"] : List Str), PySem.W.findIn K (.ref (He.ga K "Illegal")) f = some none
  in_Illegal : PySem.W.findIn K (.ref (He.ga K "Illegal")) "__init__" = some (some (.ref (He.ma K (He.ga K "Illegal") "__init__"))) ∧ PySem.W.typeIn K (.ref (He.ma K (He.ga K "Illegal") "__init__")) = some (.type "function")
  sm_Illegal : He.ma K (He.ga K "Illegal") "__init__" = He.ma K (He.ga K "LogError") "__init__"
  kit_Illegal_BadDump : PySem.W.kitOne K (.ref (He.ga K "Illegal")) (.ref (He.ga K "BadDump")) = some false
  kit_Illegal_BadNode : PySem.W.kitOne K (.ref (He.ga K "Illegal")) (.ref (He.ga K "BadNode")) = some false
  kit_Illegal_BadOperation : PySem.W.kitOne K (.ref (He.ga K "Illegal")) (.ref (He.ga K "BadOperation")) = some false
  kit_Illegal_BadSize : PySem.W.kitOne K (.ref (He.ga K "Illegal")) (.ref (He.ga K "BadSize")) = some false
  kit_Illegal_Illegal : PySem.W.kitOne K (.ref (He.ga K "Illegal")) (.ref (He.ga K "Illegal")) = some true
  kit_Illegal_LinkError : PySem.W.kitOne K (.ref (He.ga K "Illegal")) (.ref (He.ga K "LinkError")) = some true
  exm_Illegal_LinkError : PySem.W.exmOne K (.ref (He.ga K "Illegal")) (.ref (He.ga K "LinkError")) = some true
  kit_Illegal_LogError : PySem.W.kitOne K (.ref (He.ga K "Illegal")) (.ref (He.ga K "LogError")) = some true
  kit_Illegal_NotOnce : PySem.W.kitOne K (.ref (He.ga K "Illegal")) (.ref (He.ga K "NotOnce")) = some false
  kit_Illegal_ValueError : PySem.W.kitOne K (.ref (He.ga K "Illegal")) (.type "ValueError") = some true
  oe_NotOnce : OexC K (He.ga K "NotOnce") ∧ ∀ f ∈ (["index"] : List Str), PySem.W.findIn K (.ref (He.ga K "NotOnce")) f = some none
  in_NotOnce : PySem.W.findIn K (.ref (He.ga K "NotOnce")) "__init__" = some (some (.ref (He.ma K (He.ga K "NotOnce") "__init__"))) ∧ PySem.W.typeIn K (.ref (He.ma K (He.ga K "NotOnce") "__init__")) = some (.type "function")
  kit_NotOnce_BadDump : PySem.W.kitOne K (.ref (He.ga K "NotOnce")) (.ref (He.ga K "BadDump")) = some false
  kit_NotOnce_BadNode : PySem.W.kitOne K (.ref (He.ga K "NotOnce")) (.ref (He.ga K "BadNode")) = some false
  kit_NotOnce_BadOperation : PySem.W.kitOne K (.ref (He.ga K "NotOnce")) (.ref (He.ga K "BadOperation")) = some false
  kit_NotOnce_BadSize : PySem.W.kitOne K (.ref (He.ga K "NotOnce")) (.ref (He.ga K "BadSize")) = some false
  kit_NotOnce_Illegal : PySem.W.kitOne K (.ref (He.ga K "NotOnce")) (.ref (He.ga K "Illegal")) = some false
  kit_NotOnce_LinkError : PySem.W.kitOne K (.ref (He.ga K "NotOnce")) (.ref (He.ga K "LinkError")) = some true
  exm_NotOnce_LinkError : PySem.W.exmOne K (.ref (He.ga K "NotOnce")) (.ref (He.ga K "LinkError")) = some true
  kit_NotOnce_LogError : PySem.W.kitOne K (.ref (He.ga K "NotOnce")) (.ref (He.ga K "LogError")) = some false
  kit_NotOnce_NotOnce : PySem.W.kitOne K (.ref (He.ga K "NotOnce")) (.ref (He.ga K "NotOnce")) = some true
  kit_NotOnce_ValueError : PySem.W.kitOne K (.ref (He.ga K "NotOnce")) (.type "ValueError") = some true
theorem txt_of {K : PySem.W.Frag} {h : Heap} {mg : Str → Option Value} (X : K.In h) (G : h.Ns mainGlobals mg) (c : SaysY chkL fnL K) : Txt K mg where
  g_LinkError := He.glo_ok X G (c.fact 0 (f := fa_ (.glo "LinkError")) rfl)
  g_LogError := He.glo_ok X G (c.fact 1 (f := fa_ (.glo "LogError")) rfl)
  g_BadOperation := He.glo_ok X G (c.fact 2 (f := fa_ (.glo "BadOperation")) rfl)
  g_Illegal := He.glo_ok X G (c.fact 3 (f := fa_ (.glo "Illegal")) rfl)
  g_BadSize := He.glo_ok X G (c.fact 4 (f := fa_ (.glo "BadSize")) rfl)
  g_BadNode := He.glo_ok X G (c.fact 5 (f := fa_ (.glo "BadNode")) rfl)
  g_BadDump := He.glo_ok X G (c.fact 6 (f := fa_ (.glo "BadDump")) rfl)
  g_NotOnce := He.glo_ok X G (c.fact 7 (f := fa_ (.glo "NotOnce")) rfl)
  g_Links := He.glo_ok X G (c.fact 8 (f := fa_ (.glo "Links")) rfl)
  gf__law_late := He.glo_ok X G (c.fact 9 (f := fa_ (.glo "_law_late")) rfl)
  gf__law_start := He.glo_ok X G (c.fact 10 (f := fa_ (.glo "_law_start")) rfl)
  gf__law_step := He.glo_ok X G (c.fact 11 (f := fa_ (.glo "_law_step")) rfl)
  gf__law_due := He.glo_ok X G (c.fact 12 (f := fa_ (.glo "_law_due")) rfl)
  gf__law_integer := He.glo_ok X G (c.fact 13 (f := fa_ (.glo "_law_integer")) rfl)
  gf__law_row := He.glo_ok X G (c.fact 14 (f := fa_ (.glo "_law_row")) rfl)
  gf__law_pairs := He.glo_ok X G (c.fact 15 (f := fa_ (.glo "_law_pairs")) rfl)
  gf_check_size := He.glo_ok X G (c.fact 16 (f := fa_ (.glo "check_size")) rfl)
  gf_check_operation := He.glo_ok X G (c.fact 17 (f := fa_ (.glo "check_operation")) rfl)
  gf_play := He.glo_ok X G (c.fact 18 (f := fa_ (.glo "play")) rfl)
  gf_replay := He.glo_ok X G (c.fact 19 (f := fa_ (.glo "replay")) rfl)
  gf__check_once := He.glo_ok X G (c.fact 20 (f := fa_ (.glo "_check_once")) rfl)
  gf_is_complete := He.glo_ok X G (c.fact 21 (f := fa_ (.glo "is_complete")) rfl)
  gf__late_gaps := He.glo_ok X G (c.fact 22 (f := fa_ (.glo "_late_gaps")) rfl)
  gf_late_writes := He.glo_ok X G (c.fact 23 (f := fa_ (.glo "late_writes")) rfl)
  gf_safe_next := He.glo_ok X G (c.fact 24 (f := fa_ (.glo "safe_next")) rfl)
  gf__law_agrees := He.glo_ok X G (c.fact 25 (f := fa_ (.glo "_law_agrees")) rfl)
  gf__law_box := He.glo_ok X G (c.fact 26 (f := fa_ (.glo "_law_box")) rfl)
  gf__law_mixed := He.glo_ok X G (c.fact 27 (f := fa_ (.glo "_law_mixed")) rfl)
  gf__law_take := He.glo_ok X G (c.fact 28 (f := fa_ (.glo "_law_take")) rfl)
  gf__law_illegal := He.glo_ok X G (c.fact 29 (f := fa_ (.glo "_law_illegal")) rfl)
  gf__law_twice := He.glo_ok X G (c.fact 30 (f := fa_ (.glo "_law_twice")) rfl)
  gf__law_faulty := He.glo_ok X G (c.fact 31 (f := fa_ (.glo "_law_faulty")) rfl)
  gf__law_pattern := He.glo_ok X G (c.fact 32 (f := fa_ (.glo "_law_pattern")) rfl)
  gf__law_range := He.glo_ok X G (c.fact 33 (f := fa_ (.glo "_law_range")) rfl)
  gf__law_log := He.glo_ok X G (c.fact 34 (f := fa_ (.glo "_law_log")) rfl)
  gf__law_ask := He.glo_ok X G (c.fact 35 (f := fa_ (.glo "_law_ask")) rfl)
  gf__law_fields := He.glo_ok X G (c.fact 36 (f := fa_ (.glo "_law_fields")) rfl)
  gf__law_refusal := He.glo_ok X G (c.fact 37 (f := fa_ (.glo "_law_refusal")) rfl)
  gf__law_size := He.glo_ok X G (c.fact 38 (f := fa_ (.glo "_law_size")) rfl)
  gf_law := He.glo_ok X G (c.fact 39 (f := fa_ (.glo "law")) rfl)
  b_ValueError := He.free_ok X G (c.fact 40 (f := fa_ (.free "ValueError")) rfl)
  b_abs := He.free_ok X G (c.fact 41 (f := fa_ (.free "abs")) rfl)
  b_bool := He.free_ok X G (c.fact 42 (f := fa_ (.free "bool")) rfl)
  b_enumerate := He.free_ok X G (c.fact 43 (f := fa_ (.free "enumerate")) rfl)
  b_int := He.free_ok X G (c.fact 44 (f := fa_ (.free "int")) rfl)
  b_isinstance := He.free_ok X G (c.fact 45 (f := fa_ (.free "isinstance")) rfl)
  b_len := He.free_ok X G (c.fact 46 (f := fa_ (.free "len")) rfl)
  b_list := He.free_ok X G (c.fact 47 (f := fa_ (.free "list")) rfl)
  b_max := He.free_ok X G (c.fact 48 (f := fa_ (.free "max")) rfl)
  b_min := He.free_ok X G (c.fact 49 (f := fa_ (.free "min")) rfl)
  b_range := He.free_ok X G (c.fact 50 (f := fa_ (.free "range")) rfl)
  b_str := He.free_ok X G (c.fact 51 (f := fa_ (.free "str")) rfl)
  b_tuple := He.free_ok X G (c.fact 52 (f := fa_ (.free "tuple")) rfl)
  k_DIGITS := He.str_ok X G (c.fact 53 (f := fa_ (.str "DIGITS" "0123456789")) rfl)
  k_MOST_DIGITS := He.int_ok X G (c.fact 54 (f := fa_ (.int "MOST_DIGITS" 9)) rfl)
  cc_Links_MOST := ccB_ok (c.fact 55 (f := ccB "Links" "MOST" 60) rfl)
  cl_Links := He.cls_ok (c.fact 56 (f := fa_ (.cls "Links")) rfl)
  ty_Links := tyB_ok (c.fact 57 (f := tyB "Links") rfl)
  na_Links__lefts := He.noat_ok (c.fact 58 (f := fa_ (.noat "Links" "_lefts")) rfl)
  na_Links__out := He.noat_ok (c.fact 59 (f := fa_ (.noat "Links" "_out")) rfl)
  na_Links__rights := He.noat_ok (c.fact 60 (f := fa_ (.noat "Links" "_rights")) rfl)
  na_Links_size := He.noat_ok (c.fact 61 (f := fa_ (.noat "Links" "size")) rfl)
  me_Links_outs := He.meth_ok (c.fact 62 (f := fa_ (.meth "Links" "outs")) rfl)
  mk_Links := He.mkr_ok (c.fact 63 (f := fa_ (.mkr "Links")) rfl)
  me_Links_is_legal := He.meth_ok (c.fact 64 (f := fa_ (.meth "Links" "is_legal")) rfl)
  me_Links_check := He.meth_ok (c.fact 65 (f := fa_ (.meth "Links" "check")) rfl)
  me_Links_apply_at := He.meth_ok (c.fact 66 (f := fa_ (.meth "Links" "apply_at")) rfl)
  me_Links_copy := He.meth_ok (c.fact 67 (f := fa_ (.meth "Links" "copy")) rfl)
  me_Links_apply := He.meth_ok (c.fact 68 (f := fa_ (.meth "Links" "apply")) rfl)
  me_Links_left := He.meth_ok (c.fact 69 (f := fa_ (.meth "Links" "left")) rfl)
  me_Links_right := He.meth_ok (c.fact 70 (f := fa_ (.meth "Links" "right")) rfl)
  me_Links_is_out := He.meth_ok (c.fact 71 (f := fa_ (.meth "Links" "is_out")) rfl)
  ex_BadDump := askB_ok (c.fact 72 (f := askB "BadDump") rfl)
  ex_BadNode := askB_ok (c.fact 73 (f := askB "BadNode") rfl)
  ex_BadOperation := askB_ok (c.fact 74 (f := askB "BadOperation") rfl)
  ex_BadSize := askB_ok (c.fact 75 (f := askB "BadSize") rfl)
  ex_Illegal := askB_ok (c.fact 76 (f := askB "Illegal") rfl)
  ex_LinkError := askB_ok (c.fact 77 (f := askB "LinkError") rfl)
  ex_LogError := askB_ok (c.fact 78 (f := askB "LogError") rfl)
  ex_NotOnce := askB_ok (c.fact 79 (f := askB "NotOnce") rfl)
  oe_BadNode := excB_ok (c.fact 80 (f := excB "BadNode" ["node"]) rfl)
  in_BadNode := iniB_ok (c.fact 81 (f := iniB "BadNode") rfl)
  kit_BadNode_BadDump := of_decide_eq_true (c.fact 82 (f := kitB2 "BadNode" "BadDump" false) rfl)
  kit_BadNode_BadNode := of_decide_eq_true (c.fact 83 (f := kitB2 "BadNode" "BadNode" true) rfl)
  kit_BadNode_BadOperation := of_decide_eq_true (c.fact 84 (f := kitB2 "BadNode" "BadOperation" false) rfl)
  kit_BadNode_BadSize := of_decide_eq_true (c.fact 85 (f := kitB2 "BadNode" "BadSize" false) rfl)
  kit_BadNode_Illegal := of_decide_eq_true (c.fact 86 (f := kitB2 "BadNode" "Illegal" false) rfl)
  kit_BadNode_LinkError := of_decide_eq_true (c.fact 87 (f := kitB2 "BadNode" "LinkError" true) rfl)
  exm_BadNode_LinkError := of_decide_eq_true (c.fact 88 (f := exmB "BadNode" "LinkError" true) rfl)
  kit_BadNode_LogError := of_decide_eq_true (c.fact 89 (f := kitB2 "BadNode" "LogError" false) rfl)
  kit_BadNode_NotOnce := of_decide_eq_true (c.fact 90 (f := kitB2 "BadNode" "NotOnce" false) rfl)
  kit_BadNode_ValueError := of_decide_eq_true (c.fact 91 (f := kitT2 "BadNode" "ValueError" true) rfl)
  oe_BadOperation := excB_ok (c.fact 92 (f := excB "BadOperation" ["operation", "index"]) rfl)
  in_BadOperation := iniB_ok (c.fact 93 (f := iniB "BadOperation") rfl)
  sm_BadOperation := of_decide_eq_true (c.fact 94 (f := (fun K => decide (He.ma K (He.ga K "BadOperation") "__init__" = He.ma K (He.ga K "LogError") "__init__"))) rfl)
  kit_BadOperation_BadDump := of_decide_eq_true (c.fact 95 (f := kitB2 "BadOperation" "BadDump" false) rfl)
  kit_BadOperation_BadNode := of_decide_eq_true (c.fact 96 (f := kitB2 "BadOperation" "BadNode" false) rfl)
  kit_BadOperation_BadOperation := of_decide_eq_true (c.fact 97 (f := kitB2 "BadOperation" "BadOperation" true) rfl)
  kit_BadOperation_BadSize := of_decide_eq_true (c.fact 98 (f := kitB2 "BadOperation" "BadSize" false) rfl)
  kit_BadOperation_Illegal := of_decide_eq_true (c.fact 99 (f := kitB2 "BadOperation" "Illegal" false) rfl)
  kit_BadOperation_LinkError := of_decide_eq_true (c.fact 100 (f := kitB2 "BadOperation" "LinkError" true) rfl)
  exm_BadOperation_LinkError := of_decide_eq_true (c.fact 101 (f := exmB "BadOperation" "LinkError" true) rfl)
  kit_BadOperation_LogError := of_decide_eq_true (c.fact 102 (f := kitB2 "BadOperation" "LogError" true) rfl)
  kit_BadOperation_NotOnce := of_decide_eq_true (c.fact 103 (f := kitB2 "BadOperation" "NotOnce" false) rfl)
  kit_BadOperation_ValueError := of_decide_eq_true (c.fact 104 (f := kitT2 "BadOperation" "ValueError" true) rfl)
  oe_BadSize := excB_ok (c.fact 105 (f := excB "BadSize" ["size"]) rfl)
  in_BadSize := iniB_ok (c.fact 106 (f := iniB "BadSize") rfl)
  kit_BadSize_BadDump := of_decide_eq_true (c.fact 107 (f := kitB2 "BadSize" "BadDump" false) rfl)
  kit_BadSize_BadNode := of_decide_eq_true (c.fact 108 (f := kitB2 "BadSize" "BadNode" false) rfl)
  kit_BadSize_BadOperation := of_decide_eq_true (c.fact 109 (f := kitB2 "BadSize" "BadOperation" false) rfl)
  kit_BadSize_BadSize := of_decide_eq_true (c.fact 110 (f := kitB2 "BadSize" "BadSize" true) rfl)
  kit_BadSize_Illegal := of_decide_eq_true (c.fact 111 (f := kitB2 "BadSize" "Illegal" false) rfl)
  kit_BadSize_LinkError := of_decide_eq_true (c.fact 112 (f := kitB2 "BadSize" "LinkError" true) rfl)
  exm_BadSize_LinkError := of_decide_eq_true (c.fact 113 (f := exmB "BadSize" "LinkError" true) rfl)
  kit_BadSize_LogError := of_decide_eq_true (c.fact 114 (f := kitB2 "BadSize" "LogError" false) rfl)
  kit_BadSize_NotOnce := of_decide_eq_true (c.fact 115 (f := kitB2 "BadSize" "NotOnce" false) rfl)
  kit_BadSize_ValueError := of_decide_eq_true (c.fact 116 (f := kitT2 "BadSize" "ValueError" true) rfl)
  oe_Illegal := excB_ok (c.fact 117 (f := excB "Illegal" ["operation", "index"]) rfl)
  in_Illegal := iniB_ok (c.fact 118 (f := iniB "Illegal") rfl)
  sm_Illegal := of_decide_eq_true (c.fact 119 (f := (fun K => decide (He.ma K (He.ga K "Illegal") "__init__" = He.ma K (He.ga K "LogError") "__init__"))) rfl)
  kit_Illegal_BadDump := of_decide_eq_true (c.fact 120 (f := kitB2 "Illegal" "BadDump" false) rfl)
  kit_Illegal_BadNode := of_decide_eq_true (c.fact 121 (f := kitB2 "Illegal" "BadNode" false) rfl)
  kit_Illegal_BadOperation := of_decide_eq_true (c.fact 122 (f := kitB2 "Illegal" "BadOperation" false) rfl)
  kit_Illegal_BadSize := of_decide_eq_true (c.fact 123 (f := kitB2 "Illegal" "BadSize" false) rfl)
  kit_Illegal_Illegal := of_decide_eq_true (c.fact 124 (f := kitB2 "Illegal" "Illegal" true) rfl)
  kit_Illegal_LinkError := of_decide_eq_true (c.fact 125 (f := kitB2 "Illegal" "LinkError" true) rfl)
  exm_Illegal_LinkError := of_decide_eq_true (c.fact 126 (f := exmB "Illegal" "LinkError" true) rfl)
  kit_Illegal_LogError := of_decide_eq_true (c.fact 127 (f := kitB2 "Illegal" "LogError" true) rfl)
  kit_Illegal_NotOnce := of_decide_eq_true (c.fact 128 (f := kitB2 "Illegal" "NotOnce" false) rfl)
  kit_Illegal_ValueError := of_decide_eq_true (c.fact 129 (f := kitT2 "Illegal" "ValueError" true) rfl)
  oe_NotOnce := excB_ok (c.fact 130 (f := excB "NotOnce" ["index"]) rfl)
  in_NotOnce := iniB_ok (c.fact 131 (f := iniB "NotOnce") rfl)
  kit_NotOnce_BadDump := of_decide_eq_true (c.fact 132 (f := kitB2 "NotOnce" "BadDump" false) rfl)
  kit_NotOnce_BadNode := of_decide_eq_true (c.fact 133 (f := kitB2 "NotOnce" "BadNode" false) rfl)
  kit_NotOnce_BadOperation := of_decide_eq_true (c.fact 134 (f := kitB2 "NotOnce" "BadOperation" false) rfl)
  kit_NotOnce_BadSize := of_decide_eq_true (c.fact 135 (f := kitB2 "NotOnce" "BadSize" false) rfl)
  kit_NotOnce_Illegal := of_decide_eq_true (c.fact 136 (f := kitB2 "NotOnce" "Illegal" false) rfl)
  kit_NotOnce_LinkError := of_decide_eq_true (c.fact 137 (f := kitB2 "NotOnce" "LinkError" true) rfl)
  exm_NotOnce_LinkError := of_decide_eq_true (c.fact 138 (f := exmB "NotOnce" "LinkError" true) rfl)
  kit_NotOnce_LogError := of_decide_eq_true (c.fact 139 (f := kitB2 "NotOnce" "LogError" false) rfl)
  kit_NotOnce_NotOnce := of_decide_eq_true (c.fact 140 (f := kitB2 "NotOnce" "NotOnce" true) rfl)
  kit_NotOnce_ValueError := of_decide_eq_true (c.fact 141 (f := kitT2 "NotOnce" "ValueError" true) rfl)
end G

set_option Elab.async false
set_option linter.all false
set_option maxRecDepth 100000
set_option maxHeartbeats 4000000

namespace G
open PySem PySem.Spec PyProof.Rows L2
def t__law_late (K : PySem.W.Frag) (E : XK) : TS :=
  tSeq (tAsg (tLst (tNil)) (gName 2)) (tSeq (tAsg (tOp (rIx K) (tOp (rIx K) (tVar 0) (tC (.int 0))) (tVar 1)) (gName 3)) (tSeq (tAsg (tOp (rIx K) (tOp (rIx K) (tVar 0) (tC (.int 1))) (tVar 1)) (gName 4)) (tSeq (tIfS (tAnd (tTest (tOp (rNeA K) (tVar 3) (tOp rSubA (tVar 1) (tC (.int 1))))) (tTest (tOp (rEqA K) (tOp (rIx K) (tOp (rIx K) (tVar 0) (tC (.int 2))) (tOp rAddA (tVar 3) (tC (.int 1)))) (tC (.int 2))))) (tDrop (tBM K "list" rAppend (tVar 2) (tCons (tVar 3) (tNil)))) (tNext)) (tSeq (tIfS (tAnd (tTest (tOp (rNeA K) (tVar 4) (tOp rAddA (tVar 1) (tC (.int 1))))) (tTest (tOp (rEqA K) (tOp (rIx K) (tOp (rIx K) (tVar 0) (tC (.int 2))) (tOp rSubA (tVar 4) (tC (.int 1)))) (tC (.int 2))))) (tDrop (tBM K "list" rAppend (tVar 2) (tCons (tOp rSubA (tVar 4) (tC (.int 1))) (tNil)))) (tNext)) (tRet (tVar 2))))))
def t__law_start (K : PySem.W.Frag) (E : XK) : TS :=
  tRet (tLst (tCons (tLc (iRng1 (tCons (tOp rAddA (tVar 0) (tC (.int 2))) (tNil))) (gName 1) (tYes) (tOp rSubA (tVar 1) (tC (.int 1))) [1]) (tCons (tLc (iRng1 (tCons (tOp rAddA (tVar 0) (tC (.int 2))) (tNil))) (gName 1) (tYes) (tOp rAddA (tVar 1) (tC (.int 1))) [1]) (tCons (tOp rMulA (tLst (tCons (tC (.int 0)) (tNil))) (tOp rAddA (tVar 0) (tC (.int 2)))) (tNil)))))
def t__law_step (K : PySem.W.Frag) (E : XK) : TS :=
  tSeq (tAsg (tOp (rIx K) (tVar 0) (tC (.int 0))) (gName 2)) (tSeq (tAsg (tOp (rIx K) (tVar 0) (tC (.int 1))) (gName 3)) (tSeq (tAsg (tOp (rIx K) (tVar 0) (tC (.int 2))) (gName 4)) (tSeq (tAsg (tCB rAbsA (tCons (tVar 1) (tNil))) (gName 5)) (tSeq (tAsg (tOp (rIx K) (tVar 2) (tVar 5)) (gName 6)) (tSeq (tAsg (tOp (rIx K) (tVar 3) (tVar 5)) (gName 7)) (tIfS (tTest (tOp rLtA (tVar 1) (tC (.int 0)))) (tSeq (tAsg (tVar 7) (gSub (tVar 3) (tVar 6) rSetL)) (tSeq (tAsg (tVar 6) (gSub (tVar 2) (tVar 7) rSetL)) (tAsg (tC (.int 1)) (gSub (tVar 4) (tVar 5) rSetL)))) (tSeq (tAsg (tVar 5) (gSub (tVar 3) (tVar 6) rSetL)) (tSeq (tAsg (tVar 5) (gSub (tVar 2) (tVar 7) rSetL)) (tAsg (tC (.int 2)) (gSub (tVar 4) (tVar 5) rSetL))))))))))
def t__law_due (K : PySem.W.Frag) (E : XK) : TS :=
  tSeq (tAsg (tCl (sp__law_start K) (fun _ => E) (tCons (tVar 0) (tNil))) (gName 2)) (tSeq (tAsg (tLst (tNil)) (gName 3)) (tSeq (tFor (iRng1 (tCons (tCB (rLenA K) (tCons (tVar 1) (tNil))) (tNil))) (gName 4) (tSeq (tFor (iList K (tCl (sp__law_late K) (fun _ => E) (tCons (tVar 2) (tCons (tCB rAbsA (tCons (tOp (rIx K) (tVar 1) (tVar 4)) (tNil))) (tNil))))) (gName 5) (tDrop (tBM K "list" rAppend (tVar 3) (tCons (tTup (tCons (tVar 4) (tCons (tVar 5) (tNil)))) (tNil))))) (tDrop (tCl (sp22__law_step K) (fun _ => E) (tCons (tVar 2) (tCons (tOp (rIx K) (tVar 1) (tVar 4)) (tNil))))))) (tSeq (tAsg (tLst (tNil)) (gName 6)) (tSeq (tFor (iRng2 (tCons (tC (.int 1)) (tCons (tOp rAddA (tVar 0) (tC (.int 1))) (tNil)))) (gName 7) (tIfS (tAnd (tTest (tOp rLtA (tOp (rIx K) (tOp (rIx K) (tVar 2) (tC (.int 2))) (tVar 7)) (tC (.int 2)))) (tTest (tOp (rEqA K) (tCB (rLenA K) (tCons (tCl (sp__law_late K) (fun _ => E) (tCons (tVar 2) (tCons (tVar 7) (tNil)))) (tNil))) (tC (.int 0))))) (tDrop (tBM K "list" rAppend (tVar 6) (tCons (tOp (rIx K) (tLst (tCons (tUn rNegA (tVar 7)) (tCons (tVar 7) (tNil)))) (tOp (rIx K) (tOp (rIx K) (tVar 2) (tC (.int 2))) (tVar 7))) (tNil)))) (tNext))) (tRet (tLst (tCons (tVar 3) (tCons (tOp (rIn K true) (tC (.int 1)) (tOp (rIx K) (tVar 2) (tC (.int 2)))) (tCons (tVar 6) (tNil))))))))))
def t__law_integer (K : PySem.W.Frag) (E : XK) : TS :=
  tRet (tAndV (tCB (rIsi K) (tCons (tVar 0) (tCons (tC (.ty "int")) (tNil)))) (tNotV (tCB (rIsi K) (tCons (tVar 0) (tCons (tC (.ty "bool")) (tNil))))))
def t__law_row (K : PySem.W.Frag) (E : XK) : TS :=
  tSeq (tIfS (tOr (tNot (tB (tCB (rIsi K) (tCons (tVar 0) (tCons (tC (.ty "list")) (tNil)))))) (tTest (tOp (rNeA K) (tCB (rLenA K) (tCons (tVar 0) (tNil))) (tCB (rLenA K) (tCons (tVar 1) (tNil)))))) (tRet (tC (.bl false))) (tNext)) (tSeq (tFor (iRng1 (tCons (tCB (rLenA K) (tCons (tVar 1) (tNil))) (tNil))) (gName 2) (tIfS (tOr (tNot (tB (tCl (sp__law_integer K) (fun _ => E) (tCons (tOp (rIx K) (tVar 0) (tVar 2)) (tNil))))) (tTest (tOp (rNeA K) (tOp (rIx K) (tVar 0) (tVar 2)) (tOp (rIx K) (tVar 1) (tVar 2))))) (tRet (tC (.bl false))) (tNext))) (tRet (tC (.bl true))))
def t__law_pairs (K : PySem.W.Frag) (E : XK) : TS :=
  tSeq (tIfS (tOr (tNot (tB (tCB (rIsi K) (tCons (tVar 0) (tCons (tC (.ty "list")) (tNil)))))) (tTest (tOp (rNeA K) (tCB (rLenA K) (tCons (tVar 0) (tNil))) (tCB (rLenA K) (tCons (tVar 1) (tNil)))))) (tRet (tC (.bl false))) (tNext)) (tSeq (tFor (iRng1 (tCons (tCB (rLenA K) (tCons (tVar 1) (tNil))) (tNil))) (gName 2) (tIfS (tOr (tNot (tB (tCB (rIsi K) (tCons (tOp (rIx K) (tVar 0) (tVar 2)) (tCons (tC (.ty "tuple")) (tNil)))))) (tNot (tB (tCl (sp__law_row K) (fun _ => E) (tCons (tCB (rListA K) (tCons (tOp (rIx K) (tVar 0) (tVar 2)) (tNil))) (tCons (tCB (rListA K) (tCons (tOp (rIx K) (tVar 1) (tVar 2)) (tNil))) (tNil))))))) (tRet (tC (.bl false))) (tNext))) (tRet (tC (.bl true))))
def t_Links_outs (K : PySem.W.Frag) (E : XK) : TS :=
  tRet (tLc (iRng2 (tCons (tC (.int 1)) (tCons (tOp rAddA (tFld K (tVar 0) "size") (tC (.int 1))) (tNil)))) (gName 1) (tB (tOp (rIx K) (tFld K (tVar 0) "_out") (tVar 1))) (tVar 1) [1])
def t_check_size (K : PySem.W.Frag) (E : XK) : TS :=
  tIfS (tNot (tTest (tChain rLeA rLeA (tC (.int 0)) (tVar 0) (tC (.int 60))))) (tRz (He.ga K "BadSize") ["size"] (fun cls d _ H => E cls d H) (tCons (tVar 0) (tNil))) (tNext)
def t_Links___init__ (K : PySem.W.Frag) (E : XK) : TS :=
  tSeq (tDrop (tCl (sp_check_size K) (fun _ => E) (tCons (tVar 1) (tNil)))) (tSeq (sFld K (tVar 0) (tVar 1) "size") (tSeq (sFld K (tVar 0) (tLstRg (tRg2 (tC (.int 1)) (tOp rAddA (tVar 1) (tC (.int 2))))) "_rights") (tSeq (sFld K (tVar 0) (tOp rAddA (tLst (tCons (tC (.int 0)) (tNil))) (tLstRg (tRg1 (tOp rAddA (tVar 1) (tC (.int 1)))))) "_lefts") (sFld K (tVar 0) (tOp rMulA (tLst (tCons (tC (.bl false)) (tNil))) (tOp rAddA (tVar 1) (tC (.int 2)))) "_out"))))
def t_Links_is_legal (K : PySem.W.Frag) (E : XK) : TS :=
  tRet (tOp (rEqA K) (tOp (rIx K) (tFld K (tVar 0) "_out") (tCB rAbsA (tCons (tVar 1) (tNil)))) (tOp rGtA (tVar 1) (tC (.int 0))))
def t_check_operation (K : PySem.W.Frag) (E : XK) : TS :=
  tIfS (tNot (tTest (tChain rLeA rLeA (tC (.int 1)) (tCB rAbsA (tCons (tVar 1) (tNil))) (tVar 0)))) (tRz (He.ga K "BadOperation") ["operation", "index"] (fun cls d _ H => E cls d H) (tCons (tVar 1) (tCons (tVar 2) (tNil)))) (tNext)
def t_Links_check (K : PySem.W.Frag) (E : XK) : TS :=
  tSeq (tDrop (tCl (sp_check_operation K) (fun _ => E) (tCons (tFld K (tVar 0) "size") (tCons (tVar 1) (tCons (tVar 2) (tNil)))))) (tIfS (tNot (tB (tMt (He.ga K "Links") "is_legal" (sp_Links_is_legal K) (fun _ => E) (tVar 0) (tCons (tVar 1) (tNil))))) (tRz (He.ga K "Illegal") ["operation", "index"] (fun cls d _ H => E cls d H) (tCons (tVar 1) (tCons (tVar 2) (tNil)))) (tNext))
def t_Links_apply_at (K : PySem.W.Frag) (E : XK) : TS :=
  tSeq (tDrop (tMt (He.ga K "Links") "check" (sp_Links_check K) (fun _ => E) (tVar 0) (tCons (tVar 1) (tCons (tVar 2) (tNil))))) (tSeq (tAsg (tCB rAbsA (tCons (tVar 1) (tNil))) (gName 3)) (tSeq (tAsg (tOp (rIx K) (tFld K (tVar 0) "_lefts") (tVar 3)) (gName 4)) (tSeq (tAsg (tOp (rIx K) (tFld K (tVar 0) "_rights") (tVar 3)) (gName 5)) (tSeq (tAsg (tOp rLtA (tVar 1) (tC (.int 0))) (gName 6)) (tSeq (tAsg (tIf (tB (tVar 6)) (tVar 5) (tVar 3)) (gSub (tFld K (tVar 0) "_rights") (tVar 4) rSetL)) (tSeq (tAsg (tIf (tB (tVar 6)) (tVar 4) (tVar 3)) (gSub (tFld K (tVar 0) "_lefts") (tVar 5) rSetL)) (tAsg (tVar 6) (gSub (tFld K (tVar 0) "_out") (tVar 3) rSetL))))))))
def t_Links_copy (K : PySem.W.Frag) (E : XK) : TS :=
  tSeq (tAsg (tMk (He.ga K "Links") (sp_Links___init__ K) (fun _ => E) (tCons (tFld K (tVar 0) "size") (tNil))) (gName 1)) (tSeq (sFld K (tVar 1) (tCB (rListA K) (tCons (tFld K (tVar 0) "_rights") (tNil))) "_rights") (tSeq (sFld K (tVar 1) (tCB (rListA K) (tCons (tFld K (tVar 0) "_lefts") (tNil))) "_lefts") (tSeq (sFld K (tVar 1) (tCB (rListA K) (tCons (tFld K (tVar 0) "_out") (tNil))) "_out") (tRet (tVar 1)))))
def t_play (K : PySem.W.Frag) (E : XK) : TS :=
  tSeq (tAsg (tMt (He.ga K "Links") "copy" (sp_Links_copy K) (fun _ => E) (tVar 0) tNil) (gName 2)) (tSeq (tFor (iEnum K (tCons (tVar 1) (tNil))) (gTup K 2 (gCons (gName 3) (gCons (gName 4) (gNil)))) (tDrop (tMt (He.ga K "Links") "apply_at" (sp_Links_apply_at K) (fun _ => E) (tVar 2) (tCons (tVar 4) (tCons (tVar 3) (tNil)))))) (tRet (tVar 2)))
def t_replay (K : PySem.W.Frag) (E : XK) : TS :=
  tRet (tCl (sp_play K) (fun _ => E) (tCons (tMk (He.ga K "Links") (sp_Links___init__ K) (fun _ => E) (tCons (tVar 0) (tNil))) (tCons (tVar 1) (tNil))))
def t__check_once (K : PySem.W.Frag) (E : XK) : TS :=
  tSeq (tDrop (tCl (sp_replay K) (fun _ => E) (tCons (tVar 0) (tCons (tVar 1) (tNil))))) (tFor (iEnum K (tCons (tVar 1) (tNil))) (gTup K 2 (gCons (gName 2) (gCons (gName 3) (gNil)))) (tIfS (tAnd (tTest (tOp rLtA (tVar 3) (tC (.int 0)))) (tTest (tOp (rIn K false) (tVar 3) (tSl (rSlL K) (tVar 1) (tNoPart) (tPart (tVar 2)))))) (tRz (He.ga K "NotOnce") ["index"] (fun cls d _ H => E cls d H) (tCons (tVar 2) (tNil))) (tNext)))
def t_is_complete (K : PySem.W.Frag) (E : XK) : TS :=
  tSeq (tDrop (tCl (sp__check_once K) (fun _ => E) (tCons (tVar 0) (tCons (tVar 1) (tNil))))) (tRet (tOp (rEqA K) (tCB (rLenA K) (tCons (tMt (He.ga K "Links") "outs" (sp_Links_outs K) (fun _ => E) (tCl (sp_replay K) (fun _ => E) (tCons (tVar 0) (tCons (tVar 1) (tNil)))) tNil) (tNil))) (tC (.int 0))))
def t_Links_apply (K : PySem.W.Frag) (E : XK) : TS :=
  tDrop (tMt (He.ga K "Links") "apply_at" (sp_Links_apply_at K) (fun _ => E) (tVar 0) (tCons (tVar 1) (tCons (tC (.int 0)) (tNil))))
def t_Links_left (K : PySem.W.Frag) (E : XK) : TS :=
  tSeq (tIfS (tNot (tTest (tChain rLeA rLeA (tC (.int 1)) (tVar 1) (tOp rAddA (tFld K (tVar 0) "size") (tC (.int 1)))))) (tRz (He.ga K "BadNode") ["node"] (fun cls d _ H => E cls d H) (tCons (tVar 1) (tNil))) (tNext)) (tRet (tOp (rIx K) (tFld K (tVar 0) "_lefts") (tVar 1)))
def t_Links_right (K : PySem.W.Frag) (E : XK) : TS :=
  tSeq (tIfS (tNot (tTest (tChain rLeA rLeA (tC (.int 0)) (tVar 1) (tFld K (tVar 0) "size")))) (tRz (He.ga K "BadNode") ["node"] (fun cls d _ H => E cls d H) (tCons (tVar 1) (tNil))) (tNext)) (tRet (tOp (rIx K) (tFld K (tVar 0) "_rights") (tVar 1)))
def t__late_gaps (K : PySem.W.Frag) (E : XK) : TS :=
  tSeq (tAsg (tCB rAbsA (tCons (tVar 2) (tNil))) (gName 3)) (tSeq (tAsg (tMt (He.ga K "Links") "left" (sp_Links_left K) (fun _ => E) (tVar 0) (tCons (tVar 3) (tNil))) (gName 4)) (tSeq (tAsg (tMt (He.ga K "Links") "right" (sp_Links_right K) (fun _ => E) (tVar 0) (tCons (tVar 3) (tNil))) (gName 5)) (tSeq (tAsg (tLst (tNil)) (gName 6)) (tSeq (tIfS (tAnd (tTest (tOp (rNeA K) (tVar 4) (tOp rSubA (tVar 3) (tC (.int 1))))) (tTest (tOp (rIn K false) (tOp rAddA (tVar 4) (tC (.int 1))) (tVar 1)))) (tDrop (tBM K "list" rAppend (tVar 6) (tCons (tVar 4) (tNil)))) (tNext)) (tSeq (tIfS (tAnd (tTest (tOp (rNeA K) (tVar 5) (tOp rAddA (tVar 3) (tC (.int 1))))) (tTest (tOp (rIn K false) (tOp rSubA (tVar 5) (tC (.int 1))) (tVar 1)))) (tDrop (tBM K "list" rAppend (tVar 6) (tCons (tOp rSubA (tVar 5) (tC (.int 1))) (tNil)))) (tNext)) (tRet (tVar 6)))))))
def t_late_writes (K : PySem.W.Frag) (E : XK) : TS :=
  tSeq (tDrop (tCl (sp__check_once K) (fun _ => E) (tCons (tVar 0) (tCons (tVar 1) (tNil))))) (tSeq (tAsg (tMk (He.ga K "Links") (sp_Links___init__ K) (fun _ => E) (tCons (tVar 0) (tNil))) (gName 2)) (tSeq (tAsg (tLst (tNil)) (gName 3)) (tSeq (tFor (iEnum K (tCons (tVar 1) (tNil))) (gTup K 2 (gCons (gName 4) (gCons (gName 5) (gNil)))) (tSeq (tDrop (tBM K "list" rExtend (tVar 3) (tCons (tLc (iList K (tCl (sp__late_gaps K) (fun _ => E) (tCons (tVar 2) (tCons (tSl (rSlL K) (tVar 1) (tNoPart) (tPart (tVar 4))) (tCons (tVar 5) (tNil)))))) (gName 6) (tYes) (tTup (tCons (tVar 4) (tCons (tVar 6) (tNil)))) [6]) (tNil)))) (tDrop (tMt (He.ga K "Links") "apply" (sp_Links_apply K) (fun _ => E) (tVar 2) (tCons (tVar 5) (tNil)))))) (tRet (tVar 3)))))
def t_Links_is_out (K : PySem.W.Frag) (E : XK) : TS :=
  tSeq (tIfS (tNot (tTest (tChain rLeA rLeA (tC (.int 0)) (tVar 1) (tOp rAddA (tFld K (tVar 0) "size") (tC (.int 1)))))) (tRz (He.ga K "BadNode") ["node"] (fun cls d _ H => E cls d H) (tCons (tVar 1) (tNil))) (tNext)) (tRet (tOp (rIx K) (tFld K (tVar 0) "_out") (tVar 1)))
def t_safe_next (K : PySem.W.Frag) (E : XK) : TS :=
  tSeq (tDrop (tCl (sp__check_once K) (fun _ => E) (tCons (tVar 0) (tCons (tVar 1) (tNil))))) (tSeq (tAsg (tCl (sp_replay K) (fun _ => E) (tCons (tVar 0) (tCons (tVar 1) (tNil)))) (gName 2)) (tSeq (tAsg (tLc (iRng2 (tCons (tC (.int 1)) (tCons (tOp rAddA (tVar 0) (tC (.int 1))) (tNil)))) (gName 5) (tOr (tB (tMt (He.ga K "Links") "is_out" (sp_Links_is_out K) (fun _ => E0) (tVar 2) (tCons (tVar 5) (tNil)))) (tTest (tOp (rIn K true) (tUn rNegA (tVar 5)) (tVar 1)))) (tVar 5) [5]) (gName 3)) (tSeq (tAsg (tLc (iList K (tVar 3)) (gName 5) (tYes) (tIf (tB (tMt (He.ga K "Links") "is_out" (sp_Links_is_out K) (fun _ => E0) (tVar 2) (tCons (tVar 5) (tNil)))) (tVar 5) (tUn rNegA (tVar 5))) [5]) (gName 4)) (tRet (tLc (iList K (tVar 4)) (gName 6) (tNot (tTr K (tCl (sp__late_gaps K) (fun _ => E0) (tCons (tVar 2) (tCons (tVar 1) (tCons (tVar 6) (tNil))))))) (tVar 6) [6])))))
def t__law_agrees (K : PySem.W.Frag) (E : XK) : TS :=
  tSeq (tAsg (tCl (sp22__law_due K) (fun _ => E) (tCons (tVar 0) (tCons (tVar 1) (tNil)))) (gName 2)) (tSeq (tAsg (tCB (rListA K) (tCons (tVar 1) (tNil))) (gName 3)) (tSeq (tAsg (tCl (sp_late_writes K) (fun _ => E) (tCons (tVar 0) (tCons (tVar 3) (tNil)))) (gName 4)) (tSeq (tIfS (tNot (tB (tCl (sp__law_pairs K) (fun _ => E) (tCons (tVar 4) (tCons (tOp (rIx K) (tVar 2) (tC (.int 0))) (tNil)))))) (tRet (tC (.bl false))) (tNext)) (tSeq (tDrop (tBM K "list" rAppend (tVar 4) (tCons (tTup (tCons (tCB (rLenA K) (tCons (tVar 1) (tNil))) (tCons (tC (.int 0)) (tNil)))) (tNil)))) (tSeq (tIfS (tNot (tB (tCl (sp__law_pairs K) (fun _ => E) (tCons (tCl (sp_late_writes K) (fun _ => E) (tCons (tVar 0) (tCons (tVar 3) (tNil)))) (tCons (tOp (rIx K) (tVar 2) (tC (.int 0))) (tNil)))))) (tRet (tC (.bl false))) (tNext)) (tSeq (tAsg (tCl (sp_safe_next K) (fun _ => E) (tCons (tVar 0) (tCons (tVar 3) (tNil)))) (gName 4)) (tSeq (tIfS (tNot (tB (tCl (sp__law_row K) (fun _ => E) (tCons (tVar 4) (tCons (tOp (rIx K) (tVar 2) (tC (.int 2))) (tNil)))))) (tRet (tC (.bl false))) (tNext)) (tSeq (tDrop (tBM K "list" rAppend (tVar 4) (tCons (tC (.int 0)) (tNil)))) (tSeq (tIfS (tNot (tB (tCl (sp__law_row K) (fun _ => E) (tCons (tCl (sp_safe_next K) (fun _ => E) (tCons (tVar 0) (tCons (tVar 3) (tNil)))) (tCons (tOp (rIx K) (tVar 2) (tC (.int 2))) (tNil)))))) (tRet (tC (.bl false))) (tNext)) (tSeq (tIfS (tB (tOp (rIx K) (tVar 2) (tC (.int 1)))) (tRet (tAndV (tOp (rIsB false) (tCl (sp_is_complete K) (fun _ => E) (tCons (tVar 0) (tCons (tVar 3) (tNil)))) (tC (.bl true))) (tOp (rEqA K) (tVar 3) (tVar 1)))) (tNext)) (tRet (tAndV (tOp (rIsB false) (tCl (sp_is_complete K) (fun _ => E) (tCons (tVar 0) (tCons (tVar 3) (tNil)))) (tC (.bl false))) (tOp (rEqA K) (tVar 3) (tVar 1))))))))))))))
def t__law_box (K : PySem.W.Frag) (E : XK) : TS :=
  tSeq (tAsg (tC (.int 0)) (gName 1)) (tSeq (tFor (iList K (tSl (rSlL K) (tVar 0) (tNoPart) (tPart (tC (.int 63))))) (gName 2) (tAsg (tOp rModA (tCB rIntA (tCons (tOp rAddA (tOp rAddA (tOp rMulA (tVar 1) (tC (.int 69621))) (tVar 2)) (tC (.int 1))) (tNil))) (tC (.int 2147483647))) (gName 1))) (tRet (tLst (tCons (tC (.int 0)) (tCons (tVar 1) (tCons (tC (.int 0)) (tCons (tCB (rListA K) (tCons (tSl (rSlL K) (tVar 0) (tNoPart) (tPart (tC (.int 63)))) (tNil))) (tNil))))))))
def t__law_mixed (K : PySem.W.Frag) (E : XK) : TS :=
  tSeq (tAsg (tOp rModA (tCB rIntA (tCons (tOp rAddA (tOp rAddA (tOp rMulA (tVar 0) (tC (.int 48271))) (tOp rMulA (tVar 1) (tC (.int 69621)))) (tC (.int 1234577))) (tNil))) (tC (.int 2147483647))) (gName 2)) (tSeq (tAsg (tOp rModA (tCB rIntA (tCons (tOp rAddA (tOp rAddA (tOp rMulA (tVar 2) (tVar 2)) (tOp rMulA (tVar 1) (tC (.int 40692)))) (tC (.int 7919))) (tNil))) (tC (.int 2147483629))) (gName 3)) (tRet (tOp rDivA (tOp rModA (tCB rIntA (tCons (tOp rAddA (tOp rMulA (tVar 3) (tVar 3)) (tVar 2)) (tNil))) (tC (.int 2147483587))) (tC (.int 32)))))
def t__law_take (K : PySem.W.Frag) (E : XK) : TS :=
  tSeq (tAsg (tOp (rIx K) (tVar 0) (tC (.int 3))) (gName 2)) (tSeq (tIfS (tAnd (tTest (tOp rLtA (tOp (rIx K) (tVar 0) (tC (.int 0))) (tC (.int 2)))) (tTest (tOp rGtA (tCB (rLenA K) (tCons (tVar 2) (tNil))) (tC (.int 0))))) (tSeq (tAsg (tBM K "list" rPopAt (tVar 2) (tCons (tC (.int 0)) (tNil))) (gName 3)) (tSeq (tIfS (tTest (tOp rLtA (tVar 3) (tOp rPowA (tC (.int 10)) (tC (.int 18))))) (tSeq (tAsg (tOp rAddA (tOp (rIx K) (tVar 0) (tC (.int 2))) (tC (.int 1))) (gSub (tVar 0) (tC (.int 2)) rSetL)) (tRet (tOp rModA (tCB rIntA (tCons (tCl (sp__law_mixed K) (fun _ => E) (tCons (tVar 3) (tCons (tOp (rIx K) (tVar 0) (tC (.int 2))) (tNil)))) (tNil))) (tVar 1)))) (tNext)) (tAsg (tVar 3) (gSub (tVar 0) (tC (.int 0)) rSetL)))) (tNext)) (tSeq (tIfS (tTest (tOp rGtA (tOp (rIx K) (tVar 0) (tC (.int 0))) (tC (.int 1)))) (tSeq (tAsg (tOp rModA (tCB rIntA (tCons (tOp (rIx K) (tVar 0) (tC (.int 0))) (tNil))) (tVar 1)) (gName 4)) (tSeq (tAsg (tOp rDivA (tOp (rIx K) (tVar 0) (tC (.int 0))) (tVar 1)) (gSub (tVar 0) (tC (.int 0)) rSetL)) (tRet (tVar 4)))) (tNext)) (tSeq (tAsg (tOp rAddA (tOp (rIx K) (tVar 0) (tC (.int 2))) (tC (.int 1))) (gSub (tVar 0) (tC (.int 2)) rSetL)) (tRet (tOp rModA (tCB rIntA (tCons (tCl (sp__law_mixed K) (fun _ => E) (tCons (tOp (rIx K) (tVar 0) (tC (.int 1))) (tCons (tOp (rIx K) (tVar 0) (tC (.int 2))) (tNil)))) (tNil))) (tVar 1))))))
def t__law_illegal (K : PySem.W.Frag) (E : XK) : TS :=
  tSeq (tAsg (tOp rAddA (tC (.int 1)) (tCl (sp__law_take K) (fun _ => E) (tCons (tVar 0) (tCons (tVar 1) (tNil))))) (gName 3)) (tSeq (tIfS (tTest (tOp (rEqA K) (tOp rModA (tCB (rLenA K) (tCons (tLc (iList K (tVar 2)) (gName 4) (tTest (tOp (rEqA K) (tCB rAbsA (tCons (tVar 4) (tNil))) (tVar 3))) (tVar 4) [4]) (tNil))) (tC (.int 2))) (tC (.int 1)))) (tRet (tUn rNegA (tVar 3))) (tNext)) (tRet (tVar 3)))
def t__law_twice (K : PySem.W.Frag) (E : XK) : TS :=
  tSeq (tAsg (tCl (sp__law_take K) (fun _ => E) (tCons (tVar 0) (tCons (tOp rAddA (tCB (rLenA K) (tCons (tVar 2) (tNil))) (tC (.int 1))) (tNil)))) (gName 3)) (tSeq (tAsg (tOp rAddA (tC (.int 1)) (tCl (sp__law_take K) (fun _ => E) (tCons (tVar 0) (tCons (tVar 1) (tNil))))) (gName 4)) (tSeq (tAsg (tLc (iList K (tSl (rSlL K) (tVar 2) (tNoPart) (tPart (tVar 3)))) (gName 11) (tTest (tOp (rEqA K) (tCB rAbsA (tCons (tVar 11) (tNil))) (tVar 4))) (tVar 11) [11]) (gName 5)) (tSeq (tAsg (tOp rAddA (tSl (rSlL K) (tVar 2) (tNoPart) (tPart (tVar 3))) (tOp (rIx K) (tLst (tCons (tLst (tCons (tUn rNegA (tVar 4)) (tCons (tVar 4) (tNil)))) (tCons (tLst (tCons (tVar 4) (tNil))) (tCons (tLst (tNil)) (tNil))))) (tCB (rLenA K) (tCons (tVar 5) (tNil))))) (gName 6)) (tSeq (tAsg (tLc (iList K (tSl (rSlL K) (tVar 2) (tPart (tVar 3)) (tNoPart))) (gName 11) (tTest (tOp (rNeA K) (tCB rAbsA (tCons (tVar 11) (tNil))) (tVar 4))) (tVar 11) [11]) (gName 7)) (tSeq (tAsg (tOp (rIx K) (tLst (tCons (tLst (tNil)) (tCons (tLst (tCons (tVar 4) (tNil))) (tCons (tLst (tCons (tVar 4) (tCons (tUn rNegA (tVar 4)) (tNil)))) (tCons (tLst (tCons (tVar 4) (tCons (tUn rNegA (tVar 4)) (tCons (tVar 4) (tNil))))) (tNil)))))) (tCl (sp__law_take K) (fun _ => E) (tCons (tVar 0) (tCons (tC (.int 4)) (tNil))))) (gName 8)) (tSeq (tAsg (tOp rAddA (tOp rAddA (tOp rAddA (tVar 6) (tLst (tCons (tUn rNegA (tVar 4)) (tNil)))) (tVar 7)) (tVar 8)) (gName 9)) (tSeq (tIfS (tTest (tOp (rEqA K) (tCl (sp__law_take K) (fun _ => E) (tCons (tVar 0) (tCons (tC (.int 2)) (tNil)))) (tC (.int 1)))) (tSeq (tAsg (tOp rAddA (tC (.int 1)) (tCl (sp__law_take K) (fun _ => E) (tCons (tVar 0) (tCons (tVar 1) (tNil))))) (gName 10)) (tSeq (tIfS (tTest (tOp (rEqA K) (tOp rModA (tCB (rLenA K) (tCons (tLc (iList K (tVar 9)) (gName 11) (tTest (tOp (rEqA K) (tCB rAbsA (tCons (tVar 11) (tNil))) (tVar 10))) (tVar 11) [11]) (tNil))) (tC (.int 2))) (tC (.int 1)))) (tDrop (tBM K "list" rAppend (tVar 9) (tCons (tVar 10) (tNil)))) (tNext)) (tAsg (tOp rAddA (tVar 9) (tLst (tCons (tUn rNegA (tVar 10)) (tCons (tVar 10) (tCons (tUn rNegA (tVar 10)) (tNil)))))) (gName 9)))) (tNext)) (tRet (tLst (tCons (tVar 9) (tCons (tCB (rLenA K) (tCons (tVar 6) (tNil))) (tNil))))))))))))
def t__law_faulty (K : PySem.W.Frag) (E : XK) : TS :=
  tSeq (tAsg (tLst (tCons (tVar 2) (tCons (tC (.int 0)) (tNil)))) (gName 3)) (tSeq (tAsg (tC (.int 2)) (gName 4)) (tSeq (tIfS (tTest (tOp rGtA (tVar 1) (tC (.int 0)))) (tSeq (tAsg (tCl (sp__law_twice K) (fun _ => E) (tCons (tVar 0) (tCons (tVar 1) (tCons (tVar 2) (tNil))))) (gName 3)) (tAsg (tCl (sp__law_take K) (fun _ => E) (tCons (tVar 0) (tCons (tC (.int 3)) (tNil)))) (gName 4))) (tNext)) (tSeq (tIfS (tTest (tOp (rEqA K) (tVar 4) (tC (.int 0)))) (tRet (tLst (tCons (tOp (rIx K) (tVar 3) (tC (.int 0))) (tCons (tTup (tCons (tC (.str "once")) (tCons (tOp (rIx K) (tVar 3) (tC (.int 1))) (tNil)))) (tNil))))) (tNext)) (tSeq (tAsg (tCl (sp__law_take K) (fun _ => E) (tCons (tVar 0) (tCons (tOp rAddA (tCB (rLenA K) (tCons (tOp (rIx K) (tVar 3) (tC (.int 0))) (tNil))) (tC (.int 1))) (tNil)))) (gName 5)) (tSeq (tAsg (tOp (rIx K) (tLst (tCons (tC (.int 0)) (tCons (tOp rAddA (tVar 1) (tC (.int 1))) (tCons (tOp rAddA (tOp rAddA (tVar 1) (tC (.int 2))) (tCl (sp__law_take K) (fun _ => E) (tCons (tVar 0) (tCons (tOp rPowA (tC (.int 10)) (tC (.int 6))) (tNil))))) (tNil))))) (tCl (sp__law_take K) (fun _ => E) (tCons (tVar 0) (tCons (tC (.int 3)) (tNil))))) (gName 6)) (tSeq (tIfS (tTest (tOp (rEqA K) (tCl (sp__law_take K) (fun _ => E) (tCons (tVar 0) (tCons (tC (.int 2)) (tNil)))) (tC (.int 1)))) (tAsg (tUn rNegA (tVar 6)) (gName 6)) (tNext)) (tSeq (tAsg (tSl (rSlL K) (tOp (rIx K) (tVar 3) (tC (.int 0))) (tNoPart) (tPart (tVar 5))) (gName 7)) (tSeq (tAsg (tSl (rSlL K) (tOp (rIx K) (tVar 3) (tC (.int 0))) (tPart (tVar 5)) (tNoPart)) (gName 8)) (tSeq (tIfS (tTest (tOp (rEqA K) (tVar 4) (tC (.int 1)))) (tSeq (tAsg (tCl (sp__law_illegal K) (fun _ => E) (tCons (tVar 0) (tCons (tVar 1) (tCons (tVar 7) (tNil))))) (gName 9)) (tRet (tLst (tCons (tOp rAddA (tOp rAddA (tOp rAddA (tVar 7) (tLst (tCons (tVar 9) (tNil)))) (tVar 8)) (tLst (tCons (tVar 6) (tNil)))) (tCons (tTup (tCons (tC (.str "illegal")) (tCons (tVar 9) (tCons (tVar 5) (tNil))))) (tNil)))))) (tNext)) (tSeq (tIfS (tTest (tOp rGtA (tVar 1) (tC (.int 0)))) (tAsg (tOp rAddA (tVar 8) (tLst (tCons (tCl (sp__law_illegal K) (fun _ => E) (tCons (tVar 0) (tCons (tVar 1) (tCons (tOp (rIx K) (tVar 3) (tC (.int 0))) (tNil))))) (tNil)))) (gName 8)) (tNext)) (tRet (tLst (tCons (tOp rAddA (tOp rAddA (tVar 7) (tLst (tCons (tVar 6) (tNil)))) (tVar 8)) (tCons (tTup (tCons (tC (.str "operation")) (tCons (tVar 6) (tCons (tVar 5) (tNil))))) (tNil)))))))))))))))
def t__law_pattern (K : PySem.W.Frag) (E : XK) : TS :=
  tSeq (tIfS (tOr (tTest (tOp (rEqA K) (tCl (sp__law_take K) (fun _ => E) (tCons (tVar 0) (tCons (tC (.int 2)) (tNil)))) (tC (.int 0)))) (tTest (tOp rGeA (tVar 1) (tVar 2)))) (tRet (tLst (tNil))) (tNext)) (tSeq (tAsg (tOp rAddA (tVar 1) (tCl (sp__law_take K) (fun _ => E) (tCons (tVar 0) (tCons (tOp rAddA (tOp rSubA (tVar 2) (tVar 1)) (tC (.int 1))) (tNil))))) (gName 3)) (tSeq (tAsg (tOp rAddA (tVar 3) (tC (.int 1))) (gName 4)) (tSeq (tIfS (tOr (tTest (tOp rGtA (tVar 4) (tVar 2))) (tAnd (tTest (tOp rGtA (tVar 3) (tVar 1))) (tTest (tOp (rEqA K) (tCl (sp__law_take K) (fun _ => E) (tCons (tVar 0) (tCons (tC (.int 2)) (tNil)))) (tC (.int 1)))))) (tAsg (tOp rSubA (tVar 3) (tC (.int 1))) (gName 4)) (tNext)) (tRet (tLst (tCons (tVar 3) (tCons (tVar 4) (tCons (tVar 3) (tNil)))))))))
def t__law_range (K : PySem.W.Frag) (E : XK) : TS :=
  tSeq (tIfS (tOr (tTest (tOp rLtA (tVar 1) (tC (.int 7)))) (tTest (tOp (rEqA K) (tCl (sp__law_take K) (fun _ => E) (tCons (tVar 0) (tCons (tC (.int 2)) (tNil)))) (tC (.int 0))))) (tRet (tLst (tCons (tC (.int 1)) (tCons (tVar 1) (tNil))))) (tNext)) (tSeq (tAsg (tOp rAddA (tC (.int 1)) (tCl (sp__law_take K) (fun _ => E) (tCons (tVar 0) (tCons (tOp rSubA (tVar 1) (tC (.int 3))) (tNil))))) (gName 2)) (tRet (tLst (tCons (tVar 2) (tCons (tCB rMin2A (tCons (tVar 1) (tCons (tOp rAddA (tOp rAddA (tVar 2) (tC (.int 3))) (tCl (sp__law_take K) (fun _ => E) (tCons (tVar 0) (tCons (tC (.int 5)) (tNil))))) (tNil)))) (tNil))))))
def t__law_log (K : PySem.W.Frag) (E : XK) : TS :=
  tSeq (tAsg (tCl (sp__law_range K) (fun _ => E) (tCons (tVar 0) (tCons (tVar 1) (tNil)))) (gName 2)) (tSeq (tAsg (tOp rMulA (tC (.int 2)) (tOp rAddA (tOp rSubA (tOp (rIx K) (tVar 2) (tC (.int 1))) (tOp (rIx K) (tVar 2) (tC (.int 0)))) (tC (.int 1)))) (gName 3)) (tSeq (tAsg (tCB rMax2A (tCons (tCl (sp__law_take K) (fun _ => E) (tCons (tVar 0) (tCons (tOp rAddA (tVar 3) (tC (.int 1))) (tNil)))) (tCons (tCl (sp__law_take K) (fun _ => E) (tCons (tVar 0) (tCons (tOp rAddA (tVar 3) (tC (.int 1))) (tNil)))) (tNil)))) (gName 4)) (tSeq (tAsg (tCl (sp__law_take K) (fun _ => E) (tCons (tVar 0) (tCons (tC (.int 8)) (tNil)))) (gName 5)) (tSeq (tAsg (tCl (sp__law_pattern K) (fun _ => E) (tCons (tVar 0) (tCons (tOp (rIx K) (tVar 2) (tC (.int 0))) (tCons (tOp (rIx K) (tVar 2) (tC (.int 1))) (tNil))))) (gName 6)) (tSeq (tAsg (tCl (sp__law_start K) (fun _ => E) (tCons (tVar 1) (tNil))) (gName 7)) (tSeq (tAsg (tLst (tNil)) (gName 8)) (tSeq (tAsg (tCl (sp__law_take K) (fun _ => E) (tCons (tVar 0) (tCons (tOp rAddA (tVar 1) (tC (.int 2))) (tNil)))) (gName 9)) (tSeq (tFor (iRng1 (tCons (tVar 4) (tNil))) (gName 10) (tSeq (tAsg (tLc (iRng2 (tCons (tOp (rIx K) (tVar 2) (tC (.int 0))) (tCons (tOp rAddA (tOp (rIx K) (tVar 2) (tC (.int 1))) (tC (.int 1))) (tNil)))) (gName 15) (tTest (tOp rLtA (tOp (rIx K) (tOp (rIx K) (tVar 7) (tC (.int 2))) (tVar 15)) (tC (.int 2)))) (tVar 15) [15]) (gName 11)) (tSeq (tAsg (tLc (iList K (tVar 11)) (gName 15) (tTest (tOp rGtA (tCB (rLenA K) (tCons (tCl (sp__law_late K) (fun _ => E0) (tCons (tVar 7) (tCons (tVar 15) (tNil)))) (tNil))) (tC (.int 0)))) (tVar 15) [15]) (gName 12)) (tSeq (tAsg (tLc (iList K (tVar 11)) (gName 15) (tTest (tOp (rEqA K) (tCB rAbsA (tCons (tOp rSubA (tVar 15) (tVar 9)) (tNil))) (tC (.int 1)))) (tVar 15) [15]) (gName 13)) (tSeq (tAsg (tCl (sp__law_take K) (fun _ => E) (tCons (tVar 0) (tCons (tC (.int 4)) (tNil)))) (gName 14)) (tSeq (tIfS (tTest (tOp rLtA (tVar 10) (tCB (rLenA K) (tCons (tVar 6) (tNil))))) (tAsg (tLst (tCons (tOp (rIx K) (tVar 6) (tVar 10)) (tNil))) (gName 11)) (tIfS (tAnd (tTest (tOp rGtA (tVar 5) (tC (.int 0)))) (tAnd (tTest (tOp rLtA (tVar 14) (tC (.int 3)))) (tTest (tOp rGtA (tCB (rLenA K) (tCons (tVar 12) (tNil))) (tC (.int 0)))))) (tAsg (tVar 12) (gName 11)) (tIfS (tAnd (tTest (tOp rGtA (tVar 5) (tC (.int 0)))) (tAnd (tTest (tOp rGtA (tVar 14) (tC (.int 0)))) (tTest (tOp rGtA (tCB (rLenA K) (tCons (tVar 13) (tNil))) (tC (.int 0)))))) (tAsg (tVar 13) (gName 11)) (tNext)))) (tSeq (tAsg (tOp (rIx K) (tVar 11) (tCl (sp__law_take K) (fun _ => E) (tCons (tVar 0) (tCons (tCB (rLenA K) (tCons (tVar 11) (tNil))) (tNil))))) (gName 9)) (tSeq (tDrop (tBM K "list" rAppend (tVar 8) (tCons (tOp (rIx K) (tLst (tCons (tUn rNegA (tVar 9)) (tCons (tVar 9) (tNil)))) (tOp (rIx K) (tOp (rIx K) (tVar 7) (tC (.int 2))) (tVar 9))) (tNil)))) (tDrop (tCl (sp22__law_step K) (fun _ => E) (tCons (tVar 7) (tCons (tOp (rIx K) (tVar 8) (tVar 10)) (tNil))))))))))))) (tRet (tVar 8))))))))))
def t__law_ask (K : PySem.W.Frag) (E : XK) : TS :=
  tIfS (tTest (tOp (rEqA K) (tVar 0) (tC (.int 0)))) (tDrop (tCl (sp_late_writes K) (fun _ => E) (tCons (tVar 1) (tCons (tVar 2) (tNil))))) (tIfS (tTest (tOp (rEqA K) (tVar 0) (tC (.int 1)))) (tDrop (tCl (sp_is_complete K) (fun _ => E) (tCons (tVar 1) (tCons (tVar 2) (tNil))))) (tDrop (tCl (sp_safe_next K) (fun _ => E) (tCons (tVar 1) (tCons (tVar 2) (tNil))))))
def t__law_fields (K : PySem.W.Frag) (E : XK) : TS :=
  tSeq (tFor (iTup K (tVar 1)) (gName 2) (tIfS (tNot (tB (tCl (sp__law_integer K) (fun _ => E0) (tCons (tVar 2) (tNil))))) (tRet (tTup (tCons (tC (.str "odd")) (tNil)))) (tNext))) (tRet (tOp (rCatA K) (tTup (tCons (tVar 0) (tNil))) (tVar 1)))
def t__law_refusal (K : PySem.W.Frag) (E : XK) : TS :=
  tSeq ((fun D σ H => (fun (W : WX) => tDrop (tCl (sp__law_ask K) (WE W) (tCons (tVar 0) (tCons (tVar 1) (tCons (tVar 2) (tNil)))))) (wAs K (.ref (He.ga K "LinkError")) 3 (fun a cls d => tSeq (tAsg (tLst (tCons (tCB (rIsX K cls d a) (tCons (tVar 3) (tCons (tC (.ref (He.ga K "BadSize"))) (tNil)))) (tCons (tCB (rIsX K cls d a) (tCons (tVar 3) (tCons (tC (.ref (He.ga K "NotOnce"))) (tNil)))) (tCons (tCB (rIsX K cls d a) (tCons (tVar 3) (tCons (tC (.ref (He.ga K "Illegal"))) (tNil)))) (tNil))))) (gName 4)) (tSeq (tAsg (tOp rAddA (tVar 4) (tLst (tCons (tCB (rIsX K cls d a) (tCons (tVar 3) (tCons (tC (.ref (He.ga K "BadOperation"))) (tNil)))) (tCons (tCB (rIsX K cls d a) (tCons (tVar 3) (tCons (tC (.ref (He.ga K "LogError"))) (tNil)))) (tCons (tCB (rIsX K cls d a) (tCons (tVar 3) (tCons (tC (.ty "ValueError")) (tNil)))) (tNil)))))) (gName 4)) (tSeq (tIfS (tTest (tOp (rEqA K) (tVar 4) (tLst (tCons (tC (.bl true)) (tCons (tC (.bl false)) (tCons (tC (.bl false)) (tCons (tC (.bl false)) (tCons (tC (.bl false)) (tCons (tC (.bl true)) (tNil)))))))))) (tRet (tCl (sp__law_fields K) (fun _ => E0) (tCons (tC (.str "size")) (tCons (tTup (tCons (tXat K a cls d "size" (tVar 3)) (tNil))) (tNil))))) (tNext)) (tSeq (tIfS (tTest (tOp (rEqA K) (tVar 4) (tLst (tCons (tC (.bl false)) (tCons (tC (.bl true)) (tCons (tC (.bl false)) (tCons (tC (.bl false)) (tCons (tC (.bl false)) (tCons (tC (.bl true)) (tNil)))))))))) (tRet (tCl (sp__law_fields K) (fun _ => E0) (tCons (tC (.str "once")) (tCons (tTup (tCons (tXat K a cls d "index" (tVar 3)) (tNil))) (tNil))))) (tNext)) (tSeq (tIfS (tTest (tOp (rEqA K) (tVar 4) (tLst (tCons (tC (.bl false)) (tCons (tC (.bl false)) (tCons (tC (.bl true)) (tCons (tC (.bl false)) (tCons (tC (.bl true)) (tCons (tC (.bl true)) (tNil)))))))))) (tRet (tCl (sp__law_fields K) (fun _ => E0) (tCons (tC (.str "illegal")) (tCons (tTup (tCons (tXat K a cls d "operation" (tVar 3)) (tCons (tXat K a cls d "index" (tVar 3)) (tNil)))) (tNil))))) (tNext)) (tSeq (tIfS (tTest (tOp (rEqA K) (tVar 4) (tLst (tCons (tC (.bl false)) (tCons (tC (.bl false)) (tCons (tC (.bl false)) (tCons (tC (.bl true)) (tCons (tC (.bl true)) (tCons (tC (.bl true)) (tNil)))))))))) (tRet (tCl (sp__law_fields K) (fun _ => E0) (tCons (tC (.str "operation")) (tCons (tTup (tCons (tXat K a cls d "operation" (tVar 3)) (tCons (tXat K a cls d "index" (tVar 3)) (tNil)))) (tNil))))) (tNext)) (tRet (tTup (tCons (tC (.str "odd")) (tNil)))))))))) (fun cls d _ H => E cls d H) D) D σ H)) (tRet (tTup (tCons (tC (.str "none")) (tNil))))
def t__law_size (K : PySem.W.Frag) (E : XK) : TS :=
  tSeq (tAsg (tCl (sp__law_take K) (fun _ => E) (tCons (tVar 0) (tCons (tC (.int 16)) (tNil)))) (gName 1)) (tSeq (tIfS (tTest (tOp (rEqA K) (tVar 1) (tC (.int 15)))) (tRet (tOp rAddA (tC (.int 13)) (tCl (sp__law_take K) (fun _ => E) (tCons (tVar 0) (tCons (tC (.int 48)) (tNil)))))) (tNext)) (tSeq (tIfS (tTest (tOp (rEqA K) (tVar 1) (tC (.int 14)))) (tRet (tOp rAddA (tC (.int 7)) (tCl (sp__law_take K) (fun _ => E) (tCons (tVar 0) (tCons (tC (.int 6)) (tNil)))))) (tNext)) (tRet (tOp (rIx K) (tLst (tCons (tC (.int 0)) (tCons (tC (.int 1)) (tCons (tC (.int 2)) (tCons (tC (.int 3)) (tCons (tC (.int 3)) (tCons (tC (.int 4)) (tCons (tC (.int 4)) (tCons (tC (.int 4)) (tCons (tC (.int 5)) (tCons (tC (.int 5)) (tCons (tC (.int 5)) (tCons (tC (.int 6)) (tCons (tC (.int 6)) (tCons (tC (.int 6)) (tNil)))))))))))))))) (tVar 1)))))
def t_law (K : PySem.W.Frag) (E : XK) : TS :=
  tSeq (tAsg (tCl (sp__law_box K) (fun _ => E) (tCons (tVar 0) (tNil))) (gName 1)) (tSeq (tAsg (tCl (sp22__law_size K) (fun _ => E) (tCons (tVar 1) (tNil))) (gName 2)) (tSeq (tAsg (tCl (sp22__law_log K) (fun _ => E) (tCons (tVar 1) (tCons (tVar 2) (tNil)))) (gName 3)) (tSeq (tAsg (tCl (sp__law_take K) (fun _ => E) (tCons (tVar 1) (tCons (tOp rAddA (tCB (rLenA K) (tCons (tVar 3) (tNil))) (tC (.int 1))) (tNil)))) (gName 4)) (tSeq (tIfS (tOr (tNot (tB (tCl (sp22__law_agrees K) (fun _ => E) (tCons (tVar 2) (tCons (tVar 3) (tNil)))))) (tNot (tB (tCl (sp22__law_agrees K) (fun _ => E) (tCons (tVar 2) (tCons (tSl (rSlL K) (tVar 3) (tNoPart) (tPart (tVar 4))) (tNil))))))) (tRet (tC (.bl false))) (tNext)) (tSeq (tAsg (tCl (sp__law_faulty K) (fun _ => E) (tCons (tVar 1) (tCons (tVar 2) (tCons (tVar 3) (tNil))))) (gName 5)) (tSeq (tAsg (tCl (sp__law_take K) (fun _ => E) (tCons (tVar 1) (tCons (tC (.int 1000)) (tNil)))) (gName 6)) (tSeq (tAsg (tOp (rIx K) (tLst (tCons (tUn rNegA (tC (.int 1))) (tCons (tC (.int 61)) (tCons (tOp rSubA (tUn rNegA (tC (.int 2))) (tVar 6)) (tCons (tOp rAddA (tC (.int 62)) (tVar 6)) (tNil)))))) (tCl (sp__law_take K) (fun _ => E) (tCons (tVar 1) (tCons (tC (.int 4)) (tNil))))) (gName 7)) (tSeq (tFor (iRng1 (tCons (tC (.int 3)) (tNil))) (gName 8) (tSeq (tAsg (tCB (rListA K) (tCons (tOp (rIx K) (tVar 5) (tC (.int 0))) (tNil))) (gName 9)) (tSeq (tIfS (tOr (tTest (tOp (rNeA K) (tCl (sp22__law_refusal K) (fun _ => E) (tCons (tVar 8) (tCons (tVar 2) (tCons (tVar 9) (tNil))))) (tOp (rIx K) (tVar 5) (tC (.int 1))))) (tTest (tOp (rNeA K) (tVar 9) (tOp (rIx K) (tVar 5) (tC (.int 0)))))) (tRet (tC (.bl false))) (tNext)) (tSeq (tIfS (tTest (tOp (rNeA K) (tCl (sp22__law_refusal K) (fun _ => E) (tCons (tVar 8) (tCons (tVar 7) (tCons (tCB (rListA K) (tCons (tOp (rIx K) (tVar 5) (tC (.int 0))) (tNil))) (tNil))))) (tTup (tCons (tC (.str "size")) (tCons (tVar 7) (tNil)))))) (tRet (tC (.bl false))) (tNext)) (tIfS (tTest (tOp (rNeA K) (tCl (sp22__law_refusal K) (fun _ => E) (tCons (tVar 8) (tCons (tVar 2) (tCons (tCB (rListA K) (tCons (tVar 3) (tNil))) (tNil))))) (tTup (tCons (tC (.str "none")) (tNil))))) (tRet (tC (.bl false))) (tNext)))))) (tRet (tC (.bl true)))))))))))
end G

set_option Elab.async false
set_option linter.all false
set_option maxRecDepth 100000
set_option maxHeartbeats 1000000
namespace G
--#FAM KG
open PySem PySem.Spec PyProof.Rows L2
local macro_rules
  | `(tactic| walk_at "1") => `(tactic| first
    | with_reducible refine w_seq ?_
    | with_reducible refine w_asg ?_
    | with_reducible refine w_asgS ?_
    | with_reducible refine w_asf ?_
    | with_reducible refine w_drop ?_
    | with_reducible refine w_ret ?_
    | with_reducible refine w_if ?_
    | with_reducible refine w_not ?_
    | with_reducible refine w_and ?_
    | with_reducible refine w_or ?_
    | with_reducible refine w_test ?_
    | with_reducible refine w_tb ?_
    | with_reducible refine w_chain ?_
    | with_reducible refine w_op ?_
    | with_reducible refine w_un ?_
    | with_reducible refine w_andV ?_
    | with_reducible refine w_orV ?_
    | with_reducible refine w_notV ?_
    | with_reducible refine w_ifE ?_
    | with_reducible refine w_cons ?_
    | with_reducible refine w_nil ?_
    | with_reducible refine w_cb ?_
    | with_reducible refine w_cl ?_
    | with_reducible refine w_mt ?_
    | with_reducible refine w_fld ?_
    | with_reducible refine w_tupN ?_
    | with_reducible refine w_lstN ?_
    | with_reducible refine w_bm ?_
    | with_reducible refine w_bm0 ?_
    | with_reducible refine w_for ?_
    | with_reducible refine w_lc ?_
    | with_reducible refine w_iR1 ?_
    | with_reducible refine w_iR2 ?_
    | with_reducible refine w_iL ?_
    | with_reducible refine w_iT ?_
    | with_reducible refine w_iE ?_
    | with_reducible refine w_iZ ?_
    | with_reducible refine w_var (by with_unfolding_all rfl) ?_
    | with_reducible refine w_c ?_
    | with_reducible refine w_next ?_
    | with_reducible refine w_i0 ?_
    | with_reducible refine w_u1 ?_
    | with_reducible refine w_addI ?_
    | with_reducible refine w_eqI ?_
    | with_reducible refine w_eqS ?_
    | with_reducible refine w_eqB ?_
    | with_reducible refine w_neI ?_
    | with_reducible refine w_neS ?_
    | with_reducible refine w_neB ?_
    | with_reducible refine w_abs ?_
    | with_reducible refine w_intI ?_
    | with_reducible refine w_min2 ?_
    | with_reducible refine w_max2 ?_
    | with_reducible refine w_isN0 ?_
    | with_reducible refine w_isN1 ref_ne ?_
    | with_reducible refine w_isN1 int_ne ?_
    | with_reducible refine w_notN0 ?_
    | with_reducible refine w_notN1 ref_ne ?_
    | with_reducible refine w_notN1 int_ne ?_
    | with_reducible refine w_ex1 ?_
    | with_reducible refine w_n1 ?_
    | with_reducible refine w_n2 ?_
    | with_reducible refine w_tT ?_
    | with_reducible refine w_tF ?_
    | with_reducible refine w_nT ?_
    | with_reducible refine w_nF ?_
    | with_reducible refine w_rz ?_
    | with_reducible refine w_mkN ?_
    | with_reducible refine w_lrgN ?_
    | with_reducible refine w_rg1 ?_
    | with_reducible refine w_rg2 ?_
    | with_reducible refine w_sl ?_
    | with_reducible refine w_np ?_
    | with_reducible refine w_pt ?_
    | with_reducible refine w_tr ?_
    | with_reducible refine w_gn ?_
    | with_reducible refine w_yes ?_
    | with_reducible refine w_m1 ?_
    | with_reducible refine w_asu ?_
    | with_reducible refine w_exS ?_
    | with_reducible refine w_iS ?_
    | with_reducible refine w_g1 ?_
    | with_reducible refine w_gc ?_
    | with_reducible refine w_gt (SqT.of upd_same) rfl ?_)
local macro_rules
  | `(tactic| walk_at "g") => `(tactic| repeat walk_at "1")
local macro_rules
  | `(tactic| walk_at "j1") => `(tactic| first
    | with_reducible refine w_seqI ?_
    | walk_at "1")
local macro_rules
  | `(tactic| walk_at "j") => `(tactic| repeat walk_at "j1")
section
variable {K : PySem.W.Frag} {mg : Str → Option Value}
theorem len_check_size (K : PySem.W.Frag) : ∀ vs H Q E, sp_check_size K vs H Q E → vs.length = (["size"] : List Str).length := by
  rintro vs H Q E ⟨_, rfl, _⟩
  rfl
theorem rd_check_size (T : Txt K mg) (vs : List V) (H : Hp) (Q : VK) (E : XK) (h : sp_check_size K vs H Q E) : t_check_size K E { nx := fun _ H' => Q .non H', rt := Q } (start ["size"] vs) H := by
  obtain ⟨size, rfl, h1, h2⟩ := h
  unfold t_check_size
  walk_at "g"
  refine w_iteD (fun c1 => ?_) (fun c1 => ?_)
  · walk_at "g"
    refine w_iteN (fun c2 => ?_) (fun c2 => ?_)
    · walk_at "g"
      exact ⟨rfl, Nat.le_of_ble_eq_true rfl, h2 fun z => c2 z.2⟩
    · walk_at "g"
      exact h1 ⟨c1, c2⟩
  · walk_at "g"
    exact ⟨rfl, Nat.le_of_ble_eq_true rfl, h2 fun z => c1 z.1⟩
theorem len_check_operation (K : PySem.W.Frag) : ∀ vs H Q E, sp_check_operation K vs H Q E → vs.length = (["size", "operation", "index"] : List Str).length := by
  rintro vs H Q E ⟨_, _, _, rfl, _⟩
  rfl
theorem rd_check_operation (T : Txt K mg) (vs : List V) (H : Hp) (Q : VK) (E : XK) (h : sp_check_operation K vs H Q E) : t_check_operation K E { nx := fun _ H' => Q .non H', rt := Q } (start ["size", "operation", "index"] vs) H := by
  obtain ⟨n, op, i, rfl, h1, h2⟩ := h
  unfold t_check_operation
  walk_at "g"
  rw [natAbs_if]
  refine w_iteD (fun c1 => ?_) (fun c1 => ?_)
  · walk_at "g"
    refine w_iteN (fun c2 => ?_) (fun c2 => ?_)
    · walk_at "g"
      exact ⟨rfl, Nat.le_of_ble_eq_true rfl, h2 fun z => c2 (by have := z.2; omega)⟩
    · walk_at "g"
      exact h1 ⟨by omega, by omega⟩
  · walk_at "g"
    exact ⟨rfl, Nat.le_of_ble_eq_true rfl, h2 fun z => c1 (by have := z.1; omega)⟩
theorem len_Links_is_legal (K : PySem.W.Frag) : ∀ vs H Q E, sp_Links_is_legal K vs H Q E → vs.length = (["self", "operation"] : List Str).length := by
  rintro vs H Q E ⟨_, _, _, _, _, _, rfl, _⟩
  rfl
theorem rd_Links_is_legal (T : Txt K mg) (vs : List V) (H : Hp) (Q : VK) (E : XK) (h : sp_Links_is_legal K vs H Q E) : t_Links_is_legal K E { nx := fun _ H' => Q .non H', rt := Q } (start ["self", "operation"] vs) H := by
  obtain ⟨p, r, l, o, s, op, rfl, a, hi, k⟩ := h
  unfold t_Links_is_legal
  walk_at "g"
  refine w_fO T.cl_Links T.na_Links__out a ?_
  walk_at "g"
  rw [natAbs_if]
  have hlt : (op.natAbs : Int) < (s.O.length : Int) := by
    rw [a.wf.lO]
    have := hi.2
    omega
  refine w_ixL (SqL.of a.ho) (at_B (by omega) hlt) ?_
  walk_at "g"
  exact k
theorem len_Links_check (K : PySem.W.Frag) : ∀ vs H Q E, sp_Links_check K vs H Q E → vs.length = (["self", "operation", "index"] : List Str).length := by
  rintro vs H Q E ⟨_, _, _, _, _, _, _, rfl, _⟩
  rfl
theorem rd_Links_check (T : Txt K mg) (vs : List V) (H : Hp) (Q : VK) (E : XK) (h : sp_Links_check K vs H Q E) : t_Links_check K E { nx := fun _ H' => Q .non H', rt := Q } (start ["self", "operation", "index"] vs) H := by
  obtain ⟨p, r, l, o, s, op, i, rfl, a, h1, h2⟩ := h
  unfold t_Links_check
  walk_at "g"
  refine w_fS T.cl_Links T.na_Links_size a ?_
  walk_at "g"
  refine ⟨s.n, op, i, rfl, fun hi => ?_, fun hi => ?_⟩
  · walk_at "g"
    refine w_me a no_m ?_
    walk_at "g"
    refine ⟨p, r, l, o, s, op, rfl, a, hi, ?_⟩
    walk_at "g"
    refine w_iteN (fun c => ?_) (fun c => ?_)
    · walk_at "g"
      refine ⟨rfl, Nat.le_of_ble_eq_true rfl, ?_⟩
      have e := h2 fun z => c z.2
      unfold OpE at e
      rw [if_pos hi] at e
      exact e
    · walk_at "g"
      exact h1 ⟨hi, c⟩
  · have e := h2 fun z => hi z.1
    unfold OpE at e
    rw [if_neg hi] at e
    exact e
end
end G

set_option Elab.async false
set_option linter.all false
set_option maxRecDepth 100000
set_option maxHeartbeats 1000000
namespace G
--#FAM KG
open PySem PySem.Spec PyProof.Rows L2
local macro_rules
  | `(tactic| walk_at "1") => `(tactic| first
    | with_reducible refine w_seq ?_
    | with_reducible refine w_asg ?_
    | with_reducible refine w_asgS ?_
    | with_reducible refine w_asf ?_
    | with_reducible refine w_drop ?_
    | with_reducible refine w_ret ?_
    | with_reducible refine w_if ?_
    | with_reducible refine w_not ?_
    | with_reducible refine w_and ?_
    | with_reducible refine w_or ?_
    | with_reducible refine w_test ?_
    | with_reducible refine w_tb ?_
    | with_reducible refine w_chain ?_
    | with_reducible refine w_op ?_
    | with_reducible refine w_un ?_
    | with_reducible refine w_andV ?_
    | with_reducible refine w_orV ?_
    | with_reducible refine w_notV ?_
    | with_reducible refine w_ifE ?_
    | with_reducible refine w_cons ?_
    | with_reducible refine w_nil ?_
    | with_reducible refine w_cb ?_
    | with_reducible refine w_cl ?_
    | with_reducible refine w_mt ?_
    | with_reducible refine w_fld ?_
    | with_reducible refine w_tupN ?_
    | with_reducible refine w_lstN ?_
    | with_reducible refine w_bm ?_
    | with_reducible refine w_bm0 ?_
    | with_reducible refine w_for ?_
    | with_reducible refine w_lc ?_
    | with_reducible refine w_iR1 ?_
    | with_reducible refine w_iR2 ?_
    | with_reducible refine w_iL ?_
    | with_reducible refine w_iT ?_
    | with_reducible refine w_iE ?_
    | with_reducible refine w_iZ ?_
    | with_reducible refine w_var (by with_unfolding_all rfl) ?_
    | with_reducible refine w_c ?_
    | with_reducible refine w_next ?_
    | with_reducible refine w_i0 ?_
    | with_reducible refine w_u1 ?_
    | with_reducible refine w_addI ?_
    | with_reducible refine w_eqI ?_
    | with_reducible refine w_eqS ?_
    | with_reducible refine w_eqB ?_
    | with_reducible refine w_neI ?_
    | with_reducible refine w_neS ?_
    | with_reducible refine w_neB ?_
    | with_reducible refine w_abs ?_
    | with_reducible refine w_intI ?_
    | with_reducible refine w_min2 ?_
    | with_reducible refine w_max2 ?_
    | with_reducible refine w_isN0 ?_
    | with_reducible refine w_isN1 ref_ne ?_
    | with_reducible refine w_isN1 int_ne ?_
    | with_reducible refine w_notN0 ?_
    | with_reducible refine w_notN1 ref_ne ?_
    | with_reducible refine w_notN1 int_ne ?_
    | with_reducible refine w_ex1 ?_
    | with_reducible refine w_n1 ?_
    | with_reducible refine w_n2 ?_
    | with_reducible refine w_tT ?_
    | with_reducible refine w_tF ?_
    | with_reducible refine w_nT ?_
    | with_reducible refine w_nF ?_
    | with_reducible refine w_rz ?_
    | with_reducible refine w_mkN ?_
    | with_reducible refine w_lrgN ?_
    | with_reducible refine w_rg1 ?_
    | with_reducible refine w_rg2 ?_
    | with_reducible refine w_sl ?_
    | with_reducible refine w_np ?_
    | with_reducible refine w_pt ?_
    | with_reducible refine w_tr ?_
    | with_reducible refine w_gn ?_
    | with_reducible refine w_yes ?_
    | with_reducible refine w_m1 ?_
    | with_reducible refine w_asu ?_
    | with_reducible refine w_exS ?_
    | with_reducible refine w_iS ?_
    | with_reducible refine w_g1 ?_
    | with_reducible refine w_gc ?_
    | with_reducible refine w_gt (SqT.of upd_same) rfl ?_)
local macro_rules
  | `(tactic| walk_at "g") => `(tactic| repeat walk_at "1")
local macro_rules
  | `(tactic| walk_at "j1") => `(tactic| first
    | with_reducible refine w_seqI ?_
    | walk_at "1")
local macro_rules
  | `(tactic| walk_at "j") => `(tactic| repeat walk_at "j1")
section
variable {K : PySem.W.Frag} {mg : Str → Option Value}
theorem len_Links_apply_at (K : PySem.W.Frag) : ∀ vs H Q E, sp_Links_apply_at K vs H Q E → vs.length = (["self", "operation", "index"] : List Str).length := by
  rintro vs H Q E ⟨_, _, _, _, _, _, _, rfl, _⟩
  rfl
theorem rd_Links_apply_at (T : Txt K mg) (vs : List V) (H : Hp) (Q : VK) (E : XK) (h : sp_Links_apply_at K vs H Q E) : t_Links_apply_at K E { nx := fun _ H' => Q .non H', rt := Q } (start ["self", "operation", "index", "node", "low", "high", "is_unlink"] vs) H := by
  obtain ⟨p, r, l, o, s, op, i, rfl, a, h1, h2⟩ := h
  unfold t_Links_apply_at
  walk_at "g"
  refine w_me a no_m ?_
  walk_at "g"
  refine ⟨p, r, l, o, s, op, i, rfl, a, fun ok => ?_, h2⟩
  have hi := ok.1
  obtain ⟨i1, i2⟩ := hi
  have w := a.wf
  obtain ⟨r1, r2⟩ := w.rb op.natAbs (by omega)
  obtain ⟨l1, l2⟩ := w.lb op.natAbs i1 (by omega)
  obtain ⟨pr, pl, po⟩ := a.pr
  walk_at "g"
  rw [natAbs_if]
  refine w_fL T.cl_Links T.na_Links__lefts a ?_
  walk_at "g"
  refine w_ixL (SqL.of a.hl) (at_I (by omega) (by rw [w.lL]; omega)) ?_
  walk_at "g"
  refine w_fR T.cl_Links T.na_Links__rights a ?_
  walk_at "g"
  refine w_ixL (SqL.of a.hr) (at_I (by omega) (by rw [w.lR]; omega)) ?_
  walk_at "g"
  have fin : ∀ x y : Int, x = (if op < 0 then gI s.R op.natAbs else (op.natAbs : Int)) → y = (if op < 0 then gI s.L op.natAbs else (op.natAbs : Int)) →
      Q .non (upd (upd (upd H r (.lst ((s.R.map V.int).set (gI s.L op.natAbs).toNat (.int x)))) l (.lst ((s.L.map V.int).set (gI s.R op.natAbs).toNat (.int y)))) o (.lst ((s.O.map V.bl).set op.natAbs (.bl (decide (op < 0)))))) := by
    intro x y ex ey
    refine h1 ok _ ((((Kp.refl _ H).trans (Kp.put (by simp))).trans (Kp.put (by simp))).trans (Kp.put (by simp))) ?_
    obtain ⟨dx, ob⟩ := a.ob
    rw [set_I, set_I, set_B]
    refine ⟨⟨dx, ?_⟩, ?_, ?_, ?_, a.rl, a.ro, a.lo, w.step ok.1⟩
    · rw [upd_ne po, upd_ne pl, upd_ne pr]
      exact ob
    · rw [upd_ne a.ro, upd_ne a.rl, upd_same, ex] <;> rfl
    · rw [upd_ne a.lo, upd_same, ey] <;> rfl
    · rw [upd_same] <;> rfl
  obtain ⟨dx, ob⟩ := a.ob
  have e1 : (op.natAbs : Int).toNat = op.natAbs := Int.toNat_natCast _
  have il : ixN (List.map V.int s.R).length (gI s.L op.natAbs) = some (gI s.L op.natAbs).toNat := ixN_pos (by omega) (by rw [List.length_map, w.lR]; omega)
  have ir : ixN (List.map V.int s.L).length (gI s.R op.natAbs) = some (gI s.R op.natAbs).toNat := ixN_pos (by omega) (by rw [List.length_map, w.lL]; omega)
  have io : ixN (List.map V.bl s.O).length (op.natAbs : Int) = some op.natAbs := by
    rw [ixN_pos (by omega) (by rw [List.length_map, w.lO]; omega), e1]
  rw [e1]
  refine w_iteD (fun c => ?_) (fun c => ?_)
  all_goals
    walk_at "g"
    refine w_oR T.cl_Links T.na_Links__rights ob ?_
    walk_at "g"
    refine w_setL a.hr il ?_
    walk_at "g"
    first
      | refine w_iteD (fun _ => ?_) (fun z => absurd c z)
      | refine w_iteD (fun z => absurd z c) (fun _ => ?_)
    walk_at "g"
    refine w_oL T.cl_Links T.na_Links__lefts (H := upd H r _) (by rw [upd_ne pr]; exact ob) ?_
    walk_at "g"
    refine w_setL (H := upd H r _) (by rw [upd_ne (Ne.symm a.rl)]; exact a.hl) ir ?_
    walk_at "g"
    refine w_oO T.cl_Links T.na_Links__out (H := upd (upd H r _) l _) (by rw [upd_ne pl, upd_ne pr]; exact ob) ?_
    walk_at "g"
    refine w_setL (H := upd (upd H r _) l _) (by rw [upd_ne (Ne.symm a.lo), upd_ne (Ne.symm a.ro)]; exact a.ho) io ?_
    walk_at "g"
  · exact fin _ _ (if_pos c).symm (if_pos c).symm
  · exact fin _ _ (if_neg c).symm (if_neg c).symm
theorem len_Links_apply (K : PySem.W.Frag) : ∀ vs H Q E, sp_Links_apply K vs H Q E → vs.length = (["self", "operation"] : List Str).length := by
  rintro vs H Q E ⟨_, _, _, _, _, _, rfl, _⟩
  rfl
theorem rd_Links_apply (T : Txt K mg) (vs : List V) (H : Hp) (Q : VK) (E : XK) (h : sp_Links_apply K vs H Q E) : t_Links_apply K E { nx := fun _ H' => Q .non H', rt := Q } (start ["self", "operation"] vs) H := by
  obtain ⟨p, r, l, o, s, op, rfl, a, h1, h2⟩ := h
  unfold t_Links_apply
  walk_at "g"
  refine w_me a no_m ?_
  walk_at "g"
  exact ⟨p, r, l, o, s, op, 0, rfl, a, h1, h2⟩
theorem len_Links_left (K : PySem.W.Frag) : ∀ vs H Q E, sp_Links_left K vs H Q E → vs.length = (["self", "node"] : List Str).length := by
  rintro vs H Q E ⟨_, _, _, _, _, _, rfl, _⟩
  rfl
theorem rd_Links_left (T : Txt K mg) (vs : List V) (H : Hp) (Q : VK) (E : XK) (h : sp_Links_left K vs H Q E) : t_Links_left K E { nx := fun _ H' => Q .non H', rt := Q } (start ["self", "node"] vs) H := by
  obtain ⟨p, r, l, o, s, v, rfl, a, h1, h2, h3⟩ := h
  unfold t_Links_left
  walk_at "g"
  refine w_iteD (fun c1 => ?_) (fun c1 => absurd (by omega) c1)
  walk_at "g"
  refine w_fS T.cl_Links T.na_Links_size a ?_
  walk_at "g"
  refine w_iteN (fun c1 => absurd (by omega) c1) (fun c1 => ?_)
  walk_at "g"
  refine w_fL T.cl_Links T.na_Links__lefts a ?_
  walk_at "g"
  refine w_ixL (SqL.of a.hl) (at_I (by omega) (by rw [a.wf.lL]; omega)) ?_
  exact h3
theorem len_Links_right (K : PySem.W.Frag) : ∀ vs H Q E, sp_Links_right K vs H Q E → vs.length = (["self", "node"] : List Str).length := by
  rintro vs H Q E ⟨_, _, _, _, _, _, rfl, _⟩
  rfl
theorem rd_Links_right (T : Txt K mg) (vs : List V) (H : Hp) (Q : VK) (E : XK) (h : sp_Links_right K vs H Q E) : t_Links_right K E { nx := fun _ H' => Q .non H', rt := Q } (start ["self", "node"] vs) H := by
  obtain ⟨p, r, l, o, s, v, rfl, a, h2, h3⟩ := h
  unfold t_Links_right
  walk_at "g"
  refine w_iteD (fun c1 => ?_) (fun c1 => absurd (by omega) c1)
  walk_at "g"
  refine w_fS T.cl_Links T.na_Links_size a ?_
  walk_at "g"
  refine w_iteN (fun c1 => absurd (by omega) c1) (fun c1 => ?_)
  walk_at "g"
  refine w_fR T.cl_Links T.na_Links__rights a ?_
  walk_at "g"
  refine w_ixL (SqL.of a.hr) (at_I (by omega) (by rw [a.wf.lR]; omega)) ?_
  exact h3
end
end G

set_option Elab.async false
set_option linter.all false
set_option maxRecDepth 100000
set_option maxHeartbeats 1000000
namespace G
--#FAM KG
open PySem PySem.Spec PyProof.Rows L2
local macro_rules
  | `(tactic| walk_at "1") => `(tactic| first
    | with_reducible refine w_seq ?_
    | with_reducible refine w_asg ?_
    | with_reducible refine w_asgS ?_
    | with_reducible refine w_asf ?_
    | with_reducible refine w_drop ?_
    | with_reducible refine w_ret ?_
    | with_reducible refine w_if ?_
    | with_reducible refine w_not ?_
    | with_reducible refine w_and ?_
    | with_reducible refine w_or ?_
    | with_reducible refine w_test ?_
    | with_reducible refine w_tb ?_
    | with_reducible refine w_chain ?_
    | with_reducible refine w_op ?_
    | with_reducible refine w_un ?_
    | with_reducible refine w_andV ?_
    | with_reducible refine w_orV ?_
    | with_reducible refine w_notV ?_
    | with_reducible refine w_ifE ?_
    | with_reducible refine w_cons ?_
    | with_reducible refine w_nil ?_
    | with_reducible refine w_cb ?_
    | with_reducible refine w_cl ?_
    | with_reducible refine w_mt ?_
    | with_reducible refine w_fld ?_
    | with_reducible refine w_tupN ?_
    | with_reducible refine w_lstN ?_
    | with_reducible refine w_bm ?_
    | with_reducible refine w_bm0 ?_
    | with_reducible refine w_for ?_
    | with_reducible refine w_lc ?_
    | with_reducible refine w_iR1 ?_
    | with_reducible refine w_iR2 ?_
    | with_reducible refine w_iL ?_
    | with_reducible refine w_iT ?_
    | with_reducible refine w_iE ?_
    | with_reducible refine w_iZ ?_
    | with_reducible refine w_var (by with_unfolding_all rfl) ?_
    | with_reducible refine w_c ?_
    | with_reducible refine w_next ?_
    | with_reducible refine w_i0 ?_
    | with_reducible refine w_u1 ?_
    | with_reducible refine w_addI ?_
    | with_reducible refine w_eqI ?_
    | with_reducible refine w_eqS ?_
    | with_reducible refine w_eqB ?_
    | with_reducible refine w_neI ?_
    | with_reducible refine w_neS ?_
    | with_reducible refine w_neB ?_
    | with_reducible refine w_abs ?_
    | with_reducible refine w_intI ?_
    | with_reducible refine w_min2 ?_
    | with_reducible refine w_max2 ?_
    | with_reducible refine w_isN0 ?_
    | with_reducible refine w_isN1 ref_ne ?_
    | with_reducible refine w_isN1 int_ne ?_
    | with_reducible refine w_notN0 ?_
    | with_reducible refine w_notN1 ref_ne ?_
    | with_reducible refine w_notN1 int_ne ?_
    | with_reducible refine w_ex1 ?_
    | with_reducible refine w_n1 ?_
    | with_reducible refine w_n2 ?_
    | with_reducible refine w_tT ?_
    | with_reducible refine w_tF ?_
    | with_reducible refine w_nT ?_
    | with_reducible refine w_nF ?_
    | with_reducible refine w_rz ?_
    | with_reducible refine w_mkN ?_
    | with_reducible refine w_lrgN ?_
    | with_reducible refine w_rg1 ?_
    | with_reducible refine w_rg2 ?_
    | with_reducible refine w_sl ?_
    | with_reducible refine w_np ?_
    | with_reducible refine w_pt ?_
    | with_reducible refine w_tr ?_
    | with_reducible refine w_gn ?_
    | with_reducible refine w_yes ?_
    | with_reducible refine w_m1 ?_
    | with_reducible refine w_asu ?_
    | with_reducible refine w_exS ?_
    | with_reducible refine w_iS ?_
    | with_reducible refine w_g1 ?_
    | with_reducible refine w_gc ?_
    | with_reducible refine w_gt (SqT.of upd_same) rfl ?_)
local macro_rules
  | `(tactic| walk_at "g") => `(tactic| repeat walk_at "1")
local macro_rules
  | `(tactic| walk_at "j1") => `(tactic| first
    | with_reducible refine w_seqI ?_
    | walk_at "1")
local macro_rules
  | `(tactic| walk_at "j") => `(tactic| repeat walk_at "j1")
section
variable {K : PySem.W.Frag} {mg : Str → Option Value}
theorem rg_nat (n : Nat) : rgV 0 (n : Int) = (rgI 0 n).map V.int := by
  unfold rgV rgI
  rw [show ((n : Int) - 0).toNat = n by omega, List.map_map] <;> rfl
theorem rg_one (n : Nat) : rgV 1 ((n : Int) + 1) = (rgI 1 n).map V.int := by
  unfold rgV rgI
  rw [show ((n : Int) + 1 - 1).toNat = n by omega, List.map_map] <;> rfl
theorem rg_one' (n : Nat) : rgV 1 ((n : Int) + 2) = (rgI 1 (n + 1)).map V.int := by
  rw [← rg_one (n + 1)]
  congr 1
theorem rg_nat' (n : Nat) : rgV 0 ((n : Int) + 1) = (rgI 0 (n + 1)).map V.int := by
  rw [← rg_nat (n + 1)] <;> rfl
theorem rep_flat {α : Type} (n : Nat) (x : α) : (List.replicate n [x]).flatten = List.replicate n x := by
  induction n with
  | zero => rfl
  | succ n ih => rw [List.replicate_succ, List.flatten_cons, ih, List.replicate_succ] <;> rfl
theorem rep_mapB (n : Nat) (x : Bool) : (List.replicate n x).map V.bl = List.replicate n (V.bl x) := by rw [List.map_replicate]
theorem putF_len (f : Str) (v : V) : ∀ fs : List (Str × V), (putF f v fs).length ≤ fs.length + 1
  | [] => Nat.le_refl _
  | (g, w) :: fs => by
    have ih := putF_len f v fs
    unfold putF
    split
    · exact Nat.le_succ _
    · exact Nat.succ_le_succ ih
theorem pl1 (a : Str) (x : V) : (putF a x []).length < 1000 := Nat.lt_of_le_of_lt (putF_len _ _ _) (Nat.le_of_ble_eq_true rfl)
theorem pl2 (a b : Str) (x y : V) : (putF b y (putF a x [])).length < 1000 := Nat.lt_of_le_of_lt (putF_len _ _ _) (by
  have := putF_len a x []
  show (putF a x []).length + 1 < 1000
  have e : ([] : List (Str × V)).length = 0 := rfl
  omega)
theorem pl3 (a b c : Str) (x y z : V) : (putF c z (putF b y (putF a x []))).length < 1000 := Nat.lt_of_le_of_lt (putF_len _ _ _) (by
  have h1 := putF_len b y (putF a x [])
  have h2 := putF_len a x []
  have e : ([] : List (Str × V)).length = 0 := rfl
  omega)
theorem len_Links___init__ (K : PySem.W.Frag) : ∀ vs H Q E, sp_Links___init__ K vs H Q E → vs.length = (["self", "size"] : List Str).length := by
  rintro vs H Q E ⟨_, _, _, rfl, _⟩
  rfl
theorem rd_Links___init__ (T : Txt K mg) (vs : List V) (H : Hp) (Q : VK) (E : XK) (h : sp_Links___init__ K vs H Q E) : t_Links___init__ K E { nx := fun _ H' => Q .non H', rt := Q } (start ["self", "size"] vs) H := by
  obtain ⟨p, dx, size, rfl, hp, h1, h2⟩ := h
  unfold t_Links___init__
  walk_at "g"
  refine ⟨size, rfl, fun ok => ?_, h2⟩
  have h1 := h1 ok
  obtain ⟨ok1, ok2⟩ := ok
  obtain ⟨n, rfl⟩ : ∃ n : Nat, size = (n : Int) := ⟨size.toNat, by omega⟩
  rw [Int.toNat_natCast] at h1
  walk_at "g"
  refine w_sT T.cl_Links T.na_Links_size hp (by decide) fun H1 k1 p1 => ?_
  walk_at "g"
  refine ⟨.of_le (by omega) (by omega) (by omega) (by omega), nw fun r H2 nr k2 hr => ?_⟩
  walk_at "g"
  have pr : p ≠ r := ne_of_none p1 nr
  refine w_sT T.cl_Links T.na_Links__rights (k2.at0 p1) (pl1 _ _) fun H3 k3 p3 => ?_
  have hr3 := k3.at1 (Ne.symm pr) hr
  walk_at "g"
  refine ⟨sz_ok (by show 1 ≤ 1000000; omega), nw fun z H4 nz k4 hz => ?_⟩
  walk_at "g"
  refine ⟨.of_le (by omega) (by omega) (by omega) (by omega), nw fun l0 H5 nl0 k5 hl0 => ?_⟩
  walk_at "g"
  refine w_addLN (k5.at0 hz) hl0 (by rw [rgV_length]; exact sz_ok (by show 1 + _ ≤ _; omega)) fun l H6 nl k6 hl => ?_
  have k46 := (k4.trans k5).trans k6
  walk_at "g"
  have pl : p ≠ l := ne_of_none (k5.at0 (k4.at0 p3)) nl
  have rl : r ≠ l := ne_of_none (k5.at0 (k4.at0 hr3)) nl
  refine w_sT T.cl_Links T.na_Links__lefts (k46.at0 p3) (pl2 _ _ _ _) fun H7 k7 p7 => ?_
  have hr7 := k7.at1 (Ne.symm pr) (k46.at0 hr3)
  have hl7 := k7.at1 (Ne.symm pl) hl
  walk_at "g"
  refine ⟨sz_ok (by show 1 ≤ 1000000; omega), nw fun z2 H8 nz2 k8 hz2 => ?_⟩
  walk_at "g"
  refine w_mulLN hz2 (by omega) (by omega) (sz_ok (by show 1 * _ ≤ _; omega)) fun o H9 no k9 ho => ?_
  walk_at "g"
  have po : p ≠ o := ne_of_none (k8.at0 p7) no
  have ro : r ≠ o := ne_of_none (k8.at0 hr7) no
  have lo : l ≠ o := ne_of_none (k8.at0 hl7) no
  have k89 := k8.trans k9
  refine w_sT T.cl_Links T.na_Links__out (k89.at0 p7) (pl3 _ _ _ _ _ _) fun Hx kx px => ?_
  have k03 : Kp [p] H H3 := k1.trans (k2.all.trans k3)
  have k07 : Kp [p] H H7 := k03.trans (k46.all.trans k7)
  have k0x : Kp [p] H Hx := k07.trans (k89.all.trans kx)
  have mp : ∀ b, H b = none → H3 b = none → True := fun _ _ _ => trivial
  refine h1 r l o Hx (k1.free (by simpa using Ne.symm pr) nr) ?_ ?_ k0x ⟨⟨dx, px⟩, ?_, ?_, ?_, rl, ro, lo, .whole (by omega)⟩
  · exact (k03.trans (k4.trans k5).all).free (by simpa using Ne.symm pl) nl
  · exact (k07.trans k8.all).free (by simpa using Ne.symm po) no
  · rw [kx.at1 (Ne.symm pr) (k89.at0 hr7), rg_one'] <;> rfl
  · rw [kx.at1 (Ne.symm pl) (k89.at0 hl7), rg_nat'] <;> rfl
  · rw [kx.at1 (Ne.symm po) ho, show ((n : Int) + 2).toNat = n + 2 by omega, rep_flat, ← rep_mapB] <;> rfl
end
end G

set_option Elab.async false
set_option linter.all false
set_option maxRecDepth 100000
set_option maxHeartbeats 1000000
namespace G
--#FAM KG
open PySem PySem.Spec PyProof.Rows L2
local macro_rules
  | `(tactic| walk_at "1") => `(tactic| first
    | with_reducible refine w_seq ?_
    | with_reducible refine w_asg ?_
    | with_reducible refine w_asgS ?_
    | with_reducible refine w_asf ?_
    | with_reducible refine w_drop ?_
    | with_reducible refine w_ret ?_
    | with_reducible refine w_if ?_
    | with_reducible refine w_not ?_
    | with_reducible refine w_and ?_
    | with_reducible refine w_or ?_
    | with_reducible refine w_test ?_
    | with_reducible refine w_tb ?_
    | with_reducible refine w_chain ?_
    | with_reducible refine w_op ?_
    | with_reducible refine w_un ?_
    | with_reducible refine w_andV ?_
    | with_reducible refine w_orV ?_
    | with_reducible refine w_notV ?_
    | with_reducible refine w_ifE ?_
    | with_reducible refine w_cons ?_
    | with_reducible refine w_nil ?_
    | with_reducible refine w_cb ?_
    | with_reducible refine w_cl ?_
    | with_reducible refine w_mt ?_
    | with_reducible refine w_fld ?_
    | with_reducible refine w_tupN ?_
    | with_reducible refine w_lstN ?_
    | with_reducible refine w_bm ?_
    | with_reducible refine w_bm0 ?_
    | with_reducible refine w_for ?_
    | with_reducible refine w_lc ?_
    | with_reducible refine w_iR1 ?_
    | with_reducible refine w_iR2 ?_
    | with_reducible refine w_iL ?_
    | with_reducible refine w_iT ?_
    | with_reducible refine w_iE ?_
    | with_reducible refine w_iZ ?_
    | with_reducible refine w_var (by with_unfolding_all rfl) ?_
    | with_reducible refine w_c ?_
    | with_reducible refine w_next ?_
    | with_reducible refine w_i0 ?_
    | with_reducible refine w_u1 ?_
    | with_reducible refine w_addI ?_
    | with_reducible refine w_eqI ?_
    | with_reducible refine w_eqS ?_
    | with_reducible refine w_eqB ?_
    | with_reducible refine w_neI ?_
    | with_reducible refine w_neS ?_
    | with_reducible refine w_neB ?_
    | with_reducible refine w_abs ?_
    | with_reducible refine w_intI ?_
    | with_reducible refine w_min2 ?_
    | with_reducible refine w_max2 ?_
    | with_reducible refine w_isN0 ?_
    | with_reducible refine w_isN1 ref_ne ?_
    | with_reducible refine w_isN1 int_ne ?_
    | with_reducible refine w_notN0 ?_
    | with_reducible refine w_notN1 ref_ne ?_
    | with_reducible refine w_notN1 int_ne ?_
    | with_reducible refine w_ex1 ?_
    | with_reducible refine w_n1 ?_
    | with_reducible refine w_n2 ?_
    | with_reducible refine w_tT ?_
    | with_reducible refine w_tF ?_
    | with_reducible refine w_nT ?_
    | with_reducible refine w_nF ?_
    | with_reducible refine w_rz ?_
    | with_reducible refine w_mkN ?_
    | with_reducible refine w_lrgN ?_
    | with_reducible refine w_rg1 ?_
    | with_reducible refine w_rg2 ?_
    | with_reducible refine w_sl ?_
    | with_reducible refine w_np ?_
    | with_reducible refine w_pt ?_
    | with_reducible refine w_tr ?_
    | with_reducible refine w_gn ?_
    | with_reducible refine w_yes ?_
    | with_reducible refine w_m1 ?_
    | with_reducible refine w_asu ?_
    | with_reducible refine w_exS ?_
    | with_reducible refine w_iS ?_
    | with_reducible refine w_g1 ?_
    | with_reducible refine w_gc ?_
    | with_reducible refine w_gt (SqT.of upd_same) rfl ?_)
local macro_rules
  | `(tactic| walk_at "g") => `(tactic| repeat walk_at "1")
local macro_rules
  | `(tactic| walk_at "j1") => `(tactic| first
    | with_reducible refine w_seqI ?_
    | walk_at "1")
local macro_rules
  | `(tactic| walk_at "j") => `(tactic| repeat walk_at "j1")
section
variable {K : PySem.W.Frag} {mg : Str → Option Value}
theorem Kp.cut {S S' : List Addr} {H H' : Hp} (k : Kp S H H') (h : ∀ b ∈ S, b ∈ S' ∨ H b = none) : Kp S' H H' := fun b o n e => k b o (fun z => by
  rcases h b z with q | q
  · exact n q
  · rw [q] at e
    cases e) e
theorem Kp.cut1 {H H' : Hp} {p : Addr} (k : Kp [p] H H') (h : H p = none) : Kp [] H H' := k.cut (by simp [h])
theorem at_map {α : Type} {f : α → V} {l : List α} {i : Nat} {x : V} (h : (l.map f)[i]? = some x) : ∃ y, l[i]? = some y ∧ f y = x := by
  rw [List.getElem?_map] at h
  cases e : l[i]? with
  | none => rw [e] at h; cases h
  | some y => rw [e] at h; exact ⟨y, rfl, by injection h⟩
theorem take_snoc {α : Type} {l : List α} {i : Nat} {x : α} (h : l[i]? = some x) : l.take (i + 1) = l.take i ++ [x] := by
  rw [List.take_succ, h] <;> rfl
theorem len_Links_copy (K : PySem.W.Frag) : ∀ vs H Q E, sp_Links_copy K vs H Q E → vs.length = (["self"] : List Str).length := by
  rintro vs H Q E ⟨_, _, _, _, _, rfl, _⟩
  rfl
theorem rd_Links_copy (T : Txt K mg) (vs : List V) (H : Hp) (Q : VK) (E : XK) (h : sp_Links_copy K vs H Q E) : t_Links_copy K E { nx := fun _ H' => Q .non H', rt := Q } (start ["self", "twin"] vs) H := by
  obtain ⟨p, r, l, o, s, rfl, a, g⟩ := h
  unfold t_Links_copy
  walk_at "g"
  refine w_fS T.cl_Links T.na_Links_size a ?_
  walk_at "g"
  refine mk fun q dx H1 nq hq k1 => ?_
  refine ⟨q, dx, s.n, rfl, hq, fun ok r1 l1 o1 H2 nr1 nl1 no1 k2 b => ⟨rfl, ?_⟩, fun z => absurd ⟨by omega, by have := a.wf.n60; omega⟩ z⟩
  have a1 := a.k0 k1
  obtain ⟨dx1, ob1⟩ := a1.ob
  have qp : p ≠ q := by
    obtain ⟨dx0, ob⟩ := a.ob
    exact ne_of_none ob nq
  have qr : r ≠ q := ne_of_none a.hr nq
  have ql : l ≠ q := ne_of_none a.hl nq
  have qo : o ≠ q := ne_of_none a.ho nq
  have a2 := a1.kp k2 (by simpa using qp) (by simpa using qr) (by simpa using ql) (by simpa using qo)
  walk_at "g"
  refine w_fR T.cl_Links T.na_Links__rights a2 ?_
  walk_at "g"
  refine w_listLN (SqL.of a2.hr) fun r3 H3 nr3 k3 hr3 => ?_
  walk_at "g"
  have b3 := b.k0 k3
  obtain ⟨dx3, ob3⟩ := b3.ob
  refine w_sT T.cl_Links T.na_Links__rights ob3 (fl_len _ _ _ _) fun H4 k4 p4 => ?_
  rw [fl_putR] at p4
  have a4 := (a2.k0 k3).kp k4 (by simpa using qp) (by simpa using qr) (by simpa using ql) (by simpa using qo)
  walk_at "g"
  refine w_fL T.cl_Links T.na_Links__lefts a4 ?_
  walk_at "g"
  refine w_listLN (SqL.of a4.hl) fun l5 H5 nl5 k5 hl5 => ?_
  walk_at "g"
  refine w_sT T.cl_Links T.na_Links__lefts (k5.at0 p4) (fl_len _ _ _ _) fun H6 k6 p6 => ?_
  rw [fl_putL] at p6
  have a6 := (a4.k0 k5).kp k6 (by simpa using qp) (by simpa using qr) (by simpa using ql) (by simpa using qo)
  walk_at "g"
  refine w_fO T.cl_Links T.na_Links__out a6 ?_
  walk_at "g"
  refine w_listLN (SqL.of a6.ho) fun o7 H7 no7 k7 ho7 => ?_
  walk_at "g"
  refine w_sT T.cl_Links T.na_Links__out (k7.at0 p6) (fl_len _ _ _ _) fun H8 k8 p8 => ?_
  rw [fl_putO] at p8
  walk_at "g"
  have rq : r3 ≠ q := (ne_of_none b.ob.choose_spec nr3).symm
  have lq : l5 ≠ q := (ne_of_none p4 nl5).symm
  have oq : o7 ≠ q := (ne_of_none p6 no7).symm
  have hr4 := k4.at1 rq hr3
  have hr6 := k6.at1 rq (k5.at0 hr4)
  have hl6 := k6.at1 lq hl5
  have k02 : Kp [q] H H2 := k1.all.trans k2
  have k04 : Kp [q] H H4 := k02.trans (k3.all.trans k4)
  have k06 : Kp [q] H H6 := k04.trans (k5.all.trans k6)
  have k08 : Kp [q] H H8 := k06.trans (k7.all.trans k8)
  refine g q r3 l5 o7 H8 nq (k02.free (by simpa using rq) nr3) (k04.free (by simpa using lq) nl5) (k06.free (by simpa using oq) no7) (k08.cut1 nq) ⟨⟨dx3, p8⟩, k8.at1 rq (k7.at0 hr6), k8.at1 lq (k7.at0 hl6), k8.at1 oq ho7, ?_, ?_, ?_, a.wf⟩
  · exact ne_of_none hr4 nl5
  · exact ne_of_none hr6 no7
  · exact ne_of_none hl6 no7
theorem len_play (K : PySem.W.Frag) : ∀ vs H Q E, sp_play K vs H Q E → vs.length = (["links", "log"] : List Str).length := by
  rintro vs H Q E ⟨_, _, _, _, _, _, _, rfl, _⟩
  rfl
theorem rd_play (T : Txt K mg) (vs : List V) (H : Hp) (Q : VK) (E : XK) (h : sp_play K vs H Q E) : t_play K E { nx := fun _ H' => Q .non H', rt := Q } (start ["links", "log", "after", "index", "operation"] vs) H := by
  obtain ⟨p, r, l, o, c, s, log, rfl, a, hs, g1, g2⟩ := h
  unfold t_play
  walk_at "g"
  refine w_me a no_m ?_
  walk_at "g"
  refine ⟨p, r, l, o, s, rfl, a, fun q r1 l1 o1 H1 nq nr nl no k1 b => ?_⟩
  walk_at "g"
  have hs1 := k1.sql (by simp) hs
  refine ⟨c, _, rfl, hs1, lp_enum (xs := log.map V.int) (fun i σ H' => (∃ u v, σ = [some (.ref p), some (.ref c), some (.ref q), u, v]) ∧ Leg s (log.take i) ∧ Kp [] H H' ∧ LinksAt K H' q r1 l1 o1 (runS s (log.take i))) ⟨⟨_, _, rfl⟩, ?_, k1, b⟩ ?_ ?_ ?_⟩
  · intro i op h
    simp at h
  · rintro i σ' H' hi ⟨_, _, k, _⟩
    exact k.sql (by simp) hs
  · rintro i x T σ' H' hx ⟨⟨u, v, rfl⟩, le, k, ls⟩ nT
    obtain ⟨op, hop, rfl⟩ := at_map hx
    have kT : Kp [] H' (upd H' T (.tup [.int (i : Int), .int op])) := Kp.new nT
    walk_at "g"
    have ls1 := ls.k0 kT
    refine w_me ls1 no_m ?_
    walk_at "g"
    refine ⟨q, r1, l1, o1, _, op, i, rfl, ls1, fun ok H2 k2 ls2 => ?_, fun bad => ?_⟩
    · walk_at "g"
      have e : log.take (i + 1) = log.take i ++ [op] := take_snoc hop
      refine ⟨⟨_, _, rfl⟩, ?_, ?_, ?_⟩
      · rw [e]
        exact le.snoc ok
      · exact ((k.trans kT).all.trans k2).cut (by simp [nr, nl, no])
      · rw [e, runS_snoc]
        exact ls2
    · rw [runS_n]
      exact g2 i op hop le bad _ (k.trans kT)
  · rintro σ' H' ⟨⟨u, v, rfl⟩, le, k, ls⟩
    rw [List.length_map, List.take_length] at le ls
    walk_at "g"
    exact g1 le q r1 l1 o1 H' nq nr nl no k ls
theorem len_replay (K : PySem.W.Frag) : ∀ vs H Q E, sp_replay K vs H Q E → vs.length = (["size", "log"] : List Str).length := by
  rintro vs H Q E ⟨_, _, _, rfl, _⟩
  rfl
theorem rd_replay (T : Txt K mg) (vs : List V) (H : Hp) (Q : VK) (E : XK) (h : sp_replay K vs H Q E) : t_replay K E { nx := fun _ H' => Q .non H', rt := Q } (start ["size", "log"] vs) H := by
  obtain ⟨c, size, log, rfl, hs, g1, g2, g3⟩ := h
  unfold t_replay
  walk_at "g"
  refine mk fun q dx H1 nq hq k1 => ?_
  refine ⟨q, dx, size, rfl, hq, fun ok r l o H2 nr nl no k2 b => ⟨rfl, ?_⟩, fun bad => g3 bad _ k1⟩
  have k02 : Kp [] H H2 := (k1.all.trans k2).cut1 nq
  walk_at "g"
  refine ⟨q, r, l, o, c, _, log, rfl, b, k02.sql (by simp) hs, fun le => ?_, ?_⟩
  · intro p' r' l' o' H3 n1 n2 n3 n4 k3 b3
    exact g1 ok le p' r' l' o' H3 (k02.free0 n1) (k02.free0 n2) (k02.free0 n3) (k02.free0 n4) (k02.trans k3) b3
  · intro i op hi le bad H3 k3
    exact g2 ok i op hi le bad H3 (k02.trans k3)
end
end G

set_option Elab.async false
set_option linter.all false
set_option maxRecDepth 100000
set_option maxHeartbeats 1000000
namespace G
--#FAM KG
--#FAM KA
open PySem PySem.Spec PyProof.Rows L2
local macro_rules
  | `(tactic| walk_at "1") => `(tactic| first
    | with_reducible refine w_seq ?_
    | with_reducible refine w_asg ?_
    | with_reducible refine w_asgS ?_
    | with_reducible refine w_asf ?_
    | with_reducible refine w_drop ?_
    | with_reducible refine w_ret ?_
    | with_reducible refine w_if ?_
    | with_reducible refine w_not ?_
    | with_reducible refine w_and ?_
    | with_reducible refine w_or ?_
    | with_reducible refine w_test ?_
    | with_reducible refine w_tb ?_
    | with_reducible refine w_chain ?_
    | with_reducible refine w_op ?_
    | with_reducible refine w_un ?_
    | with_reducible refine w_andV ?_
    | with_reducible refine w_orV ?_
    | with_reducible refine w_notV ?_
    | with_reducible refine w_ifE ?_
    | with_reducible refine w_cons ?_
    | with_reducible refine w_nil ?_
    | with_reducible refine w_cb ?_
    | with_reducible refine w_cl ?_
    | with_reducible refine w_mt ?_
    | with_reducible refine w_fld ?_
    | with_reducible refine w_tupN ?_
    | with_reducible refine w_lstN ?_
    | with_reducible refine w_bm ?_
    | with_reducible refine w_bm0 ?_
    | with_reducible refine w_for ?_
    | with_reducible refine w_lc ?_
    | with_reducible refine w_iR1 ?_
    | with_reducible refine w_iR2 ?_
    | with_reducible refine w_iL ?_
    | with_reducible refine w_iT ?_
    | with_reducible refine w_iE ?_
    | with_reducible refine w_iZ ?_
    | with_reducible refine w_var (by with_unfolding_all rfl) ?_
    | with_reducible refine w_c ?_
    | with_reducible refine w_next ?_
    | with_reducible refine w_i0 ?_
    | with_reducible refine w_u1 ?_
    | with_reducible refine w_addI ?_
    | with_reducible refine w_eqI ?_
    | with_reducible refine w_eqS ?_
    | with_reducible refine w_eqB ?_
    | with_reducible refine w_neI ?_
    | with_reducible refine w_neS ?_
    | with_reducible refine w_neB ?_
    | with_reducible refine w_abs ?_
    | with_reducible refine w_intI ?_
    | with_reducible refine w_min2 ?_
    | with_reducible refine w_max2 ?_
    | with_reducible refine w_isN0 ?_
    | with_reducible refine w_isN1 ref_ne ?_
    | with_reducible refine w_isN1 int_ne ?_
    | with_reducible refine w_notN0 ?_
    | with_reducible refine w_notN1 ref_ne ?_
    | with_reducible refine w_notN1 int_ne ?_
    | with_reducible refine w_ex1 ?_
    | with_reducible refine w_n1 ?_
    | with_reducible refine w_n2 ?_
    | with_reducible refine w_tT ?_
    | with_reducible refine w_tF ?_
    | with_reducible refine w_nT ?_
    | with_reducible refine w_nF ?_
    | with_reducible refine w_rz ?_
    | with_reducible refine w_mkN ?_
    | with_reducible refine w_lrgN ?_
    | with_reducible refine w_rg1 ?_
    | with_reducible refine w_rg2 ?_
    | with_reducible refine w_sl ?_
    | with_reducible refine w_np ?_
    | with_reducible refine w_pt ?_
    | with_reducible refine w_tr ?_
    | with_reducible refine w_gn ?_
    | with_reducible refine w_yes ?_
    | with_reducible refine w_m1 ?_
    | with_reducible refine w_asu ?_
    | with_reducible refine w_exS ?_
    | with_reducible refine w_iS ?_
    | with_reducible refine w_g1 ?_
    | with_reducible refine w_gc ?_
    | with_reducible refine w_gt (SqT.of upd_same) rfl ?_)
local macro_rules
  | `(tactic| walk_at "g") => `(tactic| repeat walk_at "1")
local macro_rules
  | `(tactic| walk_at "j1") => `(tactic| first
    | with_reducible refine w_seqI ?_
    | walk_at "1")
local macro_rules
  | `(tactic| walk_at "j") => `(tactic| repeat walk_at "j1")
section
variable {K : PySem.W.Frag} {mg : Str → Option Value}
theorem len_Links_outs (K : PySem.W.Frag) : ∀ vs H Q E, sp_Links_outs K vs H Q E → vs.length = (["self"] : List Str).length := by
  rintro vs H Q E ⟨_, _, _, _, _, rfl, _⟩
  rfl
theorem rd_Links_outs (T : Txt K mg) (vs : List V) (H : Hp) (Q : VK) (E : XK) (h : sp_Links_outs K vs H Q E) : t_Links_outs K E { nx := fun _ H' => Q .non H', rt := Q } (start ["self", "node"] vs) H := by
  obtain ⟨p, r, l, o, s, rfl, a, g⟩ := h
  unfold t_Links_outs
  have n60 := a.wf.n60
  walk_at "g"
  refine w_fS T.cl_Links T.na_Links_size a ?_
  walk_at "g"
  refine w_r2 (by omega) ?_
  rw [show ((s.n : Int) + 1 - 1).toNat = s.n by omega]
  refine cp_rng (fun i => (outN i s.O).map V.int) (fun i hi => sz_lt (by
    rw [List.length_map]
    have := outN_len i s.O
    omega)) rfl (fun i H' S N hi k y no => ?_) (fun D H' nD k hD => g D H' nD k hD)
  walk_at "g"
  refine ⟨rfl, ?_⟩
  walk_at "g"
  refine w_fO T.cl_Links T.na_Links__out (a.k0 k) ?_
  walk_at "g"
  refine w_ixL (SqL.of (k.at0 a.ho)) (at_B (by omega) (by rw [a.wf.lO]; omega)) ?_
  walk_at "g"
  rw [show ((1 : Int) + (i : Int)).toNat = i + 1 by omega]
  refine w_iteB (fun c1 => ?_) (fun c1 => ?_)
  · walk_at "g"
    refine y _ _ (Kp.refl _ _) ?_
    unfold outN
    rw [List.range_succ, List.map_append, List.filter_append, List.map_append, List.map_append]
    congr 1
    show (([i + 1].filter fun v => gB s.O v).map _).map _ = _
    rw [List.filter_cons_of_pos c1]
    show [V.int ((i + 1 : Nat) : Int)] = [V.int (1 + (i : Int))]
    rw [Int.add_comm] <;> rfl
  · refine no _ (Kp.refl _ _) ?_
    unfold outN
    rw [List.range_succ, List.map_append, List.filter_append, List.map_append, List.map_append]
    show _ ++ (([i + 1].filter fun v => gB s.O v).map _).map _ = _
    rw [List.filter_cons_of_neg (by rw [c1]; exact Bool.false_ne_true)]
    exact List.append_nil _
theorem w_isN {x : V} {H : Hp} {Q : VK} (g : Q (.bl (decide (x = .non))) H) : rIsNA x .non H Q := ⟨rfl, g⟩
end
end G

set_option Elab.async false
set_option linter.all false
set_option maxRecDepth 100000
set_option maxHeartbeats 1000000
namespace G
--#FAM KG
open PySem PySem.Spec PyProof.Rows L2
local macro_rules
  | `(tactic| walk_at "1") => `(tactic| first
    | with_reducible refine w_seq ?_
    | with_reducible refine w_asg ?_
    | with_reducible refine w_asgS ?_
    | with_reducible refine w_asf ?_
    | with_reducible refine w_drop ?_
    | with_reducible refine w_ret ?_
    | with_reducible refine w_if ?_
    | with_reducible refine w_not ?_
    | with_reducible refine w_and ?_
    | with_reducible refine w_or ?_
    | with_reducible refine w_test ?_
    | with_reducible refine w_tb ?_
    | with_reducible refine w_chain ?_
    | with_reducible refine w_op ?_
    | with_reducible refine w_un ?_
    | with_reducible refine w_andV ?_
    | with_reducible refine w_orV ?_
    | with_reducible refine w_notV ?_
    | with_reducible refine w_ifE ?_
    | with_reducible refine w_cons ?_
    | with_reducible refine w_nil ?_
    | with_reducible refine w_cb ?_
    | with_reducible refine w_cl ?_
    | with_reducible refine w_mt ?_
    | with_reducible refine w_fld ?_
    | with_reducible refine w_tupN ?_
    | with_reducible refine w_lstN ?_
    | with_reducible refine w_bm ?_
    | with_reducible refine w_bm0 ?_
    | with_reducible refine w_for ?_
    | with_reducible refine w_lc ?_
    | with_reducible refine w_iR1 ?_
    | with_reducible refine w_iR2 ?_
    | with_reducible refine w_iL ?_
    | with_reducible refine w_iT ?_
    | with_reducible refine w_iE ?_
    | with_reducible refine w_iZ ?_
    | with_reducible refine w_var (by with_unfolding_all rfl) ?_
    | with_reducible refine w_c ?_
    | with_reducible refine w_next ?_
    | with_reducible refine w_i0 ?_
    | with_reducible refine w_u1 ?_
    | with_reducible refine w_addI ?_
    | with_reducible refine w_eqI ?_
    | with_reducible refine w_eqS ?_
    | with_reducible refine w_eqB ?_
    | with_reducible refine w_neI ?_
    | with_reducible refine w_neS ?_
    | with_reducible refine w_neB ?_
    | with_reducible refine w_abs ?_
    | with_reducible refine w_intI ?_
    | with_reducible refine w_min2 ?_
    | with_reducible refine w_max2 ?_
    | with_reducible refine w_isN0 ?_
    | with_reducible refine w_isN1 ref_ne ?_
    | with_reducible refine w_isN1 int_ne ?_
    | with_reducible refine w_notN0 ?_
    | with_reducible refine w_notN1 ref_ne ?_
    | with_reducible refine w_notN1 int_ne ?_
    | with_reducible refine w_ex1 ?_
    | with_reducible refine w_n1 ?_
    | with_reducible refine w_n2 ?_
    | with_reducible refine w_tT ?_
    | with_reducible refine w_tF ?_
    | with_reducible refine w_nT ?_
    | with_reducible refine w_nF ?_
    | with_reducible refine w_rz ?_
    | with_reducible refine w_mkN ?_
    | with_reducible refine w_lrgN ?_
    | with_reducible refine w_rg1 ?_
    | with_reducible refine w_rg2 ?_
    | with_reducible refine w_sl ?_
    | with_reducible refine w_np ?_
    | with_reducible refine w_pt ?_
    | with_reducible refine w_tr ?_
    | with_reducible refine w_gn ?_
    | with_reducible refine w_yes ?_
    | with_reducible refine w_m1 ?_
    | with_reducible refine w_asu ?_
    | with_reducible refine w_exS ?_
    | with_reducible refine w_iS ?_
    | with_reducible refine w_g1 ?_
    | with_reducible refine w_gc ?_
    | with_reducible refine w_gt (SqT.of upd_same) rfl ?_)
local macro_rules
  | `(tactic| walk_at "g") => `(tactic| repeat walk_at "1")
local macro_rules
  | `(tactic| walk_at "j1") => `(tactic| first
    | with_reducible refine w_seqI ?_
    | walk_at "1")
local macro_rules
  | `(tactic| walk_at "j") => `(tactic| repeat walk_at "j1")
section
variable {K : PySem.W.Frag} {mg : Str → Option Value}
theorem ok_nat {size : Int} (h : SizeOk size) : ∃ n : Nat, size = (n : Int) ∧ n ≤ 60 := ⟨size.toNat, by obtain ⟨a, b⟩ := h; omega, by obtain ⟨a, b⟩ := h; omega⟩
theorem len_Links_is_out (K : PySem.W.Frag) : ∀ vs H Q E, sp_Links_is_out K vs H Q E → vs.length = (["self", "node"] : List Str).length := by
  rintro vs H Q E ⟨_, _, _, _, _, _, rfl, _⟩
  rfl
theorem rd_Links_is_out (T : Txt K mg) (vs : List V) (H : Hp) (Q : VK) (E : XK) (h : sp_Links_is_out K vs H Q E) : t_Links_is_out K E { nx := fun _ H' => Q .non H', rt := Q } (start ["self", "node"] vs) H := by
  obtain ⟨p, r, l, o, s, v, rfl, a, h2, h3⟩ := h
  unfold t_Links_is_out
  walk_at "g"
  refine w_iteD (fun c1 => ?_) (fun c1 => absurd (by omega) c1)
  walk_at "g"
  refine w_fS T.cl_Links T.na_Links_size a ?_
  walk_at "g"
  refine w_iteN (fun c1 => absurd (by omega) c1) (fun c1 => ?_)
  walk_at "g"
  refine w_fO T.cl_Links T.na_Links__out a ?_
  walk_at "g"
  refine w_ixL (SqL.of a.ho) (at_B (by omega) (by rw [a.wf.lO]; omega)) ?_
  exact h3
theorem len__late_gaps (K : PySem.W.Frag) : ∀ vs H Q E, sp__late_gaps K vs H Q E → vs.length = (["links", "earlier", "operation"] : List Str).length := by
  rintro vs H Q E ⟨_, _, _, _, _, _, _, _, rfl, _⟩
  rfl
theorem rd__late_gaps (T : Txt K mg) (vs : List V) (H : Hp) (Q : VK) (E : XK) (h : sp__late_gaps K vs H Q E) : t__late_gaps K E { nx := fun _ H' => Q .non H', rt := Q } (start ["links", "earlier", "operation", "node", "low", "high", "late"] vs) H := by
  obtain ⟨p, r, l, o, c, s, log, op, rfl, a, hs, iop, g⟩ := h
  unfold t__late_gaps
  have wf := a.wf
  have n60 := wf.n60
  obtain ⟨v1, v2⟩ := iop
  generalize ev : op.natAbs = v at v1 v2 g
  obtain ⟨r1, r2⟩ := wf.rb v (by omega)
  obtain ⟨l1, l2⟩ := wf.lb v (by omega) (by omega)
  walk_at "g"
  rw [natAbs_if, ev]
  refine w_me a no_m ?_
  walk_at "g"
  refine ⟨p, r, l, o, s, v, rfl, a, v1, by omega, ?_⟩
  walk_at "g"
  refine w_me a no_m ?_
  walk_at "g"
  refine ⟨p, r, l, o, s, v, rfl, a, v2, ?_⟩
  walk_at "j"
  refine ⟨sz_ok (Nat.zero_le _), nw fun q H1 nq k1 hq => ?_⟩
  walk_at "j"
  unfold lateL at g
  generalize e1 : (if gI s.L v ≠ (v : Int) - 1 ∧ gI s.L v + 1 ∈ log then [gI s.L v] else []) = g1 at g
  generalize e2 : (if gI s.R v ≠ (v : Int) + 1 ∧ gI s.R v - 1 ∈ log then [gI s.R v - 1] else []) = g2 at g
  have l1' : g1.length ≤ 1 := by rw [← e1]; split <;> simp
  have cq : Kp [q] H1 H1 := Kp.refl _ _
  have hs1 := k1.sql (by simp) hs
  have fin : ∀ H', Kp [q] H1 H' → H' q = some (.lst ((g1 ++ g2).map V.int)) → Q (.ref q) H' := fun H' k h => g q H' nq (k1.all.trans k |>.cut1 nq) h
  refine w_ifK (fun H' => Kp [q] H1 H' ∧ SqL K H' c (log.map V.int) ∧ H' q = some (.lst (g1.map V.int))) (fun N hN => ?_) (fun H2 ⟨k2, hs2, hq2⟩ => ?_)
  · walk_at "g"
    refine w_iteN (fun c1 => ?_) (fun c1 => ?_)
    · walk_at "g"
      refine w_inL hs1 rfl (flatI _) ?_
      rw [if_neg Bool.false_ne_true, inI]
      walk_at "g"
      refine w_iteD (fun c2 => ?_) (fun c2 => ?_)
      · walk_at "g"
        refine ⟨w_ty (SqL.of hq), ?_⟩
        walk_at "g"
        have kk : Kp [] H1 (upd H1 q (.lst ([] ++ [.int (gI s.L v)]))) → True := fun _ => trivial
        refine w_apT hq (sz_lt (by show 0 < 1000000; omega)) fun H2 k2 hq2 => ?_
        refine hN _ ⟨k2, ?_, ?_⟩
        · have fq : H q = none := nq
          have e : Kp [] H H2 := (k1.all.trans k2).cut1 nq
          exact e.sql (by simp) hs
        rw [if_pos ⟨c1, c2⟩] at e1
        rw [hq2, ← e1] <;> rfl
      · walk_at "g"
        refine hN _ ⟨Kp.refl _ _, hs1, ?_⟩
        rw [if_neg (fun z => c2 z.2)] at e1
        rw [hq, ← e1] <;> rfl
    · walk_at "g"
      refine hN _ ⟨Kp.refl _ _, hs1, ?_⟩
      rw [if_neg (fun z => z.1 c1)] at e1
      rw [hq, ← e1] <;> rfl
  walk_at "j"
  refine w_ifK (fun H' => Kp [q] H1 H' ∧ H' q = some (.lst ((g1 ++ g2).map V.int))) (fun N hN => ?_) (fun H3 ⟨k3, hq3⟩ => ?_)
  · walk_at "g"
    refine w_iteN (fun c1 => ?_) (fun c1 => ?_)
    · walk_at "g"
      refine w_inL hs2 rfl (flatI _) ?_
      rw [if_neg Bool.false_ne_true, inI]
      walk_at "g"
      refine w_iteD (fun c2 => ?_) (fun c2 => ?_)
      · walk_at "g"
        refine ⟨w_ty (SqL.of hq2), ?_⟩
        walk_at "g"
        refine w_apT hq2 (sz_lt (by rw [List.length_map]; omega)) fun H3 k3 hq3 => ?_
        refine hN _ ⟨k2.trans k3, ?_⟩
        rw [if_pos ⟨c1, c2⟩] at e2
        rw [hq3, ← e2, List.map_append] <;> rfl
      · walk_at "g"
        refine hN _ ⟨k2, ?_⟩
        rw [if_neg (fun z => c2 z.2)] at e2
        rw [hq2, ← e2, List.append_nil]
    · walk_at "g"
      refine hN _ ⟨k2, ?_⟩
      rw [if_neg (fun z => z.1 c1)] at e2
      rw [hq2, ← e2, List.append_nil]
  walk_at "g"
  exact fin H3 k3 hq3
theorem cut_takeI (l : List Int) (k : Nat) (h : k ≤ l.length) : cutV (l.map V.int) none (some (k : Int)) = (l.take k).map V.int := by
  rw [cut_take _ _ (by rw [List.length_map]; exact h), List.map_take]
theorem len__check_once (K : PySem.W.Frag) : ∀ vs H Q E, sp__check_once K vs H Q E → vs.length = (["size", "log"] : List Str).length := by
  rintro vs H Q E ⟨_, _, _, rfl, _⟩
  rfl
theorem rd__check_once (T : Txt K mg) (vs : List V) (H : Hp) (Q : VK) (E : XK) (h : sp__check_once K vs H Q E) : t__check_once K E { nx := fun _ H' => Q .non H', rt := Q } (start ["size", "log", "index", "operation"] vs) H := by
  obtain ⟨c, size, log, rfl, hs, hlen, re, g⟩ := h
  unfold t__check_once
  walk_at "g"
  refine ⟨c, size, log, rfl, hs, fun ok le p r l o H1 np nr nl no k1 b => ?_, re.re.op, re.re.sz⟩
  have hs1 := k1.sql (by simp) hs
  have tw := re.tw ok le
  have g := g ok le
  walk_at "g"
  refine ⟨c, _, rfl, hs1, lp_enum (xs := log.map V.int) (fun i σ H' => (∃ x2 x3, σ = [some (.int size), some (.ref c), x2, x3]) ∧ Kp [] H1 H' ∧ OnceA (log.take i)) ⟨⟨_, _, rfl⟩, Kp.refl _ _, by rw [List.take_zero]; exact once_nil⟩ ?_ ?_ ?_⟩
  · rintro i σ' H' hi ⟨_, k, _⟩
    exact k.sql (by simp) hs1
  · rintro i x T1 σ' H' hx ⟨⟨x2, x3, rfl⟩, k, oo⟩ nT
    obtain ⟨op, hop, rfl⟩ := at_map hx
    have li : i < log.length := (List.getElem?_eq_some_iff.mp hop).1
    have kT : Kp [] H' (upd H' T1 (.tup [.int (i : Int), .int op])) := Kp.new nT
    have k1T := k.trans kT
    walk_at "g"
    refine w_iteD (fun c1 => ?_) (fun c1 => ?_)
    · walk_at "g"
      refine w_slL (k1T.sql (by simp) hs1) fun d H2 nd k2 hd => ?_
      rw [cut_takeI _ _ (by omega)] at hd
      refine w_inL (SqL.of hd) rfl (flatI _) ?_
      rw [if_neg Bool.false_ne_true, inI]
      walk_at "g"
      refine w_iteD (fun c2 => ?_) (fun c2 => ?_)
      · walk_at "g"
        exact ⟨rfl, Nat.le_of_ble_eq_true rfl, tw i ⟨op, hop, c1, c2, oo⟩ H2 ((k1.trans k1T).trans k2)⟩
      · walk_at "g"
        refine ⟨⟨_, _, rfl⟩, k1T.trans k2, ?_⟩
        rw [take_snoc hop]
        exact oo.snoc fun _ => c2
    · walk_at "g"
      refine ⟨⟨_, _, rfl⟩, k1T, ?_⟩
      rw [take_snoc hop]
      exact oo.snoc fun z => absurd z c1
  · rintro σ' H' ⟨⟨x2, x3, rfl⟩, k, oo⟩
    rw [List.length_map, List.take_length] at oo
    walk_at "g"
    exact g oo H' (k1.trans k)
theorem len_is_complete (K : PySem.W.Frag) : ∀ vs H Q E, sp_is_complete K vs H Q E → vs.length = (["size", "log"] : List Str).length := by
  rintro vs H Q E ⟨_, _, _, rfl, _⟩
  rfl
theorem rd_is_complete (T : Txt K mg) (vs : List V) (H : Hp) (Q : VK) (E : XK) (h : sp_is_complete K vs H Q E) : t_is_complete K E { nx := fun _ H' => Q .non H', rt := Q } (start ["size", "log"] vs) H := by
  obtain ⟨c, size, log, rfl, hs, hlen, re, g⟩ := h
  unfold t_is_complete
  walk_at "g"
  refine ⟨c, size, log, rfl, hs, hlen, re, fun ok le oo H1 k1 => ?_⟩
  have g := g ok le oo
  have re1 := re.kp k1
  walk_at "g"
  refine ⟨c, size, log, rfl, k1.sql (by simp) hs, fun _ _ p r l o H2 np nr nl no k2 b => ?_, re1.re.op, re1.re.sz⟩
  walk_at "g"
  refine w_me b no_m ?_
  walk_at "g"
  refine ⟨p, r, l, o, _, rfl, b, fun q H3 nq k3 hq => ?_⟩
  walk_at "g"
  refine w_lenL (SqL.of hq) ?_
  walk_at "g"
  have en : (runS (wholeS size.toNat) log).n = size.toNat := by rw [runS_n] <;> rfl
  rw [List.length_map, en]
  have gg := g H3 ((k1.trans k2).trans k3)
  have ee : decide (((outN size.toNat (runS (wholeS size.toNat) log).O).length : Int) = 0) = decide (outN size.toNat (runS (wholeS size.toNat) log).O = []) := by
    refine decide_eq_decide.mpr ⟨fun z => List.length_eq_zero_iff.mp (by omega), fun z => by rw [z] <;> rfl⟩
  rw [ee]
  exact gg
end
end G

set_option Elab.async false
set_option linter.all false
set_option maxRecDepth 100000
set_option maxHeartbeats 1000000
namespace G
--#FAM KG
open PySem PySem.Spec PyProof.Rows L2
local macro_rules
  | `(tactic| walk_at "1") => `(tactic| first
    | with_reducible refine w_seq ?_
    | with_reducible refine w_asg ?_
    | with_reducible refine w_asgS ?_
    | with_reducible refine w_asf ?_
    | with_reducible refine w_drop ?_
    | with_reducible refine w_ret ?_
    | with_reducible refine w_if ?_
    | with_reducible refine w_not ?_
    | with_reducible refine w_and ?_
    | with_reducible refine w_or ?_
    | with_reducible refine w_test ?_
    | with_reducible refine w_tb ?_
    | with_reducible refine w_chain ?_
    | with_reducible refine w_op ?_
    | with_reducible refine w_un ?_
    | with_reducible refine w_andV ?_
    | with_reducible refine w_orV ?_
    | with_reducible refine w_notV ?_
    | with_reducible refine w_ifE ?_
    | with_reducible refine w_cons ?_
    | with_reducible refine w_nil ?_
    | with_reducible refine w_cb ?_
    | with_reducible refine w_cl ?_
    | with_reducible refine w_mt ?_
    | with_reducible refine w_fld ?_
    | with_reducible refine w_tupN ?_
    | with_reducible refine w_lstN ?_
    | with_reducible refine w_bm ?_
    | with_reducible refine w_bm0 ?_
    | with_reducible refine w_for ?_
    | with_reducible refine w_lc ?_
    | with_reducible refine w_iR1 ?_
    | with_reducible refine w_iR2 ?_
    | with_reducible refine w_iL ?_
    | with_reducible refine w_iT ?_
    | with_reducible refine w_iE ?_
    | with_reducible refine w_iZ ?_
    | with_reducible refine w_var (by with_unfolding_all rfl) ?_
    | with_reducible refine w_c ?_
    | with_reducible refine w_next ?_
    | with_reducible refine w_i0 ?_
    | with_reducible refine w_u1 ?_
    | with_reducible refine w_addI ?_
    | with_reducible refine w_eqI ?_
    | with_reducible refine w_eqS ?_
    | with_reducible refine w_eqB ?_
    | with_reducible refine w_neI ?_
    | with_reducible refine w_neS ?_
    | with_reducible refine w_neB ?_
    | with_reducible refine w_abs ?_
    | with_reducible refine w_intI ?_
    | with_reducible refine w_min2 ?_
    | with_reducible refine w_max2 ?_
    | with_reducible refine w_isN0 ?_
    | with_reducible refine w_isN1 ref_ne ?_
    | with_reducible refine w_isN1 int_ne ?_
    | with_reducible refine w_notN0 ?_
    | with_reducible refine w_notN1 ref_ne ?_
    | with_reducible refine w_notN1 int_ne ?_
    | with_reducible refine w_ex1 ?_
    | with_reducible refine w_n1 ?_
    | with_reducible refine w_n2 ?_
    | with_reducible refine w_tT ?_
    | with_reducible refine w_tF ?_
    | with_reducible refine w_nT ?_
    | with_reducible refine w_nF ?_
    | with_reducible refine w_rz ?_
    | with_reducible refine w_mkN ?_
    | with_reducible refine w_lrgN ?_
    | with_reducible refine w_rg1 ?_
    | with_reducible refine w_rg2 ?_
    | with_reducible refine w_sl ?_
    | with_reducible refine w_np ?_
    | with_reducible refine w_pt ?_
    | with_reducible refine w_tr ?_
    | with_reducible refine w_gn ?_
    | with_reducible refine w_yes ?_
    | with_reducible refine w_m1 ?_
    | with_reducible refine w_asu ?_
    | with_reducible refine w_exS ?_
    | with_reducible refine w_iS ?_
    | with_reducible refine w_g1 ?_
    | with_reducible refine w_gc ?_
    | with_reducible refine w_gt (SqT.of upd_same) rfl ?_)
local macro_rules
  | `(tactic| walk_at "g") => `(tactic| repeat walk_at "1")
local macro_rules
  | `(tactic| walk_at "j1") => `(tactic| first
    | with_reducible refine w_seqI ?_
    | walk_at "1")
local macro_rules
  | `(tactic| walk_at "j") => `(tactic| repeat walk_at "j1")
section
variable {K : PySem.W.Frag} {mg : Str → Option Value}
def lateWi (n : Nat) (log : List Int) (i : Nat) : List (Int × Int) := ((List.range i).map fun j => lateAt n log j (gI log j)).flatten
theorem lateWi_snoc (n : Nat) (log : List Int) (i : Nat) : lateWi n log (i + 1) = lateWi n log i ++ lateAt n log i (gI log i) := by
  unfold lateWi
  rw [List.range_succ, List.map_append, List.flatten_append]
  simp
theorem lateWi_len (n : Nat) (log : List Int) : ∀ i, (lateWi n log i).length ≤ 2 * i := by
  intro i
  induction i with
  | zero => simp [lateWi]
  | succ i ih =>
    rw [lateWi_snoc, List.length_append]
    have : (lateAt n log i (gI log i)).length ≤ 2 := by
      unfold lateAt
      rw [List.length_map]
      exact lateL_len _ _ _
    omega
theorem len_late_writes (K : PySem.W.Frag) : ∀ vs H Q E, sp_late_writes K vs H Q E → vs.length = (["size", "log"] : List Str).length := by
  rintro vs H Q E ⟨_, _, _, rfl, _⟩
  rfl
theorem rd_late_writes (T : Txt K mg) (vs : List V) (H : Hp) (Q : VK) (E : XK) (h : sp_late_writes K vs H Q E) : t_late_writes K E { nx := fun _ H' => Q .non H', rt := Q } (start ["size", "log", "links", "found", "index", "operation", "gap"] vs) H := by
  obtain ⟨c, size, log, rfl, hs, hlen, re, g⟩ := h
  unfold t_late_writes
  walk_at "g"
  refine ⟨c, size, log, rfl, hs, hlen, re, fun ok le oo H1 k1 => ?_⟩
  have g := g ok le oo
  have re1 := re.kp k1
  obtain ⟨n, rfl, n60⟩ := ok_nat ok
  rw [Int.toNat_natCast] at g le
  walk_at "g"
  refine mk fun q dx H2 nq hq k2 => ?_
  refine ⟨q, dx, n, rfl, hq, fun _ r l o H3 nr nl no k3 b => ⟨rfl, ?_⟩, fun bad => absurd ok bad⟩
  rw [Int.toNat_natCast] at b
  have k13 : Kp [] H1 H3 := (k2.all.trans k3).cut1 nq
  walk_at "g"
  refine ⟨sz_ok (Nat.zero_le _), nw fun u H4 nu k4 hu => ?_⟩
  walk_at "g"
  have k04 := (k1.trans k13).trans k4
  have hs4 := k04.sql (by simp) hs
  have b4 := b.k0 k4
  obtain ⟨dxq, obq⟩ := b.ob
  have nqu : q ≠ u := ne_of_none obq nu
  have nru : r ≠ u := ne_of_none b.hr nu
  have nlu : l ≠ u := ne_of_none b.hl nu
  have nou : o ≠ u := ne_of_none b.ho nu
  have fq : H q = none := k1.free0 nq
  have fr : H r = none := (k1.trans k2).free0 nr
  have fl : H l = none := (k1.trans k2).free0 nl
  have fo : H o = none := (k1.trans k2).free0 no
  have fu : H u = none := (k1.trans k13).free0 nu
  refine ⟨c, _, rfl, hs4, lp_enum (xs := log.map V.int) (fun i σ H' => (∃ x4 x5 x6, σ = [some (.int n), some (.ref c), some (.ref q), some (.ref u), x4, x5, x6]) ∧ Kp [] H H' ∧ LinksAt K H' q r l o (runS (wholeS n) (log.take i)) ∧
    ∃ xs, H' u = some (.lst xs) ∧ PPs H' xs (lateWi n log i)) ⟨⟨_, _, _, rfl⟩, k04, b4, [], hu, PPs.nil⟩ ?_ ?_ ?_⟩
  · rintro i σ' H' hi ⟨_, k, _⟩
    exact k.sql (by simp) hs
  · rintro i x T1 σ' H' hx ⟨⟨x4, x5, x6, rfl⟩, k, la, xs, hu', px⟩ nT
    obtain ⟨op, hop, rfl⟩ := at_map hx
    have li : i < log.length := (List.getElem?_eq_some_iff.mp hop).1
    have kT : Kp [] H' (upd H' T1 (.tup [.int (i : Int), .int op])) := Kp.new nT
    have hT : (upd H' T1 (.tup [.int (i : Int), .int op])) T1 = some (.tup [.int (i : Int), .int op]) := upd_same
    generalize upd H' T1 (.tup [.int (i : Int), .int op]) = HT at kT hT ⊢
    have ok1 : OkOp (runS (wholeS n) (log.take i)) op := le i op hop
    have laT := la.k0 kT
    have huT := kT.at0 hu'
    refine w_gt (SqT.of hT) rfl ?_
    walk_at "g"
    refine ⟨w_ty (SqL.of huT), ?_⟩
    walk_at "g"
    refine w_slL ((k.trans kT).sql (by simp) hs) fun d H5 nd k5 hd => ?_
    rw [cut_takeI _ _ (by omega)] at hd
    walk_at "g"
    refine ⟨q, r, l, o, d, _, log.take i, op, rfl, laT.k0 k5, SqL.of hd, ok1.1, fun z H6 nz k6 hz => ?_⟩
    walk_at "g"
    refine w_l1 (SqL.of hz) ?_
    have ll := lateL_len (runS (wholeS n) (log.take i)) (log.take i) op.natAbs
    have eop : gI log i = op := gI_of hop
    have k56 := k5.trans k6
    generalize eL : lateL (runS (wholeS n) (log.take i)) (log.take i) op.natAbs = gs at hz ll
    refine cp_mutL (fun D j acc H'' => Kp [] H6 H'' ∧ PPs H'' acc ((gs.take j).map fun g => ((i : Int), g))) (sz_lt (by rw [List.length_map]; omega)) (fun D H'' nD kD hD => ⟨kD, by rw [List.take_zero]; exact PPs.nil⟩) (fun D j acc H'' nD hp => SqL.of (hp.1.at0 hz)) ?_ ?_
    · intro D j y acc H'' S N nD hy hD ⟨kj, pj⟩ yes no
      obtain ⟨gv, hg, rfl⟩ := at_map hy
      walk_at "g"
      refine ⟨rfl, ?_⟩
      walk_at "g"
      refine ⟨sz_ok (by show 2 ≤ 1000000; omega), nw fun t H7 nt k7 ht => ?_⟩
      refine yes _ H7 (k7.at0 hD) fun H8 k8 h8 => ⟨((kj.trans k7).all.trans k8).cut1 nD, ?_⟩
      rw [take_snoc hg, List.map_append]
      refine ((pj.k0 k7).app (PPs.one (t := ((i : Int), gv)) ht)).kp k8 fun b hb ys e => ?_
      rw [List.mem_singleton] at hb
      subst hb
      rw [k7.at0 hD] at e
      cases e
    · intro D acc H7 nD hD lacc ⟨kj, pj⟩
      rw [List.length_map, List.take_length] at pj
      rw [List.length_map] at lacc
      have huu : H7 u = some (.lst xs) := kj.at0 (k56.at0 huT)
      have Du : u ≠ D := ne_of_none (k56.at0 huT) nD
      have lx := lateWi_len n log i
      walk_at "g"
      refine ⟨u, D, xs, acc, rfl, rfl, huu, hD, sz_ok (by rw [px.1]; omega), ?_⟩
      have k8 : Kp [u] H7 (upd H7 u (.lst (xs ++ acc))) := Kp.put (by simp)
      have h8 : (upd H7 u (.lst (xs ++ acc))) u = some (.lst (xs ++ acc)) := upd_same
      generalize upd H7 u (.lst (xs ++ acc)) = H8 at k8 h8 ⊢
      have la8 : LinksAt K H8 q r l o (runS (wholeS n) (log.take i)) := ((laT.k0 k56).k0 kj).kp k8 (by simpa using nqu) (by simpa using nru) (by simpa using nlu) (by simpa using nou)
      walk_at "g"
      refine w_me la8 no_m ?_
      walk_at "g"
      refine ⟨q, r, l, o, _, op, rfl, la8, fun _ H9 k9 la9 => ?_, fun z => absurd ok1 z⟩
      walk_at "g"
      have e : log.take (i + 1) = log.take i ++ [op] := take_snoc hop
      have h9 : H9 u = _ := k9 _ _ (by simp [Ne.symm nru, Ne.symm nlu, Ne.symm nou]) h8
      refine ⟨⟨_, _, _, rfl⟩, ?_, ?_, _, h9, ?_⟩
      · exact ((((k.trans kT).trans (k56.trans kj)).all.trans (k8.mono (S' := [u, r, l, o]) (by simp))).trans (k9.mono (by simp))).cut (by simp [fu, fr, fl, fo])
      · rw [e, runS_snoc]
        exact la9
      · rw [lateWi_snoc, eop]
        unfold lateAt
        rw [eL]
        have p7 : PPs H7 (xs ++ acc) (lateWi n log i ++ gs.map fun g => ((i : Int), g)) := (((px.k0 kT).k0 k56).k0 kj).app pj
        refine (p7.kp k8 fun b hb ys z => ?_).kp k9 fun b hb ys z => ?_
        · rw [List.mem_singleton] at hb
          subst hb
          rw [huu] at z
          cases z
        · simp only [List.mem_cons, List.not_mem_nil, or_false] at hb
          rcases hb with rfl | rfl | rfl
          · rw [la8.hr] at z
            cases z
          · rw [la8.hl] at z
            cases z
          · rw [la8.ho] at z
            cases z
  · rintro σ' H' ⟨⟨x4, x5, x6, rfl⟩, k, la, xs, hu', px⟩
    rw [List.length_map] at px
    walk_at "g"
    exact g xs u H' fu k hu' px
theorem nextN_snoc (s : Sd) (log : List Int) (i : Nat) (p : Nat → Bool) : (((List.range (i + 1)).map fun (v : Nat) => v + 1).filter fun v => p v) = (((List.range i).map fun (v : Nat) => v + 1).filter fun v => p v) ++ (if p (i + 1) then [i + 1] else []) := by
  rw [List.range_succ, List.map_append, List.filter_append]
  congr 1
  show ([i + 1].filter fun v => p v) = _
  by_cases c : p (i + 1) = true
  · rw [List.filter_cons_of_pos c, if_pos c] <;> rfl
  · rw [List.filter_cons_of_neg c, if_neg c] <;> rfl
theorem len_safe_next (K : PySem.W.Frag) : ∀ vs H Q E, sp_safe_next K vs H Q E → vs.length = (["size", "log"] : List Str).length := by
  rintro vs H Q E ⟨_, _, _, rfl, _⟩
  rfl
theorem rd_safe_next (T : Txt K mg) (vs : List V) (H : Hp) (Q : VK) (E : XK) (h : sp_safe_next K vs H Q E) : t_safe_next K E { nx := fun _ H' => Q .non H', rt := Q } (start ["size", "log", "links", "nodes", "operations", "node", "operation"] vs) H := by
  obtain ⟨c, size, log, rfl, hs, hlen, re, g⟩ := h
  unfold t_safe_next
  walk_at "g"
  refine ⟨c, size, log, rfl, hs, hlen, re, fun ok le oo H1 k1 => ?_⟩
  have g := g ok le oo
  have re1 := re.kp k1
  walk_at "g"
  refine ⟨c, size, log, rfl, k1.sql (by simp) hs, fun _ _ p r l o H2 np nr nl no k2 b => ?_, re1.re.op, re1.re.sz⟩
  obtain ⟨n, rfl, n60⟩ := ok_nat ok
  rw [Int.toNat_natCast] at g b
  have sn : (runS (wholeS n) log).n = n := by rw [runS_n] <;> rfl
  generalize runS (wholeS n) log = s at g b sn
  have hs2 := (k1.trans k2).sql (by simp) hs
  have lO := b.wf.lO
  walk_at "g"
  refine w_r2 (by omega) ?_
  rw [show ((n : Int) + 1 - 1).toNat = n by omega]
  have ln : ∀ (i : Nat) (p : Nat → Bool), (((List.range i).map fun (v : Nat) => v + 1).filter fun v => p v).length ≤ i := by
    intro i p
    refine Nat.le_trans (List.length_filter_le _ _) ?_
    rw [List.length_map, List.length_range]
    exact Nat.le_refl _
  generalize ep : (fun v : Nat => gB s.O v || decide (-(v : Int) ∉ log)) = p1
  refine cp_rng (fun i => ((((List.range i).map fun (v : Nat) => v + 1).filter fun v => p1 v).map fun (v : Nat) => (v : Int)).map V.int) (fun i hi => sz_lt (by rw [List.length_map, List.length_map]; have := ln i p1; omega)) rfl (fun i H' S N hi k yes no => ?_) (fun D H3 nD k3 hD => ?_)
  · have ei : (1 : Int) + (i : Int) = ((i + 1 : Nat) : Int) := by omega
    have ey : p1 (i + 1) = (gB s.O (i + 1) || decide (-((i + 1 : Nat) : Int) ∉ log)) := by rw [← ep]
    have yy : p1 (i + 1) = true → S (.int ((i + 1 : Nat) : Int)) H' := fun z => yes _ _ (Kp.refl _ _) (by rw [nextN_snoc s log, if_pos z, List.map_append, List.map_append] <;> rfl)
    have nn : ¬ p1 (i + 1) = true → N H' := fun z => no _ (Kp.refl _ _) (by rw [nextN_snoc s log, if_neg z, List.append_nil])
    walk_at "g"
    refine ⟨rfl, ?_⟩
    walk_at "g"
    rw [ei]
    refine w_me (b.k0 k) no_m ?_
    walk_at "g"
    refine ⟨p, r, l, o, s, i + 1, rfl, b.k0 k, by omega, ?_⟩
    walk_at "g"
    refine w_iteB (fun c1 => ?_) (fun c1 => ?_)
    · walk_at "g"
      exact yy (by rw [ey, c1, Bool.true_or])
    · walk_at "g"
      refine w_inL (k.sql (by simp) hs2) rfl (flatI _) ?_
      rw [if_pos rfl, inI]
      walk_at "g"
      refine w_iteN (fun c2 => ?_) (fun c2 => ?_)
      · walk_at "g"
        exact yy (by rw [ey, decide_eq_true c2, Bool.or_true])
      · exact nn (by rw [ey, c1, decide_eq_false (fun z => z c2)]; exact Bool.false_ne_true)
  generalize eN : (((List.range n).map fun (v : Nat) => v + 1).filter fun v => p1 v) = nds at hD
  have lnd : nds.length ≤ n := by rw [← eN]; exact ln n p1
  have bnd : ∀ v ∈ nds, 1 ≤ v ∧ v ≤ n := by
    intro v hv
    rw [← eN] at hv
    obtain ⟨h1, _⟩ := List.mem_filter.mp hv
    obtain ⟨u, hu, rfl⟩ := List.mem_map.mp h1
    have := List.mem_range.mp hu
    omega
  have b3 := b.k0 k3
  walk_at "g"
  refine w_l1 (SqL.of hD) ?_
  refine cp_lst (SqL.of hD) (fun j => ((nds.take j).map fun v => if gB s.O v then (v : Int) else -(v : Int)).map V.int) (fun j hj => sz_lt (by rw [List.length_map, List.length_map] at hj; rw [List.length_map, List.length_map, List.length_take]; omega)) rfl (fun j x H' S N hx k yes _ => ?_) (fun D2 H4 nD2 k4 hD2 => ?_)
  · obtain ⟨z, hz, rfl⟩ := at_map hx
    rw [List.getElem?_map] at hz
    obtain ⟨v, hv, rfl⟩ : ∃ v, nds[j]? = some v ∧ (v : Int) = z := by
      cases e : nds[j]? with
      | none => rw [e] at hz; cases hz
      | some v => rw [e] at hz; exact ⟨v, rfl, by injection hz⟩
    have bv := bnd v (List.mem_of_getElem? hv)
    walk_at "g"
    refine ⟨rfl, ?_⟩
    walk_at "g"
    refine w_me (b3.k0 k) no_m ?_
    walk_at "g"
    refine ⟨p, r, l, o, s, v, rfl, b3.k0 k, by omega, ?_⟩
    walk_at "g"
    refine w_iteB (fun c1 => ?_) (fun c1 => ?_)
    · walk_at "g"
      refine yes _ _ (Kp.refl _ _) ?_
      rw [take_snoc hv, List.map_append, List.map_append]
      simp only [List.map_cons, List.map_nil]
      rw [if_pos c1]
    · walk_at "g"
      refine yes _ _ (Kp.refl _ _) ?_
      rw [take_snoc hv, List.map_append, List.map_append]
      simp only [List.map_cons, List.map_nil]
      rw [if_neg (by rw [c1]; exact Bool.false_ne_true)]
  rw [List.length_map, List.length_map, List.take_length] at hD2
  have b4 := b3.k0 k4
  walk_at "g"
  refine w_l1 (SqL.of hD2) ?_
  have hs4 := (k3.trans k4).sql (by simp) hs2
  refine cp_lst (SqL.of hD2) (fun j => (((nds.take j).filter fun v => decide (lateL s log v = [])).map fun v => if gB s.O v then (v : Int) else -(v : Int)).map V.int) (fun j hj => sz_lt (by
    rw [List.length_map, List.length_map] at hj
    rw [List.length_map, List.length_map]
    have := List.length_filter_le (fun v => decide (lateL s log v = [])) (nds.take j)
    rw [List.length_take] at this
    omega)) rfl (fun j x H' S N hx k yes no => ?_) (fun D3 H5 nD3 k5 hD3 => ?_)
  · obtain ⟨z, hz, rfl⟩ := at_map hx
    rw [List.getElem?_map] at hz
    obtain ⟨v, hv, rfl⟩ : ∃ v, nds[j]? = some v ∧ (if gB s.O v then (v : Int) else -(v : Int)) = z := by
      cases e : nds[j]? with
      | none => rw [e] at hz; cases hz
      | some v => rw [e] at hz; exact ⟨v, rfl, by injection hz⟩
    have bv := bnd v (List.mem_of_getElem? hv)
    have na : (if gB s.O v then (v : Int) else -(v : Int)).natAbs = v := by split <;> omega
    walk_at "g"
    refine ⟨rfl, ?_⟩
    walk_at "g"
    refine ⟨p, r, l, o, c, s, log, _, rfl, b4.k0 k, k.sql (by simp) hs4, ⟨by rw [na]; omega, by rw [na]; omega⟩, fun y H6 ny k6 hy => ?_⟩
    rw [na] at hy
    refine w_truL (SqL.of hy) ?_
    cases eq : lateL s log v with
    | nil =>
      walk_at "g"
      refine w_nT (B := _) ?_
      walk_at "g"
      refine yes _ _ k6 ?_
      rw [take_snoc hv, List.filter_append, List.filter_cons_of_pos (by rw [eq]; rfl), List.map_append, List.map_append] <;> rfl
    | cons a t =>
      walk_at "g"
      refine w_nF (A := _) ?_
      refine no _ k6 ?_
      rw [take_snoc hv, List.filter_append, List.filter_cons_of_neg (by rw [eq]; simp), List.filter_nil, List.append_nil]
  · rw [List.length_map, List.length_map, List.take_length, ← eN, List.filter_filter] at hD3
    refine g D3 H5 (((k1.trans k2).trans (k3.trans k4)).free0 nD3) (((k1.trans k2).trans (k3.trans k4)).trans k5) ?_
    rw [hD3]
    unfold nextL nextB
    rw [sn, ← ep]
    congr 4
    refine List.filter_congr fun v _ => ?_
    rw [Bool.and_comm]
end
end G

set_option Elab.async false
set_option linter.all false
set_option maxRecDepth 100000
set_option maxHeartbeats 1000000
namespace G
--#FAM KG
open PySem PySem.Spec PyProof.Rows L2
local macro_rules
  | `(tactic| walk_at "1") => `(tactic| first
    | with_reducible refine w_seq ?_
    | with_reducible refine w_asg ?_
    | with_reducible refine w_asgS ?_
    | with_reducible refine w_asf ?_
    | with_reducible refine w_drop ?_
    | with_reducible refine w_ret ?_
    | with_reducible refine w_if ?_
    | with_reducible refine w_not ?_
    | with_reducible refine w_and ?_
    | with_reducible refine w_or ?_
    | with_reducible refine w_test ?_
    | with_reducible refine w_tb ?_
    | with_reducible refine w_chain ?_
    | with_reducible refine w_op ?_
    | with_reducible refine w_un ?_
    | with_reducible refine w_andV ?_
    | with_reducible refine w_orV ?_
    | with_reducible refine w_notV ?_
    | with_reducible refine w_ifE ?_
    | with_reducible refine w_cons ?_
    | with_reducible refine w_nil ?_
    | with_reducible refine w_cb ?_
    | with_reducible refine w_cl ?_
    | with_reducible refine w_mt ?_
    | with_reducible refine w_fld ?_
    | with_reducible refine w_tupN ?_
    | with_reducible refine w_lstN ?_
    | with_reducible refine w_bm ?_
    | with_reducible refine w_bm0 ?_
    | with_reducible refine w_for ?_
    | with_reducible refine w_lc ?_
    | with_reducible refine w_iR1 ?_
    | with_reducible refine w_iR2 ?_
    | with_reducible refine w_iL ?_
    | with_reducible refine w_iT ?_
    | with_reducible refine w_iE ?_
    | with_reducible refine w_iZ ?_
    | with_reducible refine w_var (by with_unfolding_all rfl) ?_
    | with_reducible refine w_c ?_
    | with_reducible refine w_next ?_
    | with_reducible refine w_i0 ?_
    | with_reducible refine w_u1 ?_
    | with_reducible refine w_addI ?_
    | with_reducible refine w_eqI ?_
    | with_reducible refine w_eqS ?_
    | with_reducible refine w_eqB ?_
    | with_reducible refine w_neI ?_
    | with_reducible refine w_neS ?_
    | with_reducible refine w_neB ?_
    | with_reducible refine w_abs ?_
    | with_reducible refine w_intI ?_
    | with_reducible refine w_min2 ?_
    | with_reducible refine w_max2 ?_
    | with_reducible refine w_isN0 ?_
    | with_reducible refine w_isN1 ref_ne ?_
    | with_reducible refine w_isN1 int_ne ?_
    | with_reducible refine w_notN0 ?_
    | with_reducible refine w_notN1 ref_ne ?_
    | with_reducible refine w_notN1 int_ne ?_
    | with_reducible refine w_ex1 ?_
    | with_reducible refine w_n1 ?_
    | with_reducible refine w_n2 ?_
    | with_reducible refine w_tT ?_
    | with_reducible refine w_tF ?_
    | with_reducible refine w_nT ?_
    | with_reducible refine w_nF ?_
    | with_reducible refine w_rz ?_
    | with_reducible refine w_mkN ?_
    | with_reducible refine w_lrgN ?_
    | with_reducible refine w_rg1 ?_
    | with_reducible refine w_rg2 ?_
    | with_reducible refine w_sl ?_
    | with_reducible refine w_np ?_
    | with_reducible refine w_pt ?_
    | with_reducible refine w_tr ?_
    | with_reducible refine w_gn ?_
    | with_reducible refine w_yes ?_
    | with_reducible refine w_m1 ?_
    | with_reducible refine w_asu ?_
    | with_reducible refine w_exS ?_
    | with_reducible refine w_iS ?_
    | with_reducible refine w_g1 ?_
    | with_reducible refine w_gc ?_
    | with_reducible refine w_gt (SqT.of upd_same) rfl ?_)
local macro_rules
  | `(tactic| walk_at "g") => `(tactic| repeat walk_at "1")
local macro_rules
  | `(tactic| walk_at "j1") => `(tactic| first
    | with_reducible refine w_seqI ?_
    | walk_at "1")
local macro_rules
  | `(tactic| walk_at "j") => `(tactic| repeat walk_at "j1")
section
variable {K : PySem.W.Frag} {mg : Str → Option Value}
theorem cmulR {i j : Int} (h1 : -(2 ^ 64) < j) (h2 : j < 2 ^ 64) : CMul i j := .inr ⟨h1, h2⟩
theorem cmulL {i j : Int} (h1 : -(2 ^ 64) < i) (h2 : i < 2 ^ 64) : CMul i j := .inl ⟨h1, h2⟩
theorem len__law_mixed (K : PySem.W.Frag) : ∀ vs H Q E, sp__law_mixed K vs H Q E → vs.length = (["cell", "turn"] : List Str).length := by
  rintro vs H Q E ⟨_, _, rfl, _⟩
  rfl
theorem rd__law_mixed (T : Txt K mg) (vs : List V) (H : Hp) (Q : VK) (E : XK) (h : sp__law_mixed K vs H Q E) : t__law_mixed K E { nx := fun _ H' => Q .non H', rt := Q } (start ["cell", "turn", "first", "second"] vs) H := by
  obtain ⟨c, t, rfl, g⟩ := h
  unfold t__law_mixed
  walk_at "g"
  refine w_mulI (cmulR (by omega) (by omega)) ?_
  walk_at "g"
  refine w_mulI (cmulR (by omega) (by omega)) ?_
  walk_at "g"
  refine w_ic (by omega) ?_
  have b1 := Int.emod_nonneg (c * 48271 + t * 69621 + 1234577) (show (2147483647 : Int) ≠ 0 by omega)
  have b2 := Int.emod_lt_of_pos (c * 48271 + t * 69621 + 1234577) (show (0 : Int) < 2147483647 by omega)
  generalize (c * 48271 + t * 69621 + 1234577) % 2147483647 = f at b1 b2 ⊢
  walk_at "g"
  refine w_mulI (cmulR (by omega) (by omega)) ?_
  walk_at "g"
  refine w_mulI (cmulR (by omega) (by omega)) ?_
  walk_at "g"
  refine w_ic (by omega) ?_
  have b3 := Int.emod_nonneg (f * f + t * 40692 + 7919) (show (2147483629 : Int) ≠ 0 by omega)
  have b4 := Int.emod_lt_of_pos (f * f + t * 40692 + 7919) (show (0 : Int) < 2147483629 by omega)
  generalize (f * f + t * 40692 + 7919) % 2147483629 = s at b3 b4 ⊢
  walk_at "g"
  refine w_mulI (cmulR (by omega) (by omega)) ?_
  walk_at "g"
  refine w_ic (by omega) ?_
  walk_at "g"
  refine w_ic ⟨by omega, by omega⟩ ?_
  exact g _
theorem len__law_box (K : PySem.W.Frag) : ∀ vs H Q E, sp__law_box K vs H Q E → vs.length = (["script"] : List Str).length := by
  rintro vs H Q E ⟨_, _, rfl, _⟩
  rfl
theorem rd__law_box (T : Txt K mg) (vs : List V) (H : Hp) (Q : VK) (E : XK) (h : sp__law_box K vs H Q E) : t__law_box K E { nx := fun _ H' => Q .non H', rt := Q } (start ["script", "seed", "cell"] vs) H := by
  obtain ⟨a, ns, rfl, hs, hl, g⟩ := h
  unfold t__law_box
  have e63 : cutV (ns.map V.int) none (some 63) = ns.map V.int := by
    unfold cutV
    have : HT.sIx (ns.map V.int).length (ns.map V.int).length (some 63) = (ns.map V.int).length := by
      rw [show (63 : Int) = ((63 : Nat) : Int) from rfl, HT.sIx_nat]
      rw [List.length_map]
      omega
    rw [this, HT.sIx_none, List.drop_zero, Nat.sub_zero, List.take_length]
  walk_at "g"
  refine w_slL hs fun q H1 nq k1 hq => ?_
  rw [e63] at hq
  walk_at "g"
  refine w_l1 (SqL.of hq) ?_
  refine lp_lst (xs := ns.map V.int) (fun i σ H' => H' = H1 ∧ ∃ (s : Int) (x : Option V), σ = [some (.ref a), some (.int s), x]) ⟨rfl, _, _, rfl⟩ ?_ ?_ ?_
  · rintro i σ' H' hi ⟨rfl, _⟩
    exact SqL.of hq
  · rintro i x σ' H' hx ⟨rfl, s, x2, rfl⟩
    obtain ⟨c, hc, rfl⟩ := at_map hx
    walk_at "g"
    refine w_mulI (cmulR (by omega) (by omega)) ?_
    walk_at "g"
    refine w_ic (by omega) ?_
    walk_at "g"
    exact ⟨rfl, _, _, rfl⟩
  · rintro σ' H' ⟨rfl, s, x2, rfl⟩
    walk_at "g"
    refine w_slL (k1.sql (by simp) hs) fun d H2 nd k2 hd => ?_
    rw [e63] at hd
    walk_at "g"
    refine w_listLN (SqL.of hd) fun c H3 nc k3 hc => ?_
    walk_at "g"
    refine ⟨sz_ok (by show 4 ≤ 1000000; omega), nw fun b H4 nb k4 hb => ?_⟩
    exact g b c H4 (((k1.trans k2).trans k3).free0 nb) ((k1.trans k2).free0 nc) (((k1.trans k2).trans k3).trans k4) ⟨⟨_, _, _, hb⟩, ns, k4.at0 hc, hl⟩
theorem len__law_take (K : PySem.W.Frag) : ∀ vs H Q E, sp__law_take K vs H Q E → vs.length = (["box", "many"] : List Str).length := by
  rintro vs H Q E ⟨_, _, _, rfl, _⟩
  rfl
theorem rd__law_take (T : Txt K mg) (vs : List V) (H : Hp) (Q : VK) (E : XK) (h : sp__law_take K vs H Q E) : t__law_take K E { nx := fun _ H' => Q .non H', rt := Q } (start ["box", "many", "cells", "cell", "digit"] vs) H := by
  obtain ⟨b, c, many, rfl, hm, hm2, bx, g⟩ := h
  unfold t__law_take
  have bc := bx.ne
  obtain ⟨x, y, z, hb⟩ := bx.ob
  obtain ⟨ns, hc, lns⟩ := bx.hc
  -- what comes behind the first if
  have tail : ∀ (x z : Int) (ns : List Int) (x3 x4 : Option V) (H1 : Hp), Kp [b, c] H H1 → H1 b = some (.lst [.int x, .int y, .int z, .ref c]) → H1 c = some (.lst (ns.map V.int)) → ns.length ≤ 63 →
      (tSeq (tIfS (tTest (tOp rGtA (tOp (rIx K) (tVar 0) (tC (.int 0))) (tC (.int 1)))) (tSeq (tAsg (tOp rModA (tCB rIntA (tCons (tOp (rIx K) (tVar 0) (tC (.int 0))) (tNil))) (tVar 1)) (gName 4)) (tSeq (tAsg (tOp rDivA (tOp (rIx K) (tVar 0) (tC (.int 0))) (tVar 1)) (gSub (tVar 0) (tC (.int 0)) rSetL)) (tRet (tVar 4)))) (tNext)) (tSeq (tAsg (tOp rAddA (tOp (rIx K) (tVar 0) (tC (.int 2))) (tC (.int 1))) (gSub (tVar 0) (tC (.int 2)) rSetL)) (tRet (tOp rModA (tCB rIntA (tCons (tCl (sp__law_mixed K) (fun _ => E) (tCons (tOp (rIx K) (tVar 0) (tC (.int 1))) (tCons (tOp (rIx K) (tVar 0) (tC (.int 2))) (tNil)))) (tNil))) (tVar 1))))) { nx := fun x H' => Q V.non H', rt := Q } [some (.ref b), some (.int many), some (.ref c), x3, x4] H1 := by
    intro x z ns x3 x4 H1 k1 hb hc lns
    walk_at "g"
    refine w_ixL (SqL.of hb) at_0 ?_
    walk_at "g"
    refine w_iteD (fun cc => ?_) (fun cc => ?_)
    · walk_at "g"
      refine w_ixL (SqL.of hb) at_0 ?_
      walk_at "g"
      refine w_ic hm ?_
      walk_at "g"
      refine w_ixL (SqL.of hb) at_0 ?_
      walk_at "g"
      refine w_ic ⟨hm, by omega⟩ ?_
      walk_at "g"
      refine w_seT hb (n := 0) rfl fun H2 k2 h2 => ?_
      walk_at "g"
      exact g _ H2 (Int.emod_nonneg _ (by omega)) (Int.emod_lt_of_pos _ hm) (k1.trans (k2.mono (by simp))) ⟨⟨_, _, _, h2⟩, ns, k2.at1 (Ne.symm bc) hc, lns⟩
    · walk_at "g"
      refine w_ixL (SqL.of hb) (i := 2) (v := .int z) rfl ?_
      walk_at "g"
      refine w_seT hb (n := 2) rfl fun H2 k2 h2 => ?_
      walk_at "g"
      refine w_ixL (SqL.of h2) (i := 1) (v := .int y) rfl ?_
      walk_at "g"
      refine w_ixL (SqL.of h2) (i := 2) (v := .int (z + 1)) rfl ?_
      walk_at "g"
      refine ⟨_, _, rfl, fun m => ?_⟩
      walk_at "g"
      refine w_ic hm ?_
      exact g _ H2 (Int.emod_nonneg _ (by omega)) (Int.emod_lt_of_pos _ hm) (k1.trans (k2.mono (by simp))) ⟨⟨_, _, _, h2⟩, ns, k2.at1 (Ne.symm bc) hc, lns⟩
  walk_at "j"
  refine w_ixL (SqL.of hb) (i := 3) (v := .ref c) rfl ?_
  walk_at "j"
  refine w_ifJ (fun σ' H' => ∃ (x z : Int) (ns : List Int) (x3 : Option V), σ' = [some (.ref b), some (.int many), some (.ref c), x3, none] ∧ Kp [b, c] H H' ∧ H' b = some (.lst [.int x, .int y, .int z, .ref c]) ∧ H' c = some (.lst (ns.map V.int)) ∧ ns.length ≤ 63) (fun N hN => ?_) (fun σ' H1 ⟨x, z, ns, x3, es, k1, hb, hc, lns⟩ => ?_)
  · walk_at "g"
    refine w_ixL (SqL.of hb) at_0 ?_
    walk_at "g"
    refine w_iteD (fun c1 => ?_) (fun c1 => ?_)
    · walk_at "g"
      refine w_lenL (SqL.of hc) ?_
      walk_at "g"
      rw [List.length_map]
      refine w_iteD (fun c2 => ?_) (fun c2 => ?_)
      · match ns, hc, lns, c2 with
        | cell :: rest, hc, lns, c2 =>
          walk_at "g"
          refine ⟨w_ty (SqL.of hc), ?_⟩
          walk_at "g"
          refine w_popAt (k := 0) (y := .int cell) hc (by omega) (by omega) (ixN_seq (ixN_pos (by omega) (by rw [List.length_map, List.length_cons]; omega))).1 rfl fun H2 k2 h2 => ?_
          have hc2 : H2 c = some (.lst (rest.map V.int)) := h2
          have hb2 := k2.at1 bc hb
          rw [List.length_cons] at lns
          walk_at "g"
          refine w_ic ⟨by omega, by omega, by decide⟩ ?_
          walk_at "g"
          refine w_iteD (fun c3 => ?_) (fun c3 => ?_)
          · walk_at "g"
            refine w_ixL (SqL.of hb2) (i := 2) (v := .int z) rfl ?_
            walk_at "g"
            refine w_seT hb2 (n := 2) rfl fun H3 k3 h3 => ?_
            walk_at "g"
            refine w_ixL (SqL.of h3) (i := 2) (v := .int (z + 1)) rfl ?_
            walk_at "g"
            refine ⟨_, _, rfl, fun m => ?_⟩
            walk_at "g"
            refine w_ic hm ?_
            exact g _ H3 (Int.emod_nonneg _ (by omega)) (Int.emod_lt_of_pos _ hm) ((k2.mono (by simp)).trans (k3.mono (by simp))) ⟨⟨_, _, _, h3⟩, rest, k3.at1 (Ne.symm bc) hc2, by omega⟩
          · walk_at "g"
            refine w_seT hb2 (n := 0) rfl fun H3 k3 h3 => ?_
            exact hN _ _ ⟨_, _, rest, _, rfl, (k2.mono (by simp)).trans (k3.mono (by simp)), h3, k3.at1 (Ne.symm bc) hc2, by omega⟩
      · walk_at "g"
        exact hN _ _ ⟨_, _, ns, _, rfl, Kp.refl _ _, hb, hc, lns⟩
    · walk_at "g"
      exact hN _ _ ⟨_, _, ns, _, rfl, Kp.refl _ _, hb, hc, lns⟩
  subst es
  exact tail x z ns x3 none H1 k1 hb hc lns
theorem len__law_size (K : PySem.W.Frag) : ∀ vs H Q E, sp22__law_size K vs H Q E → vs.length = (["box"] : List Str).length := by
  rintro vs H Q E ⟨_, _, rfl, _⟩
  rfl
theorem rd__law_size (T : Txt K mg) (vs : List V) (H : Hp) (Q : VK) (E : XK) (h : sp22__law_size K vs H Q E) : t__law_size K E { nx := fun _ H' => Q .non H', rt := Q } (start ["box", "way"] vs) H := by
  obtain ⟨b, c, rfl, bx, g⟩ := h
  unfold t__law_size
  walk_at "g"
  refine ⟨b, c, 16, rfl, by omega, by omega, bx, fun d H1 d1 d2 k1 b1 => ?_⟩
  walk_at "g"
  refine w_iteD (fun cc => ?_) (fun cc => ?_)
  · walk_at "g"
    refine ⟨b, c, 48, rfl, by omega, by omega, b1, fun e H2 e1 e2 k2 b2 => ?_⟩
    obtain ⟨v, ev⟩ : ∃ v : Nat, 13 + e = (v : Int) := ⟨(13 + e).toNat, by omega⟩
    walk_at "g"
    rw [ev]
    exact g v H2 (by omega) (k1.trans k2) b2
  · walk_at "g"
    refine w_iteD (fun cc => ?_) (fun cc => ?_)
    · walk_at "g"
      refine ⟨b, c, 6, rfl, by omega, by omega, b1, fun e H2 e1 e2 k2 b2 => ?_⟩
      obtain ⟨v, ev⟩ : ∃ v : Nat, 7 + e = (v : Int) := ⟨(7 + e).toNat, by omega⟩
      walk_at "g"
      rw [ev]
      exact g v H2 (by omega) (k1.trans k2) b2
    · walk_at "g"
      refine ⟨sz_ok (by show 14 ≤ 1000000; omega), nw fun q H2 nq k2 hq => ?_⟩
      have hq' : H2 q = some (.lst ([0, 1, 2, 3, 3, 4, 4, 4, 5, 5, 5, 6, 6, 6].map V.int)) := hq
      walk_at "g"
      refine w_ixL (SqL.of hq') (at_I (l := [0, 1, 2, 3, 3, 4, 4, 4, 5, 5, 5, 6, 6, 6]) (by omega) (by show d < 14; omega)) ?_
      have bd : ∀ k : Nat, k < 14 → 0 ≤ gI [0, 1, 2, 3, 3, 4, 4, 4, 5, 5, 5, 6, 6, 6] k ∧ gI [0, 1, 2, 3, 3, 4, 4, 4, 5, 5, 5, 6, 6, 6] k ≤ 6 := by decide +kernel
      have := bd d.toNat (by omega)
      obtain ⟨v, ev⟩ : ∃ v : Nat, gI [0, 1, 2, 3, 3, 4, 4, 4, 5, 5, 5, 6, 6, 6] d.toNat = (v : Int) := ⟨(gI [0, 1, 2, 3, 3, 4, 4, 4, 5, 5, 5, 6, 6, 6] d.toNat).toNat, by omega⟩
      rw [ev]
      exact g v H2 (by omega) (k1.trans k2.all) (b1.k0 k2)
theorem len__law_range (K : PySem.W.Frag) : ∀ vs H Q E, sp__law_range K vs H Q E → vs.length = (["box", "size"] : List Str).length := by
  rintro vs H Q E ⟨_, _, _, rfl, _⟩
  rfl
theorem rd__law_range (T : Txt K mg) (vs : List V) (H : Hp) (Q : VK) (E : XK) (h : sp__law_range K vs H Q E) : t__law_range K E { nx := fun _ H' => Q .non H', rt := Q } (start ["box", "size", "low"] vs) H := by
  obtain ⟨b, c, n, rfl, hn, bx, g⟩ := h
  unfold t__law_range
  have first : ∀ H1, Kp [b, c] H H1 → BoxI H1 b c → tRet (tLst (tCons (tC (.int 1)) (tCons (tVar 1) (tNil)))) { nx := fun x H' => Q V.non H', rt := Q } [some (.ref b), some (.int (n : Int)), none] H1 := by
    intro H1 k1 b1
    walk_at "g"
    refine ⟨sz_ok (by show 2 ≤ 1000000; omega), nw fun q H2 nq k2 hq => ?_⟩
    obtain ⟨n1, n2⟩ := b1.fr nq
    exact g 1 n q H2 ⟨by omega, by omega, by omega⟩ (k1.free (by simp [n1, n2]) nq) (k1.trans k2.all) (b1.k0 k2) hq
  walk_at "g"
  refine w_iteD (fun c1 => ?_) (fun c1 => ?_)
  · exact first H (Kp.refl _ _) bx
  · walk_at "g"
    refine ⟨b, c, 2, rfl, by omega, by omega, bx, fun d H1 d1 d2 k1 b1 => ?_⟩
    walk_at "g"
    refine w_iteD (fun c2 => ?_) (fun c2 => ?_)
    · exact first H1 k1 b1
    · walk_at "g"
      refine ⟨b, c, _, rfl, by omega, by omega, b1, fun e H2 e1 e2 k2 b2 => ?_⟩
      walk_at "g"
      refine ⟨b, c, 5, rfl, by omega, by omega, b2, fun f H3 f1 f2 k3 b3 => ?_⟩
      walk_at "g"
      have em : 1 + e ≤ (if 1 + e + 3 + f < (n : Int) then 1 + e + 3 + f else (n : Int)) ∧ (if 1 + e + 3 + f < (n : Int) then 1 + e + 3 + f else (n : Int)) ≤ n := by
        split <;> omega
      generalize (if 1 + e + 3 + f < (n : Int) then 1 + e + 3 + f else (n : Int)) = hi at em ⊢
      refine ⟨sz_ok (by show 2 ≤ 1000000; omega), nw fun q H4 nq k4 hq => ?_⟩
      obtain ⟨n1, n2⟩ := b3.fr nq
      have k03 := (k1.trans k2).trans k3
      exact g (1 + e) hi q H4 ⟨by omega, by omega, by omega⟩ (k03.free (by simp [n1, n2]) nq) (k03.trans k4.all) (b3.k0 k4) hq
theorem rg_snoc (a : Int) (i : Nat) : (rgI a (i + 1)).map V.int = (rgI a i).map V.int ++ [V.int (a + (i : Int))] := by
  unfold rgI
  rw [List.range_succ, List.map_append, List.map_append] <;> rfl
theorem len__law_start (K : PySem.W.Frag) : ∀ vs H Q E, sp__law_start K vs H Q E → vs.length = (["size"] : List Str).length := by
  rintro vs H Q E ⟨_, rfl, _⟩
  rfl
theorem rd__law_start (T : Txt K mg) (vs : List V) (H : Hp) (Q : VK) (E : XK) (h : sp__law_start K vs H Q E) : t__law_start K E { nx := fun _ H' => Q .non H', rt := Q } (start ["size", "v"] vs) H := by
  obtain ⟨n, rfl, hn, g⟩ := h
  unfold t__law_start
  walk_at "g"
  refine w_r1 (by omega) ?_
  refine cp_rng (fun i => (rgI (-1) i).map V.int) (fun i hi => sz_lt (by rw [List.length_map, rgI_len]; omega)) rfl (fun i H' S N hi k y _ => ?_) (fun l H1 nl k1 hl => ?_)
  · walk_at "g"
    refine ⟨rfl, ?_⟩
    walk_at "g"
    refine y _ _ (Kp.refl _ _) ?_
    rw [rg_snoc, show (0 : Int) + (i : Int) - 1 = -1 + (i : Int) by omega]
  rw [show ((n : Int) + 2).toNat = n + 2 by omega] at hl
  walk_at "g"
  refine w_r1 (by omega) ?_
  refine cp_rng (fun i => (rgI 1 i).map V.int) (fun i hi => sz_lt (by rw [List.length_map, rgI_len]; omega)) rfl (fun i H' S N hi k y _ => ?_) (fun r H2 nr k2 hr => ?_)
  · walk_at "g"
    refine ⟨rfl, ?_⟩
    walk_at "g"
    refine y _ _ (Kp.refl _ _) ?_
    rw [rg_snoc, show (0 : Int) + (i : Int) + 1 = 1 + (i : Int) by omega]
  rw [show ((n : Int) + 2).toNat = n + 2 by omega] at hr
  walk_at "g"
  refine ⟨sz_ok (by show 1 ≤ 1000000; omega), nw fun z H3 nz k3 hz => ?_⟩
  walk_at "g"
  refine w_mulLN hz (by omega) (by omega) (sz_ok (by show 1 * _ ≤ _; omega)) fun s H4 ns k4 hs => ?_
  walk_at "g"
  have hs' : H4 s = some (.lst ((List.replicate (n + 2) (0 : Int)).map V.int)) := by
    rw [hs, show ((n : Int) + 2).toNat = n + 2 by omega, rep_flat, List.map_replicate]
  refine ⟨sz_ok (by show 3 ≤ 1000000; omega), nw fun w H5 nw k5 hw => ?_⟩
  have k24 := k3.trans k4
  have hl4 := (k2.trans k24).at0 hl
  have hr4 := k24.at0 hr
  have g0 : ∀ v, gI (List.replicate (n + 2) (0 : Int)) v = 0 := by
    intro v
    unfold gI
    rw [List.getD_eq_getElem?_getD]
    by_cases h : v < n + 2
    · rw [List.getElem?_replicate_of_lt h] <;> rfl
    · rw [List.getElem?_eq_none (by rw [List.length_replicate]; omega)] <;> rfl
  refine g w l r s H5 ((k1.trans (k2.trans k24)).free0 nw) nl (k1.free0 nr) ((k1.trans (k2.trans k3)).free0 ns) ((k1.trans (k2.trans k24)).trans k5)
    ⟨hw, ⟨_, k5.at0 hl4, by rw [rgI_len], fun v h1 h2 => ?_⟩, ⟨_, k5.at0 hr4, by rw [rgI_len], fun v h2 => ?_⟩, ⟨_, k5.at0 hs', by rw [List.length_replicate], fun v _ _ => g0 v, g0 0, g0 _⟩, ⟨ne_of_none hl nr, ne_of_none ((k2.trans k3).at0 hl) ns, ne_of_none (k3.at0 hr) ns, (ne_of_none hl4 nw).symm, (ne_of_none hr4 nw).symm, (ne_of_none hs' nw).symm⟩, fun i op h => by simp at h, once_nil, hn⟩
  · show _ = gI (0 :: rgI 0 (n + 1)) v
    obtain ⟨u, rfl⟩ : ∃ u, v = u + 1 := ⟨v - 1, by omega⟩
    show _ = gI (rgI 0 (n + 1)) u
    rw [gI_range (by omega), gI_range (by omega)]
    omega
  · show _ = gI (rgI 1 (n + 1)) v
    rw [gI_range (by omega), gI_range (by omega)]
end
end G

set_option Elab.async false
set_option linter.all false
set_option maxRecDepth 100000
set_option maxHeartbeats 1000000
namespace G
--#FAM KG
open PySem PySem.Spec PyProof.Rows L2
local macro_rules
  | `(tactic| walk_at "1") => `(tactic| first
    | with_reducible refine w_seq ?_
    | with_reducible refine w_asg ?_
    | with_reducible refine w_asgS ?_
    | with_reducible refine w_asf ?_
    | with_reducible refine w_drop ?_
    | with_reducible refine w_ret ?_
    | with_reducible refine w_if ?_
    | with_reducible refine w_not ?_
    | with_reducible refine w_and ?_
    | with_reducible refine w_or ?_
    | with_reducible refine w_test ?_
    | with_reducible refine w_tb ?_
    | with_reducible refine w_chain ?_
    | with_reducible refine w_op ?_
    | with_reducible refine w_un ?_
    | with_reducible refine w_andV ?_
    | with_reducible refine w_orV ?_
    | with_reducible refine w_notV ?_
    | with_reducible refine w_ifE ?_
    | with_reducible refine w_cons ?_
    | with_reducible refine w_nil ?_
    | with_reducible refine w_cb ?_
    | with_reducible refine w_cl ?_
    | with_reducible refine w_mt ?_
    | with_reducible refine w_fld ?_
    | with_reducible refine w_tupN ?_
    | with_reducible refine w_lstN ?_
    | with_reducible refine w_bm ?_
    | with_reducible refine w_bm0 ?_
    | with_reducible refine w_for ?_
    | with_reducible refine w_lc ?_
    | with_reducible refine w_iR1 ?_
    | with_reducible refine w_iR2 ?_
    | with_reducible refine w_iL ?_
    | with_reducible refine w_iT ?_
    | with_reducible refine w_iE ?_
    | with_reducible refine w_iZ ?_
    | with_reducible refine w_var (by with_unfolding_all rfl) ?_
    | with_reducible refine w_c ?_
    | with_reducible refine w_next ?_
    | with_reducible refine w_i0 ?_
    | with_reducible refine w_u1 ?_
    | with_reducible refine w_addI ?_
    | with_reducible refine w_eqI ?_
    | with_reducible refine w_eqS ?_
    | with_reducible refine w_eqB ?_
    | with_reducible refine w_neI ?_
    | with_reducible refine w_neS ?_
    | with_reducible refine w_neB ?_
    | with_reducible refine w_abs ?_
    | with_reducible refine w_intI ?_
    | with_reducible refine w_min2 ?_
    | with_reducible refine w_max2 ?_
    | with_reducible refine w_isN0 ?_
    | with_reducible refine w_isN1 ref_ne ?_
    | with_reducible refine w_isN1 int_ne ?_
    | with_reducible refine w_notN0 ?_
    | with_reducible refine w_notN1 ref_ne ?_
    | with_reducible refine w_notN1 int_ne ?_
    | with_reducible refine w_ex1 ?_
    | with_reducible refine w_n1 ?_
    | with_reducible refine w_n2 ?_
    | with_reducible refine w_tT ?_
    | with_reducible refine w_tF ?_
    | with_reducible refine w_nT ?_
    | with_reducible refine w_nF ?_
    | with_reducible refine w_rz ?_
    | with_reducible refine w_mkN ?_
    | with_reducible refine w_lrgN ?_
    | with_reducible refine w_rg1 ?_
    | with_reducible refine w_rg2 ?_
    | with_reducible refine w_sl ?_
    | with_reducible refine w_np ?_
    | with_reducible refine w_pt ?_
    | with_reducible refine w_tr ?_
    | with_reducible refine w_gn ?_
    | with_reducible refine w_yes ?_
    | with_reducible refine w_m1 ?_
    | with_reducible refine w_asu ?_
    | with_reducible refine w_exS ?_
    | with_reducible refine w_iS ?_
    | with_reducible refine w_g1 ?_
    | with_reducible refine w_gc ?_
    | with_reducible refine w_gt (SqT.of upd_same) rfl ?_)
local macro_rules
  | `(tactic| walk_at "g") => `(tactic| repeat walk_at "1")
local macro_rules
  | `(tactic| walk_at "j1") => `(tactic| first
    | with_reducible refine w_seqI ?_
    | walk_at "1")
local macro_rules
  | `(tactic| walk_at "j") => `(tactic| repeat walk_at "j1")
section
variable {K : PySem.W.Frag} {mg : Str → Option Value}
theorem leg_alt {n : Nat} (hn : n ≤ 60) {log : List Int} (le : Leg (wholeS n) log) : Alt log := fun i op hi => ((ok_out hn (le.take i)).mp (le i op hi)).2
theorem LB.wf {H : Hp} {w l r g : Addr} {n : Nat} {log : List Int} (a : LB H w l r g n log) : Wf (runS (wholeS n) log) := Leg.wf (.whole a.n60) a.le
theorem LB.stg2 {H : Hp} {w l r g : Addr} {n : Nat} {log : List Int} (a : LB H w l r g n log) {v : Nat} (hv : 1 ≤ v) : stgF log v = 2 ↔ (v : Int) ∈ log := stg2_iff (leg_alt a.n60 a.le) a.oo hv
theorem len__law_late (K : PySem.W.Frag) : ∀ vs H Q E, sp__law_late K vs H Q E → vs.length = (["book", "node"] : List Str).length := by
  rintro vs H Q E ⟨_, _, _, _, _, _, _, rfl, _⟩
  rfl
theorem rd__law_late (T : Txt K mg) (vs : List V) (H : Hp) (Q : VK) (E : XK) (h : sp__law_late K vs H Q E) : t__law_late K E { nx := fun _ H' => Q .non H', rt := Q } (start ["book", "node", "gaps", "before", "behind"] vs) H := by
  obtain ⟨w, l, r, sg, n, v, log, rfl, a, v1, v2, g⟩ := h
  unfold t__law_late
  have wf := a.wf
  have n60 := a.n60
  have sn : (runS (wholeS n) log).n = n := by rw [runS_n] <;> rfl
  have st2 := fun u (hu : 1 ≤ u) => a.stg2 (v := u) hu
  obtain ⟨L', hL, lL, eL⟩ := a.hl
  obtain ⟨R', hR, lR, eR⟩ := a.hr
  obtain ⟨G', hG, lG, eG, eG0, eG1⟩ := a.hg
  unfold lateL at g
  generalize es : runS (wholeS n) log = s at wf sn g eL eR
  obtain ⟨r1, r2⟩ := wf.rb v (by omega)
  obtain ⟨l1, l2⟩ := wf.lb v (by omega) (by omega)
  obtain ⟨lo, elo⟩ : ∃ lo : Nat, gI s.L v = (lo : Int) := ⟨(gI s.L v).toNat, by omega⟩
  obtain ⟨hi, ehi⟩ : ∃ hi : Nat, gI s.R v = (hi : Int) + 1 := ⟨(gI s.R v).toNat - 1, by omega⟩
  rw [elo, ehi] at g
  walk_at "j"
  refine ⟨sz_ok (Nat.zero_le _), nw fun q H1 nq k1 hq => ?_⟩
  walk_at "j"
  have a1 := a.k0 k1
  have ob1 := a1.ob
  refine w_ixL (SqL.of ob1) at_0 ?_
  walk_at "j"
  refine w_ixL (SqL.of (k1.at0 hL)) (at_I (by omega) (by omega)) ?_
  rw [Int.toNat_natCast, eL v v1 (by omega), elo]
  walk_at "j"
  refine w_ixL (SqL.of ob1) (i := 1) (v := .ref r) rfl ?_
  walk_at "j"
  refine w_ixL (SqL.of (k1.at0 hR)) (at_I (by omega) (by omega)) ?_
  rw [Int.toNat_natCast, eR v v2, ehi]
  walk_at "j"
  generalize e1 : (if (lo : Int) ≠ (v : Int) - 1 ∧ (lo : Int) + 1 ∈ log then [(lo : Int)] else []) = g1 at g
  generalize e2 : (if (hi : Int) + 1 ≠ (v : Int) + 1 ∧ (hi : Int) + 1 - 1 ∈ log then [(hi : Int) + 1 - 1] else []) = g2 at g
  have l1' : g1.length ≤ 1 := by rw [← e1]; split <;> simp
  have fin : ∀ H', Kp [q] H1 H' → H' q = some (.lst ((g1 ++ g2).map V.int)) → Q (.ref q) H' := fun H' k h => g q H' nq (k1.all.trans k |>.cut1 nq) h
  have wq : w ≠ q := ne_of_none a.ob nq
  have gq : sg ≠ q := ne_of_none hG nq
  have hG1 := k1.at0 hG
  have m1 : (gI G' (lo + 1) = 2) ↔ (lo : Int) + 1 ∈ log := by
    rw [eG (lo + 1) (by omega) (by omega)]
    have := st2 (lo + 1) (by omega)
    rw [show (lo : Int) + 1 = ((lo + 1 : Nat) : Int) by omega, ← this]
    omega
  have m2 : (gI G' hi = 2) ↔ (hi : Int) + 1 - 1 ∈ log := by
    rw [eG hi (by omega) (by omega)]
    have := st2 hi (by omega)
    rw [show (hi : Int) + 1 - 1 = (hi : Int) by omega, ← this]
    omega
  refine w_ifK (fun H' => Kp [q] H1 H' ∧ H' q = some (.lst (g1.map V.int))) (fun N hN => ?_) (fun H2 ⟨k2, hq2⟩ => ?_)
  · walk_at "g"
    refine w_iteN (fun c1 => ?_) (fun c1 => ?_)
    · walk_at "g"
      refine w_ixL (SqL.of ob1) (i := 2) (v := .ref sg) rfl ?_
      walk_at "g"
      refine w_ixL (SqL.of hG1) (at_I (by omega) (by omega)) ?_
      rw [show ((lo : Int) + 1).toNat = lo + 1 by omega]
      walk_at "g"
      refine w_iteD (fun c2 => ?_) (fun c2 => ?_)
      · walk_at "g"
        refine ⟨w_ty (SqL.of hq), ?_⟩
        walk_at "g"
        refine w_apT hq (sz_lt (by show 0 < 1000000; omega)) fun H2 k2 hq2 => ?_
        refine hN _ ⟨k2, ?_⟩
        rw [if_pos ⟨c1, m1.mp c2⟩] at e1
        rw [hq2, ← e1] <;> rfl
      · walk_at "g"
        refine hN _ ⟨Kp.refl _ _, ?_⟩
        rw [if_neg (fun z => c2 (m1.mpr z.2))] at e1
        rw [hq, ← e1] <;> rfl
    · walk_at "g"
      refine hN _ ⟨Kp.refl _ _, ?_⟩
      rw [if_neg (fun z => z.1 c1)] at e1
      rw [hq, ← e1] <;> rfl
  walk_at "j"
  refine w_ifK (fun H' => Kp [q] H1 H' ∧ H' q = some (.lst ((g1 ++ g2).map V.int))) (fun N hN => ?_) (fun H3 ⟨k3, hq3⟩ => ?_)
  · walk_at "g"
    refine w_iteN (fun c1 => ?_) (fun c1 => ?_)
    · walk_at "g"
      refine w_ixL (SqL.of (k2.at1 wq ob1)) (i := 2) (v := .ref sg) rfl ?_
      walk_at "g"
      refine w_ixL (SqL.of (k2.at1 gq hG1)) (at_I (by omega) (by omega)) ?_
      rw [show ((hi : Int) + 1 - 1).toNat = hi by omega]
      walk_at "g"
      refine w_iteD (fun c2 => ?_) (fun c2 => ?_)
      · walk_at "g"
        refine ⟨w_ty (SqL.of hq2), ?_⟩
        walk_at "g"
        refine w_apT hq2 (sz_lt (by rw [List.length_map]; omega)) fun H3 k3 hq3 => ?_
        refine hN _ ⟨k2.trans k3, ?_⟩
        rw [if_pos ⟨c1, m2.mp c2⟩] at e2
        rw [hq3, ← e2, List.map_append] <;> rfl
      · walk_at "g"
        refine hN _ ⟨k2, ?_⟩
        rw [if_neg (fun z => c2 (m2.mpr z.2))] at e2
        rw [hq2, ← e2, List.append_nil]
    · walk_at "g"
      refine hN _ ⟨k2, ?_⟩
      rw [if_neg (fun z => z.1 c1)] at e2
      rw [hq2, ← e2, List.append_nil]
  walk_at "g"
  exact fin H3 k3 hq3
theorem len__law_step (K : PySem.W.Frag) : ∀ vs H Q E, sp22__law_step K vs H Q E → vs.length = (["book", "operation"] : List Str).length := by
  rintro vs H Q E ⟨_, _, _, _, _, _, _, rfl, _⟩
  rfl
theorem rd__law_step (T : Txt K mg) (vs : List V) (H : Hp) (Q : VK) (E : XK) (h : sp22__law_step K vs H Q E) : t__law_step K E { nx := fun _ H' => Q .non H', rt := Q } (start ["book", "operation", "lefts", "rights", "stage", "node", "before", "behind"] vs) H := by
  obtain ⟨w, l, r, sg, n, log, op, rfl, a, ok, once, g⟩ := h
  unfold t__law_step
  have wf := a.wf
  have n60 := a.n60
  have sn : (runS (wholeS n) log).n = n := by rw [runS_n] <;> rfl
  obtain ⟨L', hL, lL, eL⟩ := a.hl
  obtain ⟨R', hR, lR, eR⟩ := a.hr
  obtain ⟨G', hG, lG, eG, eG0, eG1⟩ := a.hg
  obtain ⟨n1, n2, n3, n4, n5, n6⟩ := a.ne
  have iop := ok.1
  rw [sn] at iop
  obtain ⟨i1, i2⟩ := iop
  obtain ⟨t1, t2, t3, t4, t5⟩ := touch_bd wf ok.1
  rw [sn] at t3
  have le2 : Leg (wholeS n) (log ++ [op]) := a.le.snoc ok
  have oo2 : OnceA (log ++ [op]) := a.oo.snoc once
  have sR := step_gR wf ok.1
  have sL := step_gL wf ok.1
  have er : runS (wholeS n) (log ++ [op]) = stepS (runS (wholeS n) log) op := runS_snoc _ _ _
  generalize es : runS (wholeS n) log = s at wf sn t1 t2 t3 t4 t5 eL eR sR sL er
  generalize elo : lowN s op = lo at t1 t4 sR sL
  generalize ehi : hiN s op = hi at t2 t3 t5 sR sL
  walk_at "g"
  refine w_ixL (SqL.of a.ob) at_0 ?_
  walk_at "g"
  refine w_ixL (SqL.of a.ob) (i := 1) (v := .ref r) rfl ?_
  walk_at "g"
  refine w_ixL (SqL.of a.ob) (i := 2) (v := .ref sg) rfl ?_
  walk_at "g"
  rw [natAbs_if]
  refine w_ixL (SqL.of hL) (at_I (by omega) (by omega)) ?_
  rw [Int.toNat_natCast, eL _ i1 (by omega), t4]
  walk_at "g"
  refine w_ixL (SqL.of hR) (at_I (by omega) (by omega)) ?_
  rw [Int.toNat_natCast, eR _ i2, t5]
  walk_at "g"
  have ir : ixN (R'.map V.int).length (lo : Int) = some lo := by rw [ixN_pos (by omega) (by rw [List.length_map]; omega), Int.toNat_natCast]
  have il : ixN (L'.map V.int).length ((hi : Int) + 1) = some (hi + 1) := by rw [ixN_pos (by omega) (by rw [List.length_map]; omega), show ((hi : Int) + 1).toNat = hi + 1 by omega]
  have ig : ixN (G'.map V.int).length (op.natAbs : Int) = some op.natAbs := by rw [ixN_pos (by omega) (by rw [List.length_map]; omega), Int.toNat_natCast]
  have fin : ∀ (x y z : Int) H1 H2 H3, x = (if op < 0 then (hi : Int) + 1 else (op.natAbs : Int)) → y = (if op < 0 then (lo : Int) else (op.natAbs : Int)) → z = (if op < 0 then 1 else 2) →
      Kp [r] H H1 → H1 r = some (.lst ((R'.map V.int).set lo (.int x))) → Kp [l] H1 H2 → H2 l = some (.lst ((L'.map V.int).set (hi + 1) (.int y))) → Kp [sg] H2 H3 → H3 sg = some (.lst ((G'.map V.int).set op.natAbs (.int z))) → Q .non H3 := by
    intro x y z H1 H2 H3 ex ey ez k1 h1 k2 h2 k3 h3
    have kk : Kp [l, r, sg] H H3 := ((k1.mono (by simp)).trans (k2.mono (by simp))).trans (k3.mono (by simp))
    refine g H3 kk ⟨kk _ _ (by simp [n4, n5, n6]) a.ob, ⟨L'.set (hi + 1) y, ?_, by rw [List.length_set, lL], fun v v1 v2 => ?_⟩, ⟨R'.set lo x, ?_, by rw [List.length_set, lR], fun v v2 => ?_⟩, ⟨G'.set op.natAbs z, ?_, by rw [List.length_set, lG], fun v v1 v2 => ?_, ?_, ?_⟩, a.ne, le2, oo2, n60⟩
    · rw [k3.at1 n2 h2, set_I]
    · rw [er, gI_set (by rw [lL]; omega)]
      obtain ⟨u, rfl⟩ : ∃ u, v = u + 1 := ⟨v - 1, by omega⟩
      rw [sL u]
      by_cases c : u = hi
      · rw [if_pos (by omega), if_pos c, ey]
      · rw [if_neg (by omega), if_neg c]
        exact eL _ (by omega) (by omega)
    · rw [k3.at1 n3 (k2.at1 (Ne.symm n1) h1), set_I]
    · rw [er, gI_set (by rw [lR]; omega), sR v]
      by_cases c : v = lo
      · rw [if_pos c, if_pos c, ex]
      · rw [if_neg c, if_neg c]
        exact eR _ v2
    · rw [h3, set_I]
    · rw [gI_set (by rw [lG]; omega), stgF_snoc]
      by_cases c : v = op.natAbs
      · rw [if_pos c, if_pos c.symm, ez]
        split <;> rfl
      · rw [if_neg c, if_neg (Ne.symm c)]
        exact eG v v1 v2
    · rw [gI_set (by rw [lG]; omega), if_neg (by omega)]
      exact eG0
    · rw [gI_set (by rw [lG]; omega), if_neg (by omega)]
      exact eG1
  refine w_iteD (fun c => ?_) (fun c => ?_)
  all_goals
    walk_at "g"
    refine w_seT hR ir fun H1 k1 h1 => ?_
    walk_at "g"
    refine w_seT (k1.at1 n1 hL) il fun H2 k2 h2 => ?_
    walk_at "g"
    refine w_seT (k2.at1 (Ne.symm n2) (k1.at1 (Ne.symm n3) hG)) ig fun H3 k3 h3 => ?_
  · exact fin _ _ _ H1 H2 H3 (if_pos c).symm (if_pos c).symm (if_pos c).symm k1 h1 k2 h2 k3 h3
  · exact fin _ _ _ H1 H2 H3 (if_neg c).symm (if_neg c).symm (if_neg c).symm k1 h1 k2 h2 k3 h3
theorem len__law_pattern (K : PySem.W.Frag) : ∀ vs H Q E, sp__law_pattern K vs H Q E → vs.length = (["box", "low", "high"] : List Str).length := by
  rintro vs H Q E ⟨_, _, _, _, rfl, _⟩
  rfl
theorem rd__law_pattern (T : Txt K mg) (vs : List V) (H : Hp) (Q : VK) (E : XK) (h : sp__law_pattern K vs H Q E) : t__law_pattern K E { nx := fun _ H' => Q .non H', rt := Q } (start ["box", "low", "high", "one", "other"] vs) H := by
  obtain ⟨b, c, lo, hi, rfl, ⟨p1, p2⟩, bx, g⟩ := h
  unfold t__law_pattern
  have none_ : ∀ H1, Kp [b, c] H H1 → BoxI H1 b c → tRet (tLst tNil) { nx := fun x H' => Q V.non H', rt := Q } [some (.ref b), some (.int lo), some (.int hi), none, none] H1 := by
    intro H1 k1 b1
    walk_at "g"
    refine ⟨sz_ok (Nat.zero_le _), nw fun q H2 nq k2 hq => ?_⟩
    obtain ⟨n1, n2⟩ := b1.fr nq
    exact g [] q H2 (.inl rfl) (k1.free (by simp [n1, n2]) nq) (k1.trans k2.all) (b1.k0 k2) hq
  walk_at "g"
  refine ⟨b, c, 2, rfl, by omega, by omega, bx, fun d H1 d1 d2 k1 b1 => ?_⟩
  walk_at "g"
  refine w_iteD (fun c1 => ?_) (fun c1 => ?_)
  · exact none_ H1 k1 b1
  walk_at "g"
  refine w_iteD (fun c2 => ?_) (fun c2 => ?_)
  · exact none_ H1 k1 b1
  walk_at "j"
  refine ⟨b, c, _, rfl, by omega, by omega, b1, fun e H2 e1 e2 k2 b2 => ?_⟩
  walk_at "j"
  refine w_ifJ (fun σ' H' => ∃ y : Int, σ' = [some (.ref b), some (.int lo), some (.int hi), some (.int (lo + e)), some (.int y)] ∧ Kp [b, c] H H' ∧ BoxI H' b c ∧ lo ≤ y ∧ y ≤ hi ∧ lo + e ≠ y) (fun N hN => ?_) (fun σ' H3 ⟨y, es, k3, b3, y1, y2, y3⟩ => ?_)
  · walk_at "g"
    refine w_iteD (fun c3 => ?_) (fun c3 => ?_)
    · walk_at "g"
      exact hN _ _ ⟨_, rfl, k1.trans k2, b2, by omega, by omega, by omega⟩
    · walk_at "g"
      refine w_iteD (fun c4 => ?_) (fun c4 => ?_)
      · walk_at "g"
        refine ⟨b, c, 2, rfl, by omega, by omega, b2, fun f H3 f1 f2 k3 b3 => ?_⟩
        walk_at "g"
        refine w_iteD (fun c5 => ?_) (fun c5 => ?_)
        · walk_at "g"
          exact hN _ _ ⟨_, rfl, (k1.trans k2).trans k3, b3, by omega, by omega, by omega⟩
        · walk_at "g"
          exact hN _ _ ⟨_, rfl, (k1.trans k2).trans k3, b3, by omega, by omega, by omega⟩
      · walk_at "g"
        exact hN _ _ ⟨_, rfl, k1.trans k2, b2, by omega, by omega, by omega⟩
  subst es
  walk_at "g"
  refine ⟨sz_ok (by show 3 ≤ 1000000; omega), nw fun q H4 nq k4 hq => ?_⟩
  obtain ⟨n1, n2⟩ := b3.fr nq
  exact g [lo + e, y, lo + e] q H4 (.inr ⟨_, _, rfl, by omega, by omega, y1, y2, y3⟩) (k3.free (by simp [n1, n2]) nq) (k3.trans k4.all) (b3.k0 k4) hq
end
end G

set_option Elab.async false
set_option linter.all false
set_option maxRecDepth 100000
set_option maxHeartbeats 1000000
namespace G
--#FAM KG
open PySem PySem.Spec PyProof.Rows L2
local macro_rules
  | `(tactic| walk_at "1") => `(tactic| first
    | with_reducible refine w_seq ?_
    | with_reducible refine w_asg ?_
    | with_reducible refine w_asgS ?_
    | with_reducible refine w_asf ?_
    | with_reducible refine w_drop ?_
    | with_reducible refine w_ret ?_
    | with_reducible refine w_if ?_
    | with_reducible refine w_not ?_
    | with_reducible refine w_and ?_
    | with_reducible refine w_or ?_
    | with_reducible refine w_test ?_
    | with_reducible refine w_tb ?_
    | with_reducible refine w_chain ?_
    | with_reducible refine w_op ?_
    | with_reducible refine w_un ?_
    | with_reducible refine w_andV ?_
    | with_reducible refine w_orV ?_
    | with_reducible refine w_notV ?_
    | with_reducible refine w_ifE ?_
    | with_reducible refine w_cons ?_
    | with_reducible refine w_nil ?_
    | with_reducible refine w_cb ?_
    | with_reducible refine w_cl ?_
    | with_reducible refine w_mt ?_
    | with_reducible refine w_fld ?_
    | with_reducible refine w_tupN ?_
    | with_reducible refine w_lstN ?_
    | with_reducible refine w_bm ?_
    | with_reducible refine w_bm0 ?_
    | with_reducible refine w_for ?_
    | with_reducible refine w_lc ?_
    | with_reducible refine w_iR1 ?_
    | with_reducible refine w_iR2 ?_
    | with_reducible refine w_iL ?_
    | with_reducible refine w_iT ?_
    | with_reducible refine w_iE ?_
    | with_reducible refine w_iZ ?_
    | with_reducible refine w_var (by with_unfolding_all rfl) ?_
    | with_reducible refine w_c ?_
    | with_reducible refine w_next ?_
    | with_reducible refine w_i0 ?_
    | with_reducible refine w_u1 ?_
    | with_reducible refine w_addI ?_
    | with_reducible refine w_eqI ?_
    | with_reducible refine w_eqS ?_
    | with_reducible refine w_eqB ?_
    | with_reducible refine w_neI ?_
    | with_reducible refine w_neS ?_
    | with_reducible refine w_neB ?_
    | with_reducible refine w_abs ?_
    | with_reducible refine w_intI ?_
    | with_reducible refine w_min2 ?_
    | with_reducible refine w_max2 ?_
    | with_reducible refine w_isN0 ?_
    | with_reducible refine w_isN1 ref_ne ?_
    | with_reducible refine w_isN1 int_ne ?_
    | with_reducible refine w_notN0 ?_
    | with_reducible refine w_notN1 ref_ne ?_
    | with_reducible refine w_notN1 int_ne ?_
    | with_reducible refine w_ex1 ?_
    | with_reducible refine w_n1 ?_
    | with_reducible refine w_n2 ?_
    | with_reducible refine w_tT ?_
    | with_reducible refine w_tF ?_
    | with_reducible refine w_nT ?_
    | with_reducible refine w_nF ?_
    | with_reducible refine w_rz ?_
    | with_reducible refine w_mkN ?_
    | with_reducible refine w_lrgN ?_
    | with_reducible refine w_rg1 ?_
    | with_reducible refine w_rg2 ?_
    | with_reducible refine w_sl ?_
    | with_reducible refine w_np ?_
    | with_reducible refine w_pt ?_
    | with_reducible refine w_tr ?_
    | with_reducible refine w_gn ?_
    | with_reducible refine w_yes ?_
    | with_reducible refine w_m1 ?_
    | with_reducible refine w_asu ?_
    | with_reducible refine w_exS ?_
    | with_reducible refine w_iS ?_
    | with_reducible refine w_g1 ?_
    | with_reducible refine w_gc ?_
    | with_reducible refine w_gt (SqT.of upd_same) rfl ?_)
local macro_rules
  | `(tactic| walk_at "g") => `(tactic| repeat walk_at "1")
local macro_rules
  | `(tactic| walk_at "j1") => `(tactic| first
    | with_reducible refine w_seqI ?_
    | walk_at "1")
local macro_rules
  | `(tactic| walk_at "j") => `(tactic| repeat walk_at "j1")
section
variable {K : PySem.W.Frag} {mg : Str → Option Value}
theorem sum_ind (lo a : Nat) : ∀ m : Nat, ((List.range m).map fun j => if lo + j = a then 1 else 0).sum = if lo ≤ a ∧ a < lo + m then 1 else 0 := by
  intro m
  induction m with
  | zero => rw [if_neg (by omega)]; rfl
  | succ m ih =>
    rw [List.range_succ, List.map_append, List.sum_append, ih]
    show _ + ((if lo + m = a then 1 else 0) + 0) = _
    by_cases c : lo + m = a
    · rw [if_pos c, if_neg (by omega), if_pos (by omega)] <;> rfl
    · rw [if_neg c]
      by_cases d : lo ≤ a ∧ a < lo + m
      · rw [if_pos d, if_pos (by omega)] <;> rfl
      · rw [if_neg d, if_neg (by omega)] <;> rfl
theorem sum_zero : ∀ m : Nat, ((List.range m).map fun _ => 0).sum = 0 := by
  intro m
  induction m with
  | zero => rfl
  | succ m ih => rw [List.range_succ, List.map_append, List.sum_append, ih] <;> rfl
theorem sum_add (f g : Nat → Nat) : ∀ l : List Nat, (l.map fun j => f j + g j).sum = (l.map f).sum + (l.map g).sum
  | [] => rfl
  | a :: l => by
    have := sum_add f g l
    simp only [List.map_cons, List.sum_cons, this]
    omega
/-- all operations of a log stand in a range -/
theorem sum_ops (lo m : Nat) : ∀ ds : List Int, (∀ x ∈ ds, lo ≤ x.natAbs ∧ x.natAbs < lo + m) → ((List.range m).map fun j => (opsV (lo + j) ds).length).sum = ds.length := by
  intro ds
  induction ds using snoc_ind with
  | h0 =>
    intro _
    have : (fun j => (opsV (lo + j) []).length) = fun _ => 0 := rfl
    rw [this]
    exact sum_zero m
  | h1 l x ih =>
    intro h
    have h1 := ih fun y hy => h y (by simp [hy])
    have h2 := h x (by simp)
    have e : (fun j => (opsV (lo + j) (l ++ [x])).length) = fun j => (opsV (lo + j) l).length + (if lo + j = x.natAbs then 1 else 0) := by
      funext j
      rw [opsV_snoc, List.length_append]
      by_cases c : lo + j = x.natAbs
      · rw [if_pos c, if_pos c.symm] <;> rfl
      · rw [if_neg c, if_neg (Ne.symm c)] <;> rfl
    rw [e, sum_add, h1, sum_ind, if_pos h2, List.length_append] <;> rfl
theorem sum_two (f : Nat → Nat) : ∀ m : Nat, (∀ j, j < m → f j = 2) → ((List.range m).map f).sum = 2 * m := by
  intro m
  induction m with
  | zero => intro _; rfl
  | succ m ih =>
    intro h
    rw [List.range_succ, List.map_append, List.sum_append, ih fun j hj => h j (by omega)]
    show _ + (f m + 0) = _
    rw [h m (by omega)]
    omega
/-- before the end some node can go -/
theorem some_free {n lo m : Nat} {ds : List Int} (L : LgO n ds) (h1 : 1 ≤ lo) (hr : ∀ x ∈ ds, lo ≤ x.natAbs ∧ x.natAbs < lo + m) (hk : ds.length < 2 * m) : ∃ v, lo ≤ v ∧ v < lo + m ∧ stgF ds v < 2 := by
  apply Classical.byContradiction
  intro no
  have all2 : ∀ j, j < m → (opsV (lo + j) ds).length = 2 := by
    intro j hj
    have I := nodeI L.alt L.one (lo + j) (by omega)
    have := stgF_le ds (lo + j)
    rw [I.ln]
    apply Classical.byContradiction
    intro z
    exact no ⟨lo + j, by omega, by omega, by omega⟩
  have := sum_ops lo m ds hr
  rw [sum_two _ m all2] at this
  omega
/-- a node that can go goes -/
theorem LgO.go {n : Nat} {ds : List Int} (L : LgO n ds) {v : Nat} (h1 : 1 ≤ v) (h2 : v ≤ n) (hs : stgF ds v < 2) (hl : ds.length < 120) (hn : n ≤ 60) : ∃ op : Int, op = (if stgF ds v = 0 then -(v : Int) else (v : Int)) ∧ op.natAbs = v ∧ OkOp (runS (wholeS n) ds) op ∧ (op < 0 → op ∉ ds) ∧ LgO n (ds ++ [op]) := by
  have I := nodeI L.alt L.one v h1
  refine ⟨_, rfl, by split <;> omega, ?_, ?_, ?_⟩
  · refine (ok_out hn (leg_of hn L.ops L.alt)).mpr ⟨by split <;> exact ⟨by omega, by omega⟩, ?_⟩
    have na : (if stgF ds v = 0 then -(v : Int) else (v : Int)).natAbs = v := by split <;> omega
    rw [na, stg_out]
    refine decide_eq_decide.mpr ?_
    split <;> omega
  · intro z
    split at z
    · rename_i c
      rw [if_pos c]
      exact (I.s0 c).2
    · omega
  · have na : (if stgF ds v = 0 then -(v : Int) else (v : Int)).natAbs = v := by split <;> omega
    refine ⟨fun x hx => ?_, alt_snoc' L.alt ?_, L.one.snoc ?_, by rw [List.length_append]; show _ + 1 ≤ _; omega⟩
    · rcases List.mem_append.mp hx with hx | hx
      · exact L.ops x hx
      · rw [List.mem_singleton] at hx
        rw [hx]
        exact ⟨by omega, by omega⟩
    · rw [na, stg_out]
      refine decide_eq_decide.mpr ?_
      split <;> omega
    · intro z
      split at z
      · rename_i c
        rw [if_pos c]
        exact (I.s0 c).2
      · omega
/-- how the things of a draw lie -/
structure Lay (b c e pt w l r g lg : Addr) : Prop where
  nb : e ≠ b ∧ pt ≠ b ∧ w ≠ b ∧ l ≠ b ∧ r ≠ b ∧ g ≠ b ∧ lg ≠ b
  nc : e ≠ c ∧ pt ≠ c ∧ w ≠ c ∧ l ≠ c ∧ r ≠ c ∧ g ≠ c ∧ lg ≠ c
  ng : e ≠ lg ∧ pt ≠ lg ∧ w ≠ lg ∧ l ≠ lg ∧ r ≠ lg ∧ g ≠ lg
  nl : e ≠ l ∧ pt ≠ l
  nr : e ≠ r ∧ pt ≠ r
  ns : e ≠ g ∧ pt ≠ g
/-- what the drawing keeps -/
structure DrI (H : Hp) (b c e pt w l r g lg : Addr) (n : Nat) (lo hi : Int) (ps ds : List Int) : Prop where
  bx : BoxI H b c
  he : H e = some (.lst [.int lo, .int hi])
  hp : H pt = some (.lst (ps.map V.int))
  lb : LB H w l r g n ds
  hg : H lg = some (.lst (ds.map V.int))
theorem DrI.k0 {H H' : Hp} {b c e pt w l r g lg : Addr} {n : Nat} {lo hi : Int} {ps ds : List Int} (a : DrI H b c e pt w l r g lg n lo hi ps ds) (k : Kp [] H H') : DrI H' b c e pt w l r g lg n lo hi ps ds := ⟨a.bx.k0 k, k.at0 a.he, k.at0 a.hp, a.lb.k0 k, k.at0 a.hg⟩
theorem DrI.kb {H H' : Hp} {b c e pt w l r g lg : Addr} {n : Nat} {lo hi : Int} {ps ds : List Int} (a : DrI H b c e pt w l r g lg n lo hi ps ds) (y : Lay b c e pt w l r g lg) (k : Kp [b, c] H H') (bx : BoxI H' b c) : DrI H' b c e pt w l r g lg n lo hi ps ds := by
  obtain ⟨x1, x2, x3, x4, x5, x6, x7⟩ := y.nb
  obtain ⟨z1, z2, z3, z4, z5, z6, z7⟩ := y.nc
  exact ⟨bx, k _ _ (by simp [x1, z1]) a.he, k _ _ (by simp [x2, z2]) a.hp, a.lb.kp k (by simp [x3, z3]) (by simp [x4, z4]) (by simp [x5, z5]) (by simp [x6, z6]), k _ _ (by simp [x7, z7]) a.hg⟩
theorem len__law_log (K : PySem.W.Frag) : ∀ vs H Q E, sp22__law_log K vs H Q E → vs.length = (["box", "size"] : List Str).length := by
  rintro vs H Q E ⟨_, _, _, rfl, _⟩
  rfl
theorem rd__law_log (T : Txt K mg) (vs : List V) (H : Hp) (Q : VK) (E : XK) (h : sp22__law_log K vs H Q E) : t__law_log K E { nx := fun _ H' => Q .non H', rt := Q } (start ["box", "size", "ends", "many", "steps", "keen", "pattern", "book", "log", "node", "k", "free", "late", "near", "turn", "x"] vs) H := by
  obtain ⟨b, c, n, rfl, hn, bx, gk⟩ := h
  unfold t__law_log
  walk_at "g"
  refine ⟨b, c, n, rfl, hn, bx, fun lo hi e H1 ⟨lh1, lh2, lh3⟩ ne k1 b1 he => ?_⟩
  obtain ⟨m, em⟩ : ∃ m : Nat, hi - lo + 1 = (m : Int) := ⟨(hi - lo + 1).toNat, by omega⟩
  obtain ⟨lo', rfl⟩ : ∃ lo' : Nat, lo = (lo' : Int) := ⟨lo.toNat, by omega⟩
  walk_at "g"
  refine w_ixL (SqL.of he) (i := 1) (v := .int hi) rfl ?_
  walk_at "g"
  refine w_ixL (SqL.of he) at_0 ?_
  walk_at "g"
  rw [em]
  refine w_mulI (cmulL (by omega) (by omega)) ?_
  walk_at "g"
  refine ⟨b, c, _, rfl, by omega, by omega, b1, fun s1 H2 s11 s12 k2 b2 => ?_⟩
  walk_at "g"
  refine ⟨b, c, _, rfl, by omega, by omega, b2, fun s2 H3 s21 s22 k3 b3 => ?_⟩
  walk_at "g"
  have sm : 0 ≤ (if s2 > s1 then s2 else s1) ∧ (if s2 > s1 then s2 else s1) ≤ 2 * (m : Int) := by split <;> omega
  generalize (if s2 > s1 then s2 else s1) = steps at sm ⊢
  refine ⟨b, c, 8, rfl, by omega, by omega, b3, fun keen H4 kn1 kn2 k4 b4 => ?_⟩
  obtain ⟨eb, ec⟩ := bx.fr ne
  have he4 : H4 e = _ := k4 _ _ (by simp [eb, ec]) (k3 _ _ (by simp [eb, ec]) (k2 _ _ (by simp [eb, ec]) he))
  walk_at "g"
  refine w_ixL (SqL.of he4) at_0 ?_
  walk_at "g"
  refine w_ixL (SqL.of he4) (i := 1) (v := .int hi) rfl ?_
  walk_at "g"
  refine ⟨b, c, _, _, rfl, ⟨by omega, by omega⟩, b4, fun ps pt H5 hps npt k5 b5 hpt => ?_⟩
  have he5 : H5 e = _ := k5 _ _ (by simp [eb, ec]) he4
  obtain ⟨pb, pc⟩ := b4.fr npt
  walk_at "g"
  refine ⟨n, rfl, hn, fun w l r g H6 nw nl nr ng k6 lb6 => ?_⟩
  have b6 := b5.k0 k6
  walk_at "g"
  refine ⟨sz_ok (Nat.zero_le _), G.nw fun lg H7 nlg k7 hlg => ?_⟩
  have lb7 := lb6.k0 k7
  walk_at "g"
  obtain ⟨wb, wc⟩ := b5.fr nw
  obtain ⟨lb_, lc⟩ := b5.fr nl
  obtain ⟨rb, rc⟩ := b5.fr nr
  obtain ⟨gb, gc⟩ := b5.fr ng
  obtain ⟨gbb, gcc⟩ := b6.fr nlg
  have lay : Lay b c e pt w l r g lg := by
    obtain ⟨L', hL, _⟩ := lb6.hl
    obtain ⟨R', hR, _⟩ := lb6.hr
    obtain ⟨G', hG, _⟩ := lb6.hg
    refine ⟨⟨eb, pb, wb, lb_, rb, gb, gbb⟩, ⟨ec, pc, wc, lc, rc, gc, gcc⟩, ⟨ne_of_none (k6.at0 he5) nlg, ne_of_none (k6.at0 hpt) nlg, ne_of_none lb6.ob nlg, ne_of_none hL nlg, ne_of_none hR nlg, ne_of_none hG nlg⟩, ⟨ne_of_none he5 nl, ne_of_none hpt nl⟩, ⟨ne_of_none he5 nr, ne_of_none hpt nr⟩, ⟨ne_of_none he5 ng, ne_of_none hpt ng⟩⟩
  refine ⟨b, c, _, rfl, by omega, by omega, b6.k0 k7, fun nd0 H8 nd1 nd2 k8 b8 => ?_⟩
  have D7 : DrI H7 b c e pt w l r g lg n lo' hi ps [] := ⟨b6.k0 k7, k7.at0 (k6.at0 he5), k7.at0 (k6.at0 hpt), lb7, hlg⟩
  have D8 := D7.kb lay k8 b8
  walk_at "g"
  -- what was free at first
  have k15 : Kp [b, c] H1 H5 := ((k2.trans k3).trans k4).trans k5
  have k05 : Kp [b, c] H H5 := k1.trans k15
  have f_e : H e = none := ne
  have f_w : H w = none := k05.free (by simp [wb, wc]) nw
  have f_l : H l = none := k05.free (by simp [lb_, lc]) nl
  have f_r : H r = none := k05.free (by simp [rb, rc]) nr
  have f_g : H g = none := k05.free (by simp [gb, gc]) ng
  have f_lg : H lg = none := (k05.trans k6.all).free (by simp [gbb, gcc]) nlg
  have k08 : Kp [b, c] H H8 := (k05.trans (k6.trans k7).all).trans k8
  refine w_r1 (by omega) ?_
  refine lp_rng0 (fun k σ H' => (∃ y9 y10 y11 y12 y13 y14 y15, σ = [some (.ref b), some (.int n), some (.ref e), some (.int (2 * (m : Int))), some (.int steps), some (.int keen), some (.ref pt), some (.ref w), some (.ref lg), some (.int y9), y10, y11, y12, y13, y14, y15]) ∧ Kp [b, c] H H' ∧
      ∃ ds, DrI H' b c e pt w l r g lg n lo' hi ps ds ∧ LgO n ds ∧ ds.length = k ∧ (∀ x ∈ ds, lo' ≤ x.natAbs ∧ x.natAbs < lo' + m) ∧ (∀ (j : Nat) x p, ds[j]? = some x → ps[j]? = some p → (x.natAbs : Int) = p))
    ⟨⟨_, _, _, _, _, _, _, rfl⟩, k08, [], D8, ⟨(fun x h => by cases h), alt_nil', once_nil, Nat.zero_le _⟩, rfl, fun x h => (by cases h), fun j x p h => (by simp at h)⟩ ?_ ?_
  · rintro k σ' H9 hk ⟨⟨y9, y10, y11, y12, y13, y14, y15, rfl⟩, k9, ds, D, L, lds, rds, pds⟩
    have hkm : ds.length < 2 * m := by omega
    have len120 : ds.length < 120 := by omega
    have st_ : ∀ v : Nat, 1 ≤ v → v ≤ n → ∃ G' : List Int, H9 g = some (.lst (G'.map V.int)) ∧ G'.length = n + 2 ∧ gI G' v = (stgF ds v : Int) := by
      intro v v1 v2
      obtain ⟨G', hG, lG, eG, _⟩ := D.lb.hg
      exact ⟨G', hG, lG, eG v v1 v2⟩
    obtain ⟨G', hG, lG, eG, eG0, eG1⟩ := D.lb.hg
    walk_at "j"
    refine w_ixL (SqL.of D.he) at_0 ?_
    walk_at "j"
    refine w_ixL (SqL.of D.he) (i := 1) (v := .int hi) rfl ?_
    walk_at "j"
    refine w_r2 (by omega) ?_
    rw [show (hi + 1 - (lo' : Int)).toNat = m by omega]
    refine cp_rng (fun i => ((((List.range i).map fun j => lo' + j).filter fun v => decide (stgF ds v < 2)).map fun (v : Nat) => (v : Int)).map V.int) (fun i hi => sz_lt (by
      rw [List.length_map, List.length_map]
      have := List.length_filter_le (fun v => decide (stgF ds v < 2)) ((List.range i).map fun j => lo' + j)
      rw [List.length_map, List.length_range] at this
      omega)) rfl (fun i H' S N hi' kk yes no => ?_) (fun fr Ha nfr ka hfr => ?_)
    · walk_at "g"
      refine ⟨rfl, ?_⟩
      walk_at "g"
      have ei : (lo' : Int) + (i : Int) = ((lo' + i : Nat) : Int) := by omega
      rw [ei]
      refine w_ixL (SqL.of (kk.at0 D.lb.ob)) (i := 2) (v := .ref g) rfl ?_
      walk_at "g"
      refine w_ixL (SqL.of (kk.at0 hG)) (at_I (by omega) (by omega)) ?_
      rw [Int.toNat_natCast, eG _ (by omega) (by omega)]
      walk_at "g"
      have sn : (((List.range (i + 1)).map fun j => lo' + j).filter fun v => decide (stgF ds v < 2)) = (((List.range i).map fun j => lo' + j).filter fun v => decide (stgF ds v < 2)) ++ (if stgF ds (lo' + i) < 2 then [lo' + i] else []) := by
        rw [List.range_succ, List.map_append, List.filter_append]
        congr 1
        show ([lo' + i].filter fun v => decide (stgF ds v < 2)) = _
        by_cases cc : stgF ds (lo' + i) < 2
        · rw [if_pos cc, List.filter_cons_of_pos (by rw [decide_eq_true cc])] <;> rfl
        · rw [if_neg cc, List.filter_cons_of_neg (by rw [decide_eq_false cc]; exact Bool.false_ne_true)] <;> rfl
      refine w_iteD (fun cc => ?_) (fun cc => ?_)
      · walk_at "g"
        refine yes _ _ (Kp.refl _ _) ?_
        rw [sn, if_pos (by omega), List.map_append, List.map_append] <;> rfl
      · refine no _ (Kp.refl _ _) ?_
        rw [sn, if_neg (by omega), List.append_nil]
    have fne : ∃ v0 : Nat, v0 ∈ (((List.range m).map fun j => lo' + j).filter fun v => decide (stgF ds v < 2)) := by
      obtain ⟨v, h1, h2, h3⟩ := some_free L (by omega) rds hkm
      exact ⟨v, List.mem_filter.mpr ⟨List.mem_map.mpr ⟨v - lo', List.mem_range.mpr (by omega), by omega⟩, decide_eq_true h3⟩⟩
    have fall : ∀ v ∈ (((List.range m).map fun j => lo' + j).filter fun v => decide (stgF ds v < 2)), lo' ≤ v ∧ v < lo' + m ∧ stgF ds v < 2 := by
      intro v hv
      obtain ⟨h1, h2⟩ := List.mem_filter.mp hv
      obtain ⟨j, hj, rfl⟩ := List.mem_map.mp h1
      have := List.mem_range.mp hj
      exact ⟨by omega, by omega, of_decide_eq_true h2⟩
    have lfr : (((List.range m).map fun j => lo' + j).filter fun v => decide (stgF ds v < 2)).length ≤ 60 := by
      refine Nat.le_trans (List.length_filter_le _ _) ?_
      rw [List.length_map, List.length_range]
      omega
    generalize (((List.range m).map fun j => lo' + j).filter fun v => decide (stgF ds v < 2)) = fs at hfr fne fall lfr
    -- lists of nodes that can go
    have Da := D.k0 ka
    walk_at "j"
    refine w_l1 (SqL.of hfr) ?_
    refine cp_lst (SqL.of hfr) (fun j => ((fs.take j).filter fun v => decide (0 < (lateL (runS (wholeS n) ds) ds v).length)).map fun (v : Nat) => V.int (v : Int)) (fun j hj => sz_lt (by
      rw [List.length_map, List.length_map] at hj
      rw [List.length_map]
      have := List.length_filter_le (fun v => decide (0 < (lateL (runS (wholeS n) ds) ds v).length)) (fs.take j)
      rw [List.length_take] at this
      omega)) rfl (fun j x H' S N hx kk yes no => ?_) (fun la Hb nla kb hla => ?_)
    · obtain ⟨z, hz, rfl⟩ := at_map hx
      rw [List.getElem?_map] at hz
      obtain ⟨v, hv, rfl⟩ : ∃ v, fs[j]? = some v ∧ (v : Int) = z := by
        cases e : fs[j]? with
        | none => rw [e] at hz; cases hz
        | some v => rw [e] at hz; exact ⟨v, rfl, by injection hz⟩
      have bv := fall v (List.mem_of_getElem? hv)
      walk_at "g"
      refine ⟨rfl, ?_⟩
      walk_at "g"
      refine ⟨w, l, r, g, n, v, ds, rfl, Da.lb.k0 kk, by omega, by omega, fun q H2 nq k2 hq => ?_⟩
      walk_at "g"
      refine w_lenL (SqL.of hq) ?_
      walk_at "g"
      rw [List.length_map]
      refine w_iteD (fun cc => ?_) (fun cc => ?_)
      · walk_at "g"
        refine yes _ _ k2 ?_
        rw [take_snoc hv, List.filter_append, List.filter_cons_of_pos (by exact decide_eq_true (by omega)), List.map_append] <;> rfl
      · refine no _ k2 ?_
        rw [take_snoc hv, List.filter_append, List.filter_cons_of_neg (by rw [decide_eq_false (by omega)]; exact Bool.false_ne_true), List.filter_nil, List.append_nil]
    rw [List.length_map, List.length_map, List.take_length] at hla
    have Db := Da.k0 kb
    have hfrb := kb.at0 hfr
    walk_at "j"
    refine w_l1 (SqL.of hfrb) ?_
    refine cp_lst (SqL.of hfrb) (fun j => ((fs.take j).filter fun v : Nat => decide ((((v : Int) - y9).natAbs : Int) = 1)).map fun (v : Nat) => V.int (v : Int)) (fun j hj => sz_lt (by
      rw [List.length_map, List.length_map] at hj
      rw [List.length_map]
      have := List.length_filter_le (fun v : Nat => decide ((((v : Int) - y9).natAbs : Int) = 1)) (fs.take j)
      rw [List.length_take] at this
      omega)) rfl (fun j x H' S N hx kk yes no => ?_) (fun ne_ Hc nne kc hne => ?_)
    · obtain ⟨z, hz, rfl⟩ := at_map hx
      rw [List.getElem?_map] at hz
      obtain ⟨v, hv, rfl⟩ : ∃ v, fs[j]? = some v ∧ (v : Int) = z := by
        cases e : fs[j]? with
        | none => rw [e] at hz; cases hz
        | some v => rw [e] at hz; exact ⟨v, rfl, by injection hz⟩
      walk_at "g"
      refine ⟨rfl, ?_⟩
      walk_at "g"
      rw [natAbs_if]
      refine w_iteD (fun cc => ?_) (fun cc => ?_)
      · walk_at "g"
        refine yes _ _ (Kp.refl _ _) ?_
        rw [take_snoc hv, List.filter_append, List.filter_cons_of_pos (by exact decide_eq_true cc), List.map_append] <;> rfl
      · refine no _ (Kp.refl _ _) ?_
        rw [take_snoc hv, List.filter_append, List.filter_cons_of_neg (by rw [decide_eq_false cc]; exact Bool.false_ne_true), List.filter_nil, List.append_nil]
    rw [List.length_map, List.length_map, List.take_length] at hne
    have Dc := Db.k0 kc
    walk_at "j"
    refine ⟨b, c, 4, rfl, by omega, by omega, Dc.bx, fun tn Hd tn1 tn2 kd bd => ?_⟩
    have Dd := Dc.kb lay kd bd
    have k9c : Kp [] H9 Hc := (ka.trans kb).trans kc
    have nfc : ∀ x, H9 x = none → x ≠ b ∧ x ≠ c := fun x nx => D.bx.fr nx
    obtain ⟨frb, frc⟩ := nfc fr nfr
    obtain ⟨lab, lac⟩ := nfc la (ka.free0 nla)
    obtain ⟨neb, nec⟩ := nfc ne_ ((ka.trans kb).free0 nne)
    have hfrd : Hd fr = _ := kd _ _ (by simp [frb, frc]) (kc.at0 hfrb)
    have hlad : Hd la = _ := kd _ _ (by simp [lab, lac]) (kc.at0 hla)
    have hned : Hd ne_ = _ := kd _ _ (by simp [neb, nec]) hne
    have filt : ∀ p : Nat → Bool, ∀ v ∈ fs.filter p, lo' ≤ v ∧ v < lo' + m ∧ stgF ds v < 2 := fun p v hv => fall v (List.mem_filter.mp hv).1
    walk_at "j"
    refine w_ifJ (fun σ' H' => ∃ (q : Addr) (gs : List Nat) (y11 y12 y13 y14 y15 : Option V), σ' = [some (.ref b), some (.int n), some (.ref e), some (.int (2 * (m : Int))), some (.int steps), some (.int keen), some (.ref pt), some (.ref w), some (.ref lg), some (.int y9), some (.int (k : Int)), some (.ref q), y12, y13, y14, y15] ∧
      Kp [] Hd H' ∧ q ≠ b ∧ q ≠ c ∧ H' q = some (.lst (gs.map fun (v : Nat) => V.int (v : Int))) ∧ gs ≠ [] ∧ gs.length ≤ 60 ∧ (∀ v ∈ gs, lo' ≤ v ∧ v < lo' + m ∧ stgF ds v < 2) ∧ (∀ p, ps[k]? = some p → ∀ v ∈ gs, (v : Int) = p)) (fun N hN => ?_) (fun σ' He ⟨q, gs, z11, z12, z13, z14, z15, es, ke, qb, qc, hq, gne, gl, gall, gps⟩ => ?_)
    · have e_fr : (fs.map fun (v : Nat) => (v : Int)).map V.int = fs.map fun (v : Nat) => V.int (v : Int) := by rw [List.map_map] <;> rfl
      have fsne : fs ≠ [] := fun z => by
        obtain ⟨v0, h0⟩ := fne
        rw [z] at h0
        cases h0
      have big : ¬ (k : Int) < (ps.length : Int) → ∀ p, ps[k]? = some p → ∀ v : Nat, (v : Int) = p := fun h p hp => by
        have := (List.getElem?_eq_some_iff.mp hp).1
        omega
      walk_at "g"
      refine w_lenL (SqL.of Dd.hp) ?_
      walk_at "g"
      rw [List.length_map]
      refine w_iteD (fun c1 => ?_) (fun c1 => ?_)
      · obtain ⟨p, hp⟩ : ∃ p, ps[k]? = some p := ⟨_, List.getElem?_eq_getElem (by omega)⟩
        have pv : ∃ v : Nat, p = (v : Int) ∧ lo' ≤ v ∧ v < lo' + m ∧ stgF ds v < 2 := by
          rcases hps with rfl | ⟨x, y, rfl, x1, x2, y1, y2, xy⟩
          · simp at hp
          · have a0 : ∀ a, ds[0]? = some a → (a.natAbs : Int) = x := fun a h => pds 0 a x h rfl
            have a1 : ∀ a, ds[1]? = some a → (a.natAbs : Int) = y := fun a h => pds 1 a y h rfl
            have ln : ∀ v : Nat, 1 ≤ v → stgF ds v = (opsV v ds).length := fun v hv => (nodeI L.alt L.one v hv).ln.symm
            match k, hp, lds with
            | 0, hp, lds =>
              have e : x = p := by simpa using hp
              subst e
              have d0 : ds = [] := List.length_eq_zero_iff.mp lds
              exact ⟨x.toNat, by omega, by omega, by omega, by rw [ln _ (by omega), d0]; exact Nat.zero_lt_succ 1⟩
            | 1, hp, lds =>
              have e : y = p := by simpa using hp
              subst e
              match ds, lds, a0, ln with
              | [a], _, a0, ln =>
                have := a0 a rfl
                refine ⟨y.toNat, by omega, by omega, by omega, ?_⟩
                rw [ln _ (by omega)]
                have : (opsV y.toNat [a]) = [] := by
                  unfold opsV
                  rw [List.filter_cons_of_neg (by rw [decide_eq_false (by omega)]; exact Bool.false_ne_true)] <;> rfl
                rw [this]
                decide
            | 2, hp, lds =>
              have e : x = p := by simpa using hp
              subst e
              match ds, lds, a0, a1, ln with
              | [a, d], _, a0, a1, ln =>
                have h0 := a0 a rfl
                have h1 := a1 d rfl
                refine ⟨x.toNat, by omega, by omega, by omega, ?_⟩
                rw [ln _ (by omega)]
                have : (opsV x.toNat [a, d]).length ≤ 1 := by
                  unfold opsV
                  have c0 : decide (d.natAbs = x.toNat) = false := decide_eq_false (by omega)
                  rw [List.filter_cons]
                  split
                  · rw [List.filter_cons_of_neg (by rw [c0]; exact Bool.false_ne_true)]
                    exact Nat.le_refl _
                  · rw [List.filter_cons_of_neg (by rw [c0]; exact Bool.false_ne_true)]
                    exact Nat.zero_le _
                omega
            | k + 3, hp, _ => simp at hp
        obtain ⟨v, rfl, v1, v2, v3⟩ := pv
        walk_at "g"
        refine w_ixL (SqL.of Dd.hp) (v := .int (v : Int)) (by rw [atI_pos (by omega) (by rw [List.length_map]; omega), Int.toNat_natCast, List.getElem?_map, hp] <;> rfl) ?_
        walk_at "g"
        refine ⟨sz_ok (by show 1 ≤ 1000000; omega), G.nw fun q He nq ke hq => ?_⟩
        walk_at "g"
        obtain ⟨q1, q2⟩ := bd.fr nq
        refine hN _ _ ⟨q, [v], none, _, _, _, _, rfl, ke, q1, q2, hq, by simp, by show 1 ≤ 60; omega, fun u hu => ?_, fun p' hp' u hu => ?_⟩
        · rw [List.mem_singleton] at hu
          rw [hu]
          exact ⟨v1, v2, v3⟩
        · rw [List.mem_singleton] at hu
          rw [hp] at hp'
          injection hp' with hp'
          rw [hu, hp']
      · walk_at "g"
        have first : N [some (.ref b), some (.int n), some (.ref e), some (.int (2 * (m : Int))), some (.int steps), some (.int keen), some (.ref pt), some (.ref w), some (.ref lg), some (.int y9), some (.int (k : Int)), some (.ref fr), some (.ref la), some (.ref ne_), some (.int tn), y15] Hd :=
          hN _ _ ⟨fr, fs, none, _, _, _, _, rfl, Kp.refl _ _, frb, frc, by rw [hfrd, e_fr], fsne, lfr, fall, fun p hp v _ => big c1 p hp v⟩
        have second : ∀ D2 : Ends, D2.nx = N → tIfS (tAnd (tTest (tOp rGtA (tVar 5) (tC (.int 0)))) (tAnd (tTest (tOp rGtA (tVar 14) (tC (.int 0)))) (tTest (tOp rGtA (tCB (rLenA K) (tCons (tVar 13) (tNil))) (tC (.int 0)))))) (tAsg (tVar 13) (gName 11)) (tNext) D2 [some (.ref b), some (.int n), some (.ref e), some (.int (2 * (m : Int))), some (.int steps), some (.int keen), some (.ref pt), some (.ref w), some (.ref lg), some (.int y9), some (.int (k : Int)), some (.ref fr), some (.ref la), some (.ref ne_), some (.int tn), y15] Hd := by
          intro D2 eD
          have hx : ∀ σ H', N σ H' → D2.nx σ H' := fun σ H' z => by rw [eD]; exact z
          walk_at "g"
          refine w_iteD (fun c2 => ?_) (fun c2 => ?_)
          · walk_at "g"
            refine w_iteD (fun c3 => ?_) (fun c3 => ?_)
            · walk_at "g"
              refine w_lenL (SqL.of hned) ?_
              walk_at "g"
              rw [List.length_map]
              refine w_iteD (fun c4 => ?_) (fun c4 => ?_)
              · walk_at "g"
                refine hx _ _ (hN _ _ ⟨ne_, _, none, _, _, _, _, rfl, Kp.refl _ _, neb, nec, hned, fun z => ?_, Nat.le_trans (List.length_filter_le _ _) lfr, filt _, fun p hp v _ => big c1 p hp v⟩)
                rw [z] at c4
                simp at c4
              · walk_at "g"
                exact hx _ _ first
            · walk_at "g"
              exact hx _ _ first
          · walk_at "g"
            exact hx _ _ first
        refine w_iteD (fun c2 => ?_) (fun c2 => ?_)
        · walk_at "g"
          refine w_iteD (fun c3 => ?_) (fun c3 => ?_)
          · walk_at "g"
            refine w_lenL (SqL.of hlad) ?_
            walk_at "g"
            rw [List.length_map]
            refine w_iteD (fun c4 => ?_) (fun c4 => ?_)
            · walk_at "g"
              refine hN _ _ ⟨la, _, none, _, _, _, _, rfl, Kp.refl _ _, lab, lac, hlad, fun z => ?_, Nat.le_trans (List.length_filter_le _ _) lfr, filt _, fun p hp v _ => big c1 p hp v⟩
              rw [z] at c4
              simp at c4
            · exact second _ rfl
          · exact second _ rfl
        · exact second _ rfl
    subst es
    have De := Dd.k0 ke
    walk_at "g"
    refine w_lenL (SqL.of hq) ?_
    walk_at "g"
    rw [List.length_map]
    have gpos : 0 < gs.length := List.length_pos_iff.mpr gne
    refine ⟨b, c, _, rfl, by omega, by omega, De.bx, fun ix Hf ix1 ix2 kf bf => ?_⟩
    have Df := De.kb lay kf bf
    have hqf : Hf q = _ := kf _ _ (by simp [qb, qc]) hq
    obtain ⟨v, hv⟩ : ∃ v, gs[ix.toNat]? = some v := ⟨_, List.getElem?_eq_getElem (by omega)⟩
    obtain ⟨v1, v2, v3⟩ := gall v (List.mem_of_getElem? hv)
    refine w_ixL (SqL.of hqf) (v := .int (v : Int)) (by rw [atI_pos ix1 (by rw [List.length_map]; omega), List.getElem?_map, hv] <;> rfl) ?_
    walk_at "g"
    obtain ⟨op, eop, na, ok, once, L2⟩ := L.go (v := v) (by omega) (by omega) v3 len120 hn
    refine ⟨w_ty (SqL.of Df.hg), ?_⟩
    walk_at "g"
    refine ⟨sz_ok (by show 2 ≤ 1000000; omega), G.nw fun t Hg nt kg ht => ?_⟩
    walk_at "g"
    have Dg := Df.k0 kg
    obtain ⟨G2, hG2, lG2, eG2, _, _⟩ := Dg.lb.hg
    refine w_ixL (SqL.of Dg.lb.ob) (i := 2) (v := .ref g) rfl ?_
    walk_at "g"
    refine w_ixL (SqL.of hG2) (at_I (by omega) (by omega)) ?_
    rw [Int.toNat_natCast, eG2 v (by omega) (by omega)]
    have ea : atI [V.int (-(v : Int)), V.int (v : Int)] (stgF ds v : Int) = some (.int op) := by
      rw [eop]
      have h01 : stgF ds v = 0 ∨ stgF ds v = 1 := by omega
      rcases h01 with h | h
      · rw [h, if_pos rfl] <;> rfl
      · rw [h, if_neg (by omega)] <;> rfl
    refine w_ixL (SqL.of ht) ea ?_
    walk_at "g"
    refine w_apT Dg.hg (sz_lt (by rw [List.length_map]; omega)) fun Hh kh hh => ?_
    obtain ⟨x1, x2, x3, x4, x5, x6, x7⟩ := lay.nb
    obtain ⟨z1, z2, z3, z4, z5, z6, z7⟩ := lay.nc
    obtain ⟨g1, g2, g3, g4, g5, g6⟩ := lay.ng
    have hh' : Hh lg = some (.lst ((ds ++ [op]).map V.int)) := by rw [hh, List.map_append] <;> rfl
    have lbh : LB Hh w l r g n ds := Dg.lb.kp kh (by simpa using g3) (by simpa using g4) (by simpa using g5) (by simpa using g6)
    have bh : BoxI Hh b c := Dg.bx.kp kh (by simpa using Ne.symm x7) (by simpa using Ne.symm z7)
    walk_at "g"
    refine w_ixL (SqL.of hh') (at_I (by omega) (by rw [List.length_append, lds]; show (k : Int) < ((k + 1 : Nat) : Int); omega)) ?_
    rw [Int.toNat_natCast, show gI (ds ++ [op]) k = op from gI_of (by rw [← lds, List.getElem?_append_right (Nat.le_refl _), Nat.sub_self] <;> rfl)]
    walk_at "g"
    refine ⟨w, l, r, g, n, ds, op, rfl, lbh, ok, once, fun Hi ki lbi => ?_⟩
    obtain ⟨nl1, nl2⟩ := lay.nl
    obtain ⟨nr1, nr2⟩ := lay.nr
    obtain ⟨ns1, ns2⟩ := lay.ns
    walk_at "g"
    refine ⟨⟨_, _, _, _, _, _, _, rfl⟩, ?_, ds ++ [op], ⟨bh.kp ki (by simp [Ne.symm x4, Ne.symm x5, Ne.symm x6]) (by simp [Ne.symm z4, Ne.symm z5, Ne.symm z6]), ki _ _ (by simp [nl1, nr1, ns1]) (kh.at1 g1 Dg.he), ki _ _ (by simp [nl2, nr2, ns2]) (kh.at1 g2 Dg.hp), lbi, ki _ _ (by simp [Ne.symm g4, Ne.symm g5, Ne.symm g6]) hh'⟩, L2, by rw [List.length_append, lds] <;> rfl, fun x hx => ?_, fun j x p hj hp => ?_⟩
    · have k9i : Kp [b, c, lg, l, r, g] H9 Hi := ((k9c.all.trans (kd.mono (by simp))).trans (ke.all.trans (kf.mono (by simp)))).trans (kg.all.trans ((kh.mono (by simp)).trans (ki.mono (by simp))))
      exact ((k9.mono (S' := [b, c, lg, l, r, g]) (by simp)).trans k9i).cut (by simp [f_lg, f_l, f_r, f_g])
    · rcases List.mem_append.mp hx with hx | hx
      · exact rds x hx
      · rw [List.mem_singleton] at hx
        rw [hx, na]
        exact ⟨v1, v2⟩
    · by_cases cj : j < ds.length
      · rw [List.getElem?_append_left cj] at hj
        exact pds j x p hj hp
      · have hl := (List.getElem?_eq_some_iff.mp hj).1
        rw [List.length_append] at hl
        have ej : j = ds.length := by simp at hl; omega
        subst ej
        rw [List.getElem?_append_right (Nat.le_refl _), Nat.sub_self] at hj
        have ex : op = x := by simpa using hj
        subst ex
        rw [na]
        rw [lds] at hp
        exact gps p hp v (List.mem_of_getElem? hv)
  · rintro σ' H9 ⟨⟨y9, y10, y11, y12, y13, y14, y15, rfl⟩, k9, ds, D, L, lds, rds, pds⟩
    walk_at "g"
    exact gk ds lg H9 L f_lg k9 D.bx D.hg
end
end G

set_option Elab.async false
set_option linter.all false
set_option maxRecDepth 100000
set_option maxHeartbeats 1000000
namespace G
--#FAM KG
open PySem PySem.Spec PyProof.Rows L2
local macro_rules
  | `(tactic| walk_at "1") => `(tactic| first
    | with_reducible refine w_seq ?_
    | with_reducible refine w_asg ?_
    | with_reducible refine w_asgS ?_
    | with_reducible refine w_asf ?_
    | with_reducible refine w_drop ?_
    | with_reducible refine w_ret ?_
    | with_reducible refine w_if ?_
    | with_reducible refine w_not ?_
    | with_reducible refine w_and ?_
    | with_reducible refine w_or ?_
    | with_reducible refine w_test ?_
    | with_reducible refine w_tb ?_
    | with_reducible refine w_chain ?_
    | with_reducible refine w_op ?_
    | with_reducible refine w_un ?_
    | with_reducible refine w_andV ?_
    | with_reducible refine w_orV ?_
    | with_reducible refine w_notV ?_
    | with_reducible refine w_ifE ?_
    | with_reducible refine w_cons ?_
    | with_reducible refine w_nil ?_
    | with_reducible refine w_cb ?_
    | with_reducible refine w_cl ?_
    | with_reducible refine w_mt ?_
    | with_reducible refine w_fld ?_
    | with_reducible refine w_tupN ?_
    | with_reducible refine w_lstN ?_
    | with_reducible refine w_bm ?_
    | with_reducible refine w_bm0 ?_
    | with_reducible refine w_for ?_
    | with_reducible refine w_lc ?_
    | with_reducible refine w_iR1 ?_
    | with_reducible refine w_iR2 ?_
    | with_reducible refine w_iL ?_
    | with_reducible refine w_iT ?_
    | with_reducible refine w_iE ?_
    | with_reducible refine w_iZ ?_
    | with_reducible refine w_var (by with_unfolding_all rfl) ?_
    | with_reducible refine w_c ?_
    | with_reducible refine w_next ?_
    | with_reducible refine w_i0 ?_
    | with_reducible refine w_u1 ?_
    | with_reducible refine w_addI ?_
    | with_reducible refine w_eqI ?_
    | with_reducible refine w_eqS ?_
    | with_reducible refine w_eqB ?_
    | with_reducible refine w_neI ?_
    | with_reducible refine w_neS ?_
    | with_reducible refine w_neB ?_
    | with_reducible refine w_abs ?_
    | with_reducible refine w_intI ?_
    | with_reducible refine w_min2 ?_
    | with_reducible refine w_max2 ?_
    | with_reducible refine w_isN0 ?_
    | with_reducible refine w_isN1 ref_ne ?_
    | with_reducible refine w_isN1 int_ne ?_
    | with_reducible refine w_notN0 ?_
    | with_reducible refine w_notN1 ref_ne ?_
    | with_reducible refine w_notN1 int_ne ?_
    | with_reducible refine w_ex1 ?_
    | with_reducible refine w_n1 ?_
    | with_reducible refine w_n2 ?_
    | with_reducible refine w_tT ?_
    | with_reducible refine w_tF ?_
    | with_reducible refine w_nT ?_
    | with_reducible refine w_nF ?_
    | with_reducible refine w_rz ?_
    | with_reducible refine w_mkN ?_
    | with_reducible refine w_lrgN ?_
    | with_reducible refine w_rg1 ?_
    | with_reducible refine w_rg2 ?_
    | with_reducible refine w_sl ?_
    | with_reducible refine w_np ?_
    | with_reducible refine w_pt ?_
    | with_reducible refine w_tr ?_
    | with_reducible refine w_gn ?_
    | with_reducible refine w_yes ?_
    | with_reducible refine w_m1 ?_
    | with_reducible refine w_asu ?_
    | with_reducible refine w_exS ?_
    | with_reducible refine w_iS ?_
    | with_reducible refine w_g1 ?_
    | with_reducible refine w_gc ?_
    | with_reducible refine w_gt (SqT.of upd_same) rfl ?_)
local macro_rules
  | `(tactic| walk_at "g") => `(tactic| repeat walk_at "1")
local macro_rules
  | `(tactic| walk_at "j1") => `(tactic| first
    | with_reducible refine w_seqI ?_
    | walk_at "1")
local macro_rules
  | `(tactic| walk_at "j") => `(tactic| repeat walk_at "j1")
section
variable {K : PySem.W.Frag} {mg : Str → Option Value}
theorem w_isiI {H : Hp} {Q : VK} {i : Int} {t : String} {r : Bool} (h : kitB "int" t = some r) (g : Q (.bl r) H) : rIsi K [.int i, .ty t] H Q := ⟨_, _, _, _, r, rfl, .ty t, .base (.int i), kit_ty h, g⟩
theorem w_isiL {H : Hp} {Q : VK} {a : Addr} {xs : List V} {t : String} {r : Bool} (e : H a = some (.lst xs)) (h : kitB "list" t = some r) (g : Q (.bl r) H) : rIsi K [.ref a, .ty t] H Q := ⟨_, _, _, _, r, rfl, .ty t, .base (.lst e), kit_ty h, g⟩
theorem w_isiT {H : Hp} {Q : VK} {a : Addr} {xs : List V} {t : String} {r : Bool} (e : H a = some (.tup xs)) (h : kitB "tuple" t = some r) (g : Q (.bl r) H) : rIsi K [.ref a, .ty t] H Q := ⟨_, _, _, _, r, rfl, .ty t, .base (.tup e), kit_ty h, g⟩
theorem len__law_integer (K : PySem.W.Frag) : ∀ vs H Q E, sp__law_integer K vs H Q E → vs.length = (["told"] : List Str).length := by
  rintro vs H Q E ⟨_, rfl, _⟩
  rfl
theorem rd__law_integer (T : Txt K mg) (vs : List V) (H : Hp) (Q : VK) (E : XK) (h : sp__law_integer K vs H Q E) : t__law_integer K E { nx := fun _ H' => Q .non H', rt := Q } (start ["told"] vs) H := by
  obtain ⟨i, rfl, g⟩ := h
  unfold t__law_integer
  walk_at "g"
  refine w_isiI (r := true) (by decide +kernel) ?_
  walk_at "g"
  refine w_isiI (r := false) (by decide +kernel) ?_
  walk_at "g"
  exact g
theorem len__law_row (K : PySem.W.Frag) : ∀ vs H Q E, sp__law_row K vs H Q E → vs.length = (["told", "due"] : List Str).length := by
  rintro vs H Q E ⟨_, _, _, rfl, _⟩
  rfl
theorem rd__law_row (T : Txt K mg) (vs : List V) (H : Hp) (Q : VK) (E : XK) (h : sp__law_row K vs H Q E) : t__law_row K E { nx := fun _ H' => Q .non H', rt := Q } (start ["told", "due", "k"] vs) H := by
  obtain ⟨a, b, xs, rfl, hl, ha, hb, g⟩ := h
  unfold t__law_row
  walk_at "g"
  refine w_isiL (r := true) ha (by decide +kernel) ?_
  walk_at "g"
  refine w_lenL (SqL.of ha) ?_
  walk_at "g"
  refine w_lenL (SqL.of hb) ?_
  walk_at "g"
  rw [decide_eq_true rfl]
  walk_at "g"
  refine w_lenL (SqL.of hb) ?_
  walk_at "g"
  refine w_r1 (by rw [List.length_map]; omega) ?_
  refine lp_rng0 (fun i σ H' => H' = H ∧ ∃ v, σ = [some (.ref a), some (.ref b), v]) ⟨rfl, _, rfl⟩ ?_ ?_
  · rintro i σ' H' hi ⟨rfl, v, rfl⟩
    rw [List.length_map] at hi
    have li : i < xs.length := by omega
    have e1 := at_I (l := xs) (i := (i : Int)) (by omega) (by omega)
    walk_at "g"
    refine w_ixL (SqL.of ha) e1 ?_
    walk_at "g"
    refine ⟨_, rfl, ?_⟩
    walk_at "g"
    refine w_ixL (SqL.of ha) e1 ?_
    walk_at "g"
    refine w_ixL (SqL.of hb) e1 ?_
    walk_at "g"
    rw [decide_eq_true rfl]
    walk_at "g"
    exact ⟨rfl, _, rfl⟩
  · rintro σ' H' ⟨rfl, v, rfl⟩
    walk_at "g"
    exact g
theorem len__law_pairs (K : PySem.W.Frag) : ∀ vs H Q E, sp__law_pairs K vs H Q E → vs.length = (["told", "due"] : List Str).length := by
  rintro vs H Q E ⟨_, _, _, _, _, rfl, _⟩
  rfl
theorem rd__law_pairs (T : Txt K mg) (vs : List V) (H : Hp) (Q : VK) (E : XK) (h : sp__law_pairs K vs H Q E) : t__law_pairs K E { nx := fun _ H' => Q .non H', rt := Q } (start ["told", "due", "k"] vs) H := by
  obtain ⟨a, b, xs, ys, es, rfl, hl, ha, hb, pa, pb, g⟩ := h
  unfold t__law_pairs
  walk_at "g"
  refine w_isiL (r := true) ha (by decide +kernel) ?_
  walk_at "g"
  refine w_lenL (SqL.of ha) ?_
  walk_at "g"
  refine w_lenL (SqL.of hb) ?_
  walk_at "g"
  rw [pa.1, pb.1, decide_eq_true rfl]
  walk_at "g"
  refine w_lenL (SqL.of hb) ?_
  walk_at "g"
  rw [pb.1]
  refine w_r1 (by omega) ?_
  refine lp_rng0 (fun i σ H' => Kp [] H H' ∧ ∃ v, σ = [some (.ref a), some (.ref b), v]) ⟨Kp.refl _ _, _, rfl⟩ ?_ ?_
  · rintro i σ' H' hi ⟨k, v, rfl⟩
    obtain ⟨e, he⟩ : ∃ e, es[i]? = some e := ⟨_, List.getElem?_eq_getElem (by omega)⟩
    obtain ⟨t, ht, h1⟩ := pa.2 i e he
    obtain ⟨t', ht', h2⟩ := pb.2 i e he
    have ea : atI xs (i : Int) = some (.ref t) := by
      rw [atI_pos (by omega) (by rw [pa.1]; omega), Int.toNat_natCast]
      exact ht
    have eb : atI ys (i : Int) = some (.ref t') := by
      rw [atI_pos (by omega) (by rw [pb.1]; omega), Int.toNat_natCast]
      exact ht'
    walk_at "g"
    refine w_ixL (SqL.of (k.at0 ha)) ea ?_
    walk_at "g"
    refine w_isiT (r := true) (k.at0 h1) (by decide +kernel) ?_
    walk_at "g"
    refine w_ixL (SqL.of (k.at0 ha)) ea ?_
    walk_at "g"
    refine w_listTN (SqT.of (k.at0 h1)) fun l1 H2 n1 k2 e1 => ?_
    walk_at "g"
    refine w_ixL (SqL.of (k2.at0 (k.at0 hb))) eb ?_
    walk_at "g"
    refine w_listTN (SqT.of (k2.at0 (k.at0 h2))) fun l2 H3 n2 k3 e2 => ?_
    walk_at "g"
    refine ⟨l1, l2, [e.1, e.2], rfl, by show 2 ≤ 1000; omega, k3.at0 e1, e2, ?_⟩
    walk_at "g"
    exact ⟨(k.trans k2).trans k3, _, rfl⟩
  · rintro σ' H' ⟨k, v, rfl⟩
    walk_at "g"
    exact g H' k
theorem opsV_len (v : Nat) (log : List Int) : (opsV v log).length ≤ log.length := List.length_filter_le _ _
theorem len__law_illegal (K : PySem.W.Frag) : ∀ vs H Q E, sp__law_illegal K vs H Q E → vs.length = (["box", "size", "log"] : List Str).length := by
  rintro vs H Q E ⟨_, _, _, _, _, rfl, _⟩
  rfl
theorem rd__law_illegal (T : Txt K mg) (vs : List V) (H : Hp) (Q : VK) (E : XK) (h : sp__law_illegal K vs H Q E) : t__law_illegal K E { nx := fun _ H' => Q .non H', rt := Q } (start ["box", "size", "log", "node", "x"] vs) H := by
  obtain ⟨b, c, a, n, log, rfl, n1, n60, bx, ab, ac, ha, hl, al, g⟩ := h
  unfold t__law_illegal
  walk_at "g"
  refine ⟨b, c, _, rfl, by omega, by omega, bx, fun d H1 d1 d2 k1 b1 => ?_⟩
  have ha1 : H1 a = _ := k1 _ _ (by simp [ab, ac]) ha
  obtain ⟨v, ev⟩ : ∃ v : Nat, 1 + d = (v : Int) := ⟨(1 + d).toNat, by omega⟩
  walk_at "g"
  rw [ev]
  refine w_l1 (SqL.of ha1) ?_
  refine cp_lst (SqL.of ha1) (fun j => (opsV v (log.take j)).map V.int) (fun j hj => sz_lt (by
    rw [List.length_map] at hj
    rw [List.length_map]
    have := opsV_len v (log.take j)
    rw [List.length_take] at this
    omega)) rfl (fun j x H' S N hx k yes no => ?_) (fun D H2 nD k2 hD => ?_)
  · obtain ⟨op, hop, rfl⟩ := at_map hx
    walk_at "g"
    refine ⟨rfl, ?_⟩
    walk_at "g"
    rw [natAbs_if]
    refine w_iteD (fun cc => ?_) (fun cc => ?_)
    · walk_at "g"
      refine yes _ _ (Kp.refl _ _) ?_
      rw [take_snoc hop, opsV_snoc, if_pos (by omega), List.map_append] <;> rfl
    · refine no _ (Kp.refl _ _) ?_
      rw [take_snoc hop, opsV_snoc, if_neg (by omega), List.append_nil]
  rw [List.length_map, List.take_length] at hD
  walk_at "g"
  refine w_lenL (SqL.of hD) ?_
  walk_at "g"
  refine w_ic (by omega) ?_
  walk_at "g"
  rw [List.length_map]
  have par := alt_par al v (by omega)
  have k02 := k1.trans k2.all
  refine w_iteD (fun cc => ?_) (fun cc => ?_)
  · walk_at "g"
    refine g _ H2 ⟨by omega, by omega⟩ (fun z => ?_) k02 (b1.k0 k2)
    rw [show (-(v : Int)).natAbs = v by omega, par, decide_eq_true (by omega), decide_eq_false (by omega)] at z
    cases z
  · walk_at "g"
    refine g _ H2 ⟨by omega, by omega⟩ (fun z => ?_) k02 (b1.k0 k2)
    rw [show ((v : Int)).natAbs = v by omega, par, decide_eq_false (by omega), decide_eq_true (by omega)] at z
    cases z
theorem len__law_ask (K : PySem.W.Frag) : ∀ vs H Q E, sp__law_ask K vs H Q E → vs.length = (["way", "size", "log"] : List Str).length := by
  rintro vs H Q E ⟨_, _, _, _, rfl, _⟩
  rfl
theorem rd__law_ask (T : Txt K mg) (vs : List V) (H : Hp) (Q : VK) (E : XK) (h : sp__law_ask K vs H Q E) : t__law_ask K E { nx := fun _ H' => Q .non H', rt := Q } (start ["way", "size", "log"] vs) H := by
  obtain ⟨a, way, size, log, rfl, hs, hlen, oe, g⟩ := h
  unfold t__law_ask
  walk_at "g"
  refine w_iteD (fun c1 => ?_) (fun c1 => ?_)
  · walk_at "g"
    refine ⟨a, size, log, rfl, hs, hlen, oe, fun ok le oo xs q H' nq k hq pp => ?_⟩
    walk_at "g"
    exact g ok le oo H' k
  walk_at "g"
  refine w_iteD (fun c2 => ?_) (fun c2 => ?_)
  · walk_at "g"
    refine ⟨a, size, log, rfl, hs, hlen, oe, fun ok le oo H' k => ?_⟩
    walk_at "g"
    exact g ok le oo H' k
  · walk_at "g"
    refine ⟨a, size, log, rfl, hs, hlen, oe, fun ok le oo q H' nq k hq => ?_⟩
    walk_at "g"
    exact g ok le oo H' k
end
end G

set_option Elab.async false
set_option linter.all false
set_option maxRecDepth 100000
set_option maxHeartbeats 1000000
namespace G
--#FAM KG
open PySem PySem.Spec PyProof.Rows L2
local macro_rules
  | `(tactic| walk_at "1") => `(tactic| first
    | with_reducible refine w_seq ?_
    | with_reducible refine w_asg ?_
    | with_reducible refine w_asgS ?_
    | with_reducible refine w_asf ?_
    | with_reducible refine w_drop ?_
    | with_reducible refine w_ret ?_
    | with_reducible refine w_if ?_
    | with_reducible refine w_not ?_
    | with_reducible refine w_and ?_
    | with_reducible refine w_or ?_
    | with_reducible refine w_test ?_
    | with_reducible refine w_tb ?_
    | with_reducible refine w_chain ?_
    | with_reducible refine w_op ?_
    | with_reducible refine w_un ?_
    | with_reducible refine w_andV ?_
    | with_reducible refine w_orV ?_
    | with_reducible refine w_notV ?_
    | with_reducible refine w_ifE ?_
    | with_reducible refine w_cons ?_
    | with_reducible refine w_nil ?_
    | with_reducible refine w_cb ?_
    | with_reducible refine w_cl ?_
    | with_reducible refine w_mt ?_
    | with_reducible refine w_fld ?_
    | with_reducible refine w_tupN ?_
    | with_reducible refine w_lstN ?_
    | with_reducible refine w_bm ?_
    | with_reducible refine w_bm0 ?_
    | with_reducible refine w_for ?_
    | with_reducible refine w_lc ?_
    | with_reducible refine w_iR1 ?_
    | with_reducible refine w_iR2 ?_
    | with_reducible refine w_iL ?_
    | with_reducible refine w_iT ?_
    | with_reducible refine w_iE ?_
    | with_reducible refine w_iZ ?_
    | with_reducible refine w_var (by with_unfolding_all rfl) ?_
    | with_reducible refine w_c ?_
    | with_reducible refine w_next ?_
    | with_reducible refine w_i0 ?_
    | with_reducible refine w_u1 ?_
    | with_reducible refine w_addI ?_
    | with_reducible refine w_eqI ?_
    | with_reducible refine w_eqS ?_
    | with_reducible refine w_eqB ?_
    | with_reducible refine w_neI ?_
    | with_reducible refine w_neS ?_
    | with_reducible refine w_neB ?_
    | with_reducible refine w_abs ?_
    | with_reducible refine w_intI ?_
    | with_reducible refine w_min2 ?_
    | with_reducible refine w_max2 ?_
    | with_reducible refine w_isN0 ?_
    | with_reducible refine w_isN1 ref_ne ?_
    | with_reducible refine w_isN1 int_ne ?_
    | with_reducible refine w_notN0 ?_
    | with_reducible refine w_notN1 ref_ne ?_
    | with_reducible refine w_notN1 int_ne ?_
    | with_reducible refine w_ex1 ?_
    | with_reducible refine w_n1 ?_
    | with_reducible refine w_n2 ?_
    | with_reducible refine w_tT ?_
    | with_reducible refine w_tF ?_
    | with_reducible refine w_nT ?_
    | with_reducible refine w_nF ?_
    | with_reducible refine w_rz ?_
    | with_reducible refine w_mkN ?_
    | with_reducible refine w_lrgN ?_
    | with_reducible refine w_rg1 ?_
    | with_reducible refine w_rg2 ?_
    | with_reducible refine w_sl ?_
    | with_reducible refine w_np ?_
    | with_reducible refine w_pt ?_
    | with_reducible refine w_tr ?_
    | with_reducible refine w_gn ?_
    | with_reducible refine w_yes ?_
    | with_reducible refine w_m1 ?_
    | with_reducible refine w_asu ?_
    | with_reducible refine w_exS ?_
    | with_reducible refine w_iS ?_
    | with_reducible refine w_g1 ?_
    | with_reducible refine w_gc ?_
    | with_reducible refine w_gt (SqT.of upd_same) rfl ?_)
local macro_rules
  | `(tactic| walk_at "g") => `(tactic| repeat walk_at "1")
local macro_rules
  | `(tactic| walk_at "j1") => `(tactic| first
    | with_reducible refine w_seqI ?_
    | walk_at "1")
local macro_rules
  | `(tactic| walk_at "j") => `(tactic| repeat walk_at "j1")
section
variable {K : PySem.W.Frag} {mg : Str → Option Value}
theorem next_iff {n : Nat} {log : List Int} (hn : n ≤ 60) (L : LgO n log) {v : Nat} (hv : 1 ≤ v) : nextB (runS (wholeS n) log) log v = true ↔ stgF log v < 2 ∧ (lateL (runS (wholeS n) log) log v).length = 0 := by
  have I := nodeI L.alt L.one v hv
  have b := stgF_le log v
  unfold nextB
  rw [Bool.and_eq_true, decide_eq_true_iff, ← List.length_eq_zero_iff, run_out hn log L.ops v, stg_out]
  refine and_congr_left fun _ => ?_
  rw [Bool.or_eq_true, decide_eq_true_iff, decide_eq_true_iff]
  constructor
  · rintro (z | z)
    · omega
    · have : stgF log v ≠ 2 := fun y => z (I.s2 y).2
      omega
  · intro z
    by_cases c : stgF log v = 1
    · exact .inl c
    · exact .inr (I.s0 (by omega)).2
theorem next_val {n : Nat} {log : List Int} (hn : n ≤ 60) (L : LgO n log) {v : Nat} (hs : stgF log v < 2) : atI [V.int (-(v : Int)), V.int (v : Int)] (stgF log v : Int) = some (.int (if gB (runS (wholeS n) log).O v then (v : Int) else -(v : Int))) := by
  rw [run_out hn log L.ops v, stg_out]
  have h01 : stgF log v = 0 ∨ stgF log v = 1 := by omega
  rcases h01 with h | h
  · rw [h] <;> rfl
  · rw [h] <;> rfl
theorem outN_nil {n : Nat} {O : List Bool} : outN n O = [] ↔ ∀ v, 1 ≤ v → v ≤ n → ¬ gB O v = true := by
  unfold outN
  rw [List.map_eq_nil_iff, List.filter_eq_nil_iff]
  constructor
  · intro h v h1 h2
    exact h v (List.mem_map.mpr ⟨v - 1, List.mem_range.mpr (by omega), by omega⟩)
  · intro h v hv
    obtain ⟨u, hu, rfl⟩ := List.mem_map.mp hv
    have := List.mem_range.mp hu
    exact h _ (by omega) (by omega)
theorem one_in {n : Nat} {log : List Int} (hn : n ≤ 60) (L : LgO n log) {G' : List Int} (lG : G'.length = n + 2) (eG : ∀ v, 1 ≤ v → v ≤ n → gI G' v = (stgF log v : Int)) (g0 : gI G' 0 = 0) (g1 : gI G' (n + 1) = 0) : (!decide ((1 : Int) ∈ G')) = decide (outN n (runS (wholeS n) log).O = []) := by
  have e : (1 : Int) ∈ G' ↔ ¬ outN n (runS (wholeS n) log).O = [] := by
    constructor
    · intro h z
      obtain ⟨i, hi⟩ := List.mem_iff_getElem?.mp h
      have li := (List.getElem?_eq_some_iff.mp hi).1
      have gi := gI_of hi
      have i0 : i ≠ 0 := fun z => by rw [z, g0] at gi; omega
      have i1 : i ≠ n + 1 := fun z => by rw [z, g1] at gi; omega
      have := outN_nil.mp z i (by omega) (by omega)
      rw [run_out hn log L.ops, stg_out, decide_eq_true_iff] at this
      have := eG i (by omega) (by omega)
      omega
    · intro h
      apply Classical.byContradiction
      intro z
      refine h (outN_nil.mpr fun v v1 v2 => ?_)
      rw [run_out hn log L.ops, stg_out, decide_eq_true_iff]
      intro y
      refine z (List.mem_iff_getElem?.mpr ⟨v, ?_⟩)
      rw [gI_at (by omega), eG v v1 v2, y] <;> rfl
  by_cases c : (1 : Int) ∈ G'
  · rw [decide_eq_true c, decide_eq_false (e.mp c)] <;> rfl
  · rw [decide_eq_false c, decide_eq_true (Classical.not_not.mp fun z => c (e.mpr z))] <;> rfl
theorem len__law_due (K : PySem.W.Frag) : ∀ vs H Q E, sp22__law_due K vs H Q E → vs.length = (["size", "log"] : List Str).length := by
  rintro vs H Q E ⟨_, _, _, rfl, _⟩
  rfl
theorem rd__law_due (T : Txt K mg) (vs : List V) (H : Hp) (Q : VK) (E : XK) (h : sp22__law_due K vs H Q E) : t__law_due K E { nx := fun _ H' => Q .non H', rt := Q } (start ["size", "log", "book", "pairs", "k", "gap", "going", "node"] vs) H := by
  obtain ⟨a, n, log, rfl, hn, ha, L, g⟩ := h
  unfold t__law_due
  have le := leg_of hn L.ops L.alt
  have len := L.len
  walk_at "g"
  refine ⟨n, rfl, hn, fun w l r sg H1 nw nl nr ns k1 lb => ?_⟩
  walk_at "g"
  refine ⟨sz_ok (Nat.zero_le _), G.nw fun u H2 nu k2 hu => ?_⟩
  have lb2 := lb.k0 k2
  have k12 := k1.trans k2
  have fu : H u = none := k1.free0 nu
  have wu : w ≠ u := ne_of_none lb.ob nu
  have lu : l ≠ u := by
    obtain ⟨_, h, _⟩ := lb.hl
    exact ne_of_none h nu
  have ru : r ≠ u := by
    obtain ⟨_, h, _⟩ := lb.hr
    exact ne_of_none h nu
  have su : sg ≠ u := by
    obtain ⟨_, h, _⟩ := lb.hg
    exact ne_of_none h nu
  have au : a ≠ u := ne_of_none (k1.at0 ha) nu
  have tup_ne : ∀ (H' : Hp) (q : Addr) (ys : List V), H' q = some (.lst ys) → ∀ zs, H' q ≠ some (.tup zs) := by
    intro H' q ys h zs z
    rw [h] at z
    cases z
  walk_at "g"
  refine w_lenL (SqL.of (k12.at0 ha)) ?_
  walk_at "g"
  rw [List.length_map]
  refine w_r1 (by omega) ?_
  refine lp_rng0 (fun i σ H' => (∃ x4 x5 x6 x7, σ = [some (.int n), some (.ref a), some (.ref w), some (.ref u), x4, x5, x6, x7]) ∧ Kp [] H H' ∧ LB H' w l r sg n (log.take i) ∧ ∃ xs, H' u = some (.lst xs) ∧ PPs H' xs (lateWi n log i))
    ⟨⟨_, _, _, _, rfl⟩, k12, by rw [List.take_zero]; exact lb2, [], hu, PPs.nil⟩ ?_ ?_
  · rintro i σ' H3 hi ⟨⟨x4, x5, x6, x7, rfl⟩, k3, lb3, xs, hu3, px⟩
    obtain ⟨op, hop⟩ : ∃ op, log[i]? = some op := ⟨_, List.getElem?_eq_getElem hi⟩
    have eop : gI log i = op := gI_of hop
    have iop := L.ops op (List.mem_of_getElem? hop)
    have ha3 := k3.at0 ha
    walk_at "g"
    refine w_ixL (SqL.of ha3) (at_I (by omega) (by omega)) ?_
    rw [Int.toNat_natCast, eop]
    walk_at "g"
    rw [natAbs_if]
    refine ⟨w, l, r, sg, n, op.natAbs, log.take i, rfl, lb3, iop.1, iop.2, fun q H4 nq k4 hq => ?_⟩
    have ll := lateL_len (runS (wholeS n) (log.take i)) (log.take i) op.natAbs
    walk_at "g"
    refine w_l1 (SqL.of hq) ?_
    generalize eL : lateL (runS (wholeS n) (log.take i)) (log.take i) op.natAbs = gs at hq ll
    have uq : u ≠ q := ne_of_none hu3 nq
    have lw := lateWi_len n log i
    refine lp_lst (xs := gs.map V.int) (fun j σ H' => (∃ x5 x6 x7, σ = [some (.int n), some (.ref a), some (.ref w), some (.ref u), some (.int (i : Int)), x5, x6, x7]) ∧ Kp [u] H4 H' ∧ ∃ ys, H' u = some (.lst ys) ∧ PPs H' ys (lateWi n log i ++ (gs.take j).map fun g => ((i : Int), g)))
      ⟨⟨_, _, _, rfl⟩, Kp.refl _ _, xs, k4.at0 hu3, by rw [List.take_zero, List.map_nil, List.append_nil]; exact px.k0 k4⟩ ?_ ?_ ?_
    · rintro j σ' H' hj ⟨_, k, _⟩
      exact SqL.of (k.at1 (Ne.symm uq) hq)
    · rintro j x σ' H5 hx ⟨⟨x5, x6, x7, rfl⟩, k5, ys, hy, py⟩
      obtain ⟨gv, hg, rfl⟩ := at_map hx
      have lj := (List.getElem?_eq_some_iff.mp hg).1
      walk_at "g"
      refine ⟨w_ty (SqL.of hy), ?_⟩
      walk_at "g"
      refine ⟨sz_ok (by show 2 ≤ 1000000; omega), G.nw fun t H6 nt k6 ht => ?_⟩
      walk_at "g"
      refine w_apT (k6.at0 hy) (sz_lt (by rw [py.1, List.length_append, List.length_map, List.length_take]; omega)) fun H7 k7 h7 => ?_
      walk_at "g"
      refine ⟨⟨_, _, _, rfl⟩, k5.trans (k6.all.trans k7), _, h7, ?_⟩
      rw [take_snoc hg, List.map_append, ← List.append_assoc]
      refine ((py.k0 k6).app (PPs.one (t := ((i : Int), gv)) ht)).kp k7 fun b hb zs e => ?_
      rw [List.mem_singleton] at hb
      subst hb
      exact tup_ne _ _ _ (k6.at0 hy) zs e
    · rintro σ' H5 ⟨⟨x5, x6, x7, rfl⟩, k5, ys, hy, py⟩
      rw [List.length_map, List.take_length] at py
      have ha5 := k5.at1 au (k4.at0 ha3)
      have lb5 : LB H5 w l r sg n (log.take i) := (lb3.k0 k4).kp k5 (by simpa using wu) (by simpa using lu) (by simpa using ru) (by simpa using su)
      walk_at "g"
      refine w_ixL (SqL.of ha5) (at_I (by omega) (by omega)) ?_
      rw [Int.toNat_natCast, eop]
      walk_at "g"
      refine ⟨w, l, r, sg, n, log.take i, op, rfl, lb5, le i op hop, L.one i op hop, fun H6 k6 lb6 => ?_⟩
      walk_at "g"
      refine ⟨⟨_, _, _, _, rfl⟩, ?_, by rw [take_snoc hop]; exact lb6, ys, k6 _ _ (by simp [Ne.symm lu, Ne.symm ru, Ne.symm su]) hy, ?_⟩
      · exact (k3.trans k4).all.trans ((k5.mono (S' := [u, l, r, sg]) (by simp)).trans (k6.mono (by simp))) |>.cut (by simp [fu, nl, nr, ns])
      · rw [lateWi_snoc, eop]
        unfold lateAt
        rw [eL]
        refine py.kp k6 fun b hb zs e => ?_
        obtain ⟨_, hl5, _⟩ := lb5.hl
        obtain ⟨_, hr5, _⟩ := lb5.hr
        obtain ⟨_, hg5, _⟩ := lb5.hg
        simp only [List.mem_cons, List.not_mem_nil, or_false] at hb
        rcases hb with rfl | rfl | rfl
        · exact tup_ne _ _ _ hl5 zs e
        · exact tup_ne _ _ _ hr5 zs e
        · exact tup_ne _ _ _ hg5 zs e
  · rintro σ' H3 ⟨⟨x4, x5, x6, x7, rfl⟩, k3, lb3, xs, hu3, px⟩
    rw [Int.toNat_natCast, List.take_length] at lb3
    rw [Int.toNat_natCast] at px
    have px' : PPs H3 xs (lateW n log) := px
    walk_at "g"
    refine ⟨sz_ok (Nat.zero_le _), G.nw fun p H4 np k4 hp => ?_⟩
    have lb4 := lb3.k0 k4
    have sn : (runS (wholeS n) log).n = n := by rw [runS_n] <;> rfl
    walk_at "g"
    refine w_r2 (by omega) ?_
    rw [show ((n : Int) + 1 - 1).toNat = n by omega]
    have pw : w ≠ p := ne_of_none lb3.ob np
    have pl : l ≠ p := by
      obtain ⟨_, h, _⟩ := lb3.hl
      exact ne_of_none h np
    have pr : r ≠ p := by
      obtain ⟨_, h, _⟩ := lb3.hr
      exact ne_of_none h np
    have ps : sg ≠ p := by
      obtain ⟨_, h, _⟩ := lb3.hg
      exact ne_of_none h np
    refine lp_rng (fun i σ H' => (∃ x4 x5 x7, σ = [some (.int n), some (.ref a), some (.ref w), some (.ref u), x4, x5, some (.ref p), x7]) ∧ Kp [p] H4 H' ∧ H' p = some (.lst (((((List.range i).map fun (v : Nat) => v + 1).filter fun v => nextB (runS (wholeS n) log) log v).map fun v => if gB (runS (wholeS n) log).O v then (v : Int) else -(v : Int)).map V.int))) ⟨⟨_, _, _, rfl⟩, Kp.refl _ _, hp⟩ ?_ ?_
    · rintro i σ' H5 hi ⟨⟨x4, x5, x7, rfl⟩, k5, hp5⟩
      have lb5 : LB H5 w l r sg n log := lb4.kp k5 (by simpa using pw) (by simpa using pl) (by simpa using pr) (by simpa using ps)
      obtain ⟨G', hG, lG, eG, eG0, eG1⟩ := lb5.hg
      have ei : (1 : Int) + (i : Int) = ((i + 1 : Nat) : Int) := by omega
      have nx := next_iff hn L (v := i + 1) (by omega)
      have sv := eG (i + 1) (by omega) (by omega)
      walk_at "g"
      rw [ei]
      refine w_ixL (SqL.of lb5.ob) (i := 2) (v := .ref sg) rfl ?_
      walk_at "g"
      refine w_ixL (SqL.of hG) (at_I (by omega) (by omega)) ?_
      rw [Int.toNat_natCast, sv]
      walk_at "g"
      have nop : ∀ H', Kp [] H5 H' → ¬ nextB (runS (wholeS n) log) log (i + 1) = true → H' p = some (.lst (((((List.range (i + 1)).map fun (v : Nat) => v + 1).filter fun v => nextB (runS (wholeS n) log) log v).map fun v => if gB (runS (wholeS n) log).O v then (v : Int) else -(v : Int)).map V.int)) := by
        intro H' k z
        rw [nextN_snoc (runS (wholeS n) log) log, if_neg z, List.append_nil]
        exact k.at0 hp5
      refine w_iteD (fun c1 => ?_) (fun c1 => ?_)
      · walk_at "g"
        refine ⟨w, l, r, sg, n, i + 1, log, rfl, lb5, by omega, by omega, fun q H6 nq k6 hq => ?_⟩
        walk_at "g"
        refine w_lenL (SqL.of hq) ?_
        walk_at "g"
        rw [List.length_map]
        refine w_iteD (fun c2 => ?_) (fun c2 => ?_)
        · walk_at "g"
          refine ⟨w_ty (SqL.of (k6.at0 hp5)), ?_⟩
          walk_at "g"
          refine ⟨sz_ok (by show 2 ≤ 1000000; omega), G.nw fun t H7 nt k7 ht => ?_⟩
          walk_at "g"
          have k67 := k6.trans k7
          refine w_ixL (SqL.of (k67.at0 lb5.ob)) (i := 2) (v := .ref sg) rfl ?_
          walk_at "g"
          refine w_ixL (SqL.of (k67.at0 hG)) (at_I (by omega) (by omega)) ?_
          rw [Int.toNat_natCast, sv]
          refine w_ixL (SqL.of ht) (next_val hn L (by omega)) ?_
          walk_at "g"
          refine w_apT (k67.at0 hp5) (sz_lt (by
            rw [List.length_map, List.length_map]
            have := List.length_filter_le (fun v => nextB (runS (wholeS n) log) log v) ((List.range i).map fun (v : Nat) => v + 1)
            rw [List.length_map, List.length_range] at this
            omega)) fun H8 k8 h8 => ?_
          walk_at "g"
          refine ⟨⟨_, _, _, rfl⟩, k5.trans (k67.all.trans k8), ?_⟩
          rw [h8, nextN_snoc (runS (wholeS n) log) log, if_pos (nx.mpr ⟨by omega, by omega⟩), List.map_append, List.map_append] <;> rfl
        · walk_at "g"
          exact ⟨⟨_, _, _, rfl⟩, k5.trans k6.all, nop H6 k6 fun z => by have := (nx.mp z).2; omega⟩
      · walk_at "g"
        exact ⟨⟨_, _, _, rfl⟩, k5, nop H5 (Kp.refl _ _) fun z => by have := (nx.mp z).1; omega⟩
    · rintro σ' H5 ⟨⟨x4, x5, x7, rfl⟩, k5, hp5⟩
      have lb5 : LB H5 w l r sg n log := lb4.kp k5 (by simpa using pw) (by simpa using pl) (by simpa using pr) (by simpa using ps)
      obtain ⟨G', hG, lG, eG, eG0, eG1⟩ := lb5.hg
      have fp : H p = none := k3.free0 np
      have up : u ≠ p := ne_of_none hu3 np
      walk_at "g"
      refine w_ixL (SqL.of lb5.ob) (i := 2) (v := .ref sg) rfl ?_
      walk_at "g"
      refine w_inL (SqL.of hG) rfl (flatI _) ?_
      rw [if_pos rfl, inI, one_in hn L lG eG eG0 eG1]
      walk_at "g"
      refine ⟨sz_ok (by show 3 ≤ 1000000; omega), G.nw fun q H6 nq k6 hq => ?_⟩
      have k06 : Kp [] H H6 := (((k3.trans k4).all.trans k5).trans k6.all).cut1 fp
      have hpp : H6 p = some (.lst ((nextL (runS (wholeS n) log) log).map V.int)) := by
        unfold nextL
        rw [sn]
        exact k6.at0 hp5
      refine g q u p xs H6 k06 hq (k6.at0 (k5.at1 up (k4.at0 hu3))) (((px'.k0 k4).kp k5 fun b hb zs e => ?_).k0 k6) hpp
      rw [List.mem_singleton] at hb
      subst hb
      exact tup_ne _ _ _ hp zs e
end
end G

set_option Elab.async false
set_option linter.all false
set_option maxRecDepth 100000
set_option maxHeartbeats 1000000
namespace G
--#FAM KG
open PySem PySem.Spec PyProof.Rows L2
local macro_rules
  | `(tactic| walk_at "1") => `(tactic| first
    | with_reducible refine w_seq ?_
    | with_reducible refine w_asg ?_
    | with_reducible refine w_asgS ?_
    | with_reducible refine w_asf ?_
    | with_reducible refine w_drop ?_
    | with_reducible refine w_ret ?_
    | with_reducible refine w_if ?_
    | with_reducible refine w_not ?_
    | with_reducible refine w_and ?_
    | with_reducible refine w_or ?_
    | with_reducible refine w_test ?_
    | with_reducible refine w_tb ?_
    | with_reducible refine w_chain ?_
    | with_reducible refine w_op ?_
    | with_reducible refine w_un ?_
    | with_reducible refine w_andV ?_
    | with_reducible refine w_orV ?_
    | with_reducible refine w_notV ?_
    | with_reducible refine w_ifE ?_
    | with_reducible refine w_cons ?_
    | with_reducible refine w_nil ?_
    | with_reducible refine w_cb ?_
    | with_reducible refine w_cl ?_
    | with_reducible refine w_mt ?_
    | with_reducible refine w_fld ?_
    | with_reducible refine w_tupN ?_
    | with_reducible refine w_lstN ?_
    | with_reducible refine w_bm ?_
    | with_reducible refine w_bm0 ?_
    | with_reducible refine w_for ?_
    | with_reducible refine w_lc ?_
    | with_reducible refine w_iR1 ?_
    | with_reducible refine w_iR2 ?_
    | with_reducible refine w_iL ?_
    | with_reducible refine w_iT ?_
    | with_reducible refine w_iE ?_
    | with_reducible refine w_iZ ?_
    | with_reducible refine w_var (by with_unfolding_all rfl) ?_
    | with_reducible refine w_c ?_
    | with_reducible refine w_next ?_
    | with_reducible refine w_i0 ?_
    | with_reducible refine w_u1 ?_
    | with_reducible refine w_addI ?_
    | with_reducible refine w_eqI ?_
    | with_reducible refine w_eqS ?_
    | with_reducible refine w_eqB ?_
    | with_reducible refine w_neI ?_
    | with_reducible refine w_neS ?_
    | with_reducible refine w_neB ?_
    | with_reducible refine w_abs ?_
    | with_reducible refine w_intI ?_
    | with_reducible refine w_min2 ?_
    | with_reducible refine w_max2 ?_
    | with_reducible refine w_isN0 ?_
    | with_reducible refine w_isN1 ref_ne ?_
    | with_reducible refine w_isN1 int_ne ?_
    | with_reducible refine w_notN0 ?_
    | with_reducible refine w_notN1 ref_ne ?_
    | with_reducible refine w_notN1 int_ne ?_
    | with_reducible refine w_ex1 ?_
    | with_reducible refine w_n1 ?_
    | with_reducible refine w_n2 ?_
    | with_reducible refine w_tT ?_
    | with_reducible refine w_tF ?_
    | with_reducible refine w_nT ?_
    | with_reducible refine w_nF ?_
    | with_reducible refine w_rz ?_
    | with_reducible refine w_mkN ?_
    | with_reducible refine w_lrgN ?_
    | with_reducible refine w_rg1 ?_
    | with_reducible refine w_rg2 ?_
    | with_reducible refine w_sl ?_
    | with_reducible refine w_np ?_
    | with_reducible refine w_pt ?_
    | with_reducible refine w_tr ?_
    | with_reducible refine w_gn ?_
    | with_reducible refine w_yes ?_
    | with_reducible refine w_m1 ?_
    | with_reducible refine w_asu ?_
    | with_reducible refine w_exS ?_
    | with_reducible refine w_iS ?_
    | with_reducible refine w_g1 ?_
    | with_reducible refine w_gc ?_
    | with_reducible refine w_gt (SqT.of upd_same) rfl ?_)
local macro_rules
  | `(tactic| walk_at "g") => `(tactic| repeat walk_at "1")
local macro_rules
  | `(tactic| walk_at "j1") => `(tactic| first
    | with_reducible refine w_seqI ?_
    | walk_at "1")
local macro_rules
  | `(tactic| walk_at "j") => `(tactic| repeat walk_at "j1")
section
variable {K : PySem.W.Frag} {mg : Str → Option Value}
theorem Leg.rep {H : Hp} {n : Nat} {log : List Int} {E : XK} (hn : n ≤ 60) (le : Leg (wholeS n) log) : RepE K H (n : Int) log E :=
  ⟨fun ok i op hi l b H' k => by rw [Int.toNat_natCast] at b; exact absurd (le i op hi) b, fun b => absurd ⟨by omega, by omega⟩ b⟩
theorem dpI {H : Hp} : ∀ xs : List Int, DpAll K H (xs.map V.int) (xs.map PyData.int)
  | [] => .nil
  | x :: xs => .cons (.int x) (dpI xs)
theorem layI : ∀ xs : List Int, PyData.canLayAll0 (xs.map PyData.int) = true
  | [] => by simp [PyData.canLayAll0]
  | x :: xs => by
    show PyData.canLayAll0 (PyData.int x :: xs.map PyData.int) = true
    rw [PyData.canLayAll0, layI xs]
    simp [PyData.canLay0]
theorem depI : ∀ xs : List Int, PyData.depthAll (xs.map PyData.int) ≤ 1
  | [] => by simp [PyData.depthAll]
  | x :: xs => by
    have := depI xs
    show PyData.depthAll (PyData.int x :: xs.map PyData.int) ≤ 1
    rw [PyData.depthAll]
    simp [PyData.depth]
    omega
theorem shI (xs : List Int) : SeqAt.shaped (.list (xs.map PyData.int)) = true := by
  unfold SeqAt.shaped
  rw [PyData.canLay0, layI, PyData.depth]
  have := depI xs
  simp
  omega
theorem w_eqL {H : Hp} {Q : VK} {p q : Addr} {xs : List Int} (h1 : SqL K H p (xs.map V.int)) (h2 : SqL K H q (xs.map V.int)) (g : Q (.bl true) H) : rEqA K (.ref p) (.ref q) H Q :=
  w_eqD (.lst h1 (dpI xs)) (.lst h2 (dpI xs)) (shI xs) (shI xs) (by
    rw [SeqAt.eqv_refl _ (SeqAt.canLay_of_shaped (shI xs))]
    exact g)
theorem w_neL {H : Hp} {Q : VK} {p q : Addr} {xs : List Int} (h1 : SqL K H p (xs.map V.int)) (h2 : SqL K H q (xs.map V.int)) (g : Q (.bl false) H) : rNeA K (.ref p) (.ref q) H Q :=
  w_neD (.lst h1 (dpI xs)) (.lst h2 (dpI xs)) (shI xs) (shI xs) (by
    rw [SeqAt.eqv_refl _ (SeqAt.canLay_of_shaped (shI xs))]
    exact g)
theorem nextL_len (n : Nat) (log : List Int) : (nextL (runS (wholeS n) log) log).length ≤ n := by
  unfold nextL
  have sn : (runS (wholeS n) log).n = n := by rw [runS_n] <;> rfl
  rw [List.length_map, sn]
  refine Nat.le_trans (List.length_filter_le _ _) ?_
  rw [List.length_map, List.length_range]
  exact Nat.le_refl _
theorem lateW_len (n : Nat) (log : List Int) : (lateW n log).length ≤ 2 * log.length := lateWi_len n log log.length
theorem len__law_agrees (K : PySem.W.Frag) : ∀ vs H Q E, sp22__law_agrees K vs H Q E → vs.length = (["size", "log"] : List Str).length := by
  rintro vs H Q E ⟨_, _, _, rfl, _⟩
  rfl
theorem rd__law_agrees (T : Txt K mg) (vs : List V) (H : Hp) (Q : VK) (E : XK) (h : sp22__law_agrees K vs H Q E) : t__law_agrees K E { nx := fun _ H' => Q .non H', rt := Q } (start ["size", "log", "due", "handed", "told"] vs) H := by
  obtain ⟨a, n, log, rfl, hn, ha, L, g⟩ := h
  unfold t__law_agrees
  have tn : (n : Int).toNat = n := Int.toNat_natCast n
  have leg := leg_of hn L.ops L.alt
  have len := L.len
  have oe : ∀ H', OnE K H' n log E := fun H' => ⟨Leg.rep hn leg, fun _ _ i t => (twice_once t L.one).elim⟩
  have lw := lateW_len n log
  have ln := nextL_len n log
  walk_at "g"
  refine ⟨a, n, log, rfl, hn, ha, L, fun q p e xs H1 k1 hq hp px he => ?_⟩
  walk_at "g"
  refine w_listLN (SqL.of (k1.at0 ha)) fun h H2 nh k2 hh => ?_
  have k02 := k1.trans k2
  have hq2 := k2.at0 hq
  have hp2 := k2.at0 hp
  have px2 := px.k0 k2
  have he2 := k2.at0 he
  have ha2 := k02.at0 ha
  walk_at "g"
  refine ⟨h, n, log, rfl, SqL.of hh, by omega, oe _, fun _ _ _ ys t H3 nt k3 ht py => ?_⟩
  rw [tn] at py
  walk_at "g"
  refine w_ixL (SqL.of (k3.at0 hq2)) at_0 ?_
  walk_at "g"
  refine ⟨t, p, ys, xs, lateW n log, rfl, by omega, ht, k3.at0 hp2, py, px2.k0 k3, fun H4 k4 => ?_⟩
  walk_at "g"
  refine ⟨w_ty (SqL.of (k4.at0 ht)), ?_⟩
  walk_at "g"
  refine w_lenL (SqL.of (k4.at0 (k3.at0 ha2))) ?_
  walk_at "g"
  refine ⟨sz_ok (by show 2 ≤ 1000000; omega), G.nw fun tt H5 ntt k5 htt => ?_⟩
  walk_at "g"
  refine w_apT (k5.at0 (k4.at0 ht)) (sz_lt (by rw [py.1]; omega)) fun H6 k6 h6 => ?_
  have k26 : Kp [] H2 H6 := ((k3.trans (k4.trans k5)).all.trans k6).cut1 nt
  walk_at "g"
  refine ⟨h, n, log, rfl, SqL.of (k26.at0 hh), by omega, oe _, fun _ _ _ ys2 t2 H7 nt2 k7 ht2 py2 => ?_⟩
  rw [tn] at py2
  have k27 := k26.trans k7
  walk_at "g"
  refine w_ixL (SqL.of (k27.at0 hq2)) at_0 ?_
  walk_at "g"
  refine ⟨t2, p, ys2, xs, lateW n log, rfl, by omega, ht2, k27.at0 hp2, py2, px2.k0 k27, fun H8 k8 => ?_⟩
  have k28 := k27.trans k8
  walk_at "g"
  refine ⟨h, n, log, rfl, SqL.of (k28.at0 hh), by omega, oe _, fun _ _ _ t3 H9 nt3 k9 ht3 => ?_⟩
  rw [tn] at ht3
  have k29 := k28.trans k9
  walk_at "g"
  refine w_ixL (SqL.of (k29.at0 hq2)) (i := 2) (v := .ref e) rfl ?_
  walk_at "g"
  refine ⟨t3, e, _, rfl, by omega, ht3, k29.at0 he2, ?_⟩
  walk_at "g"
  refine ⟨w_ty (SqL.of ht3), ?_⟩
  walk_at "g"
  refine w_apT ht3 (sz_lt (by rw [List.length_map]; omega)) fun H10 k10 h10 => ?_
  have k2a : Kp [] H2 H10 := k28.trans ((k9.all.trans k10).cut1 nt3)
  walk_at "g"
  refine ⟨h, n, log, rfl, SqL.of (k2a.at0 hh), by omega, oe _, fun _ _ _ t4 H11 nt4 k11 ht4 => ?_⟩
  rw [tn] at ht4
  have k2b := k2a.trans k11
  walk_at "g"
  refine w_ixL (SqL.of (k2b.at0 hq2)) (i := 2) (v := .ref e) rfl ?_
  walk_at "g"
  refine ⟨t4, e, _, rfl, by omega, ht4, k2b.at0 he2, ?_⟩
  walk_at "g"
  refine w_ixL (SqL.of (k2b.at0 hq2)) (i := 1) (v := .bl _) rfl ?_
  walk_at "g"
  refine w_iteB (fun c1 => ?_) (fun c1 => ?_)
  all_goals
    walk_at "g"
    refine ⟨h, n, log, rfl, SqL.of (k2b.at0 hh), by omega, oe _, fun _ _ _ H12 k12 => ?_⟩
    rw [tn, c1]
    walk_at "g"
    refine w_isB ?_
    rw [decide_eq_true rfl]
    walk_at "g"
    refine w_eqL (SqL.of (k12.at0 (k2b.at0 hh))) (SqL.of (k12.at0 (k2b.at0 ha2))) ?_
    exact g H12 (k02.trans (k2b.trans k12))
theorem Alt.take' {log : List Int} (h : Alt log) (k : Nat) : Alt (log.take k) := by
  intro i op hi
  have hk : i < (log.take k).length := (List.getElem?_eq_some_iff.mp hi).1
  rw [List.length_take] at hk
  rw [List.getElem?_take_of_lt (by omega)] at hi
  rw [List.take_take, Nat.min_eq_left (by omega)]
  exact h i op hi
theorem first_ok {n : Nat} {log B : List Int} (L : LgO n log) {v : Nat} (hv : 1 ≤ v) (i : Nat)
    (hB : (stgF (log.take i) v = 0 ∧ B = [-(v : Int), (v : Int)]) ∨ (stgF (log.take i) v = 1 ∧ B = [(v : Int)]) ∨ (stgF (log.take i) v = 2 ∧ B = [])) :
    Alt (log.take i ++ B) ∧ OnceA (log.take i ++ B) ∧ stgF (log.take i ++ B) v = 2 ∧ (∀ x ∈ B, x.natAbs = v) ∧ B.length ≤ 2 := by
  have a := L.alt.take' i
  have o := L.one.take i
  have I := nodeI a o v hv
  generalize log.take i = P at a o I hB
  have back : ∀ P : List Int, Alt P → OnceA P → stgF P v = 1 → Alt (P ++ [(v : Int)]) ∧ OnceA (P ++ [(v : Int)]) ∧ stgF (P ++ [(v : Int)]) v = 2 := by
    intro P a o s
    refine ⟨alt_snoc' a ?_, o.snoc fun z => by omega, ?_⟩
    · rw [Int.natAbs_natCast, stg_out, s, decide_eq_true rfl, decide_eq_true (by omega)]
    · rw [stgF_snoc, if_pos (Int.natAbs_natCast v), if_neg (by omega)]
  rcases hB with ⟨s, rfl⟩ | ⟨s, rfl⟩ | ⟨s, rfl⟩
  · have na : (-(v : Int)).natAbs = v := by omega
    have a1 : Alt (P ++ [-(v : Int)]) := alt_snoc' a (by rw [na, stg_out, s, decide_eq_false (by omega), decide_eq_false (by omega)])
    have o1 : OnceA (P ++ [-(v : Int)]) := o.snoc fun _ => (I.s0 s).2
    have s1 : stgF (P ++ [-(v : Int)]) v = 1 := by rw [stgF_snoc, if_pos na, if_pos (by omega)]
    obtain ⟨x1, x2, x3⟩ := back _ a1 o1 s1
    rw [List.append_assoc] at x1 x2 x3
    refine ⟨x1, x2, x3, fun x hx => ?_, Nat.le_refl _⟩
    simp only [List.mem_cons, List.not_mem_nil, or_false] at hx
    rcases hx with rfl | rfl <;> omega
  · obtain ⟨x1, x2, x3⟩ := back _ a o s
    refine ⟨x1, x2, x3, fun x hx => ?_, by show 1 ≤ 2; omega⟩
    rw [List.mem_singleton] at hx
    omega
  · rw [List.append_nil]
    exact ⟨a, o, s, fun x h => (by cases h), Nat.zero_le _⟩
/-- a row with a second unlink -/
structure RowO (n : Nat) (R : List Int) (i : Nat) : Prop where
  ops : ∀ x ∈ R, IsOp n x
  alt : Alt R
  tw : TwiceAt R i
theorem TwiceAt.app {l m : List Int} {i : Nat} (h : TwiceAt l i) : TwiceAt (l ++ m) i := by
  obtain ⟨op, h1, h2, h3, h4⟩ := h
  have li := (List.getElem?_eq_some_iff.mp h1).1
  refine ⟨op, by rw [List.getElem?_append_left li]; exact h1, h2, ?_, ?_⟩
  · rw [List.take_append_of_le_length (by omega)]
    exact h3
  · rw [List.take_append_of_le_length (by omega)]
    exact h4
theorem RowO.app {n : Nat} {R : List Int} {i : Nat} (h : RowO n R i) {op : Int} (io : IsOp n op) (o : outF R op.natAbs = decide (0 < op)) : RowO n (R ++ [op]) i := by
  refine ⟨fun x hx => ?_, alt_snoc' h.alt o, h.tw.app⟩
  rcases List.mem_append.mp hx with hx | hx
  · exact h.ops x hx
  · rw [List.mem_singleton] at hx
    rw [hx]
    exact io
theorem RowO.back {n : Nat} {R : List Int} {i : Nat} (h : RowO n R i) {v : Nat} (h1 : 1 ≤ v) (h2 : v ≤ n) (o : outF R v = true) : RowO n (R ++ [(v : Int)]) i ∧ outF (R ++ [(v : Int)]) v = false := by
  refine ⟨h.app ⟨by omega, by omega⟩ (by rw [Int.natAbs_natCast, o, decide_eq_true (by omega)]), ?_⟩
  rw [outF_snoc, if_pos (Int.natAbs_natCast v), decide_eq_false (by omega)]
theorem RowO.gone {n : Nat} {R : List Int} {i : Nat} (h : RowO n R i) {v : Nat} (h1 : 1 ≤ v) (h2 : v ≤ n) (o : outF R v = false) : RowO n (R ++ [-(v : Int)]) i ∧ outF (R ++ [-(v : Int)]) v = true := by
  have na : (-(v : Int)).natAbs = v := by omega
  refine ⟨h.app ⟨by omega, by omega⟩ (by rw [na, o, decide_eq_false (by omega)]), ?_⟩
  rw [outF_snoc, if_pos na, decide_eq_true (by omega)]
theorem row_mid {n : Nat} {log B : List Int} (L : LgO n log) {v : Nat} (h1 : 1 ≤ v) (h2 : v ≤ n) (i : Nat)
    (hB : (stgF (log.take i) v = 0 ∧ B = [-(v : Int), (v : Int)]) ∨ (stgF (log.take i) v = 1 ∧ B = [(v : Int)]) ∨ (stgF (log.take i) v = 2 ∧ B = [])) :
    RowO n (log.take i ++ B ++ [-(v : Int)] ++ (log.drop i).filter fun x => !decide (x.natAbs = v)) (log.take i ++ B).length ∧ outF (log.take i ++ B ++ [-(v : Int)] ++ (log.drop i).filter fun x => !decide (x.natAbs = v)) v = true := by
  obtain ⟨fa, fo, f2, fB, _⟩ := first_ok L h1 i hB
  have na : (-(v : Int)).natAbs = v := by omega
  have f0 : outF (log.take i ++ B) v = false := by rw [stg_out, f2] <;> rfl
  have I := nodeI fa fo v h1
  have a1 : Alt (log.take i ++ B ++ [-(v : Int)]) := alt_snoc' fa (by rw [na, f0, decide_eq_false (by omega)])
  have o1 : outF (log.take i ++ B ++ [-(v : Int)]) v = true := by rw [outF_snoc, if_pos na, decide_eq_true (by omega)]
  have keep : ∀ (S A : List Int), outF (A ++ S.filter fun x => !decide (x.natAbs = v)) v = outF A v := by
    intro S
    induction S with
    | nil => intro A; rw [List.filter_nil, List.append_nil]
    | cons x S ih =>
      intro A
      by_cases c : x.natAbs = v
      · rw [List.filter_cons_of_neg (by rw [decide_eq_true c]; exact Bool.false_ne_true)]
        exact ih A
      · rw [List.filter_cons_of_pos (by rw [decide_eq_false c]; rfl), show A ++ x :: (S.filter fun x => !decide (x.natAbs = v)) = (A ++ [x]) ++ (S.filter fun x => !decide (x.natAbs = v)) by simp, ih, outF_snoc, if_neg c]
  refine ⟨⟨fun x hx => ?_, ?_, ?_⟩, by rw [keep, o1]⟩
  · have iv : x.natAbs = v → IsOp n x := fun z => ⟨by omega, by omega⟩
    rcases List.mem_append.mp hx with hx | hx
    · rcases List.mem_append.mp hx with hx | hx
      · rcases List.mem_append.mp hx with hx | hx
        · exact L.ops x (List.mem_of_mem_take hx)
        · exact iv (fB x hx)
      · rw [List.mem_singleton] at hx
        exact iv (by rw [hx]; exact na)
    · exact L.ops x (List.mem_of_mem_drop (List.mem_filter.mp hx).1)
  · refine alt_mix (log.drop i) (log.take i) _ (by rw [List.take_append_drop]; exact L.alt) a1 fun u hu => ?_
    rw [outF_snoc, if_neg (by rw [na]; exact Ne.symm hu)]
    exact outF_app_ne hu B _ fB
  · refine ⟨-(v : Int), ?_, by omega, ?_, ?_⟩
    · rw [List.append_assoc, List.getElem?_append_right (Nat.le_refl _), Nat.sub_self] <;> rfl
    · rw [List.append_assoc, List.take_left' rfl]
      exact (I.s2 f2).2
    · rw [List.append_assoc, List.take_left' rfl]
      exact fo
theorem row_more {n : Nat} {R : List Int} {i v : Nat} (h : RowO n R i) (h1 : 1 ≤ v) (h2 : v ≤ n) (o : outF R v = true) {M : List Int} (hM : M = [] ∨ M = [(v : Int)] ∨ M = [(v : Int), -(v : Int)] ∨ M = [(v : Int), -(v : Int), (v : Int)]) : RowO n (R ++ M) i := by
  obtain ⟨x1, o1⟩ := h.back h1 h2 o
  obtain ⟨x2, o2⟩ := x1.gone h1 h2 o1
  obtain ⟨x3, _⟩ := x2.back h1 h2 o2
  rw [List.append_assoc] at x2 x3
  rw [List.append_assoc] at x3
  rcases hM with rfl | rfl | rfl | rfl
  · rw [List.append_nil]
    exact h
  · exact x1
  · exact x2
  · exact x3
theorem row_last {n : Nat} {R : List Int} {i v : Nat} (h : RowO n R i) (h1 : 1 ≤ v) (h2 : v ≤ n) (o : outF R v = false) : RowO n (R ++ [-(v : Int), (v : Int), -(v : Int)]) i := by
  obtain ⟨x1, o1⟩ := h.gone h1 h2 o
  obtain ⟨x2, o2⟩ := x1.back h1 h2 o1
  obtain ⟨x3, _⟩ := x2.gone h1 h2 o2
  rw [List.append_assoc] at x2 x3
  rw [List.append_assoc] at x3
  exact x3
end
end G

set_option Elab.async false
set_option linter.all false
set_option maxRecDepth 100000
set_option maxHeartbeats 1000000
namespace G
--#FAM KG
open PySem PySem.Spec PyProof.Rows L2
local macro_rules
  | `(tactic| walk_at "1") => `(tactic| first
    | with_reducible refine w_seq ?_
    | with_reducible refine w_asg ?_
    | with_reducible refine w_asgS ?_
    | with_reducible refine w_asf ?_
    | with_reducible refine w_drop ?_
    | with_reducible refine w_ret ?_
    | with_reducible refine w_if ?_
    | with_reducible refine w_not ?_
    | with_reducible refine w_and ?_
    | with_reducible refine w_or ?_
    | with_reducible refine w_test ?_
    | with_reducible refine w_tb ?_
    | with_reducible refine w_chain ?_
    | with_reducible refine w_op ?_
    | with_reducible refine w_un ?_
    | with_reducible refine w_andV ?_
    | with_reducible refine w_orV ?_
    | with_reducible refine w_notV ?_
    | with_reducible refine w_ifE ?_
    | with_reducible refine w_cons ?_
    | with_reducible refine w_nil ?_
    | with_reducible refine w_cb ?_
    | with_reducible refine w_cl ?_
    | with_reducible refine w_mt ?_
    | with_reducible refine w_fld ?_
    | with_reducible refine w_tupN ?_
    | with_reducible refine w_lstN ?_
    | with_reducible refine w_bm ?_
    | with_reducible refine w_bm0 ?_
    | with_reducible refine w_for ?_
    | with_reducible refine w_lc ?_
    | with_reducible refine w_iR1 ?_
    | with_reducible refine w_iR2 ?_
    | with_reducible refine w_iL ?_
    | with_reducible refine w_iT ?_
    | with_reducible refine w_iE ?_
    | with_reducible refine w_iZ ?_
    | with_reducible refine w_var (by with_unfolding_all rfl) ?_
    | with_reducible refine w_c ?_
    | with_reducible refine w_next ?_
    | with_reducible refine w_i0 ?_
    | with_reducible refine w_u1 ?_
    | with_reducible refine w_addI ?_
    | with_reducible refine w_eqI ?_
    | with_reducible refine w_eqS ?_
    | with_reducible refine w_eqB ?_
    | with_reducible refine w_neI ?_
    | with_reducible refine w_neS ?_
    | with_reducible refine w_neB ?_
    | with_reducible refine w_abs ?_
    | with_reducible refine w_intI ?_
    | with_reducible refine w_min2 ?_
    | with_reducible refine w_max2 ?_
    | with_reducible refine w_isN0 ?_
    | with_reducible refine w_isN1 ref_ne ?_
    | with_reducible refine w_isN1 int_ne ?_
    | with_reducible refine w_notN0 ?_
    | with_reducible refine w_notN1 ref_ne ?_
    | with_reducible refine w_notN1 int_ne ?_
    | with_reducible refine w_ex1 ?_
    | with_reducible refine w_n1 ?_
    | with_reducible refine w_n2 ?_
    | with_reducible refine w_tT ?_
    | with_reducible refine w_tF ?_
    | with_reducible refine w_nT ?_
    | with_reducible refine w_nF ?_
    | with_reducible refine w_rz ?_
    | with_reducible refine w_mkN ?_
    | with_reducible refine w_lrgN ?_
    | with_reducible refine w_rg1 ?_
    | with_reducible refine w_rg2 ?_
    | with_reducible refine w_sl ?_
    | with_reducible refine w_np ?_
    | with_reducible refine w_pt ?_
    | with_reducible refine w_tr ?_
    | with_reducible refine w_gn ?_
    | with_reducible refine w_yes ?_
    | with_reducible refine w_m1 ?_
    | with_reducible refine w_asu ?_
    | with_reducible refine w_exS ?_
    | with_reducible refine w_iS ?_
    | with_reducible refine w_g1 ?_
    | with_reducible refine w_gc ?_
    | with_reducible refine w_gt (SqT.of upd_same) rfl ?_)
local macro_rules
  | `(tactic| walk_at "g") => `(tactic| repeat walk_at "1")
local macro_rules
  | `(tactic| walk_at "j1") => `(tactic| first
    | with_reducible refine w_seqI ?_
    | walk_at "1")
local macro_rules
  | `(tactic| walk_at "j") => `(tactic| repeat walk_at "j1")
section
variable {K : PySem.W.Frag} {mg : Str → Option Value}
theorem len__law_twice (K : PySem.W.Frag) : ∀ vs H Q E, sp__law_twice K vs H Q E → vs.length = (["box", "size", "log"] : List Str).length := by
  rintro vs H Q E ⟨_, _, _, _, _, rfl, _⟩
  rfl
theorem rd__law_twice (T : Txt K mg) (vs : List V) (H : Hp) (Q : VK) (E : XK) (h : sp__law_twice K vs H Q E) : t__law_twice K E { nx := fun _ H' => Q .non H', rt := Q } (start ["box", "size", "log", "at", "node", "acts", "first", "others", "more", "row", "other", "x"] vs) H := by
  obtain ⟨b, c, a, n, log, rfl, n1, n60, bx, ab, ac, ha, L, g⟩ := h
  unfold t__law_twice
  have len := L.len
  walk_at "j"
  refine w_lenL (SqL.of ha) ?_
  walk_at "j"
  rw [List.length_map]
  refine ⟨b, c, _, rfl, by omega, by omega, bx, fun at_ H1 at1 at2 k1 b1 => ?_⟩
  obtain ⟨i, rfl⟩ : ∃ i : Nat, at_ = (i : Int) := ⟨at_.toNat, by omega⟩
  have ha1 : H1 a = _ := k1 _ _ (by simp [ab, ac]) ha
  walk_at "j"
  refine ⟨b, c, _, rfl, by omega, by omega, b1, fun d H2 d1 d2 k2 b2 => ?_⟩
  obtain ⟨v, ev⟩ : ∃ v : Nat, 1 + d = (v : Int) := ⟨(1 + d).toNat, by omega⟩
  have ha2 : H2 a = _ := k2 _ _ (by simp [ab, ac]) ha1
  walk_at "j"
  rw [ev]
  have lP : (log.take i).length ≤ 120 := by rw [List.length_take]; omega
  have lS : (log.drop i).length ≤ 120 := by rw [List.length_drop]; omega
  refine w_slL (SqL.of ha2) fun s H3 ns k3 hs => ?_
  rw [cut_take _ _ (by rw [List.length_map]; omega), ← List.map_take] at hs
  walk_at "j"
  refine w_l1 (SqL.of hs) ?_
  refine cp_lst (SqL.of hs) (fun j => (opsV v ((log.take i).take j)).map V.int) (fun j hj => sz_lt (by
    rw [List.length_map] at hj
    rw [List.length_map]
    have := opsV_len v ((log.take i).take j)
    rw [List.length_take] at this
    omega)) rfl (fun j x H' S N hx k yes no => ?_) (fun D H4 nD k4 hD => ?_)
  · obtain ⟨op, hop, rfl⟩ := at_map hx
    walk_at "g"
    refine ⟨rfl, ?_⟩
    walk_at "g"
    rw [natAbs_if]
    refine w_iteD (fun cc => ?_) (fun cc => ?_)
    · walk_at "g"
      refine yes _ _ (Kp.refl _ _) ?_
      rw [take_snoc hop, opsV_snoc, if_pos (by omega), List.map_append] <;> rfl
    · refine no _ (Kp.refl _ _) ?_
      rw [take_snoc hop, opsV_snoc, if_neg (by omega), List.append_nil]
  rw [List.length_map, List.take_length] at hD
  have k24 := k3.trans k4
  walk_at "j"
  refine w_slL (SqL.of (k24.at0 ha2)) fun P H5 nP k5 hP => ?_
  rw [cut_take _ _ (by rw [List.length_map]; omega), ← List.map_take] at hP
  walk_at "j"
  refine ⟨sz_ok (by show 2 ≤ 1000000; omega), G.nw fun l0 H6 n0 k6 h0 => ?_⟩
  walk_at "j"
  refine ⟨sz_ok (by show 1 ≤ 1000000; omega), G.nw fun l1 H7 n1' k7 h1 => ?_⟩
  walk_at "j"
  refine ⟨sz_ok (by show 0 ≤ 1000000; omega), G.nw fun l2 H8 n2 k8 h2 => ?_⟩
  walk_at "j"
  refine ⟨sz_ok (by show 3 ≤ 1000000; omega), G.nw fun l3 H9 n3 k9 h3 => ?_⟩
  walk_at "j"
  have k59 := ((k6.trans k7).trans k8).trans k9
  refine w_lenL (SqL.of ((k5.trans k59).at0 hD)) ?_
  walk_at "j"
  rw [List.length_map]
  have I := nodeI (L.alt.take' i) (L.one.take i) v (by omega)
  have sle := stgF_le (log.take i) v
  rw [I.ln]
  obtain ⟨rf, B, erf, hrf, hB⟩ : ∃ (rf : Addr) (B : List Int), atI [V.ref l0, V.ref l1, V.ref l2] (stgF (log.take i) v : Int) = some (.ref rf) ∧ H9 rf = some (.lst (B.map V.int)) ∧
      ((stgF (log.take i) v = 0 ∧ B = [-(v : Int), (v : Int)]) ∨ (stgF (log.take i) v = 1 ∧ B = [(v : Int)]) ∨ (stgF (log.take i) v = 2 ∧ B = [])) := by
    have h012 : stgF (log.take i) v = 0 ∨ stgF (log.take i) v = 1 ∨ stgF (log.take i) v = 2 := by omega
    rcases h012 with h | h | h
    · exact ⟨l0, [-(v : Int), (v : Int)], by rw [h] <;> rfl, ((k7.trans k8).trans k9).at0 h0, .inl ⟨h, rfl⟩⟩
    · exact ⟨l1, [(v : Int)], by rw [h] <;> rfl, (k8.trans k9).at0 h1, .inr (.inl ⟨h, rfl⟩)⟩
    · exact ⟨l2, [], by rw [h] <;> rfl, k9.at0 h2, .inr (.inr ⟨h, rfl⟩)⟩
  refine w_ixL (SqL.of h3) erf ?_
  obtain ⟨_, _, _, _, lB⟩ := first_ok L (v := v) (by omega) i hB
  obtain ⟨ro, rout⟩ := row_mid L (v := v) (by omega) (by omega) i hB
  refine w_addLN (k59.at0 hP) hrf (sz_ok (by rw [List.length_map, List.length_map]; omega)) fun F Ha nF ka hF => ?_
  rw [← List.map_append] at hF
  have k2a := ((k24.trans k5).trans k59).trans ka
  walk_at "j"
  refine w_slL (SqL.of (k2a.at0 ha2)) fun s2 Hb ns2 kb hs2 => ?_
  rw [cut_drop _ _ (by rw [List.length_map]; omega), ← List.map_drop] at hs2
  walk_at "j"
  refine w_l1 (SqL.of hs2) ?_
  refine cp_lst (SqL.of hs2) (fun j => (((log.drop i).take j).filter fun x => !decide (x.natAbs = v)).map V.int) (fun j hj => sz_lt (by
    rw [List.length_map] at hj
    rw [List.length_map]
    have := List.length_filter_le (fun x : Int => !decide (x.natAbs = v)) ((log.drop i).take j)
    rw [List.length_take] at this
    omega)) rfl (fun j x H' S N hx k yes no => ?_) (fun O Hc nO kc hO => ?_)
  · obtain ⟨op, hop, rfl⟩ := at_map hx
    walk_at "g"
    refine ⟨rfl, ?_⟩
    walk_at "g"
    rw [natAbs_if]
    refine w_iteN (fun cc => ?_) (fun cc => ?_)
    · walk_at "g"
      refine yes _ _ (Kp.refl _ _) ?_
      rw [take_snoc hop, List.filter_append, List.filter_cons_of_pos (by rw [decide_eq_false (fun z => cc (by omega))]; rfl), List.map_append] <;> rfl
    · refine no _ (Kp.refl _ _) ?_
      rw [take_snoc hop, List.filter_append, List.filter_cons_of_neg (by rw [decide_eq_true (by omega)]; exact Bool.false_ne_true), List.filter_nil, List.append_nil]
  rw [List.length_map, List.take_length] at hO
  have lO : ((log.drop i).filter fun x => !decide (x.natAbs = v)).length ≤ 120 := Nat.le_trans (List.length_filter_le _ _) lS
  generalize (log.drop i).filter (fun x => !decide (x.natAbs = v)) = os at hO ro rout lO
  have lF : (log.take i ++ B).length ≤ 122 := by rw [List.length_append]; omega
  generalize log.take i ++ B = fs at hF ro rout lF
  walk_at "j"
  refine ⟨sz_ok (by show 0 ≤ 1000000; omega), G.nw fun m0 Hd e0 kd q0 => ?_⟩
  walk_at "j"
  refine ⟨sz_ok (by show 1 ≤ 1000000; omega), G.nw fun m1 He e1 ke q1 => ?_⟩
  walk_at "j"
  refine ⟨sz_ok (by show 2 ≤ 1000000; omega), G.nw fun m2 Hf e2 kf q2 => ?_⟩
  walk_at "j"
  refine ⟨sz_ok (by show 3 ≤ 1000000; omega), G.nw fun m3 Hg e3 kg q3 => ?_⟩
  walk_at "j"
  refine ⟨sz_ok (by show 4 ≤ 1000000; omega), G.nw fun m4 Hh e4 kh q4 => ?_⟩
  walk_at "j"
  have kch := (((kd.trans ke).trans kf).trans kg).trans kh
  have kah := (kb.trans kc).trans kch
  have bh := (b2.k0 k2a).k0 kah
  refine ⟨b, c, 4, rfl, by omega, by omega, bh, fun mi Hi mi1 mi2 ki bi => ?_⟩
  obtain ⟨rm, M, em, hm, hM⟩ : ∃ (rm : Addr) (M : List Int), atI [V.ref m0, V.ref m1, V.ref m2, V.ref m3] mi = some (.ref rm) ∧ Hh rm = some (.lst (M.map V.int)) ∧
      (M = [] ∨ M = [(v : Int)] ∨ M = [(v : Int), -(v : Int)] ∨ M = [(v : Int), -(v : Int), (v : Int)]) := by
    have h0123 : mi = 0 ∨ mi = 1 ∨ mi = 2 ∨ mi = 3 := by omega
    rcases h0123 with rfl | rfl | rfl | rfl
    · exact ⟨m0, [], rfl, (((ke.trans kf).trans kg).trans kh).at0 q0, .inl rfl⟩
    · exact ⟨m1, [(v : Int)], rfl, ((kf.trans kg).trans kh).at0 q1, .inr (.inl rfl)⟩
    · exact ⟨m2, [(v : Int), -(v : Int)], rfl, (kg.trans kh).at0 q2, .inr (.inr (.inl rfl))⟩
    · exact ⟨m3, [(v : Int), -(v : Int), (v : Int)], rfl, kh.at0 q3, .inr (.inr (.inr rfl))⟩
  have lM : M.length ≤ 3 := by
    rcases hM with rfl | rfl | rfl | rfl
    · exact Nat.zero_le _
    · show 1 ≤ 3; omega
    · show 2 ≤ 3; omega
    · show 3 ≤ 3; omega
  have rr := row_more ro (by omega) (by omega) rout hM
  have frh : ∀ x, H2 x = none → x ≠ b ∧ x ≠ c := fun x nx => b2.fr nx
  have frO : O ≠ b ∧ O ≠ c := ((b2.k0 k2a).k0 kb).fr nO
  have frF : F ≠ b ∧ F ≠ c := (b2.k0 ((k24.trans k5).trans k59)).fr nF
  have bxm : ∀ x, (∃ ys, Hh x = some (.lst ys) ∧ (x = b → False) ∧ (x = c → False)) → True := fun _ _ => trivial
  have frm : rm ≠ b ∧ rm ≠ c := by
    have f0 := ((b2.k0 k2a).k0 (kb.trans kc)).fr e0
    have f1 := ((b2.k0 k2a).k0 ((kb.trans kc).trans kd)).fr e1
    have f2 := ((b2.k0 k2a).k0 (((kb.trans kc).trans kd).trans ke)).fr e2
    have f3 := ((b2.k0 k2a).k0 ((((kb.trans kc).trans kd).trans ke).trans kf)).fr e3
    have h0123 : mi = 0 ∨ mi = 1 ∨ mi = 2 ∨ mi = 3 := by omega
    rcases h0123 with rfl | rfl | rfl | rfl
    · have : V.ref m0 = V.ref rm := by simpa [atI, ixN] using em
      injection this with this
      exact this ▸ f0
    · have : V.ref m1 = V.ref rm := by simpa [atI, ixN] using em
      injection this with this
      exact this ▸ f1
    · have : V.ref m2 = V.ref rm := by simpa [atI, ixN] using em
      injection this with this
      exact this ▸ f2
    · have : V.ref m3 = V.ref rm := by simpa [atI, ixN] using em
      injection this with this
      exact this ▸ f3
  have q4i : Hi m4 = _ := ki _ _ (by
    have := ((b2.k0 k2a).k0 ((((((kb.trans kc).trans kd).trans ke).trans kf).trans kg))).fr e4
    simp [this.1, this.2]) q4
  refine w_ixL (SqL.of q4i) em ?_
  have hFi : Hi F = _ := ki _ _ (by simp [frF.1, frF.2]) (kah.at0 hF)
  have hOi : Hi O = _ := ki _ _ (by simp [frO.1, frO.2]) (kch.at0 hO)
  have hmi : Hi rm = _ := ki _ _ (by simp [frm.1, frm.2]) hm
  walk_at "j"
  refine ⟨sz_ok (by show 1 ≤ 1000000; omega), G.nw fun z1 Hj nz1 kj hz1 => ?_⟩
  have hz1' : Hj z1 = some (.lst ([-(v : Int)].map V.int)) := hz1
  walk_at "j"
  refine w_addLN (kj.at0 hFi) hz1' (sz_ok (by rw [List.length_map, List.length_map]; show _ + 1 ≤ _; omega)) fun z2 Hk nz2 kk hz2 => ?_
  rw [← List.map_append] at hz2
  have kik := kj.trans kk
  walk_at "j"
  refine w_addLN hz2 (kik.at0 hOi) (sz_ok (by rw [List.length_map, List.length_map, List.length_append]; show _ + 1 + _ ≤ _; omega)) fun z3 Hl nz3 kl hz3 => ?_
  rw [← List.map_append] at hz3
  have kil := kik.trans kl
  walk_at "j"
  refine w_addLN hz3 (kil.at0 hmi) (sz_ok (by rw [List.length_map, List.length_map, List.length_append, List.length_append]; show _ + 1 + _ + _ ≤ _; omega)) fun R Hm nR km hR => ?_
  rw [← List.map_append] at hR
  have lR : (fs ++ [-(v : Int)] ++ os ++ M).length ≤ 250 := by
    rw [List.length_append, List.length_append, List.length_append]
    show _ + 1 + _ + _ ≤ _
    omega
  generalize fs ++ [-(v : Int)] ++ os ++ M = rw_ at hR rr lR
  have kim := kil.trans km
  have bm := bi.k0 kim
  have k2m : Kp [b, c] H2 Hm := ((k2a.trans kah).all.trans ki).trans kim.all
  have k0m : Kp [b, c] H Hm := (k1.trans k2).trans k2m
  have frR : R ≠ b ∧ R ≠ c := (bi.k0 kil).fr nR
  have fR : H R = none := (((k1.trans k2).trans ((k2a.trans kah).all.trans ki)).trans kil.all).free (by simp [frR.1, frR.2]) nR
  have hFm := kim.at0 hFi
  have neFR : F ≠ R := ne_of_none (kil.at0 hFi) nR
  walk_at "j"
  refine w_ifJ (fun σ' H' => ∃ (row : List Int) (y : Addr) (x10 x11 : Option V), σ' = [some (.ref b), some (.int n), some (.ref a), some (.int (i : Int)), some (.int (v : Int)), some (.ref D), some (.ref F), some (.ref O), some (.ref rm), some (.ref y), x10, x11] ∧ RowO n row fs.length ∧ row.length ≤ 300 ∧ H y = none ∧ Kp [b, c] H H' ∧ BoxI H' b c ∧ H' y = some (.lst (row.map V.int)) ∧ H' F = some (.lst (fs.map V.int)))
    (fun N hN => ?_) (fun σ' H' ⟨row, y, x10, x11, es, ro, rl, fy, k, bb, hy, hf⟩ => ?_)
  · walk_at "g"
    refine ⟨b, c, 2, rfl, by omega, by omega, bm, fun e Hn e1' e2' kn bn => ?_⟩
    have hFn : Hn F = _ := kn _ _ (by simp [frF.1, frF.2]) hFm
    have hRn : Hn R = _ := kn _ _ (by simp [frR.1, frR.2]) hR
    have k0n := k0m.trans kn
    walk_at "g"
    refine w_iteD (fun c1 => ?_) (fun c1 => ?_)
    · walk_at "j"
      refine ⟨b, c, _, rfl, by omega, by omega, bn, fun wd Ho w1 w2 ko bo => ?_⟩
      obtain ⟨u, eu⟩ : ∃ u : Nat, 1 + wd = (u : Int) := ⟨(1 + wd).toNat, by omega⟩
      have hFo : Ho F = _ := ko _ _ (by simp [frF.1, frF.2]) hFn
      have hRo : Ho R = _ := ko _ _ (by simp [frR.1, frR.2]) hRn
      have k0o := k0n.trans ko
      walk_at "j"
      rw [eu]
      walk_at "j"
      refine w_ifJ (fun σ' H' => ∃ (row : List Int) (x11 : Option V), σ' = [some (.ref b), some (.int n), some (.ref a), some (.int (i : Int)), some (.int (v : Int)), some (.ref D), some (.ref F), some (.ref O), some (.ref rm), some (.ref R), some (.int (u : Int)), x11] ∧ RowO n row fs.length ∧ row.length ≤ 251 ∧ outF row u = false ∧ Kp [b, c] H H' ∧ BoxI H' b c ∧ H' R = some (.lst (row.map V.int)) ∧ H' F = some (.lst (fs.map V.int)))
        (fun N' hN' => ?_) (fun σ' H' ⟨row, x11, es, ro, rl, out, k, bb, hy, hf⟩ => ?_)
      · walk_at "g"
        refine w_l1 (SqL.of hRo) ?_
        refine cp_lst (SqL.of hRo) (fun j => (opsV u (rw_.take j)).map V.int) (fun j hj => sz_lt (by
          rw [List.length_map] at hj
          rw [List.length_map]
          have := opsV_len u (rw_.take j)
          rw [List.length_take] at this
          omega)) rfl (fun j x H' S N hx k yes no => ?_) (fun D2 Hp_ nD2 kp hD2 => ?_)
        · obtain ⟨op, hop, rfl⟩ := at_map hx
          walk_at "g"
          refine ⟨rfl, ?_⟩
          walk_at "g"
          rw [natAbs_if]
          refine w_iteD (fun cc => ?_) (fun cc => ?_)
          · walk_at "g"
            refine yes _ _ (Kp.refl _ _) ?_
            rw [take_snoc hop, opsV_snoc, if_pos (by omega), List.map_append] <;> rfl
          · refine no _ (Kp.refl _ _) ?_
            rw [take_snoc hop, opsV_snoc, if_neg (by omega), List.append_nil]
        rw [List.length_map, List.take_length] at hD2
        have par := alt_par rr.alt u (by omega)
        walk_at "g"
        refine w_lenL (SqL.of hD2) ?_
        walk_at "g"
        refine w_ic (by omega) ?_
        walk_at "g"
        rw [List.length_map]
        refine w_iteD (fun cc => ?_) (fun cc => ?_)
        · have out : outF rw_ u = true := by rw [par]; exact decide_eq_true (by omega)
          obtain ⟨x1, x2⟩ := rr.back (by omega) (by omega) out
          walk_at "g"
          refine ⟨w_ty (SqL.of (kp.at0 hRo)), ?_⟩
          walk_at "g"
          refine w_apT (kp.at0 hRo) (sz_lt (by rw [List.length_map]; omega)) fun Hq kq hq => ?_
          walk_at "g"
          refine hN' _ _ ⟨rw_ ++ [(u : Int)], _, rfl, x1, by rw [List.length_append]; show _ + 1 ≤ _; omega, x2, ?_, (bo.k0 kp).kp kq (by simpa using Ne.symm frR.1) (by simpa using Ne.symm frR.2), by rw [hq, List.map_append] <;> rfl, kq.at1 neFR (kp.at0 hFo)⟩
          exact ((k0o.trans kp.all).mono (S' := [b, c, R]) (by simp) |>.trans (kq.mono (by simp))).cut (by simp [fR])
        · have out : outF rw_ u = false := by rw [par]; exact decide_eq_false (by omega)
          walk_at "g"
          exact hN' _ _ ⟨rw_, _, rfl, rr, by omega, out, k0o.trans kp.all, bo.k0 kp, kp.at0 hRo, kp.at0 hFo⟩
      subst es
      walk_at "g"
      refine ⟨sz_ok (by show 3 ≤ 1000000; omega), G.nw fun z4 Hr nz4 kr hz4 => ?_⟩
      have hz4' : Hr z4 = some (.lst ([-(u : Int), (u : Int), -(u : Int)].map V.int)) := hz4
      walk_at "g"
      refine w_addLN (kr.at0 hy) hz4' (sz_ok (by rw [List.length_map, List.length_map]; show _ + 3 ≤ _; omega)) fun y Hs ny ks hys => ?_
      rw [← List.map_append] at hys
      walk_at "g"
      have fry : y ≠ b ∧ y ≠ c := (bb.k0 kr).fr ny
      exact hN _ _ ⟨_, y, _, _, rfl, row_last ro (by omega) (by omega) out, by rw [List.length_append]; show _ + 3 ≤ _; omega, (k.trans kr.all).free (by simp [fry.1, fry.2]) ny, k.trans (kr.trans ks).all, bb.k0 (kr.trans ks), hys, (kr.trans ks).at0 hf⟩
    · walk_at "g"
      exact hN _ _ ⟨rw_, R, _, _, rfl, rr, by omega, fR, k0n, bn, hRn, hFn⟩
  subst es
  walk_at "g"
  refine w_lenL (SqL.of hf) ?_
  walk_at "g"
  rw [List.length_map]
  refine ⟨sz_ok (by show 2 ≤ 1000000; omega), G.nw fun q Ht nq kt hq => ?_⟩
  have frq : q ≠ b ∧ q ≠ c := bb.fr nq
  exact g row fs.length q y Ht ro.ops ro.alt rl ro.tw (k.free (by simp [frq.1, frq.2]) nq) fy (k.trans kt.all) (bb.k0 kt) hq (kt.at0 hy)
end
end G

set_option Elab.async false
set_option linter.all false
set_option maxRecDepth 100000
set_option maxHeartbeats 1000000
namespace G
--#FAM KG
open PySem PySem.Spec PyProof.Rows L2
local macro_rules
  | `(tactic| walk_at "1") => `(tactic| first
    | with_reducible refine w_seq ?_
    | with_reducible refine w_asg ?_
    | with_reducible refine w_asgS ?_
    | with_reducible refine w_asf ?_
    | with_reducible refine w_drop ?_
    | with_reducible refine w_ret ?_
    | with_reducible refine w_if ?_
    | with_reducible refine w_not ?_
    | with_reducible refine w_and ?_
    | with_reducible refine w_or ?_
    | with_reducible refine w_test ?_
    | with_reducible refine w_tb ?_
    | with_reducible refine w_chain ?_
    | with_reducible refine w_op ?_
    | with_reducible refine w_un ?_
    | with_reducible refine w_andV ?_
    | with_reducible refine w_orV ?_
    | with_reducible refine w_notV ?_
    | with_reducible refine w_ifE ?_
    | with_reducible refine w_cons ?_
    | with_reducible refine w_nil ?_
    | with_reducible refine w_cb ?_
    | with_reducible refine w_cl ?_
    | with_reducible refine w_mt ?_
    | with_reducible refine w_fld ?_
    | with_reducible refine w_tupN ?_
    | with_reducible refine w_lstN ?_
    | with_reducible refine w_bm ?_
    | with_reducible refine w_bm0 ?_
    | with_reducible refine w_for ?_
    | with_reducible refine w_lc ?_
    | with_reducible refine w_iR1 ?_
    | with_reducible refine w_iR2 ?_
    | with_reducible refine w_iL ?_
    | with_reducible refine w_iT ?_
    | with_reducible refine w_iE ?_
    | with_reducible refine w_iZ ?_
    | with_reducible refine w_var (by with_unfolding_all rfl) ?_
    | with_reducible refine w_c ?_
    | with_reducible refine w_next ?_
    | with_reducible refine w_i0 ?_
    | with_reducible refine w_u1 ?_
    | with_reducible refine w_addI ?_
    | with_reducible refine w_eqI ?_
    | with_reducible refine w_eqS ?_
    | with_reducible refine w_eqB ?_
    | with_reducible refine w_neI ?_
    | with_reducible refine w_neS ?_
    | with_reducible refine w_neB ?_
    | with_reducible refine w_abs ?_
    | with_reducible refine w_intI ?_
    | with_reducible refine w_min2 ?_
    | with_reducible refine w_max2 ?_
    | with_reducible refine w_isN0 ?_
    | with_reducible refine w_isN1 ref_ne ?_
    | with_reducible refine w_isN1 int_ne ?_
    | with_reducible refine w_notN0 ?_
    | with_reducible refine w_notN1 ref_ne ?_
    | with_reducible refine w_notN1 int_ne ?_
    | with_reducible refine w_ex1 ?_
    | with_reducible refine w_n1 ?_
    | with_reducible refine w_n2 ?_
    | with_reducible refine w_tT ?_
    | with_reducible refine w_tF ?_
    | with_reducible refine w_nT ?_
    | with_reducible refine w_nF ?_
    | with_reducible refine w_rz ?_
    | with_reducible refine w_mkN ?_
    | with_reducible refine w_lrgN ?_
    | with_reducible refine w_rg1 ?_
    | with_reducible refine w_rg2 ?_
    | with_reducible refine w_sl ?_
    | with_reducible refine w_np ?_
    | with_reducible refine w_pt ?_
    | with_reducible refine w_tr ?_
    | with_reducible refine w_gn ?_
    | with_reducible refine w_yes ?_
    | with_reducible refine w_m1 ?_
    | with_reducible refine w_asu ?_
    | with_reducible refine w_exS ?_
    | with_reducible refine w_iS ?_
    | with_reducible refine w_g1 ?_
    | with_reducible refine w_gc ?_
    | with_reducible refine w_gt (SqT.of upd_same) rfl ?_)
local macro_rules
  | `(tactic| walk_at "g") => `(tactic| repeat walk_at "1")
local macro_rules
  | `(tactic| walk_at "j1") => `(tactic| first
    | with_reducible refine w_seqI ?_
    | walk_at "1")
local macro_rules
  | `(tactic| walk_at "j") => `(tactic| repeat walk_at "j1")
section
variable {K : PySem.W.Frag} {mg : Str → Option Value}
theorem mid_at {α : Type} (row t : List α) (x : α) {i : Nat} (h : i ≤ row.length) : (row.take i ++ [x] ++ t)[i]? = some x ∧ (row.take i ++ [x] ++ t).take i = row.take i := by
  have l : (row.take i).length = i := by rw [List.length_take]; omega
  refine ⟨?_, ?_⟩
  · rw [List.append_assoc, List.getElem?_append_right (by omega), l, Nat.sub_self] <;> rfl
  · rw [List.append_assoc, List.take_append_of_le_length (by omega), List.take_take, Nat.min_self]
theorem flt_op {n : Nat} {row t : List Int} {op : Int} {i : Nat} (hn : n ≤ 60) (h : i ≤ row.length) (le : Leg (wholeS n) row) (bad : ¬ OkOp (runS (wholeS n) (row.take i)) op) {w : Str} (hw : w = if IsOp n op then ("illegal" : Str) else "operation") : FltO (n : Int) (row.take i ++ [op] ++ t) [.str w, .int op, .int (i : Int)] := by
  obtain ⟨h1, h2⟩ := mid_at row t op h
  refine .inr (.inl ⟨⟨by omega, by omega⟩, i, op, h1, ?_, ?_, ?_⟩)
  · rw [Int.toNat_natCast, h2]
    exact le.take i
  · rw [Int.toNat_natCast, h2]
    exact bad
  · rw [Int.toNat_natCast, hw]
theorem len__law_faulty (K : PySem.W.Frag) : ∀ vs H Q E, sp__law_faulty K vs H Q E → vs.length = (["box", "size", "log"] : List Str).length := by
  rintro vs H Q E ⟨_, _, _, _, _, rfl, _⟩
  rfl
theorem rd__law_faulty (T : Txt K mg) (vs : List V) (H : Hp) (Q : VK) (E : XK) (h : sp__law_faulty K vs H Q E) : t__law_faulty K E { nx := fun _ H' => Q .non H', rt := Q } (start ["box", "size", "log", "spoilt", "way", "at", "far", "head", "tail", "operation"] vs) H := by
  obtain ⟨b, c, a, n, log, rfl, n60, bx, ab, ac, ha, L, g⟩ := h
  unfold t__law_faulty
  have len := L.len
  have ok : SizeOk (n : Int) := ⟨by omega, by omega⟩
  walk_at "j"
  refine ⟨sz_ok (by show 2 ≤ 1000000; omega), G.nw fun q0 H1 nq0 k1 hq0 => ?_⟩
  walk_at "j"
  have b1 := bx.k0 k1
  have fq0 := bx.fr nq0
  refine w_ifJ (fun σ' H' => ∃ (row : List Int) (i : Nat) (way : Int) (q p : Addr), σ' = [some (.ref b), some (.int n), some (.ref a), some (.ref q), some (.int way), none, none, none, none, none] ∧ Kp [b, c] H H' ∧ BoxI H' b c ∧ H' q = some (.lst [.ref p, .int (i : Int)]) ∧ H' p = some (.lst (row.map V.int)) ∧ q ≠ b ∧ q ≠ c ∧ p ≠ b ∧ p ≠ c ∧ Alt row ∧ (∀ x ∈ row, IsOp n x) ∧ row.length ≤ 300 ∧ 0 ≤ way ∧ way ≤ 2 ∧ (n = 0 → way = 2) ∧ (1 ≤ n → TwiceAt row i))
    (fun N hN => ?_) (fun σ' H2 ⟨row, i, way, q, p, es, k2, b2, hq, hp, qb, qc, pb, pc, al, ops, rl, w0, w2, wn, tw⟩ => ?_)
  · walk_at "g"
    refine w_iteD (fun c1 => ?_) (fun c1 => ?_)
    · walk_at "g"
      refine ⟨b, c, a, n, log, rfl, by omega, n60, b1, ab, ac, k1.at0 ha, L, fun row i q p H2 ops al rl tw nq np k2 b2 hq hp => ?_⟩
      walk_at "g"
      refine ⟨b, c, 3, rfl, by omega, by omega, b2, fun way H3 w0 w2 k3 b3 => ?_⟩
      walk_at "g"
      have fq := b1.fr nq
      have fp := b1.fr np
      exact hN _ _ ⟨row, i, way, q, p, rfl, (k1.all.trans k2).trans k3, b3, k3 _ _ (by simp [fq.1, fq.2]) hq, k3 _ _ (by simp [fp.1, fp.2]) hp, fq.1, fq.2, fp.1, fp.2, al, ops, rl, w0, by omega, fun z => by omega, fun _ => tw⟩
    · walk_at "g"
      exact hN _ _ ⟨log, 0, 2, q0, a, rfl, k1.all, b1, hq0, k1.at0 ha, fq0.1, fq0.2, ab, ac, L.alt, L.ops, by omega, by omega, by omega, fun _ => rfl, fun z => by omega⟩
  subst es
  have leg := leg_of n60 ops al
  have fin : ∀ (rw' : List Int) (r p' t : Addr) (xs : List V) (H3 H4 : Hp), rw'.length ≤ 400 → FltO (n : Int) rw' xs → H3 r = none → Kp [b, c] H2 H3 → BoxI H3 b c → Kp [] H3 H4 → H4 r = some (.lst [.ref p', .ref t]) → H4 p' = some (.lst (rw'.map V.int)) → p' ≠ b → p' ≠ c → H4 t = some (.tup xs) → Q (.ref r) H4 := by
    intro rw' r p' t xs H3 H4 l f nr k b3 k4 h1 h2 n1 n2 h3
    have fr := b3.fr nr
    exact g rw' r p' t xs H4 l f ((k2.trans k).free (by simp [fr.1, fr.2]) nr) ((k2.trans k).trans k4.all) (b3.k0 k4) h1 h2 n1 n2 h3
  walk_at "j"
  refine w_ifK (fun H' => H' = H2 ∧ way ≠ 0) (fun N hN => ?_) (fun H3 ⟨e3, wz⟩ => ?_)
  · walk_at "g"
    refine w_iteD (fun c1 => ?_) (fun c1 => ?_)
    · walk_at "g"
      refine w_ixL (SqL.of hq) at_0 ?_
      walk_at "g"
      refine w_ixL (SqL.of hq) (i := 1) (v := .int (i : Int)) rfl ?_
      walk_at "g"
      refine ⟨sz_ok (by show 2 ≤ 1000000; omega), G.nw fun t H3 nt k3 ht => ?_⟩
      walk_at "g"
      refine ⟨sz_ok (by show 2 ≤ 1000000; omega), G.nw fun r H4 nr k4 hr => ?_⟩
      exact fin row r p t _ H3 H4 (by omega) (.inr (.inr (.inl ⟨ok, by rw [Int.toNat_natCast]; exact leg, i, tw (by omega), rfl⟩))) nr k3.all (b2.k0 k3) k4 hr (k4.at0 (k3.at0 hp)) pb pc (k4.at0 ht)
    · exact hN _ ⟨rfl, c1⟩
  subst H3
  walk_at "j"
  refine w_ixL (SqL.of hq) at_0 ?_
  walk_at "j"
  refine w_lenL (SqL.of hp) ?_
  walk_at "j"
  rw [List.length_map]
  refine ⟨b, c, _, rfl, by omega, by omega, b2, fun at_ H3 at1 at2 k3 b3 => ?_⟩
  obtain ⟨j, rfl⟩ : ∃ j : Nat, at_ = (j : Int) := ⟨at_.toNat, by omega⟩
  walk_at "j"
  refine w_ic ⟨by omega, by omega, by decide⟩ ?_
  walk_at "j"
  refine ⟨b, c, _, rfl, by decide, by decide, b3, fun z H4 z1 z2 k4 b4 => ?_⟩
  walk_at "j"
  refine ⟨sz_ok (by show 3 ≤ 1000000; omega), G.nw fun l H5 nl k5 hl => ?_⟩
  walk_at "j"
  refine ⟨b, c, 3, rfl, by omega, by omega, b4.k0 k5, fun d H6 d1 d2 k6 b6 => ?_⟩
  have fl := b4.fr nl
  have hl' : H5 l = some (.lst ([0, (n : Int) + 1, (n : Int) + 2 + z].map V.int)) := hl
  have hl6 : H6 l = _ := k6 _ _ (by simp [fl.1, fl.2]) hl'
  refine w_ixL (SqL.of hl6) (at_I (by omega) (by show d < 3; omega)) ?_
  have bad : ¬ IsOp n (gI [0, (n : Int) + 1, (n : Int) + 2 + z] d.toNat) := by
    have h012 : d = 0 ∨ d = 1 ∨ d = 2 := by omega
    rcases h012 with rfl | rfl | rfl
    · rintro ⟨x1, x2⟩
      have : gI [0, (n : Int) + 1, (n : Int) + 2 + z] (0 : Int).toNat = 0 := rfl
      omega
    · rintro ⟨x1, x2⟩
      have : gI [0, (n : Int) + 1, (n : Int) + 2 + z] (1 : Int).toNat = (n : Int) + 1 := rfl
      omega
    · rintro ⟨x1, x2⟩
      have : gI [0, (n : Int) + 1, (n : Int) + 2 + z] (2 : Int).toNat = (n : Int) + 2 + z := rfl
      omega
  generalize gI [0, (n : Int) + 1, (n : Int) + 2 + z] d.toNat = far at bad ⊢
  have k26 : Kp [b, c] H2 H6 := ((k3.trans k4).trans k5.all).trans k6
  walk_at "j"
  refine w_ifJ (fun σ' H' => ∃ far' : Int, σ' = [some (.ref b), some (.int n), some (.ref a), some (.ref q), some (.int way), some (.int (j : Int)), some (.int far'), none, none, none] ∧ ¬ IsOp n far' ∧ Kp [b, c] H2 H' ∧ BoxI H' b c) (fun N hN => ?_) (fun σ' H7 ⟨far', es, bad, k7, b7⟩ => ?_)
  · walk_at "g"
    refine ⟨b, c, 2, rfl, by omega, by omega, b6, fun sg H7 sg1 sg2 k7 b7 => ?_⟩
    walk_at "g"
    refine w_iteD (fun c1 => ?_) (fun c1 => ?_)
    · walk_at "g"
      refine hN _ _ ⟨-far, rfl, fun z => bad ?_, k26.trans k7, b7⟩
      unfold IsOp at z ⊢
      rw [Int.natAbs_neg] at z
      exact z
    · walk_at "g"
      exact hN _ _ ⟨far, rfl, bad, k26.trans k7, b7⟩
  subst es
  have hq7 : H7 q = _ := k7 _ _ (by simp [qb, qc]) hq
  have hp7 : H7 p = _ := k7 _ _ (by simp [pb, pc]) hp
  have lhd : (row.take j).length ≤ 300 := by rw [List.length_take]; omega
  have ltl : (row.drop j).length ≤ 300 := by rw [List.length_drop]; omega
  have lsum : (row.take j).length + (row.drop j).length ≤ 300 := by rw [List.length_take, List.length_drop]; omega
  walk_at "j"
  refine w_ixL (SqL.of hq7) at_0 ?_
  walk_at "j"
  refine w_slL (SqL.of hp7) fun hd H8 nhd k8 hhd => ?_
  rw [cut_take _ _ (by rw [List.length_map]; omega), ← List.map_take] at hhd
  walk_at "j"
  refine w_ixL (SqL.of (k8.at0 hq7)) at_0 ?_
  walk_at "j"
  refine w_slL (SqL.of (k8.at0 hp7)) fun tl_ H9 ntl k9 htl => ?_
  rw [cut_drop _ _ (by rw [List.length_map]; omega), ← List.map_drop] at htl
  have fhd := b7.fr nhd
  have b8 := b7.k0 k8
  have ftl := b8.fr ntl
  have b9 := b8.k0 k9
  have k29 : Kp [b, c] H2 H9 := k7.trans (k8.trans k9).all
  have hhd9 := k9.at0 hhd
  have hq9 := k9.at0 (k8.at0 hq7)
  have hp9 := k9.at0 (k8.at0 hp7)
  have legj := leg.take j
  walk_at "j"
  refine w_ifK (fun H' => H' = H9) (fun N hN => ?_) (fun H3 e3 => ?_)
  · walk_at "g"
    refine w_iteD (fun c1 => ?_) (fun c1 => ?_)
    · walk_at "g"
      refine ⟨b, c, hd, n, row.take j, rfl, by omega, n60, b9, fhd.1, fhd.2, hhd9, by omega, al.take' j, fun op Ha iop nout ka ba => ?_⟩
      have hha : Ha hd = _ := ka _ _ (by simp [fhd.1, fhd.2]) hhd9
      have hta : Ha tl_ = _ := ka _ _ (by simp [ftl.1, ftl.2]) htl
      walk_at "g"
      refine ⟨sz_ok (by show 1 ≤ 1000000; omega), G.nw fun z1 Hb nz1 kb hz1 => ?_⟩
      have hz1' : Hb z1 = some (.lst ([op].map V.int)) := hz1
      walk_at "g"
      refine w_addLN (kb.at0 hha) hz1' (sz_ok (by rw [List.length_map, List.length_map]; show _ + 1 ≤ _; omega)) fun z2 Hc nz2 kc hz2 => ?_
      rw [← List.map_append] at hz2
      walk_at "g"
      refine w_addLN hz2 ((kb.trans kc).at0 hta) (sz_ok (by rw [List.length_map, List.length_map, List.length_append]; show _ + 1 + _ ≤ _; omega)) fun z3 Hd nz3 kd hz3 => ?_
      rw [← List.map_append] at hz3
      walk_at "g"
      refine ⟨sz_ok (by show 1 ≤ 1000000; omega), G.nw fun z4 He nz4 ke hz4 => ?_⟩
      have hz4' : He z4 = some (.lst ([far'].map V.int)) := hz4
      walk_at "g"
      refine w_addLN (ke.at0 hz3) hz4' (sz_ok (by rw [List.length_map, List.length_map, List.length_append, List.length_append]; show _ + 1 + _ + 1 ≤ _; omega)) fun z5 Hf nz5 kf hz5 => ?_
      rw [← List.map_append] at hz5
      walk_at "g"
      refine ⟨sz_ok (by show 3 ≤ 1000000; omega), G.nw fun t Hg nt kg ht => ?_⟩
      walk_at "g"
      refine ⟨sz_ok (by show 2 ≤ 1000000; omega), G.nw fun r Hh nr kh hr => ?_⟩
      have kae := (kb.trans kc).trans (kd.trans ke)
      have fz5 := (ba.k0 kae).fr nz5
      have kag := kae.trans (kf.trans kg)
      refine fin (row.take j ++ [op] ++ row.drop j ++ [far']) r z5 t _ Hg Hh (by rw [List.length_append, List.length_append, List.length_append]; show _ + 1 + _ + 1 ≤ _; omega) ?_ nr ((k29.trans ka).trans kag.all) (ba.k0 kag) kh hr (kh.at0 (kg.at0 hz5)) fz5.1 fz5.2 (kh.at0 ht)
      rw [show row.take j ++ [op] ++ row.drop j ++ [far'] = row.take j ++ [op] ++ (row.drop j ++ [far']) by simp]
      exact flt_op n60 (by omega) leg (fun y => nout ((ok_out n60 legj).mp y).2) (by rw [if_pos iop] <;> rfl)
    · exact hN _ rfl
  subst H3
  walk_at "j"
  refine w_ifJ (fun σ' H' => ∃ (ta : Addr) (ts : List Int), σ' = [some (.ref b), some (.int n), some (.ref a), some (.ref q), some (.int way), some (.int (j : Int)), some (.int far'), some (.ref hd), some (.ref ta), none] ∧ Kp [b, c] H9 H' ∧ BoxI H' b c ∧ H' ta = some (.lst (ts.map V.int)) ∧ ts.length ≤ (row.drop j).length + 1) (fun N hN => ?_) (fun σ' Ha ⟨ta, ts, es, ka, ba, hta, lts⟩ => ?_)
  · walk_at "g"
    refine w_iteD (fun c1 => ?_) (fun c1 => ?_)
    · walk_at "g"
      refine w_ixL (SqL.of hq9) at_0 ?_
      walk_at "g"
      refine ⟨b, c, p, n, row, rfl, by omega, n60, b9, pb, pc, hp9, by omega, al, fun op Ha iop nout ka ba => ?_⟩
      have hta : Ha tl_ = _ := ka _ _ (by simp [ftl.1, ftl.2]) htl
      walk_at "g"
      refine ⟨sz_ok (by show 1 ≤ 1000000; omega), G.nw fun z1 Hb nz1 kb hz1 => ?_⟩
      have hz1' : Hb z1 = some (.lst ([op].map V.int)) := hz1
      walk_at "g"
      refine w_addLN (kb.at0 hta) hz1' (sz_ok (by rw [List.length_map, List.length_map]; show _ + 1 ≤ _; omega)) fun z2 Hc nz2 kc hz2 => ?_
      rw [← List.map_append] at hz2
      walk_at "g"
      exact hN _ _ ⟨z2, _, rfl, ka.trans (kb.trans kc).all, ba.k0 (kb.trans kc), hz2, by rw [List.length_append]; show _ + 1 ≤ _; omega⟩
    · walk_at "g"
      exact hN _ _ ⟨tl_, _, rfl, Kp.refl _ _, b9, htl, by omega⟩
  subst es
  have hha : Ha hd = _ := ka _ _ (by simp [fhd.1, fhd.2]) hhd9
  walk_at "g"
  refine ⟨sz_ok (by show 1 ≤ 1000000; omega), G.nw fun z1 Hb nz1 kb hz1 => ?_⟩
  have hz1' : Hb z1 = some (.lst ([far'].map V.int)) := hz1
  walk_at "g"
  refine w_addLN (kb.at0 hha) hz1' (sz_ok (by rw [List.length_map, List.length_map]; show _ + 1 ≤ _; omega)) fun z2 Hc nz2 kc hz2 => ?_
  rw [← List.map_append] at hz2
  walk_at "g"
  refine w_addLN hz2 ((kb.trans kc).at0 hta) (sz_ok (by rw [List.length_map, List.length_map, List.length_append]; show _ + 1 + _ ≤ _; omega)) fun z3 Hd nz3 kd hz3 => ?_
  rw [← List.map_append] at hz3
  walk_at "g"
  refine ⟨sz_ok (by show 3 ≤ 1000000; omega), G.nw fun t Hg nt kg ht => ?_⟩
  walk_at "g"
  refine ⟨sz_ok (by show 2 ≤ 1000000; omega), G.nw fun r Hh nr kh hr => ?_⟩
  have kac := kb.trans kc
  have fz3 := (ba.k0 kac).fr nz3
  have kag := kac.trans (kd.trans kg)
  refine fin (row.take j ++ [far'] ++ ts) r z3 t _ Hg Hh (by rw [List.length_append, List.length_append]; show _ + 1 + _ ≤ _; omega) ?_ nr ((k29.trans ka).trans kag.all) (ba.k0 kag) kh hr (kh.at0 (kg.at0 hz3)) fz3.1 fz3.2 (kh.at0 ht)
  exact flt_op n60 (by omega) leg (fun y => bad (by have := y.1; rwa [runS_n] at this)) (by rw [if_neg bad] <;> rfl)
end
end G

set_option Elab.async false
set_option linter.all false
set_option maxRecDepth 100000
set_option maxHeartbeats 1000000
namespace G
--#FAM KG
open PySem PySem.Spec PyProof.Rows L2
local macro_rules
  | `(tactic| walk_at "1") => `(tactic| first
    | with_reducible refine w_seq ?_
    | with_reducible refine w_asg ?_
    | with_reducible refine w_asgS ?_
    | with_reducible refine w_asf ?_
    | with_reducible refine w_drop ?_
    | with_reducible refine w_ret ?_
    | with_reducible refine w_if ?_
    | with_reducible refine w_not ?_
    | with_reducible refine w_and ?_
    | with_reducible refine w_or ?_
    | with_reducible refine w_test ?_
    | with_reducible refine w_tb ?_
    | with_reducible refine w_chain ?_
    | with_reducible refine w_op ?_
    | with_reducible refine w_un ?_
    | with_reducible refine w_andV ?_
    | with_reducible refine w_orV ?_
    | with_reducible refine w_notV ?_
    | with_reducible refine w_ifE ?_
    | with_reducible refine w_cons ?_
    | with_reducible refine w_nil ?_
    | with_reducible refine w_cb ?_
    | with_reducible refine w_cl ?_
    | with_reducible refine w_mt ?_
    | with_reducible refine w_fld ?_
    | with_reducible refine w_tupN ?_
    | with_reducible refine w_lstN ?_
    | with_reducible refine w_bm ?_
    | with_reducible refine w_bm0 ?_
    | with_reducible refine w_for ?_
    | with_reducible refine w_lc ?_
    | with_reducible refine w_iR1 ?_
    | with_reducible refine w_iR2 ?_
    | with_reducible refine w_iL ?_
    | with_reducible refine w_iT ?_
    | with_reducible refine w_iE ?_
    | with_reducible refine w_iZ ?_
    | with_reducible refine w_var (by with_unfolding_all rfl) ?_
    | with_reducible refine w_c ?_
    | with_reducible refine w_next ?_
    | with_reducible refine w_i0 ?_
    | with_reducible refine w_u1 ?_
    | with_reducible refine w_addI ?_
    | with_reducible refine w_eqI ?_
    | with_reducible refine w_eqS ?_
    | with_reducible refine w_eqB ?_
    | with_reducible refine w_neI ?_
    | with_reducible refine w_neS ?_
    | with_reducible refine w_neB ?_
    | with_reducible refine w_abs ?_
    | with_reducible refine w_intI ?_
    | with_reducible refine w_min2 ?_
    | with_reducible refine w_max2 ?_
    | with_reducible refine w_isN0 ?_
    | with_reducible refine w_isN1 ref_ne ?_
    | with_reducible refine w_isN1 int_ne ?_
    | with_reducible refine w_notN0 ?_
    | with_reducible refine w_notN1 ref_ne ?_
    | with_reducible refine w_notN1 int_ne ?_
    | with_reducible refine w_ex1 ?_
    | with_reducible refine w_n1 ?_
    | with_reducible refine w_n2 ?_
    | with_reducible refine w_tT ?_
    | with_reducible refine w_tF ?_
    | with_reducible refine w_nT ?_
    | with_reducible refine w_nF ?_
    | with_reducible refine w_rz ?_
    | with_reducible refine w_mkN ?_
    | with_reducible refine w_lrgN ?_
    | with_reducible refine w_rg1 ?_
    | with_reducible refine w_rg2 ?_
    | with_reducible refine w_sl ?_
    | with_reducible refine w_np ?_
    | with_reducible refine w_pt ?_
    | with_reducible refine w_tr ?_
    | with_reducible refine w_gn ?_
    | with_reducible refine w_yes ?_
    | with_reducible refine w_m1 ?_
    | with_reducible refine w_asu ?_
    | with_reducible refine w_exS ?_
    | with_reducible refine w_iS ?_
    | with_reducible refine w_g1 ?_
    | with_reducible refine w_gc ?_
    | with_reducible refine w_gt (SqT.of upd_same) rfl ?_)
local macro_rules
  | `(tactic| walk_at "g") => `(tactic| repeat walk_at "1")
local macro_rules
  | `(tactic| walk_at "j1") => `(tactic| first
    | with_reducible refine w_seqI ?_
    | walk_at "1")
local macro_rules
  | `(tactic| walk_at "j") => `(tactic| repeat walk_at "j1")
section
variable {K : PySem.W.Frag} {mg : Str → Option Value}
abbrev hndT (K : PySem.W.Frag) : Addr → Value → Option Addr → TS := fun a cls d => tSeq (tAsg (tLst (tCons (tCB (rIsX K cls d a) (tCons (tVar 3) (tCons (tC (.ref (He.ga K "BadSize"))) (tNil)))) (tCons (tCB (rIsX K cls d a) (tCons (tVar 3) (tCons (tC (.ref (He.ga K "NotOnce"))) (tNil)))) (tCons (tCB (rIsX K cls d a) (tCons (tVar 3) (tCons (tC (.ref (He.ga K "Illegal"))) (tNil)))) (tNil))))) (gName 4)) (tSeq (tAsg (tOp rAddA (tVar 4) (tLst (tCons (tCB (rIsX K cls d a) (tCons (tVar 3) (tCons (tC (.ref (He.ga K "BadOperation"))) (tNil)))) (tCons (tCB (rIsX K cls d a) (tCons (tVar 3) (tCons (tC (.ref (He.ga K "LogError"))) (tNil)))) (tCons (tCB (rIsX K cls d a) (tCons (tVar 3) (tCons (tC (.ty "ValueError")) (tNil)))) (tNil)))))) (gName 4)) (tSeq (tIfS (tTest (tOp (rEqA K) (tVar 4) (tLst (tCons (tC (.bl true)) (tCons (tC (.bl false)) (tCons (tC (.bl false)) (tCons (tC (.bl false)) (tCons (tC (.bl false)) (tCons (tC (.bl true)) (tNil)))))))))) (tRet (tCl (sp__law_fields K) (fun _ => E0) (tCons (tC (.str "size")) (tCons (tTup (tCons (tXat K a cls d "size" (tVar 3)) (tNil))) (tNil))))) (tNext)) (tSeq (tIfS (tTest (tOp (rEqA K) (tVar 4) (tLst (tCons (tC (.bl false)) (tCons (tC (.bl true)) (tCons (tC (.bl false)) (tCons (tC (.bl false)) (tCons (tC (.bl false)) (tCons (tC (.bl true)) (tNil)))))))))) (tRet (tCl (sp__law_fields K) (fun _ => E0) (tCons (tC (.str "once")) (tCons (tTup (tCons (tXat K a cls d "index" (tVar 3)) (tNil))) (tNil))))) (tNext)) (tSeq (tIfS (tTest (tOp (rEqA K) (tVar 4) (tLst (tCons (tC (.bl false)) (tCons (tC (.bl false)) (tCons (tC (.bl true)) (tCons (tC (.bl false)) (tCons (tC (.bl true)) (tCons (tC (.bl true)) (tNil)))))))))) (tRet (tCl (sp__law_fields K) (fun _ => E0) (tCons (tC (.str "illegal")) (tCons (tTup (tCons (tXat K a cls d "operation" (tVar 3)) (tCons (tXat K a cls d "index" (tVar 3)) (tNil)))) (tNil))))) (tNext)) (tSeq (tIfS (tTest (tOp (rEqA K) (tVar 4) (tLst (tCons (tC (.bl false)) (tCons (tC (.bl false)) (tCons (tC (.bl false)) (tCons (tC (.bl true)) (tCons (tC (.bl true)) (tCons (tC (.bl true)) (tNil)))))))))) (tRet (tCl (sp__law_fields K) (fun _ => E0) (tCons (tC (.str "operation")) (tCons (tTup (tCons (tXat K a cls d "operation" (tVar 3)) (tCons (tXat K a cls d "index" (tVar 3)) (tNil)))) (tNil))))) (tNext)) (tRet (tTup (tCons (tC (.str "odd")) (tNil)))))))))
theorem w_isx {H : Hp} {Q : VK} {D dd a : Addr} {fs : List (Str × V)} {c : V} {u : Value} {r : Bool} (hd : H dd = some (.xd fs)) (ex : ExK K D) (k : ClsV c u) (q : PySem.W.kitOne K (.ref D) u = some r) (g : Q (.bl r) H) : rIsX K (.ref D) (some dd) a [.ref a, c] H Q := ⟨D, dd, fs, c, u, r, rfl, rfl, hd, ex, rfl, k, q, g⟩
theorem w_xat {σ : L2.St} {H : Hp} {Q : VK} {D dd a : Addr} {fs : List (Str × V)} {v : V} {f : Str} {te : TE} (hv : ∀ Q, Q (.ref a) H → te σ H Q) (hd : H dd = some (.xd fs)) (ex : ExK K D) (hf : PySem.W.findIn K (.ref D) f = some none) (hl : fs.lookup f = some v) (g : Q v H) : tXat K a (.ref D) (some dd) f te σ H Q := hv _ ⟨D, dd, fs, v, rfl, rfl, hd, ex, rfl, hf, hl, g⟩
theorem lk1 (f : Str) (v : V) (r : List (Str × V)) : ((f, v) :: r).lookup f = some v := by
  simp [List.lookup]
theorem lk_op (i o : V) : ([(("index" : Str), i), ("operation", o)] : List (Str × V)).lookup ("operation" : Str) = some o := by
  have : (("operation" : Str) == ("index" : Str)) = false := by decide +kernel
  simp [List.lookup, this]
theorem dpB {H : Hp} : ∀ bs : List Bool, DpAll K H (bs.map V.bl) (bs.map PyData.bool)
  | [] => .nil
  | b :: bs => .cons (.bl b) (dpB bs)
theorem layB : ∀ xs : List Bool, PyData.canLayAll0 (xs.map PyData.bool) = true
  | [] => by simp [PyData.canLayAll0]
  | x :: xs => by
    show PyData.canLayAll0 (PyData.bool x :: xs.map PyData.bool) = true
    rw [PyData.canLayAll0, layB xs]
    simp [PyData.canLay0]
theorem depB : ∀ xs : List Bool, PyData.depthAll (xs.map PyData.bool) ≤ 1
  | [] => by simp [PyData.depthAll]
  | x :: xs => by
    have := depB xs
    show PyData.depthAll (PyData.bool x :: xs.map PyData.bool) ≤ 1
    rw [PyData.depthAll]
    simp [PyData.depth]
    omega
theorem shB (xs : List Bool) : SeqAt.shaped (.list (xs.map PyData.bool)) = true := by
  unfold SeqAt.shaped
  rw [PyData.canLay0, layB, PyData.depth]
  have := depB xs
  simp
  omega
theorem w_eqBs {H : Hp} {Q : VK} {p q : Addr} {bs cs : List Bool} {r : Bool} (h1 : H p = some (.lst (bs.map V.bl))) (h2 : H q = some (.lst (cs.map V.bl))) (e : PyData.eqv (.list (bs.map PyData.bool)) (.list (cs.map PyData.bool)) = r) (g : Q (.bl r) H) : rEqA K (.ref p) (.ref q) H Q :=
  w_eqD (.lst (SqL.of h1) (dpB bs)) (.lst (SqL.of h2) (dpB cs)) (shB bs) (shB cs) (by rw [e]; exact g)
theorem len__law_fields (K : PySem.W.Frag) : ∀ vs H Q E, sp__law_fields K vs H Q E → vs.length = (["word", "fields"] : List Str).length := by
  rintro vs H Q E ⟨_, _, _, rfl, _⟩
  rfl
theorem rd__law_fields (T : Txt K mg) (vs : List V) (H : Hp) (Q : VK) (E : XK) (h : sp__law_fields K vs H Q E) : t__law_fields K E { nx := fun _ H' => Q .non H', rt := Q } (start ["word", "fields", "field"] vs) H := by
  obtain ⟨w, a, is, rfl, ha, ne, hl, g⟩ := h
  unfold t__law_fields
  walk_at "g"
  refine ⟨a, rfl, ⟨_, SqT.of ha⟩, ?_⟩
  refine lp_tup (xs := is.map V.int) (fun i σ H' => (∃ x2, σ = [some (.str w), some (.ref a), x2]) ∧ Kp [] H H') ⟨⟨_, rfl⟩, Kp.refl _ _⟩ ?_ ?_ ?_
  · rintro i σ' H' hi ⟨_, k⟩
    exact SqT.of (k.at0 ha)
  · rintro i x σ' H' hx ⟨⟨x2, rfl⟩, k⟩
    obtain ⟨v, hv, rfl⟩ := at_map hx
    walk_at "g"
    refine ⟨_, rfl, ?_⟩
    walk_at "g"
    exact ⟨⟨_, rfl⟩, k⟩
  · rintro σ' H' ⟨⟨x2, rfl⟩, k⟩
    walk_at "g"
    refine ⟨sz_ok (by show 1 ≤ 1000000; omega), G.nw fun t H2 nt k2 ht => ?_⟩
    walk_at "g"
    refine w_catT (SqT.of ht) (SqT.of (k2.at0 (k.at0 ha))) (by simp) (by simpa using ne) (sz_ok (by rw [List.length_map]; show 1 + _ ≤ _; omega)) fun r H3 nr k3 hr => ?_
    exact g r H3 ((k.trans k2).trans k3) hr
section
variable {W0 : WX} {D : Ends} {y0 y1 y2 y3 y4 : Option V} {H : Hp}
theorem hnd_BadSize (T : Txt K mg) {size : Int} (g : ∀ t H', Kp [] H H' → H' t = some (.tup [.str "size", .int size]) → D.rt (.ref t) H') : Ex K "BadSize" [("size", .int size)] (WE (wAs K (.ref (He.ga K "LinkError")) 3 (hndT K) W0 D) [y0, y1, y2, y3, y4]) H := by
  intro d nd
  refine ⟨true, T.exm_BadSize_LinkError, fun _ a na => ?_, fun z => by cases z⟩
  have hd : upd H d (.xd [("size", .int size)]) d = some (.xd [("size", .int size)]) := upd_same
  have kd : Kp [] H (upd H d (.xd [("size", .int size)])) := Kp.new nd
  unfold hndT
  generalize upd H d (.xd [("size", .int size)]) = H1 at hd kd na ⊢
  walk_at "g"
  refine w_isx hd T.ex_BadSize (.own _) T.kit_BadSize_BadSize ?_
  walk_at "g"
  refine w_isx hd T.ex_BadSize (.own _) T.kit_BadSize_NotOnce ?_
  walk_at "g"
  refine w_isx hd T.ex_BadSize (.own _) T.kit_BadSize_Illegal ?_
  walk_at "g"
  refine ⟨sz_ok (by show 3 ≤ 1000000; omega), G.nw fun p1 H2 n1 k2 h1 => ?_⟩
  walk_at "g"
  refine w_isx (k2.at0 hd) T.ex_BadSize (.own _) T.kit_BadSize_BadOperation ?_
  walk_at "g"
  refine w_isx (k2.at0 hd) T.ex_BadSize (.own _) T.kit_BadSize_LogError ?_
  walk_at "g"
  refine w_isx (k2.at0 hd) T.ex_BadSize (.ty _) T.kit_BadSize_ValueError ?_
  walk_at "g"
  refine ⟨sz_ok (by show 3 ≤ 1000000; omega), G.nw fun p2 H3 n2 k3 h2 => ?_⟩
  walk_at "g"
  refine w_addLN (k3.at0 h1) h2 (sz_ok (by show 6 ≤ 1000000; omega)) fun p3 H4 n3 k4 h3 => ?_
  have hb : H4 p3 = some (.lst ([true, false, false, false, false, true].map V.bl)) := h3
  have kk0 : Kp [] H4 H4 := Kp.refl _ _
  have kd0 := ((kd.trans k2).trans k3).trans k4
  have hd0 := ((k2.trans k3).trans k4).at0 hd
  walk_at "g"
  refine ⟨sz_ok (by show 6 ≤ 1000000; omega), G.nw fun q0 J0 m0 j0 e0 => ?_⟩
  have kk1 := kk0.trans j0
  have c0 : J0 q0 = some (.lst ([true, false, false, false, false, true].map V.bl)) := e0
  refine w_eqBs (r := true) (kk1.at0 hb) c0 (by decide +kernel) ?_
  walk_at "g"
  refine w_xat (fun Q q => w_var (by with_unfolding_all rfl) q) (kk1.at0 hd0) T.ex_BadSize (T.oe_BadSize.2 _ (by simp)) (lk1 _ _ _) ?_
  walk_at "g"
  refine ⟨sz_ok (by show 1 ≤ 1000000; omega), G.nw fun t J nt kj ht => ?_⟩
  have ht' : J t = some (.tup ([size].map V.int)) := ht
  walk_at "g"
  refine ⟨_, t, [size], rfl, ht', by simp, by show 1 ≤ 5; omega, fun t' J' kj' h' => ?_⟩
  exact g t' J' ((kd0.trans kk1).trans (kj.trans kj')) h'
theorem hnd_NotOnce (T : Txt K mg) {i : Int} (g : ∀ t H', Kp [] H H' → H' t = some (.tup [.str "once", .int i]) → D.rt (.ref t) H') : Ex K "NotOnce" [("index", .int i)] (WE (wAs K (.ref (He.ga K "LinkError")) 3 (hndT K) W0 D) [y0, y1, y2, y3, y4]) H := by
  intro d nd
  refine ⟨true, T.exm_NotOnce_LinkError, fun _ a na => ?_, fun z => by cases z⟩
  have hd : upd H d (.xd [("index", .int i)]) d = some (.xd [("index", .int i)]) := upd_same
  have kd : Kp [] H (upd H d (.xd [("index", .int i)])) := Kp.new nd
  unfold hndT
  generalize upd H d (.xd [("index", .int i)]) = H1 at hd kd na ⊢
  walk_at "g"
  refine w_isx hd T.ex_NotOnce (.own _) T.kit_NotOnce_BadSize ?_
  walk_at "g"
  refine w_isx hd T.ex_NotOnce (.own _) T.kit_NotOnce_NotOnce ?_
  walk_at "g"
  refine w_isx hd T.ex_NotOnce (.own _) T.kit_NotOnce_Illegal ?_
  walk_at "g"
  refine ⟨sz_ok (by show 3 ≤ 1000000; omega), G.nw fun p1 H2 n1 k2 h1 => ?_⟩
  walk_at "g"
  refine w_isx (k2.at0 hd) T.ex_NotOnce (.own _) T.kit_NotOnce_BadOperation ?_
  walk_at "g"
  refine w_isx (k2.at0 hd) T.ex_NotOnce (.own _) T.kit_NotOnce_LogError ?_
  walk_at "g"
  refine w_isx (k2.at0 hd) T.ex_NotOnce (.ty _) T.kit_NotOnce_ValueError ?_
  walk_at "g"
  refine ⟨sz_ok (by show 3 ≤ 1000000; omega), G.nw fun p2 H3 n2 k3 h2 => ?_⟩
  walk_at "g"
  refine w_addLN (k3.at0 h1) h2 (sz_ok (by show 6 ≤ 1000000; omega)) fun p3 H4 n3 k4 h3 => ?_
  have hb : H4 p3 = some (.lst ([false, true, false, false, false, true].map V.bl)) := h3
  have kk0 : Kp [] H4 H4 := Kp.refl _ _
  have kd0 := ((kd.trans k2).trans k3).trans k4
  have hd0 := ((k2.trans k3).trans k4).at0 hd
  walk_at "g"
  refine ⟨sz_ok (by show 6 ≤ 1000000; omega), G.nw fun q0 J0 m0 j0 e0 => ?_⟩
  have kk1 := kk0.trans j0
  have c0 : J0 q0 = some (.lst ([true, false, false, false, false, true].map V.bl)) := e0
  refine w_eqBs (r := false) (kk1.at0 hb) c0 (by decide +kernel) ?_
  walk_at "g"
  refine ⟨sz_ok (by show 6 ≤ 1000000; omega), G.nw fun q1 J1 m1 j1 e1 => ?_⟩
  have kk2 := kk1.trans j1
  have c1 : J1 q1 = some (.lst ([false, true, false, false, false, true].map V.bl)) := e1
  refine w_eqBs (r := true) (kk2.at0 hb) c1 (by decide +kernel) ?_
  walk_at "g"
  refine w_xat (fun Q q => w_var (by with_unfolding_all rfl) q) (kk2.at0 hd0) T.ex_NotOnce (T.oe_NotOnce.2 _ (by simp)) (lk1 _ _ _) ?_
  walk_at "g"
  refine ⟨sz_ok (by show 1 ≤ 1000000; omega), G.nw fun t J nt kj ht => ?_⟩
  have ht' : J t = some (.tup ([i].map V.int)) := ht
  walk_at "g"
  refine ⟨_, t, [i], rfl, ht', by simp, by show 1 ≤ 5; omega, fun t' J' kj' h' => ?_⟩
  exact g t' J' ((kd0.trans kk2).trans (kj.trans kj')) h'
theorem hnd_Illegal (T : Txt K mg) {i op : Int} (g : ∀ t H', Kp [] H H' → H' t = some (.tup [.str "illegal", .int op, .int i]) → D.rt (.ref t) H') : Ex K "Illegal" [("index", .int i), ("operation", .int op)] (WE (wAs K (.ref (He.ga K "LinkError")) 3 (hndT K) W0 D) [y0, y1, y2, y3, y4]) H := by
  intro d nd
  refine ⟨true, T.exm_Illegal_LinkError, fun _ a na => ?_, fun z => by cases z⟩
  have hd : upd H d (.xd [("index", .int i), ("operation", .int op)]) d = some (.xd [("index", .int i), ("operation", .int op)]) := upd_same
  have kd : Kp [] H (upd H d (.xd [("index", .int i), ("operation", .int op)])) := Kp.new nd
  unfold hndT
  generalize upd H d (.xd [("index", .int i), ("operation", .int op)]) = H1 at hd kd na ⊢
  walk_at "g"
  refine w_isx hd T.ex_Illegal (.own _) T.kit_Illegal_BadSize ?_
  walk_at "g"
  refine w_isx hd T.ex_Illegal (.own _) T.kit_Illegal_NotOnce ?_
  walk_at "g"
  refine w_isx hd T.ex_Illegal (.own _) T.kit_Illegal_Illegal ?_
  walk_at "g"
  refine ⟨sz_ok (by show 3 ≤ 1000000; omega), G.nw fun p1 H2 n1 k2 h1 => ?_⟩
  walk_at "g"
  refine w_isx (k2.at0 hd) T.ex_Illegal (.own _) T.kit_Illegal_BadOperation ?_
  walk_at "g"
  refine w_isx (k2.at0 hd) T.ex_Illegal (.own _) T.kit_Illegal_LogError ?_
  walk_at "g"
  refine w_isx (k2.at0 hd) T.ex_Illegal (.ty _) T.kit_Illegal_ValueError ?_
  walk_at "g"
  refine ⟨sz_ok (by show 3 ≤ 1000000; omega), G.nw fun p2 H3 n2 k3 h2 => ?_⟩
  walk_at "g"
  refine w_addLN (k3.at0 h1) h2 (sz_ok (by show 6 ≤ 1000000; omega)) fun p3 H4 n3 k4 h3 => ?_
  have hb : H4 p3 = some (.lst ([false, false, true, false, true, true].map V.bl)) := h3
  have kk0 : Kp [] H4 H4 := Kp.refl _ _
  have kd0 := ((kd.trans k2).trans k3).trans k4
  have hd0 := ((k2.trans k3).trans k4).at0 hd
  walk_at "g"
  refine ⟨sz_ok (by show 6 ≤ 1000000; omega), G.nw fun q0 J0 m0 j0 e0 => ?_⟩
  have kk1 := kk0.trans j0
  have c0 : J0 q0 = some (.lst ([true, false, false, false, false, true].map V.bl)) := e0
  refine w_eqBs (r := false) (kk1.at0 hb) c0 (by decide +kernel) ?_
  walk_at "g"
  refine ⟨sz_ok (by show 6 ≤ 1000000; omega), G.nw fun q1 J1 m1 j1 e1 => ?_⟩
  have kk2 := kk1.trans j1
  have c1 : J1 q1 = some (.lst ([false, true, false, false, false, true].map V.bl)) := e1
  refine w_eqBs (r := false) (kk2.at0 hb) c1 (by decide +kernel) ?_
  walk_at "g"
  refine ⟨sz_ok (by show 6 ≤ 1000000; omega), G.nw fun q2 J2 m2 j2 e2 => ?_⟩
  have kk3 := kk2.trans j2
  have c2 : J2 q2 = some (.lst ([false, false, true, false, true, true].map V.bl)) := e2
  refine w_eqBs (r := true) (kk3.at0 hb) c2 (by decide +kernel) ?_
  walk_at "g"
  refine w_xat (fun Q q => w_var (by with_unfolding_all rfl) q) (kk3.at0 hd0) T.ex_Illegal (T.oe_Illegal.2 _ (by simp)) (lk_op _ _) ?_
  walk_at "g"
  refine w_xat (fun Q q => w_var (by with_unfolding_all rfl) q) (kk3.at0 hd0) T.ex_Illegal (T.oe_Illegal.2 _ (by simp)) (lk1 _ _ _) ?_
  walk_at "g"
  refine ⟨sz_ok (by show 2 ≤ 1000000; omega), G.nw fun t J nt kj ht => ?_⟩
  have ht' : J t = some (.tup ([op, i].map V.int)) := ht
  walk_at "g"
  refine ⟨_, t, [op, i], rfl, ht', by simp, by show 2 ≤ 5; omega, fun t' J' kj' h' => ?_⟩
  exact g t' J' ((kd0.trans kk3).trans (kj.trans kj')) h'
theorem hnd_BadOperation (T : Txt K mg) {i op : Int} (g : ∀ t H', Kp [] H H' → H' t = some (.tup [.str "operation", .int op, .int i]) → D.rt (.ref t) H') : Ex K "BadOperation" [("index", .int i), ("operation", .int op)] (WE (wAs K (.ref (He.ga K "LinkError")) 3 (hndT K) W0 D) [y0, y1, y2, y3, y4]) H := by
  intro d nd
  refine ⟨true, T.exm_BadOperation_LinkError, fun _ a na => ?_, fun z => by cases z⟩
  have hd : upd H d (.xd [("index", .int i), ("operation", .int op)]) d = some (.xd [("index", .int i), ("operation", .int op)]) := upd_same
  have kd : Kp [] H (upd H d (.xd [("index", .int i), ("operation", .int op)])) := Kp.new nd
  unfold hndT
  generalize upd H d (.xd [("index", .int i), ("operation", .int op)]) = H1 at hd kd na ⊢
  walk_at "g"
  refine w_isx hd T.ex_BadOperation (.own _) T.kit_BadOperation_BadSize ?_
  walk_at "g"
  refine w_isx hd T.ex_BadOperation (.own _) T.kit_BadOperation_NotOnce ?_
  walk_at "g"
  refine w_isx hd T.ex_BadOperation (.own _) T.kit_BadOperation_Illegal ?_
  walk_at "g"
  refine ⟨sz_ok (by show 3 ≤ 1000000; omega), G.nw fun p1 H2 n1 k2 h1 => ?_⟩
  walk_at "g"
  refine w_isx (k2.at0 hd) T.ex_BadOperation (.own _) T.kit_BadOperation_BadOperation ?_
  walk_at "g"
  refine w_isx (k2.at0 hd) T.ex_BadOperation (.own _) T.kit_BadOperation_LogError ?_
  walk_at "g"
  refine w_isx (k2.at0 hd) T.ex_BadOperation (.ty _) T.kit_BadOperation_ValueError ?_
  walk_at "g"
  refine ⟨sz_ok (by show 3 ≤ 1000000; omega), G.nw fun p2 H3 n2 k3 h2 => ?_⟩
  walk_at "g"
  refine w_addLN (k3.at0 h1) h2 (sz_ok (by show 6 ≤ 1000000; omega)) fun p3 H4 n3 k4 h3 => ?_
  have hb : H4 p3 = some (.lst ([false, false, false, true, true, true].map V.bl)) := h3
  have kk0 : Kp [] H4 H4 := Kp.refl _ _
  have kd0 := ((kd.trans k2).trans k3).trans k4
  have hd0 := ((k2.trans k3).trans k4).at0 hd
  walk_at "g"
  refine ⟨sz_ok (by show 6 ≤ 1000000; omega), G.nw fun q0 J0 m0 j0 e0 => ?_⟩
  have kk1 := kk0.trans j0
  have c0 : J0 q0 = some (.lst ([true, false, false, false, false, true].map V.bl)) := e0
  refine w_eqBs (r := false) (kk1.at0 hb) c0 (by decide +kernel) ?_
  walk_at "g"
  refine ⟨sz_ok (by show 6 ≤ 1000000; omega), G.nw fun q1 J1 m1 j1 e1 => ?_⟩
  have kk2 := kk1.trans j1
  have c1 : J1 q1 = some (.lst ([false, true, false, false, false, true].map V.bl)) := e1
  refine w_eqBs (r := false) (kk2.at0 hb) c1 (by decide +kernel) ?_
  walk_at "g"
  refine ⟨sz_ok (by show 6 ≤ 1000000; omega), G.nw fun q2 J2 m2 j2 e2 => ?_⟩
  have kk3 := kk2.trans j2
  have c2 : J2 q2 = some (.lst ([false, false, true, false, true, true].map V.bl)) := e2
  refine w_eqBs (r := false) (kk3.at0 hb) c2 (by decide +kernel) ?_
  walk_at "g"
  refine ⟨sz_ok (by show 6 ≤ 1000000; omega), G.nw fun q3 J3 m3 j3 e3 => ?_⟩
  have kk4 := kk3.trans j3
  have c3 : J3 q3 = some (.lst ([false, false, false, true, true, true].map V.bl)) := e3
  refine w_eqBs (r := true) (kk4.at0 hb) c3 (by decide +kernel) ?_
  walk_at "g"
  refine w_xat (fun Q q => w_var (by with_unfolding_all rfl) q) (kk4.at0 hd0) T.ex_BadOperation (T.oe_BadOperation.2 _ (by simp)) (lk_op _ _) ?_
  walk_at "g"
  refine w_xat (fun Q q => w_var (by with_unfolding_all rfl) q) (kk4.at0 hd0) T.ex_BadOperation (T.oe_BadOperation.2 _ (by simp)) (lk1 _ _ _) ?_
  walk_at "g"
  refine ⟨sz_ok (by show 2 ≤ 1000000; omega), G.nw fun t J nt kj ht => ?_⟩
  have ht' : J t = some (.tup ([op, i].map V.int)) := ht
  walk_at "g"
  refine ⟨_, t, [op, i], rfl, ht', by simp, by show 2 ≤ 5; omega, fun t' J' kj' h' => ?_⟩
  exact g t' J' ((kd0.trans kk4).trans (kj.trans kj')) h'
end
theorem len__law_refusal (K : PySem.W.Frag) : ∀ vs H Q E, sp22__law_refusal K vs H Q E → vs.length = (["way", "size", "log"] : List Str).length := by
  rintro vs H Q E ⟨_, _, _, _, rfl, _⟩
  rfl
theorem rd__law_refusal (T : Txt K mg) (vs : List V) (H : Hp) (Q : VK) (E : XK) (h : sp22__law_refusal K vs H Q E) : t__law_refusal K E { nx := fun _ H' => Q .non H', rt := Q } (start ["way", "size", "log", "e", "kinds"] vs) H := by
  obtain ⟨a, way, size, log, rfl, hs, hlen, g⟩ := h
  unfold t__law_refusal
  walk_at "g"
  refine ⟨a, way, size, log, rfl, hs, hlen, ⟨⟨fun ok i op hi le bad H' k => ?_, fun bad H' k => ?_⟩, fun ok le i tw H' k => ?_⟩, fun ok le oo H' k => ?_⟩
  · unfold OpE
    by_cases c : IsOp (wholeS size.toNat).n op
    · rw [if_pos c]
      exact hnd_Illegal T fun t H2 k2 ht => g _ t H2 (.inr (.inl ⟨ok, i, op, hi, le, bad, by rw [if_pos (show IsOp size.toNat op from c)]⟩)) (k.trans k2) ht
    · rw [if_neg c]
      exact hnd_BadOperation T fun t H2 k2 ht => g _ t H2 (.inr (.inl ⟨ok, i, op, hi, le, bad, by rw [if_neg (show ¬ IsOp size.toNat op from c)]⟩)) (k.trans k2) ht
  · exact hnd_BadSize T fun t H2 k2 ht => g _ t H2 (.inl ⟨bad, rfl⟩) (k.trans k2) ht
  · exact hnd_NotOnce T fun t H2 k2 ht => g _ t H2 (.inr (.inr (.inl ⟨ok, le, i, tw, rfl⟩))) (k.trans k2) ht
  · walk_at "g"
    refine ⟨sz_ok (by show 1 ≤ 1000000; omega), G.nw fun t H2 nt k2 ht => ?_⟩
    exact g _ t H2 (.inr (.inr (.inr ⟨ok, le, oo, rfl⟩))) (k.trans k2) ht
end
end G

set_option Elab.async false
set_option linter.all false
set_option maxRecDepth 100000
set_option maxHeartbeats 1000000
namespace G
--#FAM KG
open PySem PySem.Spec PyProof.Rows L2
local macro_rules
  | `(tactic| walk_at "1") => `(tactic| first
    | with_reducible refine w_seq ?_
    | with_reducible refine w_asg ?_
    | with_reducible refine w_asgS ?_
    | with_reducible refine w_asf ?_
    | with_reducible refine w_drop ?_
    | with_reducible refine w_ret ?_
    | with_reducible refine w_if ?_
    | with_reducible refine w_not ?_
    | with_reducible refine w_and ?_
    | with_reducible refine w_or ?_
    | with_reducible refine w_test ?_
    | with_reducible refine w_tb ?_
    | with_reducible refine w_chain ?_
    | with_reducible refine w_op ?_
    | with_reducible refine w_un ?_
    | with_reducible refine w_andV ?_
    | with_reducible refine w_orV ?_
    | with_reducible refine w_notV ?_
    | with_reducible refine w_ifE ?_
    | with_reducible refine w_cons ?_
    | with_reducible refine w_nil ?_
    | with_reducible refine w_cb ?_
    | with_reducible refine w_cl ?_
    | with_reducible refine w_mt ?_
    | with_reducible refine w_fld ?_
    | with_reducible refine w_tupN ?_
    | with_reducible refine w_lstN ?_
    | with_reducible refine w_bm ?_
    | with_reducible refine w_bm0 ?_
    | with_reducible refine w_for ?_
    | with_reducible refine w_lc ?_
    | with_reducible refine w_iR1 ?_
    | with_reducible refine w_iR2 ?_
    | with_reducible refine w_iL ?_
    | with_reducible refine w_iT ?_
    | with_reducible refine w_iE ?_
    | with_reducible refine w_iZ ?_
    | with_reducible refine w_var (by with_unfolding_all rfl) ?_
    | with_reducible refine w_c ?_
    | with_reducible refine w_next ?_
    | with_reducible refine w_i0 ?_
    | with_reducible refine w_u1 ?_
    | with_reducible refine w_addI ?_
    | with_reducible refine w_eqI ?_
    | with_reducible refine w_eqS ?_
    | with_reducible refine w_eqB ?_
    | with_reducible refine w_neI ?_
    | with_reducible refine w_neS ?_
    | with_reducible refine w_neB ?_
    | with_reducible refine w_abs ?_
    | with_reducible refine w_intI ?_
    | with_reducible refine w_min2 ?_
    | with_reducible refine w_max2 ?_
    | with_reducible refine w_isN0 ?_
    | with_reducible refine w_isN1 ref_ne ?_
    | with_reducible refine w_isN1 int_ne ?_
    | with_reducible refine w_notN0 ?_
    | with_reducible refine w_notN1 ref_ne ?_
    | with_reducible refine w_notN1 int_ne ?_
    | with_reducible refine w_ex1 ?_
    | with_reducible refine w_n1 ?_
    | with_reducible refine w_n2 ?_
    | with_reducible refine w_tT ?_
    | with_reducible refine w_tF ?_
    | with_reducible refine w_nT ?_
    | with_reducible refine w_nF ?_
    | with_reducible refine w_rz ?_
    | with_reducible refine w_mkN ?_
    | with_reducible refine w_lrgN ?_
    | with_reducible refine w_rg1 ?_
    | with_reducible refine w_rg2 ?_
    | with_reducible refine w_sl ?_
    | with_reducible refine w_np ?_
    | with_reducible refine w_pt ?_
    | with_reducible refine w_tr ?_
    | with_reducible refine w_gn ?_
    | with_reducible refine w_yes ?_
    | with_reducible refine w_m1 ?_
    | with_reducible refine w_asu ?_
    | with_reducible refine w_exS ?_
    | with_reducible refine w_iS ?_
    | with_reducible refine w_g1 ?_
    | with_reducible refine w_gc ?_
    | with_reducible refine w_gt (SqT.of upd_same) rfl ?_)
local macro_rules
  | `(tactic| walk_at "g") => `(tactic| repeat walk_at "1")
local macro_rules
  | `(tactic| walk_at "j1") => `(tactic| first
    | with_reducible refine w_seqI ?_
    | walk_at "1")
local macro_rules
  | `(tactic| walk_at "j") => `(tactic| repeat walk_at "j1")
section
variable {K : PySem.W.Frag} {mg : Str → Option Value}
theorem so0 : PyData.strOk ("none" : Str) = true := by decide +kernel
theorem so1 : PyData.strOk ("size" : Str) = true := by decide +kernel
theorem so2 : PyData.strOk ("once" : Str) = true := by decide +kernel
theorem so4 (c : Prop) [Decidable c] : PyData.strOk (if c then ("illegal" : Str) else "operation") = true := by
  by_cases h : c
  · rw [if_pos h]
    decide +kernel
  · rw [if_neg h]
    decide +kernel
theorem dpFO {H : Hp} {size : Int} {log : List Int} {xs : List V} (f : FltO size log xs) : ∃ ds, DpAll K H xs ds ∧ SeqAt.shaped (.tuple ds) = true := by
  rcases f with ⟨_, rfl⟩ | ⟨_, i, op, _, _, _, rfl⟩ | ⟨_, _, i, _, rfl⟩ | ⟨_, _, _, rfl⟩
  · exact ⟨_, .cons (.str _) (.cons (.int _) .nil), by simp [so0, so1, so2, so4, SeqAt.shaped, PyData.canLay0, PyData.canLayAll0, PyData.depth, PyData.depthAll]⟩
  · exact ⟨_, .cons (.str _) (.cons (.int _) (.cons (.int _) .nil)), by simp [so0, so1, so2, so4, SeqAt.shaped, PyData.canLay0, PyData.canLayAll0, PyData.depth, PyData.depthAll]⟩
  · exact ⟨_, .cons (.str _) (.cons (.int _) .nil), by simp [so0, so1, so2, so4, SeqAt.shaped, PyData.canLay0, PyData.canLayAll0, PyData.depth, PyData.depthAll]⟩
  · exact ⟨_, .cons (.str _) .nil, by simp [so0, so1, so2, so4, SeqAt.shaped, PyData.canLay0, PyData.canLayAll0, PyData.depth, PyData.depthAll]⟩
theorem LgO.take {n : Nat} {log : List Int} (L : LgO n log) (i : Nat) : LgO n (log.take i) := ⟨fun x hx => L.ops x (List.mem_of_mem_take hx), L.alt.take' i, L.one.take i, by have := L.len; rw [List.length_take]; omega⟩
theorem BoxI.tup {H : Hp} {b c t : Addr} {xs : List V} (a : BoxI H b c) (h : H t = some (.tup xs)) : t ≠ b ∧ t ≠ c := by
  obtain ⟨_, _, _, e1⟩ := a.ob
  obtain ⟨_, e2, _⟩ := a.hc
  refine ⟨?_, ?_⟩
  · rintro rfl
    rw [h] at e1
    cases e1
  · rintro rfl
    rw [h] at e2
    cases e2
theorem len_law (K : PySem.W.Frag) : ∀ vs H Q E, sp_law K vs H Q E → vs.length = (["script"] : List Str).length := by
  rintro vs H Q E ⟨_, _, rfl, _⟩
  rfl
theorem rd_law (T : Txt K mg) (vs : List V) (H : Hp) (Q : VK) (E : XK) (h : sp_law K vs H Q E) : t_law K E { nx := fun _ H' => Q .non H', rt := Q } (start ["script", "box", "size", "log", "cut", "faulty", "far", "wrong", "way", "handed"] vs) H := by
  obtain ⟨a, ns, rfl, hs, hl, g⟩ := h
  unfold t_law
  walk_at "j"
  refine ⟨a, ns, rfl, hs, hl, fun b c H1 nb nc k1 b1 => ?_⟩
  walk_at "j"
  refine ⟨b, c, rfl, b1, fun n H2 hn k2 b2 => ?_⟩
  walk_at "j"
  refine ⟨b, c, n, rfl, hn, b2, fun ds q H3 L nq k3 b3 hq => ?_⟩
  have fq := b2.fr nq
  have len := L.len
  have ok : SizeOk (n : Int) := ⟨by omega, by omega⟩
  have leg : Leg (wholeS (n : Int).toNat) ds := by rw [Int.toNat_natCast]; exact leg_of hn L.ops L.alt
  walk_at "j"
  refine w_lenL (SqL.of hq) ?_
  walk_at "j"
  rw [List.length_map]
  refine ⟨b, c, _, rfl, by omega, by omega, b3, fun cut H4 c1 c2 k4 b4 => ?_⟩
  obtain ⟨i, rfl⟩ : ∃ i : Nat, cut = (i : Int) := ⟨cut.toNat, by omega⟩
  have hq4 : H4 q = _ := k4 _ _ (by simp [fq.1, fq.2]) hq
  walk_at "j"
  refine w_ifK (fun H' => Kp [] H4 H') (fun N hN => ?_) (fun H5 k5 => ?_)
  · walk_at "g"
    refine ⟨q, n, ds, rfl, hn, hq4, L, fun H5 k5 => ?_⟩
    walk_at "g"
    refine w_slL (SqL.of (k5.at0 hq4)) fun s H6 ns k6 hs => ?_
    rw [cut_take _ _ (by rw [List.length_map]; omega), ← List.map_take] at hs
    walk_at "g"
    refine ⟨s, n, ds.take i, rfl, hn, hs, L.take i, fun H7 k7 => ?_⟩
    walk_at "g"
    exact hN _ ((k5.trans k6).trans k7)
  have b5 := b4.k0 k5
  walk_at "j"
  refine ⟨b, c, q, n, ds, rfl, hn, b5, fq.1, fq.2, k5.at0 hq4, L, fun row f p t xs H6 rl flt nf k6 b6 hf hp pb pc ht => ?_⟩
  have ff := b5.fr nf
  have ft := b6.tup ht
  have hq6 : H6 q = _ := k6 _ _ (by simp [fq.1, fq.2]) (k5.at0 hq4)
  walk_at "j"
  refine ⟨b, c, 1000, rfl, by omega, by omega, b6, fun far H7 f1 f2 k7 b7 => ?_⟩
  walk_at "j"
  refine ⟨sz_ok (by show 4 ≤ 1000000; omega), G.nw fun l H8 nl k8 hl8 => ?_⟩
  have fl := b7.fr nl
  have hl' : H8 l = some (.lst ([-1, 61, -2 - far, 62 + far].map V.int)) := hl8
  walk_at "j"
  refine ⟨b, c, 4, rfl, by omega, by omega, b7.k0 k8, fun w H9 w1 w2 k9 b9 => ?_⟩
  have hl9 : H9 l = _ := k9 _ _ (by simp [fl.1, fl.2]) hl'
  refine w_ixL (SqL.of hl9) (at_I (by omega) (by show w < 4; omega)) ?_
  have bad : ¬ SizeOk (gI [-1, 61, -2 - far, 62 + far] w.toNat) := by
    have h0123 : w = 0 ∨ w = 1 ∨ w = 2 ∨ w = 3 := by omega
    rcases h0123 with rfl | rfl | rfl | rfl
    · rintro ⟨x1, x2⟩
      have : gI [-1, 61, -2 - far, 62 + far] (0 : Int).toNat = -1 := rfl
      omega
    · rintro ⟨x1, x2⟩
      have : gI [-1, 61, -2 - far, 62 + far] (1 : Int).toNat = 61 := rfl
      omega
    · rintro ⟨x1, x2⟩
      have : gI [-1, 61, -2 - far, 62 + far] (2 : Int).toNat = -2 - far := rfl
      omega
    · rintro ⟨x1, x2⟩
      have : gI [-1, 61, -2 - far, 62 + far] (3 : Int).toNat = 62 + far := rfl
      omega
  generalize gI [-1, 61, -2 - far, 62 + far] w.toNat = wrong at bad ⊢
  have up : ∀ x o, x ≠ b → x ≠ c → H6 x = some o → H9 x = some o := fun x o h1 h2 h => k9 _ _ (by simp [h1, h2]) (k8.at0 (k7 _ _ (by simp [h1, h2]) h))
  have hf9 := up _ _ ff.1 ff.2 hf
  have hp9 := up _ _ pb pc hp
  have ht9 := up _ _ ft.1 ft.2 ht
  have hq9 := up _ _ fq.1 fq.2 hq6
  walk_at "j"
  refine w_r1 (by omega) ?_
  refine lp_rng0 (n := 3) (fun k σ H' => (∃ x8 x9, σ = [some (.ref a), some (.ref b), some (.int n), some (.ref q), some (.int (i : Int)), some (.ref f), some (.int far), some (.int wrong), x8, x9]) ∧ Kp [] H9 H') ⟨⟨_, _, rfl⟩, Kp.refl _ _⟩ ?_ ?_
  · rintro way σ' Ha hw ⟨⟨x8, x9, rfl⟩, ka⟩
    walk_at "j"
    refine w_ixL (SqL.of (ka.at0 hf9)) at_0 ?_
    walk_at "j"
    refine w_listLN (SqL.of (ka.at0 hp9)) fun h Hb nh kb hh => ?_
    have kab := ka.trans kb
    walk_at "j"
    refine w_ifK (fun H' => Kp [] Hb H') (fun N hN => ?_) (fun Hc kc => ?_)
    · walk_at "g"
      refine ⟨h, (way : Int), n, row, rfl, SqL.of hh, by omega, fun ys u Hc fl kc hu => ?_⟩
      have e := flt.uniq fl
      subst e
      have kac := kab.trans kc
      walk_at "g"
      refine w_ixL (SqL.of (kac.at0 hf9)) (i := 1) (v := .ref t) rfl ?_
      obtain ⟨dd, d1, d2⟩ := dpFO (K := K) (H := Hc) flt
      refine w_neT hu (kac.at0 ht9) d1 d2 ?_
      walk_at "g"
      refine w_ixL (SqL.of (kac.at0 hf9)) at_0 ?_
      refine w_neL (SqL.of (kc.at0 hh)) (SqL.of (kac.at0 hp9)) ?_
      walk_at "g"
      exact hN _ kc
    have kac := kab.trans kc
    walk_at "j"
    refine w_ifK (fun H' => Kp [] Hc H') (fun N hN => ?_) (fun Hd kd => ?_)
    · walk_at "g"
      refine w_ixL (SqL.of (kac.at0 hf9)) at_0 ?_
      walk_at "g"
      refine w_listLN (SqL.of (kac.at0 hp9)) fun h2 Hd nh2 kd hh2 => ?_
      walk_at "g"
      have fl0 : FltO wrong row [.str "size", .int wrong] := .inl ⟨bad, rfl⟩
      refine ⟨h2, (way : Int), wrong, row, rfl, SqL.of hh2, by omega, fun ys u He fl ke hu => ?_⟩
      have e := fl0.uniq fl
      subst e
      walk_at "g"
      refine ⟨sz_ok (by show 2 ≤ 1000000; omega), G.nw fun z Hf nz kf hz => ?_⟩
      obtain ⟨dd, d1, d2⟩ := dpFO (K := K) (H := Hf) fl0
      refine w_neT (kf.at0 hu) hz d1 d2 ?_
      walk_at "g"
      exact hN _ ((kd.trans ke).trans kf)
    have kad := kac.trans kd
    walk_at "g"
    refine w_listLN (SqL.of (kad.at0 hq9)) fun h3 He nh3 ke hh3 => ?_
    walk_at "g"
    have fl0 : FltO (n : Int) ds [.str "none"] := .inr (.inr (.inr ⟨ok, leg, L.one, rfl⟩))
    refine ⟨h3, (way : Int), n, ds, rfl, SqL.of hh3, by omega, fun ys u Hf fl kf hu => ?_⟩
    have e := fl0.uniq fl
    subst e
    walk_at "g"
    refine ⟨sz_ok (by show 1 ≤ 1000000; omega), G.nw fun z Hg nz kg hz => ?_⟩
    obtain ⟨dd, d1, d2⟩ := dpFO (K := K) (H := Hg) fl0
    refine w_neT (kg.at0 hu) hz d1 d2 ?_
    walk_at "g"
    exact ⟨⟨_, _, rfl⟩, (kad.trans ke).trans (kf.trans kg)⟩
  · rintro σ' Ha ⟨⟨x8, x9, rfl⟩, ka⟩
    walk_at "g"
    exact g Ha
end
end G

set_option Elab.async false
set_option linter.all false
set_option maxRecDepth 100000
set_option maxHeartbeats 4000000

namespace G
open PySem PySem.Spec PyProof.Rows L2
section
variable {P : Program} {w : World} {K : PySem.W.Frag} {mg : Str → Option Value} {base : Heap}
theorem ok__law_late {f : Addr} {fd : FuncData} (T : Txt K mg) (F : FunD K "_law_late" "_law_late" (defArgs s__law_late) (defBody s__law_late) (defScope s__law_late) [] [] f fd)  : FnOk P w K mg base (L2N.CX P w) 1 f fd ["book", "node"] (sp__law_late K) :=
  F.ok sc__law_late (len__law_late K) fun cdv A outer s H vs Q E hr h => ⟨t__law_late K E, pss_cons (ps_set (i := 2) sc__law_late.nd rfl (by first | exact Or.inl rfl | exact Or.inr rfl) (pe_lst (pa_nil))) (pss_cons (ps_set (i := 3) sc__law_late.nd rfl (by first | exact Or.inl rfl | exact Or.inr rfl) (pe_ix ix_seq (pe_ix ix_seq (pv 0) (pe_int) (fun _ _ => rfl)) (pv 1) (fun _ _ => rfl))) (pss_cons (ps_set (i := 4) sc__law_late.nd rfl (by first | exact Or.inl rfl | exact Or.inr rfl) (pe_ix ix_seq (pe_ix ix_seq (pv 0) (pe_int) (fun _ _ => rfl)) (pv 1) (fun _ _ => rfl))) (pss_cons (ps_if ((pw_and (pt_cmpR (op_neA hr) (pv 3) (pe_op op_sub (pv 1) (pe_int)) (nomark _)) (pw_and1 (pt_cmpR (op_eqA hr) (pe_ix ix_seq (pe_ix ix_seq (pv 0) (pe_int) (fun _ _ => rfl)) (pe_op op_addA (pv 3) (pe_int)) (fun _ _ => rfl)) (pe_int) (nomark _)))).pt) (pss_one (ps_expr (pe_bm PySem.F.plainAttrs_list PySem.F.slot_list_append PySem.F.type_list_append mt_append (pv 2) (pa_cons (pv 3) (pa_nil))))) (pss_nil)) (pss_cons (ps_if ((pw_and (pt_cmpR (op_neA hr) (pv 4) (pe_op op_addA (pv 1) (pe_int)) (nomark _)) (pw_and1 (pt_cmpR (op_eqA hr) (pe_ix ix_seq (pe_ix ix_seq (pv 0) (pe_int) (fun _ _ => rfl)) (pe_op op_sub (pv 4) (pe_int)) (fun _ _ => rfl)) (pe_int) (nomark _)))).pt) (pss_one (ps_expr (pe_bm PySem.F.plainAttrs_list PySem.F.slot_list_append PySem.F.type_list_append mt_append (pv 2) (pa_cons (pe_op op_sub (pv 4) (pe_int)) (pa_nil))))) (pss_nil)) (pss_one (ps_ret (pv 2))))))), rd__law_late T vs H Q E h⟩
theorem ok__law_start {f : Addr} {fd : FuncData} (T : Txt K mg) (F : FunD K "_law_start" "_law_start" (defArgs s__law_start) (defBody s__law_start) (defScope s__law_start) [] [] f fd)  : FnOk P w K mg base (L2N.CX P w) 1 f fd ["size"] (sp__law_start K) :=
  F.ok sc__law_start (len__law_start K) fun cdv A outer s H vs Q E hr h => ⟨t__law_start K E, pss_one (ps_ret (pe_lst (pa_cons (pe_lc (own := [("v", 1)]) (g := gName 1) (tt := tYes) (te := tOp rSubA (tVar 1) (tC (.int 1))) rfl sc__law_start.nd (pi_range1 rfl T.b_range (pa_cons (pe_op op_addA (pv 0) (pe_int)) (pa_nil))) (blkOk_by (own := [("v", 1)]) (N := ["size", "v"]) (sc := defScope s__law_start) (by decide +kernel)) (fun _ _ _ _ _ => pg_name (i := 1) sc__law_start.nd rfl (by first | exact Or.inl rfl | exact Or.inr rfl)) (fun _ _ _ _ _ => pts_nil) (fun _ _ _ _ _ => pe_op op_sub (pv 1) (pe_int))) (pa_cons (pe_lc (own := [("v", 1)]) (g := gName 1) (tt := tYes) (te := tOp rAddA (tVar 1) (tC (.int 1))) rfl sc__law_start.nd (pi_range1 rfl T.b_range (pa_cons (pe_op op_addA (pv 0) (pe_int)) (pa_nil))) (blkOk_by (own := [("v", 1)]) (N := ["size", "v"]) (sc := defScope s__law_start) (by decide +kernel)) (fun _ _ _ _ _ => pg_name (i := 1) sc__law_start.nd rfl (by first | exact Or.inl rfl | exact Or.inr rfl)) (fun _ _ _ _ _ => pts_nil) (fun _ _ _ _ _ => pe_op op_addA (pv 1) (pe_int))) (pa_cons (pe_op op_mulA (pe_lst (pa_cons (pe_int) (pa_nil))) (pe_op op_addA (pv 0) (pe_int))) (pa_nil)))))), rd__law_start T vs H Q E h⟩
theorem ok__law_step {f : Addr} {fd : FuncData} (T : Txt K mg) (F : FunD K "_law_step" "_law_step" (defArgs s__law_step) (defBody s__law_step) (defScope s__law_step) [] [] f fd)  : FnOk P w K mg base (L2N.CX P w) 1 f fd ["book", "operation"] (sp22__law_step K) :=
  F.ok sc__law_step (len__law_step K) fun cdv A outer s H vs Q E hr h => ⟨t__law_step K E, pss_cons (ps_set (i := 2) sc__law_step.nd rfl (by first | exact Or.inl rfl | exact Or.inr rfl) (pe_ix ix_seq (pv 0) (pe_int) (fun _ _ => rfl))) (pss_cons (ps_set (i := 3) sc__law_step.nd rfl (by first | exact Or.inl rfl | exact Or.inr rfl) (pe_ix ix_seq (pv 0) (pe_int) (fun _ _ => rfl))) (pss_cons (ps_set (i := 4) sc__law_step.nd rfl (by first | exact Or.inl rfl | exact Or.inr rfl) (pe_ix ix_seq (pv 0) (pe_int) (fun _ _ => rfl))) (pss_cons (ps_set (i := 5) sc__law_step.nd rfl (by first | exact Or.inl rfl | exact Or.inr rfl) (pe_callB call_absA (by rfl) T.b_abs (by decide +kernel) (pa_cons (pv 1) (pa_nil)))) (pss_cons (ps_set (i := 6) sc__law_step.nd rfl (by first | exact Or.inl rfl | exact Or.inr rfl) (pe_ix ix_seq (pv 2) (pv 5) (fun _ _ => rfl))) (pss_cons (ps_set (i := 7) sc__law_step.nd rfl (by first | exact Or.inl rfl | exact Or.inr rfl) (pe_ix ix_seq (pv 3) (pv 5) (fun _ _ => rfl))) (pss_one (ps_if (pt_cmpR op_lt (pv 1) (pe_int) (nomark _)) (pss_cons (ps_asg (pv 7) (pg_sub (pv 3) (pv 6) set_list)) (pss_cons (ps_asg (pv 6) (pg_sub (pv 2) (pv 7) set_list)) (pss_one (ps_asg (pe_int) (pg_sub (pv 4) (pv 5) set_list))))) (pss_cons (ps_asg (pv 5) (pg_sub (pv 3) (pv 6) set_list)) (pss_cons (ps_asg (pv 5) (pg_sub (pv 2) (pv 7) set_list)) (pss_one (ps_asg (pe_int) (pg_sub (pv 4) (pv 5) set_list)))))))))))), rd__law_step T vs H Q E h⟩
theorem ok__law_due {f : Addr} {fd : FuncData} (T : Txt K mg) (F : FunD K "_law_due" "_law_due" (defArgs s__law_due) (defBody s__law_due) (defScope s__law_due) [] [] f fd) (c__law_late : Cal P w K mg base 1 "_law_late" ["book", "node"] (sp__law_late K)) (c__law_start : Cal P w K mg base 1 "_law_start" ["size"] (sp__law_start K)) (c__law_step : Cal P w K mg base 1 "_law_step" ["book", "operation"] (sp22__law_step K)) : FnOk P w K mg base (L2N.CX P w) 2 f fd ["size", "log"] (sp22__law_due K) :=
  F.ok sc__law_due (len__law_due K) fun cdv A outer s H vs Q E hr h => ⟨t__law_due K E, pss_cons (ps_set (i := 2) sc__law_due.nd rfl (by first | exact Or.inl rfl | exact Or.inr rfl) (pe_cl c__law_start hr (by decide) (pat_of (W := fun cls d _ H => E cls d H) (L2N.takes_of rfl rfl rfl rfl)) (pa_cons (pv 0) (pa_nil)))) (pss_cons (ps_set (i := 3) sc__law_due.nd rfl (by first | exact Or.inl rfl | exact Or.inr rfl) (pe_lst (pa_nil))) (pss_cons (ps_for (passes_of rfl) rfl (pi_range1 rfl T.b_range (pa_cons (pe_callB call_lenA (by rfl) T.b_len (by decide +kernel) (pa_cons (pv 1) (pa_nil))) (pa_nil))) (pg_name (i := 4) sc__law_due.nd rfl (by first | exact Or.inl rfl | exact Or.inr rfl)) (pss_cons (ps_for (passes_of rfl) rfl (pi_list (pe_cl c__law_late hr (by decide) (pat_of (W := fun cls d _ H => E cls d H) (L2N.takes_of rfl rfl rfl rfl)) (pa_cons (pv 2) (pa_cons (pe_callB call_absA (by rfl) T.b_abs (by decide +kernel) (pa_cons (pe_ix ix_seq (pv 1) (pv 4) (fun _ _ => rfl)) (pa_nil))) (pa_nil))))) (pg_name (i := 5) sc__law_due.nd rfl (by first | exact Or.inl rfl | exact Or.inr rfl)) (pss_one (ps_expr (pe_bm PySem.F.plainAttrs_list PySem.F.slot_list_append PySem.F.type_list_append mt_append (pv 3) (pa_cons (pe_tup (pa_cons (pv 4) (pa_cons (pv 5) (pa_nil)))) (pa_nil)))))) (pss_one (ps_expr (pe_cl c__law_step hr (by decide) (pat_of (W := fun cls d _ H => E cls d H) (L2N.takes_of rfl rfl rfl rfl)) (pa_cons (pv 2) (pa_cons (pe_ix ix_seq (pv 1) (pv 4) (fun _ _ => rfl)) (pa_nil)))))))) (pss_cons (ps_set (i := 6) sc__law_due.nd rfl (by first | exact Or.inl rfl | exact Or.inr rfl) (pe_lst (pa_nil))) (pss_cons (ps_for (passes_of rfl) rfl (pi_range2 rfl T.b_range (pa_cons (pe_int) (pa_cons (pe_op op_addA (pv 0) (pe_int)) (pa_nil)))) (pg_name (i := 7) sc__law_due.nd rfl (by first | exact Or.inl rfl | exact Or.inr rfl)) (pss_one (ps_if ((pw_and (pt_cmpR op_lt (pe_ix ix_seq (pe_ix ix_seq (pv 2) (pe_int) (fun _ _ => rfl)) (pv 7) (fun _ _ => rfl)) (pe_int) (nomark _)) (pw_and1 (pt_cmpR (op_eqA hr) (pe_callB call_lenA (by rfl) T.b_len (by decide +kernel) (pa_cons (pe_cl c__law_late hr (by decide) (pat_of (W := fun cls d _ H => E cls d H) (L2N.takes_of rfl rfl rfl rfl)) (pa_cons (pv 2) (pa_cons (pv 7) (pa_nil)))) (pa_nil))) (pe_int) (nomark _)))).pt) (pss_one (ps_expr (pe_bm PySem.F.plainAttrs_list PySem.F.slot_list_append PySem.F.type_list_append mt_append (pv 6) (pa_cons (pe_ix ix_seq (pe_lst (pa_cons (pe_un un_neg (pv 7)) (pa_cons (pv 7) (pa_nil)))) (pe_ix ix_seq (pe_ix ix_seq (pv 2) (pe_int) (fun _ _ => rfl)) (pv 7) (fun _ _ => rfl)) (fun _ _ => rfl)) (pa_nil))))) (pss_nil)))) (pss_one (ps_ret (pe_lst (pa_cons (pv 3) (pa_cons (pe_cmpR op_notIn_seq (pe_int) (pe_ix ix_seq (pv 2) (pe_int) (fun _ _ => rfl)) (rfl)) (pa_cons (pv 6) (pa_nil))))))))))), rd__law_due T vs H Q E h⟩
theorem ok__law_integer {f : Addr} {fd : FuncData} (T : Txt K mg) (F : FunD K "_law_integer" "_law_integer" (defArgs s__law_integer) (defBody s__law_integer) (defScope s__law_integer) [] [] f fd)  : FnOk P w K mg base (L2N.CX P w) 1 f fd ["told"] (sp__law_integer K) :=
  F.ok sc__law_integer (len__law_integer K) fun cdv A outer s H vs Q E hr h => ⟨t__law_integer K E, pss_one (ps_ret (pe_and (pe_callB call_isi (by rfl) T.b_isinstance (by decide +kernel) (pa_cons (pv 0) (pa_cons (pe_ty "int" T.b_int (by decide +kernel)) (pa_nil)))) (pe_one (pe_not (pe_callB call_isi (by rfl) T.b_isinstance (by decide +kernel) (pa_cons (pv 0) (pa_cons (pe_ty "bool" T.b_bool (by decide +kernel)) (pa_nil)))))))), rd__law_integer T vs H Q E h⟩
theorem ok__law_row {f : Addr} {fd : FuncData} (T : Txt K mg) (F : FunD K "_law_row" "_law_row" (defArgs s__law_row) (defBody s__law_row) (defScope s__law_row) [] [] f fd) (c__law_integer : Cal P w K mg base 1 "_law_integer" ["told"] (sp__law_integer K)) : FnOk P w K mg base (L2N.CX P w) 2 f fd ["told", "due"] (sp__law_row K) :=
  F.ok sc__law_row (len__law_row K) fun cdv A outer s H vs Q E hr h => ⟨t__law_row K E, pss_cons (ps_if ((pw_or (pt_not (pt_val (pe_callB call_isi (by rfl) T.b_isinstance (by decide +kernel) (pa_cons (pv 0) (pa_cons (pe_ty "list" T.b_list (by decide +kernel)) (pa_nil)))))) (pw_or1 (pt_cmpR (op_neA hr) (pe_callB call_lenA (by rfl) T.b_len (by decide +kernel) (pa_cons (pv 0) (pa_nil))) (pe_callB call_lenA (by rfl) T.b_len (by decide +kernel) (pa_cons (pv 1) (pa_nil))) (nomark _)))).pt) (pss_one (ps_ret (pe_bl))) (pss_nil)) (pss_cons (ps_for (passes_of rfl) rfl (pi_range1 rfl T.b_range (pa_cons (pe_callB call_lenA (by rfl) T.b_len (by decide +kernel) (pa_cons (pv 1) (pa_nil))) (pa_nil))) (pg_name (i := 2) sc__law_row.nd rfl (by first | exact Or.inl rfl | exact Or.inr rfl)) (pss_one (ps_if ((pw_or (pt_not (pt_val (pe_cl c__law_integer hr (by decide) (pat_of (W := fun cls d _ H => E cls d H) (L2N.takes_of rfl rfl rfl rfl)) (pa_cons (pe_ix ix_seq (pv 0) (pv 2) (fun _ _ => rfl)) (pa_nil))))) (pw_or1 (pt_cmpR (op_neA hr) (pe_ix ix_seq (pv 0) (pv 2) (fun _ _ => rfl)) (pe_ix ix_seq (pv 1) (pv 2) (fun _ _ => rfl)) (nomark _)))).pt) (pss_one (ps_ret (pe_bl))) (pss_nil)))) (pss_one (ps_ret (pe_bl)))), rd__law_row T vs H Q E h⟩
theorem ok__law_pairs {f : Addr} {fd : FuncData} (T : Txt K mg) (F : FunD K "_law_pairs" "_law_pairs" (defArgs s__law_pairs) (defBody s__law_pairs) (defScope s__law_pairs) [] [] f fd) (c__law_row : Cal P w K mg base 2 "_law_row" ["told", "due"] (sp__law_row K)) : FnOk P w K mg base (L2N.CX P w) 3 f fd ["told", "due"] (sp__law_pairs K) :=
  F.ok sc__law_pairs (len__law_pairs K) fun cdv A outer s H vs Q E hr h => ⟨t__law_pairs K E, pss_cons (ps_if ((pw_or (pt_not (pt_val (pe_callB call_isi (by rfl) T.b_isinstance (by decide +kernel) (pa_cons (pv 0) (pa_cons (pe_ty "list" T.b_list (by decide +kernel)) (pa_nil)))))) (pw_or1 (pt_cmpR (op_neA hr) (pe_callB call_lenA (by rfl) T.b_len (by decide +kernel) (pa_cons (pv 0) (pa_nil))) (pe_callB call_lenA (by rfl) T.b_len (by decide +kernel) (pa_cons (pv 1) (pa_nil))) (nomark _)))).pt) (pss_one (ps_ret (pe_bl))) (pss_nil)) (pss_cons (ps_for (passes_of rfl) rfl (pi_range1 rfl T.b_range (pa_cons (pe_callB call_lenA (by rfl) T.b_len (by decide +kernel) (pa_cons (pv 1) (pa_nil))) (pa_nil))) (pg_name (i := 2) sc__law_pairs.nd rfl (by first | exact Or.inl rfl | exact Or.inr rfl)) (pss_one (ps_if ((pw_or (pt_not (pt_val (pe_callB call_isi (by rfl) T.b_isinstance (by decide +kernel) (pa_cons (pe_ix ix_seq (pv 0) (pv 2) (fun _ _ => rfl)) (pa_cons (pe_ty "tuple" T.b_tuple (by decide +kernel)) (pa_nil)))))) (pw_or1 (pt_not (pt_val (pe_cl c__law_row hr (by decide) (pat_of (W := fun cls d _ H => E cls d H) (L2N.takes_of rfl rfl rfl rfl)) (pa_cons (pe_callTy call_listA (by rfl) T.b_list (by decide +kernel) (pa_cons (pe_ix ix_seq (pv 0) (pv 2) (fun _ _ => rfl)) (pa_nil))) (pa_cons (pe_callTy call_listA (by rfl) T.b_list (by decide +kernel) (pa_cons (pe_ix ix_seq (pv 1) (pv 2) (fun _ _ => rfl)) (pa_nil))) (pa_nil)))))))).pt) (pss_one (ps_ret (pe_bl))) (pss_nil)))) (pss_one (ps_ret (pe_bl)))), rd__law_pairs T vs H Q E h⟩
theorem ok_Links_outs {f : Addr} {fd : FuncData} (T : Txt K mg) (F : FunD K "outs" "Links.outs" (defArgs s_Links_outs) (defBody s_Links_outs) (defScope s_Links_outs) [] [] f fd)  : FnOk P w K mg base (L2N.CX P w) 1 f fd ["self"] (sp_Links_outs K) :=
  F.ok sc_Links_outs (len_Links_outs K) fun cdv A outer s H vs Q E hr h => ⟨t_Links_outs K E, pss_one (ps_ret (pe_lc (own := [("node", 1)]) (g := gName 1) (tt := tB (tOp (rIx K) (tFld K (tVar 0) "_out") (tVar 1))) (te := tVar 1) rfl sc_Links_outs.nd (pi_range2 rfl T.b_range (pa_cons (pe_int) (pa_cons (pe_op op_addA (pe_fld (pv 0) rfl) (pe_int)) (pa_nil)))) (blkOk_by (own := [("node", 1)]) (N := ["self", "node"]) (sc := defScope s_Links_outs) (by decide +kernel)) (fun _ _ _ _ _ => pg_name (i := 1) sc_Links_outs.nd rfl (by first | exact Or.inl rfl | exact Or.inr rfl)) (fun _ _ _ _ _ => pts_one (pt_val (pe_ix ix_seq (pe_fld (pv 0) rfl) (pv 1) (fun _ _ => rfl)))) (fun _ _ _ _ _ => pv 1))), rd_Links_outs T vs H Q E h⟩
theorem ok_check_size {f : Addr} {fd : FuncData} (T : Txt K mg) (F : FunD K "check_size" "check_size" (defArgs s_check_size) (defBody s_check_size) (defScope s_check_size) [] [] f fd) (x_BadSize : ExM P w K mg base 1 "BadSize" (He.ga K "BadSize") ["size"]) : FnOk P w K mg base (L2N.CX P w) 3 f fd ["size"] (sp_check_size K) :=
  F.ok sc_check_size (len_check_size K) fun cdv A outer s H vs Q E hr h => ⟨t_check_size K E, pss_one (ps_if (pt_not (pt_chain op_le op_le (pe_int) (pv 0) (pe_cc T.cc_Links_MOST (pe_own T.g_Links)))) (pss_one (ps_rz x_BadSize rfl (L2N.takes_of rfl rfl rfl rfl) hr (by decide) (pa_cons (pv 0) (pa_nil)))) (pss_nil)), rd_check_size T vs H Q E h⟩
theorem ok_Links___init__ {f : Addr} {fd : FuncData} (T : Txt K mg) (F : FunD K "__init__" "Links.__init__" (defArgs s_Links___init__) (defBody s_Links___init__) (defScope s_Links___init__) [] [] f fd) (c_check_size : Cal P w K mg base 3 "check_size" ["size"] (sp_check_size K)) : FnOk P w K mg base (L2N.CX P w) 4 f fd ["self", "size"] (sp_Links___init__ K) :=
  F.ok sc_Links___init__ (len_Links___init__ K) fun cdv A outer s H vs Q E hr h => ⟨t_Links___init__ K E, pss_cons (ps_expr (pe_cl c_check_size hr (by decide) (pat_of (W := fun cls d _ H => E cls d H) (L2N.takes_of rfl rfl rfl rfl)) (pa_cons (pv 1) (pa_nil)))) (pss_cons (ps_fld (pv 0) (pv 1) rfl) (pss_cons (ps_fld (pv 0) (pe_listRg rfl rfl T.b_list (prg_2 rfl T.b_range (pe_int) (pe_op op_addA (pv 1) (pe_int)))) rfl) (pss_cons (ps_fld (pv 0) (pe_op op_addA (pe_lst (pa_cons (pe_int) (pa_nil))) (pe_listRg rfl rfl T.b_list (prg_1 rfl T.b_range (pe_op op_addA (pv 1) (pe_int))))) rfl) (pss_one (ps_fld (pv 0) (pe_op op_mulA (pe_lst (pa_cons (pe_bl) (pa_nil))) (pe_op op_addA (pv 1) (pe_int))) rfl))))), rd_Links___init__ T vs H Q E h⟩
theorem ok_Links_is_legal {f : Addr} {fd : FuncData} (T : Txt K mg) (F : FunD K "is_legal" "Links.is_legal" (defArgs s_Links_is_legal) (defBody s_Links_is_legal) (defScope s_Links_is_legal) [] [] f fd)  : FnOk P w K mg base (L2N.CX P w) 1 f fd ["self", "operation"] (sp_Links_is_legal K) :=
  F.ok sc_Links_is_legal (len_Links_is_legal K) fun cdv A outer s H vs Q E hr h => ⟨t_Links_is_legal K E, pss_one (ps_ret (pe_cmpR (op_eqA hr) (pe_ix ix_seq (pe_fld (pv 0) rfl) (pe_callB call_absA (by rfl) T.b_abs (by decide +kernel) (pa_cons (pv 1) (pa_nil))) (fun _ _ => rfl)) (pe_cmpR op_gt (pv 1) (pe_int) (nomark _)) (nomark _))), rd_Links_is_legal T vs H Q E h⟩
theorem ok_check_operation {f : Addr} {fd : FuncData} (T : Txt K mg) (F : FunD K "check_operation" "check_operation" (defArgs s_check_operation) (defBody s_check_operation) (defScope s_check_operation) [] [] f fd) (x_BadOperation : ExM P w K mg base 1 "BadOperation" (He.ga K "BadOperation") ["operation", "index"]) : FnOk P w K mg base (L2N.CX P w) 3 f fd ["size", "operation", "index"] (sp_check_operation K) :=
  F.ok sc_check_operation (len_check_operation K) fun cdv A outer s H vs Q E hr h => ⟨t_check_operation K E, pss_one (ps_if (pt_not (pt_chain op_le op_le (pe_int) (pe_callB call_absA (by rfl) T.b_abs (by decide +kernel) (pa_cons (pv 1) (pa_nil))) (pv 0))) (pss_one (ps_rz x_BadOperation rfl (L2N.takes_of rfl rfl rfl rfl) hr (by decide) (pa_cons (pv 1) (pa_cons (pv 2) (pa_nil))))) (pss_nil)), rd_check_operation T vs H Q E h⟩
theorem ok_Links_check {f : Addr} {fd : FuncData} (T : Txt K mg) (F : FunD K "check" "Links.check" (defArgs s_Links_check) (defBody s_Links_check) (defScope s_Links_check) [] [] f fd) (c_Links_is_legal : Met P w K mg base 1 (He.ga K "Links") "is_legal" ["self", "operation"] (sp_Links_is_legal K)) (c_check_operation : Cal P w K mg base 3 "check_operation" ["size", "operation", "index"] (sp_check_operation K)) (x_Illegal : ExM P w K mg base 1 "Illegal" (He.ga K "Illegal") ["operation", "index"]) : FnOk P w K mg base (L2N.CX P w) 4 f fd ["self", "operation", "index"] (sp_Links_check K) :=
  F.ok sc_Links_check (len_Links_check K) fun cdv A outer s H vs Q E hr h => ⟨t_Links_check K E, pss_cons (ps_expr (pe_cl c_check_operation hr (by decide) (pat_of (W := fun cls d _ H => E cls d H) (L2N.takes_of rfl rfl rfl rfl)) (pa_cons (pe_fld (pv 0) rfl) (pa_cons (pv 1) (pa_cons (pv 2) (pa_nil)))))) (pss_one (ps_if (pt_not (pt_val (pe_mt c_Links_is_legal T.cl_Links hr (by decide) (pat_of (W := fun cls d _ H => E cls d H) (L2N.takes_of rfl rfl rfl rfl)) (pv 0) (pa_cons (pv 1) (pa_nil))))) (pss_one (ps_rz x_Illegal rfl (L2N.takes_of rfl rfl rfl rfl) hr (by decide) (pa_cons (pv 1) (pa_cons (pv 2) (pa_nil))))) (pss_nil))), rd_Links_check T vs H Q E h⟩
theorem ok_Links_apply_at {f : Addr} {fd : FuncData} (T : Txt K mg) (F : FunD K "apply_at" "Links.apply_at" (defArgs s_Links_apply_at) (defBody s_Links_apply_at) (defScope s_Links_apply_at) [] [] f fd) (c_Links_check : Met P w K mg base 4 (He.ga K "Links") "check" ["self", "operation", "index"] (sp_Links_check K)) : FnOk P w K mg base (L2N.CX P w) 5 f fd ["self", "operation", "index"] (sp_Links_apply_at K) :=
  F.ok sc_Links_apply_at (len_Links_apply_at K) fun cdv A outer s H vs Q E hr h => ⟨t_Links_apply_at K E, pss_cons (ps_expr (pe_mt c_Links_check T.cl_Links hr (by decide) (pat_of (W := fun cls d _ H => E cls d H) (L2N.takes_of rfl rfl rfl rfl)) (pv 0) (pa_cons (pv 1) (pa_cons (pv 2) (pa_nil))))) (pss_cons (ps_set (i := 3) sc_Links_apply_at.nd rfl (by first | exact Or.inl rfl | exact Or.inr rfl) (pe_callB call_absA (by rfl) T.b_abs (by decide +kernel) (pa_cons (pv 1) (pa_nil)))) (pss_cons (ps_set (i := 4) sc_Links_apply_at.nd rfl (by first | exact Or.inl rfl | exact Or.inr rfl) (pe_ix ix_seq (pe_fld (pv 0) rfl) (pv 3) (fun _ _ => rfl))) (pss_cons (ps_set (i := 5) sc_Links_apply_at.nd rfl (by first | exact Or.inl rfl | exact Or.inr rfl) (pe_ix ix_seq (pe_fld (pv 0) rfl) (pv 3) (fun _ _ => rfl))) (pss_cons (ps_set (i := 6) sc_Links_apply_at.nd rfl (by first | exact Or.inl rfl | exact Or.inr rfl) (pe_cmpR op_lt (pv 1) (pe_int) (nomark _))) (pss_cons (ps_asg (pe_ifExp (pt_val (pv 6)) (pv 5) (pv 3)) (pg_sub (pe_fld (pv 0) rfl) (pv 4) set_list)) (pss_cons (ps_asg (pe_ifExp (pt_val (pv 6)) (pv 4) (pv 3)) (pg_sub (pe_fld (pv 0) rfl) (pv 5) set_list)) (pss_one (ps_asg (pv 6) (pg_sub (pe_fld (pv 0) rfl) (pv 3) set_list))))))))), rd_Links_apply_at T vs H Q E h⟩
theorem ok_Links_copy {f : Addr} {fd : FuncData} (T : Txt K mg) (F : FunD K "copy" "Links.copy" (defArgs s_Links_copy) (defBody s_Links_copy) (defScope s_Links_copy) [] [] f fd) (m_Links : Mak P w K mg base 4 "Links" (He.ga K "Links") ["self", "size"] (sp_Links___init__ K)) : FnOk P w K mg base (L2N.CX P w) 6 f fd ["self"] (sp_Links_copy K) :=
  F.ok sc_Links_copy (len_Links_copy K) fun cdv A outer s H vs Q E hr h => ⟨t_Links_copy K E, pss_cons (ps_set (i := 1) sc_Links_copy.nd rfl (by first | exact Or.inl rfl | exact Or.inr rfl) (pe_mk m_Links hr (by decide) (pat_of (W := fun cls d _ H => E cls d H) (L2N.takes_of rfl rfl rfl rfl)) (pa_cons (pe_fld (pv 0) rfl) (pa_nil)))) (pss_cons (ps_fld (pv 1) (pe_callTy call_listA (by rfl) T.b_list (by decide +kernel) (pa_cons (pe_fld (pv 0) rfl) (pa_nil))) rfl) (pss_cons (ps_fld (pv 1) (pe_callTy call_listA (by rfl) T.b_list (by decide +kernel) (pa_cons (pe_fld (pv 0) rfl) (pa_nil))) rfl) (pss_cons (ps_fld (pv 1) (pe_callTy call_listA (by rfl) T.b_list (by decide +kernel) (pa_cons (pe_fld (pv 0) rfl) (pa_nil))) rfl) (pss_one (ps_ret (pv 1)))))), rd_Links_copy T vs H Q E h⟩
theorem ok_play {f : Addr} {fd : FuncData} (T : Txt K mg) (F : FunD K "play" "play" (defArgs s_play) (defBody s_play) (defScope s_play) [] [] f fd) (c_Links_apply_at : Met P w K mg base 5 (He.ga K "Links") "apply_at" ["self", "operation", "index"] (sp_Links_apply_at K)) (c_Links_copy : Met P w K mg base 6 (He.ga K "Links") "copy" ["self"] (sp_Links_copy K)) : FnOk P w K mg base (L2N.CX P w) 7 f fd ["links", "log"] (sp_play K) :=
  F.ok sc_play (len_play K) fun cdv A outer s H vs Q E hr h => ⟨t_play K E, pss_cons (ps_set (i := 2) sc_play.nd rfl (by first | exact Or.inl rfl | exact Or.inr rfl) (pe_mt0 c_Links_copy T.cl_Links hr (by decide) (pat_of (W := fun cls d _ H => E cls d H) (L2N.takes_of rfl rfl rfl rfl)) (pv 0))) (pss_cons (ps_for (passes_of rfl) rfl (pi_enum (by rfl) T.b_enumerate (pa_cons (pv 1) (pa_nil))) (pg_tup (by rfl) (pgs_cons (pg_name (i := 3) sc_play.nd rfl (by first | exact Or.inl rfl | exact Or.inr rfl)) (pgs_cons (pg_name (i := 4) sc_play.nd rfl (by first | exact Or.inl rfl | exact Or.inr rfl)) (pgs_nil)))) (pss_one (ps_expr (pe_mt c_Links_apply_at T.cl_Links hr (by decide) (pat_of (W := fun cls d _ H => E cls d H) (L2N.takes_of rfl rfl rfl rfl)) (pv 2) (pa_cons (pv 4) (pa_cons (pv 3) (pa_nil))))))) (pss_one (ps_ret (pv 2)))), rd_play T vs H Q E h⟩
theorem ok_replay {f : Addr} {fd : FuncData} (T : Txt K mg) (F : FunD K "replay" "replay" (defArgs s_replay) (defBody s_replay) (defScope s_replay) [] [] f fd) (m_Links : Mak P w K mg base 4 "Links" (He.ga K "Links") ["self", "size"] (sp_Links___init__ K)) (c_play : Cal P w K mg base 7 "play" ["links", "log"] (sp_play K)) : FnOk P w K mg base (L2N.CX P w) 8 f fd ["size", "log"] (sp_replay K) :=
  F.ok sc_replay (len_replay K) fun cdv A outer s H vs Q E hr h => ⟨t_replay K E, pss_one (ps_ret (pe_cl c_play hr (by decide) (pat_of (W := fun cls d _ H => E cls d H) (L2N.takes_of rfl rfl rfl rfl)) (pa_cons (pe_mk m_Links hr (by decide) (pat_of (W := fun cls d _ H => E cls d H) (L2N.takes_of rfl rfl rfl rfl)) (pa_cons (pv 0) (pa_nil))) (pa_cons (pv 1) (pa_nil))))), rd_replay T vs H Q E h⟩
theorem ok__check_once {f : Addr} {fd : FuncData} (T : Txt K mg) (F : FunD K "_check_once" "_check_once" (defArgs s__check_once) (defBody s__check_once) (defScope s__check_once) [] [] f fd) (c_replay : Cal P w K mg base 8 "replay" ["size", "log"] (sp_replay K)) (x_NotOnce : ExM P w K mg base 1 "NotOnce" (He.ga K "NotOnce") ["index"]) : FnOk P w K mg base (L2N.CX P w) 9 f fd ["size", "log"] (sp__check_once K) :=
  F.ok sc__check_once (len__check_once K) fun cdv A outer s H vs Q E hr h => ⟨t__check_once K E, pss_cons (ps_expr (pe_cl c_replay hr (by decide) (pat_of (W := fun cls d _ H => E cls d H) (L2N.takes_of rfl rfl rfl rfl)) (pa_cons (pv 0) (pa_cons (pv 1) (pa_nil))))) (pss_one (ps_for (passes_of rfl) rfl (pi_enum (by rfl) T.b_enumerate (pa_cons (pv 1) (pa_nil))) (pg_tup (by rfl) (pgs_cons (pg_name (i := 2) sc__check_once.nd rfl (by first | exact Or.inl rfl | exact Or.inr rfl)) (pgs_cons (pg_name (i := 3) sc__check_once.nd rfl (by first | exact Or.inl rfl | exact Or.inr rfl)) (pgs_nil)))) (pss_one (ps_if ((pw_and (pt_cmpR op_lt (pv 3) (pe_int) (nomark _)) (pw_and1 (pt_cmpR op_in_seq (pv 3) (pe_slice sl_list (pv 1) (po_none) (po_some (pv 2))) (rfl)))).pt) (pss_one (ps_rz x_NotOnce rfl (L2N.takes_of rfl rfl rfl rfl) hr (by decide) (pa_cons (pv 2) (pa_nil)))) (pss_nil))))), rd__check_once T vs H Q E h⟩
theorem ok_is_complete {f : Addr} {fd : FuncData} (T : Txt K mg) (F : FunD K "is_complete" "is_complete" (defArgs s_is_complete) (defBody s_is_complete) (defScope s_is_complete) [] [] f fd) (c_Links_outs : Met P w K mg base 1 (He.ga K "Links") "outs" ["self"] (sp_Links_outs K)) (c__check_once : Cal P w K mg base 9 "_check_once" ["size", "log"] (sp__check_once K)) (c_replay : Cal P w K mg base 8 "replay" ["size", "log"] (sp_replay K)) : FnOk P w K mg base (L2N.CX P w) 10 f fd ["size", "log"] (sp_is_complete K) :=
  F.ok sc_is_complete (len_is_complete K) fun cdv A outer s H vs Q E hr h => ⟨t_is_complete K E, pss_cons (ps_expr (pe_cl c__check_once hr (by decide) (pat_of (W := fun cls d _ H => E cls d H) (L2N.takes_of rfl rfl rfl rfl)) (pa_cons (pv 0) (pa_cons (pv 1) (pa_nil))))) (pss_one (ps_ret (pe_cmpR (op_eqA hr) (pe_callB call_lenA (by rfl) T.b_len (by decide +kernel) (pa_cons (pe_mt0 c_Links_outs T.cl_Links hr (by decide) (pat_of (W := fun cls d _ H => E cls d H) (L2N.takes_of rfl rfl rfl rfl)) (pe_cl c_replay hr (by decide) (pat_of (W := fun cls d _ H => E cls d H) (L2N.takes_of rfl rfl rfl rfl)) (pa_cons (pv 0) (pa_cons (pv 1) (pa_nil))))) (pa_nil))) (pe_int) (nomark _)))), rd_is_complete T vs H Q E h⟩
theorem ok_Links_apply {f : Addr} {fd : FuncData} (T : Txt K mg) (F : FunD K "apply" "Links.apply" (defArgs s_Links_apply) (defBody s_Links_apply) (defScope s_Links_apply) [] [] f fd) (c_Links_apply_at : Met P w K mg base 5 (He.ga K "Links") "apply_at" ["self", "operation", "index"] (sp_Links_apply_at K)) : FnOk P w K mg base (L2N.CX P w) 6 f fd ["self", "operation"] (sp_Links_apply K) :=
  F.ok sc_Links_apply (len_Links_apply K) fun cdv A outer s H vs Q E hr h => ⟨t_Links_apply K E, pss_one (ps_expr (pe_mt c_Links_apply_at T.cl_Links hr (by decide) (pat_of (W := fun cls d _ H => E cls d H) (L2N.takes_of rfl rfl rfl rfl)) (pv 0) (pa_cons (pv 1) (pa_cons (pe_int) (pa_nil))))), rd_Links_apply T vs H Q E h⟩
theorem ok_Links_left {f : Addr} {fd : FuncData} (T : Txt K mg) (F : FunD K "left" "Links.left" (defArgs s_Links_left) (defBody s_Links_left) (defScope s_Links_left) [] [] f fd) (x_BadNode : ExM P w K mg base 1 "BadNode" (He.ga K "BadNode") ["node"]) : FnOk P w K mg base (L2N.CX P w) 3 f fd ["self", "node"] (sp_Links_left K) :=
  F.ok sc_Links_left (len_Links_left K) fun cdv A outer s H vs Q E hr h => ⟨t_Links_left K E, pss_cons (ps_if (pt_not (pt_chain op_le op_le (pe_int) (pv 1) (pe_op op_addA (pe_fld (pv 0) rfl) (pe_int)))) (pss_one (ps_rz x_BadNode rfl (L2N.takes_of rfl rfl rfl rfl) hr (by decide) (pa_cons (pv 1) (pa_nil)))) (pss_nil)) (pss_one (ps_ret (pe_ix ix_seq (pe_fld (pv 0) rfl) (pv 1) (fun _ _ => rfl)))), rd_Links_left T vs H Q E h⟩
theorem ok_Links_right {f : Addr} {fd : FuncData} (T : Txt K mg) (F : FunD K "right" "Links.right" (defArgs s_Links_right) (defBody s_Links_right) (defScope s_Links_right) [] [] f fd) (x_BadNode : ExM P w K mg base 1 "BadNode" (He.ga K "BadNode") ["node"]) : FnOk P w K mg base (L2N.CX P w) 3 f fd ["self", "node"] (sp_Links_right K) :=
  F.ok sc_Links_right (len_Links_right K) fun cdv A outer s H vs Q E hr h => ⟨t_Links_right K E, pss_cons (ps_if (pt_not (pt_chain op_le op_le (pe_int) (pv 1) (pe_fld (pv 0) rfl))) (pss_one (ps_rz x_BadNode rfl (L2N.takes_of rfl rfl rfl rfl) hr (by decide) (pa_cons (pv 1) (pa_nil)))) (pss_nil)) (pss_one (ps_ret (pe_ix ix_seq (pe_fld (pv 0) rfl) (pv 1) (fun _ _ => rfl)))), rd_Links_right T vs H Q E h⟩
theorem ok__late_gaps {f : Addr} {fd : FuncData} (T : Txt K mg) (F : FunD K "_late_gaps" "_late_gaps" (defArgs s__late_gaps) (defBody s__late_gaps) (defScope s__late_gaps) [] [] f fd) (c_Links_left : Met P w K mg base 3 (He.ga K "Links") "left" ["self", "node"] (sp_Links_left K)) (c_Links_right : Met P w K mg base 3 (He.ga K "Links") "right" ["self", "node"] (sp_Links_right K)) : FnOk P w K mg base (L2N.CX P w) 4 f fd ["links", "earlier", "operation"] (sp__late_gaps K) :=
  F.ok sc__late_gaps (len__late_gaps K) fun cdv A outer s H vs Q E hr h => ⟨t__late_gaps K E, pss_cons (ps_set (i := 3) sc__late_gaps.nd rfl (by first | exact Or.inl rfl | exact Or.inr rfl) (pe_callB call_absA (by rfl) T.b_abs (by decide +kernel) (pa_cons (pv 2) (pa_nil)))) (pss_cons (ps_set (i := 4) sc__late_gaps.nd rfl (by first | exact Or.inl rfl | exact Or.inr rfl) (pe_mt c_Links_left T.cl_Links hr (by decide) (pat_of (W := fun cls d _ H => E cls d H) (L2N.takes_of rfl rfl rfl rfl)) (pv 0) (pa_cons (pv 3) (pa_nil)))) (pss_cons (ps_set (i := 5) sc__late_gaps.nd rfl (by first | exact Or.inl rfl | exact Or.inr rfl) (pe_mt c_Links_right T.cl_Links hr (by decide) (pat_of (W := fun cls d _ H => E cls d H) (L2N.takes_of rfl rfl rfl rfl)) (pv 0) (pa_cons (pv 3) (pa_nil)))) (pss_cons (ps_set (i := 6) sc__late_gaps.nd rfl (by first | exact Or.inl rfl | exact Or.inr rfl) (pe_lst (pa_nil))) (pss_cons (ps_if ((pw_and (pt_cmpR (op_neA hr) (pv 4) (pe_op op_sub (pv 3) (pe_int)) (nomark _)) (pw_and1 (pt_cmpR op_in_seq (pe_op op_addA (pv 4) (pe_int)) (pv 1) (rfl)))).pt) (pss_one (ps_expr (pe_bm PySem.F.plainAttrs_list PySem.F.slot_list_append PySem.F.type_list_append mt_append (pv 6) (pa_cons (pv 4) (pa_nil))))) (pss_nil)) (pss_cons (ps_if ((pw_and (pt_cmpR (op_neA hr) (pv 5) (pe_op op_addA (pv 3) (pe_int)) (nomark _)) (pw_and1 (pt_cmpR op_in_seq (pe_op op_sub (pv 5) (pe_int)) (pv 1) (rfl)))).pt) (pss_one (ps_expr (pe_bm PySem.F.plainAttrs_list PySem.F.slot_list_append PySem.F.type_list_append mt_append (pv 6) (pa_cons (pe_op op_sub (pv 5) (pe_int)) (pa_nil))))) (pss_nil)) (pss_one (ps_ret (pv 6)))))))), rd__late_gaps T vs H Q E h⟩
theorem ok_late_writes {f : Addr} {fd : FuncData} (T : Txt K mg) (F : FunD K "late_writes" "late_writes" (defArgs s_late_writes) (defBody s_late_writes) (defScope s_late_writes) [] [] f fd) (m_Links : Mak P w K mg base 4 "Links" (He.ga K "Links") ["self", "size"] (sp_Links___init__ K)) (c_Links_apply : Met P w K mg base 6 (He.ga K "Links") "apply" ["self", "operation"] (sp_Links_apply K)) (c__check_once : Cal P w K mg base 9 "_check_once" ["size", "log"] (sp__check_once K)) (c__late_gaps : Cal P w K mg base 4 "_late_gaps" ["links", "earlier", "operation"] (sp__late_gaps K)) : FnOk P w K mg base (L2N.CX P w) 10 f fd ["size", "log"] (sp_late_writes K) :=
  F.ok sc_late_writes (len_late_writes K) fun cdv A outer s H vs Q E hr h => ⟨t_late_writes K E, pss_cons (ps_expr (pe_cl c__check_once hr (by decide) (pat_of (W := fun cls d _ H => E cls d H) (L2N.takes_of rfl rfl rfl rfl)) (pa_cons (pv 0) (pa_cons (pv 1) (pa_nil))))) (pss_cons (ps_set (i := 2) sc_late_writes.nd rfl (by first | exact Or.inl rfl | exact Or.inr rfl) (pe_mk m_Links hr (by decide) (pat_of (W := fun cls d _ H => E cls d H) (L2N.takes_of rfl rfl rfl rfl)) (pa_cons (pv 0) (pa_nil)))) (pss_cons (ps_set (i := 3) sc_late_writes.nd rfl (by first | exact Or.inl rfl | exact Or.inr rfl) (pe_lst (pa_nil))) (pss_cons (ps_for (passes_of rfl) rfl (pi_enum (by rfl) T.b_enumerate (pa_cons (pv 1) (pa_nil))) (pg_tup (by rfl) (pgs_cons (pg_name (i := 4) sc_late_writes.nd rfl (by first | exact Or.inl rfl | exact Or.inr rfl)) (pgs_cons (pg_name (i := 5) sc_late_writes.nd rfl (by first | exact Or.inl rfl | exact Or.inr rfl)) (pgs_nil)))) (pss_cons (ps_expr (pe_bm PySem.F.plainAttrs_list PySem.F.slot_list_extend PySem.F.type_list_extend mt_extend (pv 3) (pa_cons (pe_lc (own := [("gap", 6)]) (g := gName 6) (tt := tYes) (te := tTup (tCons (tVar 4) (tCons (tVar 6) (tNil)))) rfl sc_late_writes.nd (pi_list (pe_cl c__late_gaps hr (by decide) (pat_of (W := fun cls d _ H => E cls d H) (L2N.takes_of rfl rfl rfl rfl)) (pa_cons (pv 2) (pa_cons (pe_slice sl_list (pv 1) (po_none) (po_some (pv 4))) (pa_cons (pv 5) (pa_nil)))))) (blkOk_by (own := [("gap", 6)]) (N := ["size", "log", "links", "found", "index", "operation", "gap"]) (sc := defScope s_late_writes) (by decide +kernel)) (fun _ _ _ _ _ => pg_name (i := 6) sc_late_writes.nd rfl (by first | exact Or.inl rfl | exact Or.inr rfl)) (fun _ _ _ _ _ => pts_nil) (fun _ _ _ _ _ => pe_tup (pa_cons (pv 4) (pa_cons (pv 6) (pa_nil))))) (pa_nil)))) (pss_one (ps_expr (pe_mt c_Links_apply T.cl_Links hr (by decide) (pat_of (W := fun cls d _ H => E cls d H) (L2N.takes_of rfl rfl rfl rfl)) (pv 2) (pa_cons (pv 5) (pa_nil))))))) (pss_one (ps_ret (pv 3)))))), rd_late_writes T vs H Q E h⟩
theorem ok_Links_is_out {f : Addr} {fd : FuncData} (T : Txt K mg) (F : FunD K "is_out" "Links.is_out" (defArgs s_Links_is_out) (defBody s_Links_is_out) (defScope s_Links_is_out) [] [] f fd) (x_BadNode : ExM P w K mg base 1 "BadNode" (He.ga K "BadNode") ["node"]) : FnOk P w K mg base (L2N.CX P w) 3 f fd ["self", "node"] (sp_Links_is_out K) :=
  F.ok sc_Links_is_out (len_Links_is_out K) fun cdv A outer s H vs Q E hr h => ⟨t_Links_is_out K E, pss_cons (ps_if (pt_not (pt_chain op_le op_le (pe_int) (pv 1) (pe_op op_addA (pe_fld (pv 0) rfl) (pe_int)))) (pss_one (ps_rz x_BadNode rfl (L2N.takes_of rfl rfl rfl rfl) hr (by decide) (pa_cons (pv 1) (pa_nil)))) (pss_nil)) (pss_one (ps_ret (pe_ix ix_seq (pe_fld (pv 0) rfl) (pv 1) (fun _ _ => rfl)))), rd_Links_is_out T vs H Q E h⟩
theorem ok_safe_next {f : Addr} {fd : FuncData} (T : Txt K mg) (F : FunD K "safe_next" "safe_next" (defArgs s_safe_next) (defBody s_safe_next) (defScope s_safe_next) [] [] f fd) (c_Links_is_out : Met P w K mg base 3 (He.ga K "Links") "is_out" ["self", "node"] (sp_Links_is_out K)) (c__check_once : Cal P w K mg base 9 "_check_once" ["size", "log"] (sp__check_once K)) (c__late_gaps : Cal P w K mg base 4 "_late_gaps" ["links", "earlier", "operation"] (sp__late_gaps K)) (c_replay : Cal P w K mg base 8 "replay" ["size", "log"] (sp_replay K)) : FnOk P w K mg base (L2N.CX P w) 10 f fd ["size", "log"] (sp_safe_next K) :=
  F.ok sc_safe_next (len_safe_next K) fun cdv A outer s H vs Q E hr h => ⟨t_safe_next K E, pss_cons (ps_expr (pe_cl c__check_once hr (by decide) (pat_of (W := fun cls d _ H => E cls d H) (L2N.takes_of rfl rfl rfl rfl)) (pa_cons (pv 0) (pa_cons (pv 1) (pa_nil))))) (pss_cons (ps_set (i := 2) sc_safe_next.nd rfl (by first | exact Or.inl rfl | exact Or.inr rfl) (pe_cl c_replay hr (by decide) (pat_of (W := fun cls d _ H => E cls d H) (L2N.takes_of rfl rfl rfl rfl)) (pa_cons (pv 0) (pa_cons (pv 1) (pa_nil))))) (pss_cons (ps_setLc (i := 3) (own := [("node", 5)]) (g := gName 5) (tt := tOr (tB (tMt (He.ga K "Links") "is_out" (sp_Links_is_out K) (fun _ => E0) (tVar 2) (tCons (tVar 5) (tNil)))) (tTest (tOp (rIn K true) (tUn rNegA (tVar 5)) (tVar 1)))) (te := tVar 5) rfl sc_safe_next.nd rfl rfl (sw_true rfl rfl rfl (by decide +kernel)) (pi_range2 rfl T.b_range (pa_cons (pe_int) (pa_cons (pe_op op_addA (pv 0) (pe_int)) (pa_nil)))) (blkOk_by (own := [("node", 5)]) (N := ["size", "log", "links", "nodes", "operations", "node", "operation"]) (sc := defScope s_safe_next) (by decide +kernel)) (fun _ _ _ _ _ => pg_name (i := 5) sc_safe_next.nd rfl (by first | exact Or.inl rfl | exact Or.inr rfl)) (fun _ _ _ _ _ => pts_one ((pw_or (pt_val (pe_mt c_Links_is_out T.cl_Links hr (by decide) (pat_no) (pv 2) (pa_cons (pv 5) (pa_nil)))) (pw_or1 (pt_cmpR op_notIn_seq (pe_un un_neg (pv 5)) (pv 1) (rfl)))).pt)) (fun _ _ _ _ _ => pv 5)) (pss_cons (ps_setLc (i := 4) (own := [("node", 5)]) (g := gName 5) (tt := tYes) (te := tIf (tB (tMt (He.ga K "Links") "is_out" (sp_Links_is_out K) (fun _ => E0) (tVar 2) (tCons (tVar 5) (tNil)))) (tVar 5) (tUn rNegA (tVar 5))) rfl sc_safe_next.nd rfl rfl (sw_true rfl rfl rfl (by decide +kernel)) (pi_list (pv 3)) (blkOk_by (own := [("node", 5)]) (N := ["size", "log", "links", "nodes", "operations", "node", "operation"]) (sc := defScope s_safe_next) (by decide +kernel)) (fun _ _ _ _ _ => pg_name (i := 5) sc_safe_next.nd rfl (by first | exact Or.inl rfl | exact Or.inr rfl)) (fun _ _ _ _ _ => pts_nil) (fun _ _ _ _ _ => pe_ifExp (pt_val (pe_mt c_Links_is_out T.cl_Links hr (by decide) (pat_no) (pv 2) (pa_cons (pv 5) (pa_nil)))) (pv 5) (pe_un un_neg (pv 5)))) (pss_one (ps_ret (pe_lc (own := [("operation", 6)]) (g := gName 6) (tt := tNot (tTr K (tCl (sp__late_gaps K) (fun _ => E0) (tCons (tVar 2) (tCons (tVar 1) (tCons (tVar 6) (tNil))))))) (te := tVar 6) rfl sc_safe_next.nd (pi_list (pv 4)) (blkOk_by (own := [("operation", 6)]) (N := ["size", "log", "links", "nodes", "operations", "node", "operation"]) (sc := defScope s_safe_next) (by decide +kernel)) (fun _ _ _ _ _ => pg_name (i := 6) sc_safe_next.nd rfl (by first | exact Or.inl rfl | exact Or.inr rfl)) (fun _ _ _ _ _ => pts_one (pt_not (pt_tr (pe_cl c__late_gaps hr (by decide) (pat_no) (pa_cons (pv 2) (pa_cons (pv 1) (pa_cons (pv 6) (pa_nil))))) (by intro _; rfl)))) (fun _ _ _ _ _ => pv 6))))))), rd_safe_next T vs H Q E h⟩
theorem ok__law_agrees {f : Addr} {fd : FuncData} (T : Txt K mg) (F : FunD K "_law_agrees" "_law_agrees" (defArgs s__law_agrees) (defBody s__law_agrees) (defScope s__law_agrees) [] [] f fd) (c__law_due : Cal P w K mg base 2 "_law_due" ["size", "log"] (sp22__law_due K)) (c__law_pairs : Cal P w K mg base 3 "_law_pairs" ["told", "due"] (sp__law_pairs K)) (c__law_row : Cal P w K mg base 2 "_law_row" ["told", "due"] (sp__law_row K)) (c_is_complete : Cal P w K mg base 10 "is_complete" ["size", "log"] (sp_is_complete K)) (c_late_writes : Cal P w K mg base 10 "late_writes" ["size", "log"] (sp_late_writes K)) (c_safe_next : Cal P w K mg base 10 "safe_next" ["size", "log"] (sp_safe_next K)) : FnOk P w K mg base (L2N.CX P w) 11 f fd ["size", "log"] (sp22__law_agrees K) :=
  F.ok sc__law_agrees (len__law_agrees K) fun cdv A outer s H vs Q E hr h => ⟨t__law_agrees K E, pss_cons (ps_set (i := 2) sc__law_agrees.nd rfl (by first | exact Or.inl rfl | exact Or.inr rfl) (pe_cl c__law_due hr (by decide) (pat_of (W := fun cls d _ H => E cls d H) (L2N.takes_of rfl rfl rfl rfl)) (pa_cons (pv 0) (pa_cons (pv 1) (pa_nil))))) (pss_cons (ps_set (i := 3) sc__law_agrees.nd rfl (by first | exact Or.inl rfl | exact Or.inr rfl) (pe_callTy call_listA (by rfl) T.b_list (by decide +kernel) (pa_cons (pv 1) (pa_nil)))) (pss_cons (ps_set (i := 4) sc__law_agrees.nd rfl (by first | exact Or.inl rfl | exact Or.inr rfl) (pe_cl c_late_writes hr (by decide) (pat_of (W := fun cls d _ H => E cls d H) (L2N.takes_of rfl rfl rfl rfl)) (pa_cons (pv 0) (pa_cons (pv 3) (pa_nil))))) (pss_cons (ps_if (pt_not (pt_val (pe_cl c__law_pairs hr (by decide) (pat_of (W := fun cls d _ H => E cls d H) (L2N.takes_of rfl rfl rfl rfl)) (pa_cons (pv 4) (pa_cons (pe_ix ix_seq (pv 2) (pe_int) (fun _ _ => rfl)) (pa_nil)))))) (pss_one (ps_ret (pe_bl))) (pss_nil)) (pss_cons (ps_expr (pe_bm PySem.F.plainAttrs_list PySem.F.slot_list_append PySem.F.type_list_append mt_append (pv 4) (pa_cons (pe_tup (pa_cons (pe_callB call_lenA (by rfl) T.b_len (by decide +kernel) (pa_cons (pv 1) (pa_nil))) (pa_cons (pe_int) (pa_nil)))) (pa_nil)))) (pss_cons (ps_if (pt_not (pt_val (pe_cl c__law_pairs hr (by decide) (pat_of (W := fun cls d _ H => E cls d H) (L2N.takes_of rfl rfl rfl rfl)) (pa_cons (pe_cl c_late_writes hr (by decide) (pat_of (W := fun cls d _ H => E cls d H) (L2N.takes_of rfl rfl rfl rfl)) (pa_cons (pv 0) (pa_cons (pv 3) (pa_nil)))) (pa_cons (pe_ix ix_seq (pv 2) (pe_int) (fun _ _ => rfl)) (pa_nil)))))) (pss_one (ps_ret (pe_bl))) (pss_nil)) (pss_cons (ps_set (i := 4) sc__law_agrees.nd rfl (by first | exact Or.inl rfl | exact Or.inr rfl) (pe_cl c_safe_next hr (by decide) (pat_of (W := fun cls d _ H => E cls d H) (L2N.takes_of rfl rfl rfl rfl)) (pa_cons (pv 0) (pa_cons (pv 3) (pa_nil))))) (pss_cons (ps_if (pt_not (pt_val (pe_cl c__law_row hr (by decide) (pat_of (W := fun cls d _ H => E cls d H) (L2N.takes_of rfl rfl rfl rfl)) (pa_cons (pv 4) (pa_cons (pe_ix ix_seq (pv 2) (pe_int) (fun _ _ => rfl)) (pa_nil)))))) (pss_one (ps_ret (pe_bl))) (pss_nil)) (pss_cons (ps_expr (pe_bm PySem.F.plainAttrs_list PySem.F.slot_list_append PySem.F.type_list_append mt_append (pv 4) (pa_cons (pe_int) (pa_nil)))) (pss_cons (ps_if (pt_not (pt_val (pe_cl c__law_row hr (by decide) (pat_of (W := fun cls d _ H => E cls d H) (L2N.takes_of rfl rfl rfl rfl)) (pa_cons (pe_cl c_safe_next hr (by decide) (pat_of (W := fun cls d _ H => E cls d H) (L2N.takes_of rfl rfl rfl rfl)) (pa_cons (pv 0) (pa_cons (pv 3) (pa_nil)))) (pa_cons (pe_ix ix_seq (pv 2) (pe_int) (fun _ _ => rfl)) (pa_nil)))))) (pss_one (ps_ret (pe_bl))) (pss_nil)) (pss_cons (ps_if (pt_val (pe_ix ix_seq (pv 2) (pe_int) (fun _ _ => rfl))) (pss_one (ps_ret (pe_and (pe_cmpR op_isB (pe_cl c_is_complete hr (by decide) (pat_of (W := fun cls d _ H => E cls d H) (L2N.takes_of rfl rfl rfl rfl)) (pa_cons (pv 0) (pa_cons (pv 3) (pa_nil)))) (pe_bl) (nomark _)) (pe_one (pe_cmpR (op_eqA hr) (pv 3) (pv 1) (nomark _)))))) (pss_nil)) (pss_one (ps_ret (pe_and (pe_cmpR op_isB (pe_cl c_is_complete hr (by decide) (pat_of (W := fun cls d _ H => E cls d H) (L2N.takes_of rfl rfl rfl rfl)) (pa_cons (pv 0) (pa_cons (pv 3) (pa_nil)))) (pe_bl) (nomark _)) (pe_one (pe_cmpR (op_eqA hr) (pv 3) (pv 1) (nomark _)))))))))))))))), rd__law_agrees T vs H Q E h⟩
theorem ok__law_box {f : Addr} {fd : FuncData} (T : Txt K mg) (F : FunD K "_law_box" "_law_box" (defArgs s__law_box) (defBody s__law_box) (defScope s__law_box) [] [] f fd)  : FnOk P w K mg base (L2N.CX P w) 1 f fd ["script"] (sp__law_box K) :=
  F.ok sc__law_box (len__law_box K) fun cdv A outer s H vs Q E hr h => ⟨t__law_box K E, pss_cons (ps_set (i := 1) sc__law_box.nd rfl (by first | exact Or.inl rfl | exact Or.inr rfl) (pe_int)) (pss_cons (ps_for (passes_of rfl) rfl (pi_list (pe_slice sl_list (pv 0) (po_none) (po_some (pe_int)))) (pg_name (i := 2) sc__law_box.nd rfl (by first | exact Or.inl rfl | exact Or.inr rfl)) (pss_one (ps_set (i := 1) sc__law_box.nd rfl (by first | exact Or.inl rfl | exact Or.inr rfl) (pe_op op_mod (pe_callTy call_intA (by rfl) T.b_int (by decide +kernel) (pa_cons (pe_op op_addA (pe_op op_addA (pe_op op_mulA (pv 1) (pe_int)) (pv 2)) (pe_int)) (pa_nil))) (pe_int))))) (pss_one (ps_ret (pe_lst (pa_cons (pe_int) (pa_cons (pv 1) (pa_cons (pe_int) (pa_cons (pe_callTy call_listA (by rfl) T.b_list (by decide +kernel) (pa_cons (pe_slice sl_list (pv 0) (po_none) (po_some (pe_int))) (pa_nil))) (pa_nil))))))))), rd__law_box T vs H Q E h⟩
theorem ok__law_mixed {f : Addr} {fd : FuncData} (T : Txt K mg) (F : FunD K "_law_mixed" "_law_mixed" (defArgs s__law_mixed) (defBody s__law_mixed) (defScope s__law_mixed) [] [] f fd)  : FnOk P w K mg base (L2N.CX P w) 1 f fd ["cell", "turn"] (sp__law_mixed K) :=
  F.ok sc__law_mixed (len__law_mixed K) fun cdv A outer s H vs Q E hr h => ⟨t__law_mixed K E, pss_cons (ps_set (i := 2) sc__law_mixed.nd rfl (by first | exact Or.inl rfl | exact Or.inr rfl) (pe_op op_mod (pe_callTy call_intA (by rfl) T.b_int (by decide +kernel) (pa_cons (pe_op op_addA (pe_op op_addA (pe_op op_mulA (pv 0) (pe_int)) (pe_op op_mulA (pv 1) (pe_int))) (pe_int)) (pa_nil))) (pe_int))) (pss_cons (ps_set (i := 3) sc__law_mixed.nd rfl (by first | exact Or.inl rfl | exact Or.inr rfl) (pe_op op_mod (pe_callTy call_intA (by rfl) T.b_int (by decide +kernel) (pa_cons (pe_op op_addA (pe_op op_addA (pe_op op_mulA (pv 2) (pv 2)) (pe_op op_mulA (pv 1) (pe_int))) (pe_int)) (pa_nil))) (pe_int))) (pss_one (ps_ret (pe_op op_fdiv (pe_op op_mod (pe_callTy call_intA (by rfl) T.b_int (by decide +kernel) (pa_cons (pe_op op_addA (pe_op op_mulA (pv 3) (pv 3)) (pv 2)) (pa_nil))) (pe_int)) (pe_int))))), rd__law_mixed T vs H Q E h⟩
theorem ok__law_take {f : Addr} {fd : FuncData} (T : Txt K mg) (F : FunD K "_law_take" "_law_take" (defArgs s__law_take) (defBody s__law_take) (defScope s__law_take) [] [] f fd) (c__law_mixed : Cal P w K mg base 1 "_law_mixed" ["cell", "turn"] (sp__law_mixed K)) : FnOk P w K mg base (L2N.CX P w) 2 f fd ["box", "many"] (sp__law_take K) :=
  F.ok sc__law_take (len__law_take K) fun cdv A outer s H vs Q E hr h => ⟨t__law_take K E, pss_cons (ps_set (i := 2) sc__law_take.nd rfl (by first | exact Or.inl rfl | exact Or.inr rfl) (pe_ix ix_seq (pv 0) (pe_int) (fun _ _ => rfl))) (pss_cons (ps_if ((pw_and (pt_cmpR op_lt (pe_ix ix_seq (pv 0) (pe_int) (fun _ _ => rfl)) (pe_int) (nomark _)) (pw_and1 (pt_cmpR op_gt (pe_callB call_lenA (by rfl) T.b_len (by decide +kernel) (pa_cons (pv 2) (pa_nil))) (pe_int) (nomark _)))).pt) (pss_cons (ps_set (i := 3) sc__law_take.nd rfl (by first | exact Or.inl rfl | exact Or.inr rfl) (pe_bm PySem.F.plainAttrs_list PySem.F.slot_list_pop PySem.F.type_list_pop mt_popAt (pv 2) (pa_cons (pe_int) (pa_nil)))) (pss_cons (ps_if (pt_cmpR op_lt (pv 3) (pe_op op_pow (pe_int) (pe_int)) (nomark _)) (pss_cons (ps_asg (pe_op op_addA (pe_ix ix_seq (pv 0) (pe_int) (fun _ _ => rfl)) (pe_int)) (pg_sub (pv 0) (pe_int) set_list)) (pss_one (ps_ret (pe_op op_mod (pe_callTy call_intA (by rfl) T.b_int (by decide +kernel) (pa_cons (pe_cl c__law_mixed hr (by decide) (pat_of (W := fun cls d _ H => E cls d H) (L2N.takes_of rfl rfl rfl rfl)) (pa_cons (pv 3) (pa_cons (pe_ix ix_seq (pv 0) (pe_int) (fun _ _ => rfl)) (pa_nil)))) (pa_nil))) (pv 1))))) (pss_nil)) (pss_one (ps_asg (pv 3) (pg_sub (pv 0) (pe_int) set_list))))) (pss_nil)) (pss_cons (ps_if (pt_cmpR op_gt (pe_ix ix_seq (pv 0) (pe_int) (fun _ _ => rfl)) (pe_int) (nomark _)) (pss_cons (ps_set (i := 4) sc__law_take.nd rfl (by first | exact Or.inl rfl | exact Or.inr rfl) (pe_op op_mod (pe_callTy call_intA (by rfl) T.b_int (by decide +kernel) (pa_cons (pe_ix ix_seq (pv 0) (pe_int) (fun _ _ => rfl)) (pa_nil))) (pv 1))) (pss_cons (ps_asg (pe_op op_fdiv (pe_ix ix_seq (pv 0) (pe_int) (fun _ _ => rfl)) (pv 1)) (pg_sub (pv 0) (pe_int) set_list)) (pss_one (ps_ret (pv 4))))) (pss_nil)) (pss_cons (ps_asg (pe_op op_addA (pe_ix ix_seq (pv 0) (pe_int) (fun _ _ => rfl)) (pe_int)) (pg_sub (pv 0) (pe_int) set_list)) (pss_one (ps_ret (pe_op op_mod (pe_callTy call_intA (by rfl) T.b_int (by decide +kernel) (pa_cons (pe_cl c__law_mixed hr (by decide) (pat_of (W := fun cls d _ H => E cls d H) (L2N.takes_of rfl rfl rfl rfl)) (pa_cons (pe_ix ix_seq (pv 0) (pe_int) (fun _ _ => rfl)) (pa_cons (pe_ix ix_seq (pv 0) (pe_int) (fun _ _ => rfl)) (pa_nil)))) (pa_nil))) (pv 1))))))), rd__law_take T vs H Q E h⟩
theorem ok__law_illegal {f : Addr} {fd : FuncData} (T : Txt K mg) (F : FunD K "_law_illegal" "_law_illegal" (defArgs s__law_illegal) (defBody s__law_illegal) (defScope s__law_illegal) [] [] f fd) (c__law_take : Cal P w K mg base 2 "_law_take" ["box", "many"] (sp__law_take K)) : FnOk P w K mg base (L2N.CX P w) 3 f fd ["box", "size", "log"] (sp__law_illegal K) :=
  F.ok sc__law_illegal (len__law_illegal K) fun cdv A outer s H vs Q E hr h => ⟨t__law_illegal K E, pss_cons (ps_set (i := 3) sc__law_illegal.nd rfl (by first | exact Or.inl rfl | exact Or.inr rfl) (pe_op op_addA (pe_int) (pe_cl c__law_take hr (by decide) (pat_of (W := fun cls d _ H => E cls d H) (L2N.takes_of rfl rfl rfl rfl)) (pa_cons (pv 0) (pa_cons (pv 1) (pa_nil)))))) (pss_cons (ps_if (pt_cmpR (op_eqA hr) (pe_op op_mod (pe_callB call_lenA (by rfl) T.b_len (by decide +kernel) (pa_cons (pe_lc (own := [("x", 4)]) (g := gName 4) (tt := tTest (tOp (rEqA K) (tCB rAbsA (tCons (tVar 4) (tNil))) (tVar 3))) (te := tVar 4) rfl sc__law_illegal.nd (pi_list (pv 2)) (blkOk_by (own := [("x", 4)]) (N := ["box", "size", "log", "node", "x"]) (sc := defScope s__law_illegal) (by decide +kernel)) (fun _ _ _ _ _ => pg_name (i := 4) sc__law_illegal.nd rfl (by first | exact Or.inl rfl | exact Or.inr rfl)) (fun _ _ _ _ _ => pts_one (pt_cmpR (op_eqA hr) (pe_callB call_absA (by rfl) T.b_abs (by decide +kernel) (pa_cons (pv 4) (pa_nil))) (pv 3) (nomark _))) (fun _ _ _ _ _ => pv 4)) (pa_nil))) (pe_int)) (pe_int) (nomark _)) (pss_one (ps_ret (pe_un un_neg (pv 3)))) (pss_nil)) (pss_one (ps_ret (pv 3)))), rd__law_illegal T vs H Q E h⟩
theorem ok__law_twice {f : Addr} {fd : FuncData} (T : Txt K mg) (F : FunD K "_law_twice" "_law_twice" (defArgs s__law_twice) (defBody s__law_twice) (defScope s__law_twice) [] [] f fd) (c__law_take : Cal P w K mg base 2 "_law_take" ["box", "many"] (sp__law_take K)) : FnOk P w K mg base (L2N.CX P w) 3 f fd ["box", "size", "log"] (sp__law_twice K) :=
  F.ok sc__law_twice (len__law_twice K) fun cdv A outer s H vs Q E hr h => ⟨t__law_twice K E, pss_cons (ps_set (i := 3) sc__law_twice.nd rfl (by first | exact Or.inl rfl | exact Or.inr rfl) (pe_cl c__law_take hr (by decide) (pat_of (W := fun cls d _ H => E cls d H) (L2N.takes_of rfl rfl rfl rfl)) (pa_cons (pv 0) (pa_cons (pe_op op_addA (pe_callB call_lenA (by rfl) T.b_len (by decide +kernel) (pa_cons (pv 2) (pa_nil))) (pe_int)) (pa_nil))))) (pss_cons (ps_set (i := 4) sc__law_twice.nd rfl (by first | exact Or.inl rfl | exact Or.inr rfl) (pe_op op_addA (pe_int) (pe_cl c__law_take hr (by decide) (pat_of (W := fun cls d _ H => E cls d H) (L2N.takes_of rfl rfl rfl rfl)) (pa_cons (pv 0) (pa_cons (pv 1) (pa_nil)))))) (pss_cons (ps_setLc (i := 5) (own := [("x", 11)]) (g := gName 11) (tt := tTest (tOp (rEqA K) (tCB rAbsA (tCons (tVar 11) (tNil))) (tVar 4))) (te := tVar 11) rfl sc__law_twice.nd rfl rfl (sw_true rfl rfl rfl (by decide +kernel)) (pi_list (pe_slice sl_list (pv 2) (po_none) (po_some (pv 3)))) (blkOk_by (own := [("x", 11)]) (N := ["box", "size", "log", "at", "node", "acts", "first", "others", "more", "row", "other", "x"]) (sc := defScope s__law_twice) (by decide +kernel)) (fun _ _ _ _ _ => pg_name (i := 11) sc__law_twice.nd rfl (by first | exact Or.inl rfl | exact Or.inr rfl)) (fun _ _ _ _ _ => pts_one (pt_cmpR (op_eqA hr) (pe_callB call_absA (by rfl) T.b_abs (by decide +kernel) (pa_cons (pv 11) (pa_nil))) (pv 4) (nomark _))) (fun _ _ _ _ _ => pv 11)) (pss_cons (ps_set (i := 6) sc__law_twice.nd rfl (by first | exact Or.inl rfl | exact Or.inr rfl) (pe_op op_addA (pe_slice sl_list (pv 2) (po_none) (po_some (pv 3))) (pe_ix ix_seq (pe_lst (pa_cons (pe_lst (pa_cons (pe_un un_neg (pv 4)) (pa_cons (pv 4) (pa_nil)))) (pa_cons (pe_lst (pa_cons (pv 4) (pa_nil))) (pa_cons (pe_lst (pa_nil)) (pa_nil))))) (pe_callB call_lenA (by rfl) T.b_len (by decide +kernel) (pa_cons (pv 5) (pa_nil))) (fun _ _ => rfl)))) (pss_cons (ps_setLc (i := 7) (own := [("x", 11)]) (g := gName 11) (tt := tTest (tOp (rNeA K) (tCB rAbsA (tCons (tVar 11) (tNil))) (tVar 4))) (te := tVar 11) rfl sc__law_twice.nd rfl rfl (sw_true rfl rfl rfl (by decide +kernel)) (pi_list (pe_slice sl_list (pv 2) (po_some (pv 3)) (po_none))) (blkOk_by (own := [("x", 11)]) (N := ["box", "size", "log", "at", "node", "acts", "first", "others", "more", "row", "other", "x"]) (sc := defScope s__law_twice) (by decide +kernel)) (fun _ _ _ _ _ => pg_name (i := 11) sc__law_twice.nd rfl (by first | exact Or.inl rfl | exact Or.inr rfl)) (fun _ _ _ _ _ => pts_one (pt_cmpR (op_neA hr) (pe_callB call_absA (by rfl) T.b_abs (by decide +kernel) (pa_cons (pv 11) (pa_nil))) (pv 4) (nomark _))) (fun _ _ _ _ _ => pv 11)) (pss_cons (ps_set (i := 8) sc__law_twice.nd rfl (by first | exact Or.inl rfl | exact Or.inr rfl) (pe_ix ix_seq (pe_lst (pa_cons (pe_lst (pa_nil)) (pa_cons (pe_lst (pa_cons (pv 4) (pa_nil))) (pa_cons (pe_lst (pa_cons (pv 4) (pa_cons (pe_un un_neg (pv 4)) (pa_nil)))) (pa_cons (pe_lst (pa_cons (pv 4) (pa_cons (pe_un un_neg (pv 4)) (pa_cons (pv 4) (pa_nil))))) (pa_nil)))))) (pe_cl c__law_take hr (by decide) (pat_of (W := fun cls d _ H => E cls d H) (L2N.takes_of rfl rfl rfl rfl)) (pa_cons (pv 0) (pa_cons (pe_int) (pa_nil)))) (fun _ _ => rfl))) (pss_cons (ps_set (i := 9) sc__law_twice.nd rfl (by first | exact Or.inl rfl | exact Or.inr rfl) (pe_op op_addA (pe_op op_addA (pe_op op_addA (pv 6) (pe_lst (pa_cons (pe_un un_neg (pv 4)) (pa_nil)))) (pv 7)) (pv 8))) (pss_cons (ps_if (pt_cmpR (op_eqA hr) (pe_cl c__law_take hr (by decide) (pat_of (W := fun cls d _ H => E cls d H) (L2N.takes_of rfl rfl rfl rfl)) (pa_cons (pv 0) (pa_cons (pe_int) (pa_nil)))) (pe_int) (nomark _)) (pss_cons (ps_set (i := 10) sc__law_twice.nd rfl (by first | exact Or.inl rfl | exact Or.inr rfl) (pe_op op_addA (pe_int) (pe_cl c__law_take hr (by decide) (pat_of (W := fun cls d _ H => E cls d H) (L2N.takes_of rfl rfl rfl rfl)) (pa_cons (pv 0) (pa_cons (pv 1) (pa_nil)))))) (pss_cons (ps_if (pt_cmpR (op_eqA hr) (pe_op op_mod (pe_callB call_lenA (by rfl) T.b_len (by decide +kernel) (pa_cons (pe_lc (own := [("x", 11)]) (g := gName 11) (tt := tTest (tOp (rEqA K) (tCB rAbsA (tCons (tVar 11) (tNil))) (tVar 10))) (te := tVar 11) rfl sc__law_twice.nd (pi_list (pv 9)) (blkOk_by (own := [("x", 11)]) (N := ["box", "size", "log", "at", "node", "acts", "first", "others", "more", "row", "other", "x"]) (sc := defScope s__law_twice) (by decide +kernel)) (fun _ _ _ _ _ => pg_name (i := 11) sc__law_twice.nd rfl (by first | exact Or.inl rfl | exact Or.inr rfl)) (fun _ _ _ _ _ => pts_one (pt_cmpR (op_eqA hr) (pe_callB call_absA (by rfl) T.b_abs (by decide +kernel) (pa_cons (pv 11) (pa_nil))) (pv 10) (nomark _))) (fun _ _ _ _ _ => pv 11)) (pa_nil))) (pe_int)) (pe_int) (nomark _)) (pss_one (ps_expr (pe_bm PySem.F.plainAttrs_list PySem.F.slot_list_append PySem.F.type_list_append mt_append (pv 9) (pa_cons (pv 10) (pa_nil))))) (pss_nil)) (pss_one (ps_set (i := 9) sc__law_twice.nd rfl (by first | exact Or.inl rfl | exact Or.inr rfl) (pe_op op_addA (pv 9) (pe_lst (pa_cons (pe_un un_neg (pv 10)) (pa_cons (pv 10) (pa_cons (pe_un un_neg (pv 10)) (pa_nil)))))))))) (pss_nil)) (pss_one (ps_ret (pe_lst (pa_cons (pv 9) (pa_cons (pe_callB call_lenA (by rfl) T.b_len (by decide +kernel) (pa_cons (pv 6) (pa_nil))) (pa_nil))))))))))))), rd__law_twice T vs H Q E h⟩
theorem ok__law_faulty {f : Addr} {fd : FuncData} (T : Txt K mg) (F : FunD K "_law_faulty" "_law_faulty" (defArgs s__law_faulty) (defBody s__law_faulty) (defScope s__law_faulty) [] [] f fd) (c__law_illegal : Cal P w K mg base 3 "_law_illegal" ["box", "size", "log"] (sp__law_illegal K)) (c__law_take : Cal P w K mg base 2 "_law_take" ["box", "many"] (sp__law_take K)) (c__law_twice : Cal P w K mg base 3 "_law_twice" ["box", "size", "log"] (sp__law_twice K)) : FnOk P w K mg base (L2N.CX P w) 4 f fd ["box", "size", "log"] (sp__law_faulty K) :=
  F.ok sc__law_faulty (len__law_faulty K) fun cdv A outer s H vs Q E hr h => ⟨t__law_faulty K E, pss_cons (ps_set (i := 3) sc__law_faulty.nd rfl (by first | exact Or.inl rfl | exact Or.inr rfl) (pe_lst (pa_cons (pv 2) (pa_cons (pe_int) (pa_nil))))) (pss_cons (ps_set (i := 4) sc__law_faulty.nd rfl (by first | exact Or.inl rfl | exact Or.inr rfl) (pe_int)) (pss_cons (ps_if (pt_cmpR op_gt (pv 1) (pe_int) (nomark _)) (pss_cons (ps_set (i := 3) sc__law_faulty.nd rfl (by first | exact Or.inl rfl | exact Or.inr rfl) (pe_cl c__law_twice hr (by decide) (pat_of (W := fun cls d _ H => E cls d H) (L2N.takes_of rfl rfl rfl rfl)) (pa_cons (pv 0) (pa_cons (pv 1) (pa_cons (pv 2) (pa_nil)))))) (pss_one (ps_set (i := 4) sc__law_faulty.nd rfl (by first | exact Or.inl rfl | exact Or.inr rfl) (pe_cl c__law_take hr (by decide) (pat_of (W := fun cls d _ H => E cls d H) (L2N.takes_of rfl rfl rfl rfl)) (pa_cons (pv 0) (pa_cons (pe_int) (pa_nil))))))) (pss_nil)) (pss_cons (ps_if (pt_cmpR (op_eqA hr) (pv 4) (pe_int) (nomark _)) (pss_one (ps_ret (pe_lst (pa_cons (pe_ix ix_seq (pv 3) (pe_int) (fun _ _ => rfl)) (pa_cons (pe_tup (pa_cons (pe_str) (pa_cons (pe_ix ix_seq (pv 3) (pe_int) (fun _ _ => rfl)) (pa_nil)))) (pa_nil)))))) (pss_nil)) (pss_cons (ps_set (i := 5) sc__law_faulty.nd rfl (by first | exact Or.inl rfl | exact Or.inr rfl) (pe_cl c__law_take hr (by decide) (pat_of (W := fun cls d _ H => E cls d H) (L2N.takes_of rfl rfl rfl rfl)) (pa_cons (pv 0) (pa_cons (pe_op op_addA (pe_callB call_lenA (by rfl) T.b_len (by decide +kernel) (pa_cons (pe_ix ix_seq (pv 3) (pe_int) (fun _ _ => rfl)) (pa_nil))) (pe_int)) (pa_nil))))) (pss_cons (ps_set (i := 6) sc__law_faulty.nd rfl (by first | exact Or.inl rfl | exact Or.inr rfl) (pe_ix ix_seq (pe_lst (pa_cons (pe_int) (pa_cons (pe_op op_addA (pv 1) (pe_int)) (pa_cons (pe_op op_addA (pe_op op_addA (pv 1) (pe_int)) (pe_cl c__law_take hr (by decide) (pat_of (W := fun cls d _ H => E cls d H) (L2N.takes_of rfl rfl rfl rfl)) (pa_cons (pv 0) (pa_cons (pe_op op_pow (pe_int) (pe_int)) (pa_nil))))) (pa_nil))))) (pe_cl c__law_take hr (by decide) (pat_of (W := fun cls d _ H => E cls d H) (L2N.takes_of rfl rfl rfl rfl)) (pa_cons (pv 0) (pa_cons (pe_int) (pa_nil)))) (fun _ _ => rfl))) (pss_cons (ps_if (pt_cmpR (op_eqA hr) (pe_cl c__law_take hr (by decide) (pat_of (W := fun cls d _ H => E cls d H) (L2N.takes_of rfl rfl rfl rfl)) (pa_cons (pv 0) (pa_cons (pe_int) (pa_nil)))) (pe_int) (nomark _)) (pss_one (ps_set (i := 6) sc__law_faulty.nd rfl (by first | exact Or.inl rfl | exact Or.inr rfl) (pe_un un_neg (pv 6)))) (pss_nil)) (pss_cons (ps_set (i := 7) sc__law_faulty.nd rfl (by first | exact Or.inl rfl | exact Or.inr rfl) (pe_slice sl_list (pe_ix ix_seq (pv 3) (pe_int) (fun _ _ => rfl)) (po_none) (po_some (pv 5)))) (pss_cons (ps_set (i := 8) sc__law_faulty.nd rfl (by first | exact Or.inl rfl | exact Or.inr rfl) (pe_slice sl_list (pe_ix ix_seq (pv 3) (pe_int) (fun _ _ => rfl)) (po_some (pv 5)) (po_none))) (pss_cons (ps_if (pt_cmpR (op_eqA hr) (pv 4) (pe_int) (nomark _)) (pss_cons (ps_set (i := 9) sc__law_faulty.nd rfl (by first | exact Or.inl rfl | exact Or.inr rfl) (pe_cl c__law_illegal hr (by decide) (pat_of (W := fun cls d _ H => E cls d H) (L2N.takes_of rfl rfl rfl rfl)) (pa_cons (pv 0) (pa_cons (pv 1) (pa_cons (pv 7) (pa_nil)))))) (pss_one (ps_ret (pe_lst (pa_cons (pe_op op_addA (pe_op op_addA (pe_op op_addA (pv 7) (pe_lst (pa_cons (pv 9) (pa_nil)))) (pv 8)) (pe_lst (pa_cons (pv 6) (pa_nil)))) (pa_cons (pe_tup (pa_cons (pe_str) (pa_cons (pv 9) (pa_cons (pv 5) (pa_nil))))) (pa_nil))))))) (pss_nil)) (pss_cons (ps_if (pt_cmpR op_gt (pv 1) (pe_int) (nomark _)) (pss_one (ps_set (i := 8) sc__law_faulty.nd rfl (by first | exact Or.inl rfl | exact Or.inr rfl) (pe_op op_addA (pv 8) (pe_lst (pa_cons (pe_cl c__law_illegal hr (by decide) (pat_of (W := fun cls d _ H => E cls d H) (L2N.takes_of rfl rfl rfl rfl)) (pa_cons (pv 0) (pa_cons (pv 1) (pa_cons (pe_ix ix_seq (pv 3) (pe_int) (fun _ _ => rfl)) (pa_nil))))) (pa_nil)))))) (pss_nil)) (pss_one (ps_ret (pe_lst (pa_cons (pe_op op_addA (pe_op op_addA (pv 7) (pe_lst (pa_cons (pv 6) (pa_nil)))) (pv 8)) (pa_cons (pe_tup (pa_cons (pe_str) (pa_cons (pv 6) (pa_cons (pv 5) (pa_nil))))) (pa_nil)))))))))))))))), rd__law_faulty T vs H Q E h⟩
theorem ok__law_pattern {f : Addr} {fd : FuncData} (T : Txt K mg) (F : FunD K "_law_pattern" "_law_pattern" (defArgs s__law_pattern) (defBody s__law_pattern) (defScope s__law_pattern) [] [] f fd) (c__law_take : Cal P w K mg base 2 "_law_take" ["box", "many"] (sp__law_take K)) : FnOk P w K mg base (L2N.CX P w) 3 f fd ["box", "low", "high"] (sp__law_pattern K) :=
  F.ok sc__law_pattern (len__law_pattern K) fun cdv A outer s H vs Q E hr h => ⟨t__law_pattern K E, pss_cons (ps_if ((pw_or (pt_cmpR (op_eqA hr) (pe_cl c__law_take hr (by decide) (pat_of (W := fun cls d _ H => E cls d H) (L2N.takes_of rfl rfl rfl rfl)) (pa_cons (pv 0) (pa_cons (pe_int) (pa_nil)))) (pe_int) (nomark _)) (pw_or1 (pt_cmpR op_ge (pv 1) (pv 2) (nomark _)))).pt) (pss_one (ps_ret (pe_lst (pa_nil)))) (pss_nil)) (pss_cons (ps_set (i := 3) sc__law_pattern.nd rfl (by first | exact Or.inl rfl | exact Or.inr rfl) (pe_op op_addA (pv 1) (pe_cl c__law_take hr (by decide) (pat_of (W := fun cls d _ H => E cls d H) (L2N.takes_of rfl rfl rfl rfl)) (pa_cons (pv 0) (pa_cons (pe_op op_addA (pe_op op_sub (pv 2) (pv 1)) (pe_int)) (pa_nil)))))) (pss_cons (ps_set (i := 4) sc__law_pattern.nd rfl (by first | exact Or.inl rfl | exact Or.inr rfl) (pe_op op_addA (pv 3) (pe_int))) (pss_cons (ps_if ((pw_or (pt_cmpR op_gt (pv 4) (pv 2) (nomark _)) (pw_or1 ((pw_and (pt_cmpR op_gt (pv 3) (pv 1) (nomark _)) (pw_and1 (pt_cmpR (op_eqA hr) (pe_cl c__law_take hr (by decide) (pat_of (W := fun cls d _ H => E cls d H) (L2N.takes_of rfl rfl rfl rfl)) (pa_cons (pv 0) (pa_cons (pe_int) (pa_nil)))) (pe_int) (nomark _)))).pt))).pt) (pss_one (ps_set (i := 4) sc__law_pattern.nd rfl (by first | exact Or.inl rfl | exact Or.inr rfl) (pe_op op_sub (pv 3) (pe_int)))) (pss_nil)) (pss_one (ps_ret (pe_lst (pa_cons (pv 3) (pa_cons (pv 4) (pa_cons (pv 3) (pa_nil)))))))))), rd__law_pattern T vs H Q E h⟩
theorem ok__law_range {f : Addr} {fd : FuncData} (T : Txt K mg) (F : FunD K "_law_range" "_law_range" (defArgs s__law_range) (defBody s__law_range) (defScope s__law_range) [] [] f fd) (c__law_take : Cal P w K mg base 2 "_law_take" ["box", "many"] (sp__law_take K)) : FnOk P w K mg base (L2N.CX P w) 3 f fd ["box", "size"] (sp__law_range K) :=
  F.ok sc__law_range (len__law_range K) fun cdv A outer s H vs Q E hr h => ⟨t__law_range K E, pss_cons (ps_if ((pw_or (pt_cmpR op_lt (pv 1) (pe_int) (nomark _)) (pw_or1 (pt_cmpR (op_eqA hr) (pe_cl c__law_take hr (by decide) (pat_of (W := fun cls d _ H => E cls d H) (L2N.takes_of rfl rfl rfl rfl)) (pa_cons (pv 0) (pa_cons (pe_int) (pa_nil)))) (pe_int) (nomark _)))).pt) (pss_one (ps_ret (pe_lst (pa_cons (pe_int) (pa_cons (pv 1) (pa_nil)))))) (pss_nil)) (pss_cons (ps_set (i := 2) sc__law_range.nd rfl (by first | exact Or.inl rfl | exact Or.inr rfl) (pe_op op_addA (pe_int) (pe_cl c__law_take hr (by decide) (pat_of (W := fun cls d _ H => E cls d H) (L2N.takes_of rfl rfl rfl rfl)) (pa_cons (pv 0) (pa_cons (pe_op op_sub (pv 1) (pe_int)) (pa_nil)))))) (pss_one (ps_ret (pe_lst (pa_cons (pv 2) (pa_cons (pe_callB (call_min2A rfl) (by rfl) T.b_min (by decide +kernel) (pa_cons (pv 1) (pa_cons (pe_op op_addA (pe_op op_addA (pv 2) (pe_int)) (pe_cl c__law_take hr (by decide) (pat_of (W := fun cls d _ H => E cls d H) (L2N.takes_of rfl rfl rfl rfl)) (pa_cons (pv 0) (pa_cons (pe_int) (pa_nil))))) (pa_nil)))) (pa_nil))))))), rd__law_range T vs H Q E h⟩
theorem ok__law_log {f : Addr} {fd : FuncData} (T : Txt K mg) (F : FunD K "_law_log" "_law_log" (defArgs s__law_log) (defBody s__law_log) (defScope s__law_log) [] [] f fd) (c__law_late : Cal P w K mg base 1 "_law_late" ["book", "node"] (sp__law_late K)) (c__law_pattern : Cal P w K mg base 3 "_law_pattern" ["box", "low", "high"] (sp__law_pattern K)) (c__law_range : Cal P w K mg base 3 "_law_range" ["box", "size"] (sp__law_range K)) (c__law_start : Cal P w K mg base 1 "_law_start" ["size"] (sp__law_start K)) (c__law_step : Cal P w K mg base 1 "_law_step" ["book", "operation"] (sp22__law_step K)) (c__law_take : Cal P w K mg base 2 "_law_take" ["box", "many"] (sp__law_take K)) : FnOk P w K mg base (L2N.CX P w) 4 f fd ["box", "size"] (sp22__law_log K) :=
  F.ok sc__law_log (len__law_log K) fun cdv A outer s H vs Q E hr h => ⟨t__law_log K E, pss_cons (ps_set (i := 2) sc__law_log.nd rfl (by first | exact Or.inl rfl | exact Or.inr rfl) (pe_cl c__law_range hr (by decide) (pat_of (W := fun cls d _ H => E cls d H) (L2N.takes_of rfl rfl rfl rfl)) (pa_cons (pv 0) (pa_cons (pv 1) (pa_nil))))) (pss_cons (ps_set (i := 3) sc__law_log.nd rfl (by first | exact Or.inl rfl | exact Or.inr rfl) (pe_op op_mulA (pe_int) (pe_op op_addA (pe_op op_sub (pe_ix ix_seq (pv 2) (pe_int) (fun _ _ => rfl)) (pe_ix ix_seq (pv 2) (pe_int) (fun _ _ => rfl))) (pe_int)))) (pss_cons (ps_set (i := 4) sc__law_log.nd rfl (by first | exact Or.inl rfl | exact Or.inr rfl) (pe_callB (call_max2A rfl) (by rfl) T.b_max (by decide +kernel) (pa_cons (pe_cl c__law_take hr (by decide) (pat_of (W := fun cls d _ H => E cls d H) (L2N.takes_of rfl rfl rfl rfl)) (pa_cons (pv 0) (pa_cons (pe_op op_addA (pv 3) (pe_int)) (pa_nil)))) (pa_cons (pe_cl c__law_take hr (by decide) (pat_of (W := fun cls d _ H => E cls d H) (L2N.takes_of rfl rfl rfl rfl)) (pa_cons (pv 0) (pa_cons (pe_op op_addA (pv 3) (pe_int)) (pa_nil)))) (pa_nil))))) (pss_cons (ps_set (i := 5) sc__law_log.nd rfl (by first | exact Or.inl rfl | exact Or.inr rfl) (pe_cl c__law_take hr (by decide) (pat_of (W := fun cls d _ H => E cls d H) (L2N.takes_of rfl rfl rfl rfl)) (pa_cons (pv 0) (pa_cons (pe_int) (pa_nil))))) (pss_cons (ps_set (i := 6) sc__law_log.nd rfl (by first | exact Or.inl rfl | exact Or.inr rfl) (pe_cl c__law_pattern hr (by decide) (pat_of (W := fun cls d _ H => E cls d H) (L2N.takes_of rfl rfl rfl rfl)) (pa_cons (pv 0) (pa_cons (pe_ix ix_seq (pv 2) (pe_int) (fun _ _ => rfl)) (pa_cons (pe_ix ix_seq (pv 2) (pe_int) (fun _ _ => rfl)) (pa_nil)))))) (pss_cons (ps_set (i := 7) sc__law_log.nd rfl (by first | exact Or.inl rfl | exact Or.inr rfl) (pe_cl c__law_start hr (by decide) (pat_of (W := fun cls d _ H => E cls d H) (L2N.takes_of rfl rfl rfl rfl)) (pa_cons (pv 1) (pa_nil)))) (pss_cons (ps_set (i := 8) sc__law_log.nd rfl (by first | exact Or.inl rfl | exact Or.inr rfl) (pe_lst (pa_nil))) (pss_cons (ps_set (i := 9) sc__law_log.nd rfl (by first | exact Or.inl rfl | exact Or.inr rfl) (pe_cl c__law_take hr (by decide) (pat_of (W := fun cls d _ H => E cls d H) (L2N.takes_of rfl rfl rfl rfl)) (pa_cons (pv 0) (pa_cons (pe_op op_addA (pv 1) (pe_int)) (pa_nil))))) (pss_cons (ps_for (passes_of rfl) rfl (pi_range1 rfl T.b_range (pa_cons (pv 4) (pa_nil))) (pg_name (i := 10) sc__law_log.nd rfl (by first | exact Or.inl rfl | exact Or.inr rfl)) (pss_cons (ps_setLc (i := 11) (own := [("x", 15)]) (g := gName 15) (tt := tTest (tOp rLtA (tOp (rIx K) (tOp (rIx K) (tVar 7) (tC (.int 2))) (tVar 15)) (tC (.int 2)))) (te := tVar 15) rfl sc__law_log.nd rfl rfl (sw_true rfl rfl rfl (by decide +kernel)) (pi_range2 rfl T.b_range (pa_cons (pe_ix ix_seq (pv 2) (pe_int) (fun _ _ => rfl)) (pa_cons (pe_op op_addA (pe_ix ix_seq (pv 2) (pe_int) (fun _ _ => rfl)) (pe_int)) (pa_nil)))) (blkOk_by (own := [("x", 15)]) (N := ["box", "size", "ends", "many", "steps", "keen", "pattern", "book", "log", "node", "k", "free", "late", "near", "turn", "x"]) (sc := defScope s__law_log) (by decide +kernel)) (fun _ _ _ _ _ => pg_name (i := 15) sc__law_log.nd rfl (by first | exact Or.inl rfl | exact Or.inr rfl)) (fun _ _ _ _ _ => pts_one (pt_cmpR op_lt (pe_ix ix_seq (pe_ix ix_seq (pv 7) (pe_int) (fun _ _ => rfl)) (pv 15) (fun _ _ => rfl)) (pe_int) (nomark _))) (fun _ _ _ _ _ => pv 15)) (pss_cons (ps_setLc (i := 12) (own := [("x", 15)]) (g := gName 15) (tt := tTest (tOp rGtA (tCB (rLenA K) (tCons (tCl (sp__law_late K) (fun _ => E0) (tCons (tVar 7) (tCons (tVar 15) (tNil)))) (tNil))) (tC (.int 0)))) (te := tVar 15) rfl sc__law_log.nd rfl rfl (sw_true rfl rfl rfl (by decide +kernel)) (pi_list (pv 11)) (blkOk_by (own := [("x", 15)]) (N := ["box", "size", "ends", "many", "steps", "keen", "pattern", "book", "log", "node", "k", "free", "late", "near", "turn", "x"]) (sc := defScope s__law_log) (by decide +kernel)) (fun _ _ _ _ _ => pg_name (i := 15) sc__law_log.nd rfl (by first | exact Or.inl rfl | exact Or.inr rfl)) (fun _ _ _ _ _ => pts_one (pt_cmpR op_gt (pe_callB call_lenA (by rfl) T.b_len (by decide +kernel) (pa_cons (pe_cl c__law_late hr (by decide) (pat_no) (pa_cons (pv 7) (pa_cons (pv 15) (pa_nil)))) (pa_nil))) (pe_int) (nomark _))) (fun _ _ _ _ _ => pv 15)) (pss_cons (ps_setLc (i := 13) (own := [("x", 15)]) (g := gName 15) (tt := tTest (tOp (rEqA K) (tCB rAbsA (tCons (tOp rSubA (tVar 15) (tVar 9)) (tNil))) (tC (.int 1)))) (te := tVar 15) rfl sc__law_log.nd rfl rfl (sw_true rfl rfl rfl (by decide +kernel)) (pi_list (pv 11)) (blkOk_by (own := [("x", 15)]) (N := ["box", "size", "ends", "many", "steps", "keen", "pattern", "book", "log", "node", "k", "free", "late", "near", "turn", "x"]) (sc := defScope s__law_log) (by decide +kernel)) (fun _ _ _ _ _ => pg_name (i := 15) sc__law_log.nd rfl (by first | exact Or.inl rfl | exact Or.inr rfl)) (fun _ _ _ _ _ => pts_one (pt_cmpR (op_eqA hr) (pe_callB call_absA (by rfl) T.b_abs (by decide +kernel) (pa_cons (pe_op op_sub (pv 15) (pv 9)) (pa_nil))) (pe_int) (nomark _))) (fun _ _ _ _ _ => pv 15)) (pss_cons (ps_set (i := 14) sc__law_log.nd rfl (by first | exact Or.inl rfl | exact Or.inr rfl) (pe_cl c__law_take hr (by decide) (pat_of (W := fun cls d _ H => E cls d H) (L2N.takes_of rfl rfl rfl rfl)) (pa_cons (pv 0) (pa_cons (pe_int) (pa_nil))))) (pss_cons (ps_if (pt_cmpR op_lt (pv 10) (pe_callB call_lenA (by rfl) T.b_len (by decide +kernel) (pa_cons (pv 6) (pa_nil))) (nomark _)) (pss_one (ps_set (i := 11) sc__law_log.nd rfl (by first | exact Or.inl rfl | exact Or.inr rfl) (pe_lst (pa_cons (pe_ix ix_seq (pv 6) (pv 10) (fun _ _ => rfl)) (pa_nil))))) (pss_one (ps_if ((pw_and (pt_cmpR op_gt (pv 5) (pe_int) (nomark _)) (pw_and (pt_cmpR op_lt (pv 14) (pe_int) (nomark _)) (pw_and1 (pt_cmpR op_gt (pe_callB call_lenA (by rfl) T.b_len (by decide +kernel) (pa_cons (pv 12) (pa_nil))) (pe_int) (nomark _))))).pt) (pss_one (ps_set (i := 11) sc__law_log.nd rfl (by first | exact Or.inl rfl | exact Or.inr rfl) (pv 12))) (pss_one (ps_if ((pw_and (pt_cmpR op_gt (pv 5) (pe_int) (nomark _)) (pw_and (pt_cmpR op_gt (pv 14) (pe_int) (nomark _)) (pw_and1 (pt_cmpR op_gt (pe_callB call_lenA (by rfl) T.b_len (by decide +kernel) (pa_cons (pv 13) (pa_nil))) (pe_int) (nomark _))))).pt) (pss_one (ps_set (i := 11) sc__law_log.nd rfl (by first | exact Or.inl rfl | exact Or.inr rfl) (pv 13))) (pss_nil)))))) (pss_cons (ps_set (i := 9) sc__law_log.nd rfl (by first | exact Or.inl rfl | exact Or.inr rfl) (pe_ix ix_seq (pv 11) (pe_cl c__law_take hr (by decide) (pat_of (W := fun cls d _ H => E cls d H) (L2N.takes_of rfl rfl rfl rfl)) (pa_cons (pv 0) (pa_cons (pe_callB call_lenA (by rfl) T.b_len (by decide +kernel) (pa_cons (pv 11) (pa_nil))) (pa_nil)))) (fun _ _ => rfl))) (pss_cons (ps_expr (pe_bm PySem.F.plainAttrs_list PySem.F.slot_list_append PySem.F.type_list_append mt_append (pv 8) (pa_cons (pe_ix ix_seq (pe_lst (pa_cons (pe_un un_neg (pv 9)) (pa_cons (pv 9) (pa_nil)))) (pe_ix ix_seq (pe_ix ix_seq (pv 7) (pe_int) (fun _ _ => rfl)) (pv 9) (fun _ _ => rfl)) (fun _ _ => rfl)) (pa_nil)))) (pss_one (ps_expr (pe_cl c__law_step hr (by decide) (pat_of (W := fun cls d _ H => E cls d H) (L2N.takes_of rfl rfl rfl rfl)) (pa_cons (pv 7) (pa_cons (pe_ix ix_seq (pv 8) (pv 10) (fun _ _ => rfl)) (pa_nil)))))))))))))) (pss_one (ps_ret (pv 8))))))))))), rd__law_log T vs H Q E h⟩
theorem ok__law_ask {f : Addr} {fd : FuncData} (T : Txt K mg) (F : FunD K "_law_ask" "_law_ask" (defArgs s__law_ask) (defBody s__law_ask) (defScope s__law_ask) [] [] f fd) (c_is_complete : Cal P w K mg base 10 "is_complete" ["size", "log"] (sp_is_complete K)) (c_late_writes : Cal P w K mg base 10 "late_writes" ["size", "log"] (sp_late_writes K)) (c_safe_next : Cal P w K mg base 10 "safe_next" ["size", "log"] (sp_safe_next K)) : FnOk P w K mg base (L2N.CX P w) 11 f fd ["way", "size", "log"] (sp__law_ask K) :=
  F.ok sc__law_ask (len__law_ask K) fun cdv A outer s H vs Q E hr h => ⟨t__law_ask K E, pss_one (ps_if (pt_cmpR (op_eqA hr) (pv 0) (pe_int) (nomark _)) (pss_one (ps_expr (pe_cl c_late_writes hr (by decide) (pat_of (W := fun cls d _ H => E cls d H) (L2N.takes_of rfl rfl rfl rfl)) (pa_cons (pv 1) (pa_cons (pv 2) (pa_nil)))))) (pss_one (ps_if (pt_cmpR (op_eqA hr) (pv 0) (pe_int) (nomark _)) (pss_one (ps_expr (pe_cl c_is_complete hr (by decide) (pat_of (W := fun cls d _ H => E cls d H) (L2N.takes_of rfl rfl rfl rfl)) (pa_cons (pv 1) (pa_cons (pv 2) (pa_nil)))))) (pss_one (ps_expr (pe_cl c_safe_next hr (by decide) (pat_of (W := fun cls d _ H => E cls d H) (L2N.takes_of rfl rfl rfl rfl)) (pa_cons (pv 1) (pa_cons (pv 2) (pa_nil))))))))), rd__law_ask T vs H Q E h⟩
theorem ok__law_refusal {f : Addr} {fd : FuncData} (T : Txt K mg) (F : FunD K "_law_refusal" "_law_refusal" (defArgs s__law_refusal) (defBody s__law_refusal) (defScope s__law_refusal) [] [] f fd) (c__law_ask : Cal P w K mg base 11 "_law_ask" ["way", "size", "log"] (sp__law_ask K)) (h__law_fields : CalH P w K mg base 2 "_law_fields" ["word", "fields"] (sp__law_fields K)) : FnOk P w K mg base (L2N.CX P w) 12 f fd ["way", "size", "log"] (sp22__law_refusal K) :=
  F.ok sc__law_refusal (len__law_refusal K) fun cdv A outer s H vs Q E hr h => ⟨t__law_refusal K E, pss_cons (L2N.ps_try_as (i := 3) (tb := fun (W : WX) => tDrop (tCl (sp__law_ask K) (WE W) (tCons (tVar 0) (tCons (tVar 1) (tCons (tVar 2) (tNil)))))) (ts := fun a cls d => tSeq (tAsg (tLst (tCons (tCB (rIsX K cls d a) (tCons (tVar 3) (tCons (tC (.ref (He.ga K "BadSize"))) (tNil)))) (tCons (tCB (rIsX K cls d a) (tCons (tVar 3) (tCons (tC (.ref (He.ga K "NotOnce"))) (tNil)))) (tCons (tCB (rIsX K cls d a) (tCons (tVar 3) (tCons (tC (.ref (He.ga K "Illegal"))) (tNil)))) (tNil))))) (gName 4)) (tSeq (tAsg (tOp rAddA (tVar 4) (tLst (tCons (tCB (rIsX K cls d a) (tCons (tVar 3) (tCons (tC (.ref (He.ga K "BadOperation"))) (tNil)))) (tCons (tCB (rIsX K cls d a) (tCons (tVar 3) (tCons (tC (.ref (He.ga K "LogError"))) (tNil)))) (tCons (tCB (rIsX K cls d a) (tCons (tVar 3) (tCons (tC (.ty "ValueError")) (tNil)))) (tNil)))))) (gName 4)) (tSeq (tIfS (tTest (tOp (rEqA K) (tVar 4) (tLst (tCons (tC (.bl true)) (tCons (tC (.bl false)) (tCons (tC (.bl false)) (tCons (tC (.bl false)) (tCons (tC (.bl false)) (tCons (tC (.bl true)) (tNil)))))))))) (tRet (tCl (sp__law_fields K) (fun _ => E0) (tCons (tC (.str "size")) (tCons (tTup (tCons (tXat K a cls d "size" (tVar 3)) (tNil))) (tNil))))) (tNext)) (tSeq (tIfS (tTest (tOp (rEqA K) (tVar 4) (tLst (tCons (tC (.bl false)) (tCons (tC (.bl true)) (tCons (tC (.bl false)) (tCons (tC (.bl false)) (tCons (tC (.bl false)) (tCons (tC (.bl true)) (tNil)))))))))) (tRet (tCl (sp__law_fields K) (fun _ => E0) (tCons (tC (.str "once")) (tCons (tTup (tCons (tXat K a cls d "index" (tVar 3)) (tNil))) (tNil))))) (tNext)) (tSeq (tIfS (tTest (tOp (rEqA K) (tVar 4) (tLst (tCons (tC (.bl false)) (tCons (tC (.bl false)) (tCons (tC (.bl true)) (tCons (tC (.bl false)) (tCons (tC (.bl true)) (tCons (tC (.bl true)) (tNil)))))))))) (tRet (tCl (sp__law_fields K) (fun _ => E0) (tCons (tC (.str "illegal")) (tCons (tTup (tCons (tXat K a cls d "operation" (tVar 3)) (tCons (tXat K a cls d "index" (tVar 3)) (tNil)))) (tNil))))) (tNext)) (tSeq (tIfS (tTest (tOp (rEqA K) (tVar 4) (tLst (tCons (tC (.bl false)) (tCons (tC (.bl false)) (tCons (tC (.bl false)) (tCons (tC (.bl true)) (tCons (tC (.bl true)) (tCons (tC (.bl true)) (tNil)))))))))) (tRet (tCl (sp__law_fields K) (fun _ => E0) (tCons (tC (.str "operation")) (tCons (tTup (tCons (tXat K a cls d "operation" (tVar 3)) (tCons (tXat K a cls d "index" (tVar 3)) (tNil)))) (tNil))))) (tNext)) (tRet (tTup (tCons (tC (.str "odd")) (tNil)))))))))) (Wout := fun cls d _ H => E cls d H) rfl rfl sc__law_refusal.nd rfl rfl ⟨rfl, by decide, .inl T.g_LinkError⟩ (L2N.takes_of rfl rfl rfl rfl) (fun W pn xe tk2 po2 => pss_one (ps_expr (pe_cl c__law_ask hr (by decide) (pat_of tk2) (pa_cons (pv 0) (pa_cons (pv 1) (pa_cons (pv 2) (pa_nil))))))) (fun a oe cls d pn hz hf => pss_cons (ps_set (i := 4) sc__law_refusal.nd rfl (by first | exact Or.inl rfl | exact Or.inr rfl) (pe_lst (pa_cons (pe_callB (call_isX hz.zc hf) (by rfl) T.b_isinstance (by decide +kernel) (pa_cons (pv 3) (pa_cons (pe_own T.g_BadSize) (pa_nil)))) (pa_cons (pe_callB (call_isX hz.zc hf) (by rfl) T.b_isinstance (by decide +kernel) (pa_cons (pv 3) (pa_cons (pe_own T.g_NotOnce) (pa_nil)))) (pa_cons (pe_callB (call_isX hz.zc hf) (by rfl) T.b_isinstance (by decide +kernel) (pa_cons (pv 3) (pa_cons (pe_own T.g_Illegal) (pa_nil)))) (pa_nil)))))) (pss_cons (ps_set (i := 4) sc__law_refusal.nd rfl (by first | exact Or.inl rfl | exact Or.inr rfl) (pe_op op_addA (pv 4) (pe_lst (pa_cons (pe_callB (call_isX hz.zc hf) (by rfl) T.b_isinstance (by decide +kernel) (pa_cons (pv 3) (pa_cons (pe_own T.g_BadOperation) (pa_nil)))) (pa_cons (pe_callB (call_isX hz.zc hf) (by rfl) T.b_isinstance (by decide +kernel) (pa_cons (pv 3) (pa_cons (pe_own T.g_LogError) (pa_nil)))) (pa_cons (pe_callB (call_isX hz.zc hf) (by rfl) T.b_isinstance (by decide +kernel) (pa_cons (pv 3) (pa_cons (pe_ty "ValueError" T.b_ValueError (by decide +kernel)) (pa_nil)))) (pa_nil))))))) (pss_cons (ps_if (pt_cmpR (op_eqAH (L2H.roomH_mark hr _)) (pv 4) (pe_lst (pa_cons (pe_bl) (pa_cons (pe_bl) (pa_cons (pe_bl) (pa_cons (pe_bl) (pa_cons (pe_bl) (pa_cons (pe_bl) (pa_nil)))))))) (nomark _)) (pss_one (ps_ret (pe_clH h__law_fields (L2H.roomH_mark hr _) (by decide) (hot_suite hz hf) pat_no (pa_cons (pe_str) (pa_cons (pe_tup (pa_cons (pe_xat hz.zc hf (pv 3)) (pa_nil))) (pa_nil)))))) (pss_nil)) (pss_cons (ps_if (pt_cmpR (op_eqAH (L2H.roomH_mark hr _)) (pv 4) (pe_lst (pa_cons (pe_bl) (pa_cons (pe_bl) (pa_cons (pe_bl) (pa_cons (pe_bl) (pa_cons (pe_bl) (pa_cons (pe_bl) (pa_nil)))))))) (nomark _)) (pss_one (ps_ret (pe_clH h__law_fields (L2H.roomH_mark hr _) (by decide) (hot_suite hz hf) pat_no (pa_cons (pe_str) (pa_cons (pe_tup (pa_cons (pe_xat hz.zc hf (pv 3)) (pa_nil))) (pa_nil)))))) (pss_nil)) (pss_cons (ps_if (pt_cmpR (op_eqAH (L2H.roomH_mark hr _)) (pv 4) (pe_lst (pa_cons (pe_bl) (pa_cons (pe_bl) (pa_cons (pe_bl) (pa_cons (pe_bl) (pa_cons (pe_bl) (pa_cons (pe_bl) (pa_nil)))))))) (nomark _)) (pss_one (ps_ret (pe_clH h__law_fields (L2H.roomH_mark hr _) (by decide) (hot_suite hz hf) pat_no (pa_cons (pe_str) (pa_cons (pe_tup (pa_cons (pe_xat hz.zc hf (pv 3)) (pa_cons (pe_xat hz.zc hf (pv 3)) (pa_nil)))) (pa_nil)))))) (pss_nil)) (pss_cons (ps_if (pt_cmpR (op_eqAH (L2H.roomH_mark hr _)) (pv 4) (pe_lst (pa_cons (pe_bl) (pa_cons (pe_bl) (pa_cons (pe_bl) (pa_cons (pe_bl) (pa_cons (pe_bl) (pa_cons (pe_bl) (pa_nil)))))))) (nomark _)) (pss_one (ps_ret (pe_clH h__law_fields (L2H.roomH_mark hr _) (by decide) (hot_suite hz hf) pat_no (pa_cons (pe_str) (pa_cons (pe_tup (pa_cons (pe_xat hz.zc hf (pv 3)) (pa_cons (pe_xat hz.zc hf (pv 3)) (pa_nil)))) (pa_nil)))))) (pss_nil)) (pss_one (ps_ret (pe_tup (pa_cons (pe_str) (pa_nil)))))))))))) (pss_one (ps_ret (pe_tup (pa_cons (pe_str) (pa_nil))))), rd__law_refusal T vs H Q E h⟩
theorem ok__law_size {f : Addr} {fd : FuncData} (T : Txt K mg) (F : FunD K "_law_size" "_law_size" (defArgs s__law_size) (defBody s__law_size) (defScope s__law_size) [] [] f fd) (c__law_take : Cal P w K mg base 2 "_law_take" ["box", "many"] (sp__law_take K)) : FnOk P w K mg base (L2N.CX P w) 3 f fd ["box"] (sp22__law_size K) :=
  F.ok sc__law_size (len__law_size K) fun cdv A outer s H vs Q E hr h => ⟨t__law_size K E, pss_cons (ps_set (i := 1) sc__law_size.nd rfl (by first | exact Or.inl rfl | exact Or.inr rfl) (pe_cl c__law_take hr (by decide) (pat_of (W := fun cls d _ H => E cls d H) (L2N.takes_of rfl rfl rfl rfl)) (pa_cons (pv 0) (pa_cons (pe_int) (pa_nil))))) (pss_cons (ps_if (pt_cmpR (op_eqA hr) (pv 1) (pe_int) (nomark _)) (pss_one (ps_ret (pe_op op_addA (pe_int) (pe_cl c__law_take hr (by decide) (pat_of (W := fun cls d _ H => E cls d H) (L2N.takes_of rfl rfl rfl rfl)) (pa_cons (pv 0) (pa_cons (pe_int) (pa_nil))))))) (pss_nil)) (pss_cons (ps_if (pt_cmpR (op_eqA hr) (pv 1) (pe_int) (nomark _)) (pss_one (ps_ret (pe_op op_addA (pe_int) (pe_cl c__law_take hr (by decide) (pat_of (W := fun cls d _ H => E cls d H) (L2N.takes_of rfl rfl rfl rfl)) (pa_cons (pv 0) (pa_cons (pe_int) (pa_nil))))))) (pss_nil)) (pss_one (ps_ret (pe_ix ix_seq (pe_lst (pa_cons (pe_int) (pa_cons (pe_int) (pa_cons (pe_int) (pa_cons (pe_int) (pa_cons (pe_int) (pa_cons (pe_int) (pa_cons (pe_int) (pa_cons (pe_int) (pa_cons (pe_int) (pa_cons (pe_int) (pa_cons (pe_int) (pa_cons (pe_int) (pa_cons (pe_int) (pa_cons (pe_int) (pa_nil)))))))))))))))) (pv 1) (fun _ _ => rfl)))))), rd__law_size T vs H Q E h⟩
theorem ok_law {f : Addr} {fd : FuncData} (T : Txt K mg) (F : FunD K "law" "law" (defArgs s_law) (defBody s_law) (defScope s_law) [] [] f fd) (c__law_agrees : Cal P w K mg base 11 "_law_agrees" ["size", "log"] (sp22__law_agrees K)) (c__law_box : Cal P w K mg base 1 "_law_box" ["script"] (sp__law_box K)) (c__law_faulty : Cal P w K mg base 4 "_law_faulty" ["box", "size", "log"] (sp__law_faulty K)) (c__law_log : Cal P w K mg base 4 "_law_log" ["box", "size"] (sp22__law_log K)) (c__law_refusal : Cal P w K mg base 12 "_law_refusal" ["way", "size", "log"] (sp22__law_refusal K)) (c__law_size : Cal P w K mg base 3 "_law_size" ["box"] (sp22__law_size K)) (c__law_take : Cal P w K mg base 2 "_law_take" ["box", "many"] (sp__law_take K)) : FnOk P w K mg base (L2N.CX P w) 13 f fd ["script"] (sp_law K) :=
  F.ok sc_law (len_law K) fun cdv A outer s H vs Q E hr h => ⟨t_law K E, pss_cons (ps_set (i := 1) sc_law.nd rfl (by first | exact Or.inl rfl | exact Or.inr rfl) (pe_cl c__law_box hr (by decide) (pat_of (W := fun cls d _ H => E cls d H) (L2N.takes_of rfl rfl rfl rfl)) (pa_cons (pv 0) (pa_nil)))) (pss_cons (ps_set (i := 2) sc_law.nd rfl (by first | exact Or.inl rfl | exact Or.inr rfl) (pe_cl c__law_size hr (by decide) (pat_of (W := fun cls d _ H => E cls d H) (L2N.takes_of rfl rfl rfl rfl)) (pa_cons (pv 1) (pa_nil)))) (pss_cons (ps_set (i := 3) sc_law.nd rfl (by first | exact Or.inl rfl | exact Or.inr rfl) (pe_cl c__law_log hr (by decide) (pat_of (W := fun cls d _ H => E cls d H) (L2N.takes_of rfl rfl rfl rfl)) (pa_cons (pv 1) (pa_cons (pv 2) (pa_nil))))) (pss_cons (ps_set (i := 4) sc_law.nd rfl (by first | exact Or.inl rfl | exact Or.inr rfl) (pe_cl c__law_take hr (by decide) (pat_of (W := fun cls d _ H => E cls d H) (L2N.takes_of rfl rfl rfl rfl)) (pa_cons (pv 1) (pa_cons (pe_op op_addA (pe_callB call_lenA (by rfl) T.b_len (by decide +kernel) (pa_cons (pv 3) (pa_nil))) (pe_int)) (pa_nil))))) (pss_cons (ps_if ((pw_or (pt_not (pt_val (pe_cl c__law_agrees hr (by decide) (pat_of (W := fun cls d _ H => E cls d H) (L2N.takes_of rfl rfl rfl rfl)) (pa_cons (pv 2) (pa_cons (pv 3) (pa_nil)))))) (pw_or1 (pt_not (pt_val (pe_cl c__law_agrees hr (by decide) (pat_of (W := fun cls d _ H => E cls d H) (L2N.takes_of rfl rfl rfl rfl)) (pa_cons (pv 2) (pa_cons (pe_slice sl_list (pv 3) (po_none) (po_some (pv 4))) (pa_nil)))))))).pt) (pss_one (ps_ret (pe_bl))) (pss_nil)) (pss_cons (ps_set (i := 5) sc_law.nd rfl (by first | exact Or.inl rfl | exact Or.inr rfl) (pe_cl c__law_faulty hr (by decide) (pat_of (W := fun cls d _ H => E cls d H) (L2N.takes_of rfl rfl rfl rfl)) (pa_cons (pv 1) (pa_cons (pv 2) (pa_cons (pv 3) (pa_nil)))))) (pss_cons (ps_set (i := 6) sc_law.nd rfl (by first | exact Or.inl rfl | exact Or.inr rfl) (pe_cl c__law_take hr (by decide) (pat_of (W := fun cls d _ H => E cls d H) (L2N.takes_of rfl rfl rfl rfl)) (pa_cons (pv 1) (pa_cons (pe_int) (pa_nil))))) (pss_cons (ps_set (i := 7) sc_law.nd rfl (by first | exact Or.inl rfl | exact Or.inr rfl) (pe_ix ix_seq (pe_lst (pa_cons (pe_un un_neg (pe_int)) (pa_cons (pe_int) (pa_cons (pe_op op_sub (pe_un un_neg (pe_int)) (pv 6)) (pa_cons (pe_op op_addA (pe_int) (pv 6)) (pa_nil)))))) (pe_cl c__law_take hr (by decide) (pat_of (W := fun cls d _ H => E cls d H) (L2N.takes_of rfl rfl rfl rfl)) (pa_cons (pv 1) (pa_cons (pe_int) (pa_nil)))) (fun _ _ => rfl))) (pss_cons (ps_for (passes_of rfl) rfl (pi_range1 rfl T.b_range (pa_cons (pe_int) (pa_nil))) (pg_name (i := 8) sc_law.nd rfl (by first | exact Or.inl rfl | exact Or.inr rfl)) (pss_cons (ps_set (i := 9) sc_law.nd rfl (by first | exact Or.inl rfl | exact Or.inr rfl) (pe_callTy call_listA (by rfl) T.b_list (by decide +kernel) (pa_cons (pe_ix ix_seq (pv 5) (pe_int) (fun _ _ => rfl)) (pa_nil)))) (pss_cons (ps_if ((pw_or (pt_cmpR (op_neA hr) (pe_cl c__law_refusal hr (by decide) (pat_of (W := fun cls d _ H => E cls d H) (L2N.takes_of rfl rfl rfl rfl)) (pa_cons (pv 8) (pa_cons (pv 2) (pa_cons (pv 9) (pa_nil))))) (pe_ix ix_seq (pv 5) (pe_int) (fun _ _ => rfl)) (nomark _)) (pw_or1 (pt_cmpR (op_neA hr) (pv 9) (pe_ix ix_seq (pv 5) (pe_int) (fun _ _ => rfl)) (nomark _)))).pt) (pss_one (ps_ret (pe_bl))) (pss_nil)) (pss_cons (ps_if (pt_cmpR (op_neA hr) (pe_cl c__law_refusal hr (by decide) (pat_of (W := fun cls d _ H => E cls d H) (L2N.takes_of rfl rfl rfl rfl)) (pa_cons (pv 8) (pa_cons (pv 7) (pa_cons (pe_callTy call_listA (by rfl) T.b_list (by decide +kernel) (pa_cons (pe_ix ix_seq (pv 5) (pe_int) (fun _ _ => rfl)) (pa_nil))) (pa_nil))))) (pe_tup (pa_cons (pe_str) (pa_cons (pv 7) (pa_nil)))) (nomark _)) (pss_one (ps_ret (pe_bl))) (pss_nil)) (pss_one (ps_if (pt_cmpR (op_neA hr) (pe_cl c__law_refusal hr (by decide) (pat_of (W := fun cls d _ H => E cls d H) (L2N.takes_of rfl rfl rfl rfl)) (pa_cons (pv 8) (pa_cons (pv 2) (pa_cons (pe_callTy call_listA (by rfl) T.b_list (by decide +kernel) (pa_cons (pv 3) (pa_nil))) (pa_nil))))) (pe_tup (pa_cons (pe_str) (pa_nil))) (nomark _)) (pss_one (ps_ret (pe_bl))) (pss_nil))))))) (pss_one (ps_ret (pe_bl))))))))))), rd_law T vs H Q E h⟩
end
theorem okH__law_integer {P : Program} {w : World} {K : PySem.W.Frag} {mg : Str → Option Value} {base : Heap} {f : Addr} {fd : FuncData} (T : Txt K mg) (F : FunD K "_law_integer" "_law_integer" (defArgs s__law_integer) (defBody s__law_integer) (defScope s__law_integer) [] [] f fd)  : L2H.FnH P w K mg base (L2N.CX P w) 1 f fd ["told"] (sp__law_integer K) :=
  okH F sc__law_integer (len__law_integer K) fun cdv A outer s H vs Q E p hot hr h => ⟨t__law_integer K E, pss_one (ps_ret (pe_and (pe_callB call_isi (by rfl) T.b_isinstance (by decide +kernel) (pa_cons (pv 0) (pa_cons (pe_ty "int" T.b_int (by decide +kernel)) (pa_nil)))) (pe_one (pe_not (pe_callB call_isi (by rfl) T.b_isinstance (by decide +kernel) (pa_cons (pv 0) (pa_cons (pe_ty "bool" T.b_bool (by decide +kernel)) (pa_nil)))))))), rd__law_integer T vs H Q E h⟩
theorem okH__law_fields {P : Program} {w : World} {K : PySem.W.Frag} {mg : Str → Option Value} {base : Heap} {f : Addr} {fd : FuncData} (T : Txt K mg) (F : FunD K "_law_fields" "_law_fields" (defArgs s__law_fields) (defBody s__law_fields) (defScope s__law_fields) [] [] f fd) (h__law_integer : CalH P w K mg base 1 "_law_integer" ["told"] (sp__law_integer K)) : L2H.FnH P w K mg base (L2N.CX P w) 2 f fd ["word", "fields"] (sp__law_fields K) :=
  okH F sc__law_fields (len__law_fields K) fun cdv A outer s H vs Q E p hot hr h => ⟨t__law_fields K E, pss_cons (L2H.ps_forH (passes_of rfl) (hotC hot) (pi_tupH (pv 1)) (pg_name (i := 2) sc__law_fields.nd rfl (by first | exact Or.inl rfl | exact Or.inr rfl)) (pss_one (ps_if (pt_not (pt_val (pe_clH h__law_integer (hr) (by decide) (hotC hot) pat_no (pa_cons (pv 2) (pa_nil))))) (pss_one (ps_ret (pe_tup (pa_cons (pe_str) (pa_nil))))) (pss_nil)))) (pss_one (ps_ret (pe_op op_catA (pe_tup (pa_cons (pv 0) (pa_nil))) (pv 1)))), rd__law_fields T vs H Q E h⟩
end G

set_option Elab.async false
set_option linter.all false
set_option maxRecDepth 100000
set_option maxHeartbeats 4000000

namespace G
open PySem PySem.Spec PyProof.Rows L2
theorem facts {P : Program} {w : World} {K : PySem.W.Frag} {h : Heap} {mg : Str → Option Value} {f : Addr} (X : K.In h) (G : h.Ns mainGlobals mg) (hfa : mg ("law" : Str) = some (.ref f)) (c : SaysY chkL fnL K) :
    ∃ fd : FuncData, (∀ (s : Shared) (v : Value), BindsTo s fd ⟨[v], []⟩ [("script", v)]) ∧ ∀ base : Heap, K.In base → base.Ns mainGlobals mg → FnOk P w K mg base (L2N.CX P w) 13 f fd ["script"] (sp_law K) := by
  have T := txt_of X G c
  obtain ⟨fd__law_late, F__law_late⟩ := c.def_ 0 (d := d__law_late) rfl
  obtain ⟨fd__law_start, F__law_start⟩ := c.def_ 1 (d := d__law_start) rfl
  obtain ⟨fd__law_step, F__law_step⟩ := c.def_ 2 (d := d__law_step) rfl
  obtain ⟨fd__law_due, F__law_due⟩ := c.def_ 3 (d := d__law_due) rfl
  obtain ⟨fd__law_integer, F__law_integer⟩ := c.def_ 4 (d := d__law_integer) rfl
  obtain ⟨fd__law_row, F__law_row⟩ := c.def_ 5 (d := d__law_row) rfl
  obtain ⟨fd__law_pairs, F__law_pairs⟩ := c.def_ 6 (d := d__law_pairs) rfl
  obtain ⟨fd_Links_outs, F_Links_outs⟩ := c.def_ 7 (d := d_Links_outs) rfl
  obtain ⟨fd_check_size, F_check_size⟩ := c.def_ 8 (d := d_check_size) rfl
  obtain ⟨fd_Links___init__, F_Links___init__⟩ := c.def_ 9 (d := d_Links___init__) rfl
  obtain ⟨fd_Links_is_legal, F_Links_is_legal⟩ := c.def_ 10 (d := d_Links_is_legal) rfl
  obtain ⟨fd_check_operation, F_check_operation⟩ := c.def_ 11 (d := d_check_operation) rfl
  obtain ⟨fd_Links_check, F_Links_check⟩ := c.def_ 12 (d := d_Links_check) rfl
  obtain ⟨fd_Links_apply_at, F_Links_apply_at⟩ := c.def_ 13 (d := d_Links_apply_at) rfl
  obtain ⟨fd_Links_copy, F_Links_copy⟩ := c.def_ 14 (d := d_Links_copy) rfl
  obtain ⟨fd_play, F_play⟩ := c.def_ 15 (d := d_play) rfl
  obtain ⟨fd_replay, F_replay⟩ := c.def_ 16 (d := d_replay) rfl
  obtain ⟨fd__check_once, F__check_once⟩ := c.def_ 17 (d := d__check_once) rfl
  obtain ⟨fd_is_complete, F_is_complete⟩ := c.def_ 18 (d := d_is_complete) rfl
  obtain ⟨fd_Links_apply, F_Links_apply⟩ := c.def_ 19 (d := d_Links_apply) rfl
  obtain ⟨fd_Links_left, F_Links_left⟩ := c.def_ 20 (d := d_Links_left) rfl
  obtain ⟨fd_Links_right, F_Links_right⟩ := c.def_ 21 (d := d_Links_right) rfl
  obtain ⟨fd__late_gaps, F__late_gaps⟩ := c.def_ 22 (d := d__late_gaps) rfl
  obtain ⟨fd_late_writes, F_late_writes⟩ := c.def_ 23 (d := d_late_writes) rfl
  obtain ⟨fd_Links_is_out, F_Links_is_out⟩ := c.def_ 24 (d := d_Links_is_out) rfl
  obtain ⟨fd_safe_next, F_safe_next⟩ := c.def_ 25 (d := d_safe_next) rfl
  obtain ⟨fd__law_agrees, F__law_agrees⟩ := c.def_ 26 (d := d__law_agrees) rfl
  obtain ⟨fd__law_box, F__law_box⟩ := c.def_ 27 (d := d__law_box) rfl
  obtain ⟨fd__law_mixed, F__law_mixed⟩ := c.def_ 28 (d := d__law_mixed) rfl
  obtain ⟨fd__law_take, F__law_take⟩ := c.def_ 29 (d := d__law_take) rfl
  obtain ⟨fd__law_illegal, F__law_illegal⟩ := c.def_ 30 (d := d__law_illegal) rfl
  obtain ⟨fd__law_twice, F__law_twice⟩ := c.def_ 31 (d := d__law_twice) rfl
  obtain ⟨fd__law_faulty, F__law_faulty⟩ := c.def_ 32 (d := d__law_faulty) rfl
  obtain ⟨fd__law_pattern, F__law_pattern⟩ := c.def_ 33 (d := d__law_pattern) rfl
  obtain ⟨fd__law_range, F__law_range⟩ := c.def_ 34 (d := d__law_range) rfl
  obtain ⟨fd__law_log, F__law_log⟩ := c.def_ 35 (d := d__law_log) rfl
  obtain ⟨fd__law_ask, F__law_ask⟩ := c.def_ 36 (d := d__law_ask) rfl
  obtain ⟨fd__law_fields, F__law_fields⟩ := c.def_ 37 (d := d__law_fields) rfl
  obtain ⟨fd__law_refusal, F__law_refusal⟩ := c.def_ 38 (d := d__law_refusal) rfl
  obtain ⟨fd__law_size, F__law_size⟩ := c.def_ 39 (d := d__law_size) rfl
  obtain ⟨fd_law, F_law⟩ := c.def_ 40 (d := d_law) rfl
  obtain ⟨fd_BadNode___init__, F_BadNode___init__⟩ := c.def_ 41 (d := d_BadNode___init__) rfl
  obtain ⟨fd_BadSize___init__, F_BadSize___init__⟩ := c.def_ 42 (d := d_BadSize___init__) rfl
  obtain ⟨fd_LogError___init__, F_LogError___init__⟩ := c.def_ 43 (d := d_LogError___init__) rfl
  obtain ⟨fd_NotOnce___init__, F_NotOnce___init__⟩ := c.def_ 44 (d := d_NotOnce___init__) rfl
  have e := hfa.symm.trans T.gf_law
  cases e
  have bA := FunD.bindsA (ps := ["script"]) F_law fun _ _ _ _ _ _ us hl => match us, hl with | [_], _ => rfl
  refine ⟨fd_law, fun s v => bA s [v] rfl, fun base _ _ => ?_⟩
  have i_BadNode : FnOk P w K mg base (L2N.CX P w) 1 (He.ma K (He.ga K "BadNode") "__init__") fd_BadNode___init__ ["self", "node"] (spIn K ["node"]) := FunD.ok F_BadNode___init__ sc_BadNode___init__ (spIn_len rfl) fun cdv A outer s H vs Q E hr h => ⟨_, pss_one (ps_ost (pv 0) (pv 1)), ini1 rfl h⟩
  have i_BadSize : FnOk P w K mg base (L2N.CX P w) 1 (He.ma K (He.ga K "BadSize") "__init__") fd_BadSize___init__ ["self", "size"] (spIn K ["size"]) := FunD.ok F_BadSize___init__ sc_BadSize___init__ (spIn_len rfl) fun cdv A outer s H vs Q E hr h => ⟨_, pss_one (ps_ost (pv 0) (pv 1)), ini1 rfl h⟩
  have i_LogError : FnOk P w K mg base (L2N.CX P w) 1 (He.ma K (He.ga K "LogError") "__init__") fd_LogError___init__ ["self", "operation", "index"] (spIn K ["operation", "index"]) := FunD.ok F_LogError___init__ sc_LogError___init__ (spIn_len rfl) fun cdv A outer s H vs Q E hr h => ⟨_, pss_cons (ps_ost (pv 0) (pv 1)) (pss_one (ps_ost (pv 0) (pv 2))), ini2 rfl h⟩
  have i_NotOnce : FnOk P w K mg base (L2N.CX P w) 1 (He.ma K (He.ga K "NotOnce") "__init__") fd_NotOnce___init__ ["self", "index"] (spIn K ["index"]) := FunD.ok F_NotOnce___init__ sc_NotOnce___init__ (spIn_len rfl) fun cdv A outer s H vs Q E hr h => ⟨_, pss_one (ps_ost (pv 0) (pv 1)), ini1 rfl h⟩
  have x_BadNode : ExM P w K mg base 1 "BadNode" (He.ga K "BadNode") ["node"] := ⟨T.oe_BadNode.1, T.oe_BadNode.2, T.g_BadNode, _, fd_BadNode___init__, ["self", "node"], i_BadNode, T.in_BadNode.1, T.in_BadNode.2, FunD.bindsN (ps := ["self", "node"]) F_BadNode___init__ fun _ _ _ _ _ _ us hl => match us, hl with | [_, _], _ => rfl⟩
  have x_BadOperation : ExM P w K mg base 1 "BadOperation" (He.ga K "BadOperation") ["operation", "index"] := ⟨T.oe_BadOperation.1, T.oe_BadOperation.2, T.g_BadOperation, _, fd_LogError___init__, ["self", "operation", "index"], i_LogError, (T.sm_BadOperation ▸ T.in_BadOperation).1, (T.sm_BadOperation ▸ T.in_BadOperation).2, FunD.bindsN (ps := ["self", "operation", "index"]) F_LogError___init__ fun _ _ _ _ _ _ us hl => match us, hl with | [_, _, _], _ => rfl⟩
  have x_BadSize : ExM P w K mg base 1 "BadSize" (He.ga K "BadSize") ["size"] := ⟨T.oe_BadSize.1, T.oe_BadSize.2, T.g_BadSize, _, fd_BadSize___init__, ["self", "size"], i_BadSize, T.in_BadSize.1, T.in_BadSize.2, FunD.bindsN (ps := ["self", "size"]) F_BadSize___init__ fun _ _ _ _ _ _ us hl => match us, hl with | [_, _], _ => rfl⟩
  have x_Illegal : ExM P w K mg base 1 "Illegal" (He.ga K "Illegal") ["operation", "index"] := ⟨T.oe_Illegal.1, T.oe_Illegal.2, T.g_Illegal, _, fd_LogError___init__, ["self", "operation", "index"], i_LogError, (T.sm_Illegal ▸ T.in_Illegal).1, (T.sm_Illegal ▸ T.in_Illegal).2, FunD.bindsN (ps := ["self", "operation", "index"]) F_LogError___init__ fun _ _ _ _ _ _ us hl => match us, hl with | [_, _, _], _ => rfl⟩
  have x_NotOnce : ExM P w K mg base 1 "NotOnce" (He.ga K "NotOnce") ["index"] := ⟨T.oe_NotOnce.1, T.oe_NotOnce.2, T.g_NotOnce, _, fd_NotOnce___init__, ["self", "index"], i_NotOnce, T.in_NotOnce.1, T.in_NotOnce.2, FunD.bindsN (ps := ["self", "index"]) F_NotOnce___init__ fun _ _ _ _ _ _ us hl => match us, hl with | [_, _], _ => rfl⟩
  have h__law_integer : CalH P w K mg base 1 "_law_integer" ["told"] (sp__law_integer K) := ⟨_, fd__law_integer, okH__law_integer T F__law_integer , T.gf__law_integer, F__law_integer.kp, FunD.bindsN (ps := ["told"]) F__law_integer fun _ _ _ _ _ _ us hl => match us, hl with | [_], _ => rfl⟩
  have h__law_fields : CalH P w K mg base 2 "_law_fields" ["word", "fields"] (sp__law_fields K) := ⟨_, fd__law_fields, okH__law_fields T F__law_fields h__law_integer, T.gf__law_fields, F__law_fields.kp, FunD.bindsN (ps := ["word", "fields"]) F__law_fields fun _ _ _ _ _ _ us hl => match us, hl with | [_, _], _ => rfl⟩
  have c__law_late : Cal P w K mg base 1 "_law_late" ["book", "node"] (sp__law_late K) := ⟨_, fd__law_late, ok__law_late T F__law_late , T.gf__law_late, F__law_late.kp, FunD.bindsN (ps := ["book", "node"]) F__law_late fun _ _ _ _ _ _ us hl => match us, hl with | [_, _], _ => rfl⟩
  have c__law_start : Cal P w K mg base 1 "_law_start" ["size"] (sp__law_start K) := ⟨_, fd__law_start, ok__law_start T F__law_start , T.gf__law_start, F__law_start.kp, FunD.bindsN (ps := ["size"]) F__law_start fun _ _ _ _ _ _ us hl => match us, hl with | [_], _ => rfl⟩
  have c__law_step : Cal P w K mg base 1 "_law_step" ["book", "operation"] (sp22__law_step K) := ⟨_, fd__law_step, ok__law_step T F__law_step , T.gf__law_step, F__law_step.kp, FunD.bindsN (ps := ["book", "operation"]) F__law_step fun _ _ _ _ _ _ us hl => match us, hl with | [_, _], _ => rfl⟩
  have c__law_due : Cal P w K mg base 2 "_law_due" ["size", "log"] (sp22__law_due K) := ⟨_, fd__law_due, ok__law_due T F__law_due c__law_late c__law_start c__law_step, T.gf__law_due, F__law_due.kp, FunD.bindsN (ps := ["size", "log"]) F__law_due fun _ _ _ _ _ _ us hl => match us, hl with | [_, _], _ => rfl⟩
  have c__law_integer : Cal P w K mg base 1 "_law_integer" ["told"] (sp__law_integer K) := ⟨_, fd__law_integer, ok__law_integer T F__law_integer , T.gf__law_integer, F__law_integer.kp, FunD.bindsN (ps := ["told"]) F__law_integer fun _ _ _ _ _ _ us hl => match us, hl with | [_], _ => rfl⟩
  have c__law_row : Cal P w K mg base 2 "_law_row" ["told", "due"] (sp__law_row K) := ⟨_, fd__law_row, ok__law_row T F__law_row c__law_integer, T.gf__law_row, F__law_row.kp, FunD.bindsN (ps := ["told", "due"]) F__law_row fun _ _ _ _ _ _ us hl => match us, hl with | [_, _], _ => rfl⟩
  have c__law_pairs : Cal P w K mg base 3 "_law_pairs" ["told", "due"] (sp__law_pairs K) := ⟨_, fd__law_pairs, ok__law_pairs T F__law_pairs c__law_row, T.gf__law_pairs, F__law_pairs.kp, FunD.bindsN (ps := ["told", "due"]) F__law_pairs fun _ _ _ _ _ _ us hl => match us, hl with | [_, _], _ => rfl⟩
  have c_Links_outs : Met P w K mg base 1 (He.ga K "Links") "outs" ["self"] (sp_Links_outs K) := ⟨_, fd_Links_outs, ok_Links_outs T F_Links_outs , T.me_Links_outs, FunD.bindsN (ps := ["self"]) F_Links_outs fun _ _ _ _ _ _ us hl => match us, hl with | [_], _ => rfl⟩
  have c_check_size : Cal P w K mg base 3 "check_size" ["size"] (sp_check_size K) := ⟨_, fd_check_size, ok_check_size T F_check_size x_BadSize, T.gf_check_size, F_check_size.kp, FunD.bindsN (ps := ["size"]) F_check_size fun _ _ _ _ _ _ us hl => match us, hl with | [_], _ => rfl⟩
  have m_Links : Mak P w K mg base 4 "Links" (He.ga K "Links") ["self", "size"] (sp_Links___init__ K) := ⟨_, fd_Links___init__, ok_Links___init__ T F_Links___init__ c_check_size, T.mk_Links, T.g_Links, FunD.bindsN (ps := ["self", "size"]) F_Links___init__ fun _ _ _ _ _ _ us hl => match us, hl with | [_, _], _ => rfl⟩
  have c_Links_is_legal : Met P w K mg base 1 (He.ga K "Links") "is_legal" ["self", "operation"] (sp_Links_is_legal K) := ⟨_, fd_Links_is_legal, ok_Links_is_legal T F_Links_is_legal , T.me_Links_is_legal, FunD.bindsN (ps := ["self", "operation"]) F_Links_is_legal fun _ _ _ _ _ _ us hl => match us, hl with | [_, _], _ => rfl⟩
  have c_check_operation : Cal P w K mg base 3 "check_operation" ["size", "operation", "index"] (sp_check_operation K) := ⟨_, fd_check_operation, ok_check_operation T F_check_operation x_BadOperation, T.gf_check_operation, F_check_operation.kp, FunD.bindsN (ps := ["size", "operation", "index"]) F_check_operation fun _ _ _ _ _ _ us hl => match us, hl with | [_, _, _], _ => rfl⟩
  have c_Links_check : Met P w K mg base 4 (He.ga K "Links") "check" ["self", "operation", "index"] (sp_Links_check K) := ⟨_, fd_Links_check, ok_Links_check T F_Links_check c_Links_is_legal c_check_operation x_Illegal, T.me_Links_check, FunD.bindsN (ps := ["self", "operation", "index"]) F_Links_check fun _ _ _ _ _ _ us hl => match us, hl with | [_, _, _], _ => rfl⟩
  have c_Links_apply_at : Met P w K mg base 5 (He.ga K "Links") "apply_at" ["self", "operation", "index"] (sp_Links_apply_at K) := ⟨_, fd_Links_apply_at, ok_Links_apply_at T F_Links_apply_at c_Links_check, T.me_Links_apply_at, FunD.bindsN (ps := ["self", "operation", "index"]) F_Links_apply_at fun _ _ _ _ _ _ us hl => match us, hl with | [_, _, _], _ => rfl⟩
  have c_Links_copy : Met P w K mg base 6 (He.ga K "Links") "copy" ["self"] (sp_Links_copy K) := ⟨_, fd_Links_copy, ok_Links_copy T F_Links_copy m_Links, T.me_Links_copy, FunD.bindsN (ps := ["self"]) F_Links_copy fun _ _ _ _ _ _ us hl => match us, hl with | [_], _ => rfl⟩
  have c_play : Cal P w K mg base 7 "play" ["links", "log"] (sp_play K) := ⟨_, fd_play, ok_play T F_play c_Links_apply_at c_Links_copy, T.gf_play, F_play.kp, FunD.bindsN (ps := ["links", "log"]) F_play fun _ _ _ _ _ _ us hl => match us, hl with | [_, _], _ => rfl⟩
  have c_replay : Cal P w K mg base 8 "replay" ["size", "log"] (sp_replay K) := ⟨_, fd_replay, ok_replay T F_replay m_Links c_play, T.gf_replay, F_replay.kp, FunD.bindsN (ps := ["size", "log"]) F_replay fun _ _ _ _ _ _ us hl => match us, hl with | [_, _], _ => rfl⟩
  have c__check_once : Cal P w K mg base 9 "_check_once" ["size", "log"] (sp__check_once K) := ⟨_, fd__check_once, ok__check_once T F__check_once c_replay x_NotOnce, T.gf__check_once, F__check_once.kp, FunD.bindsN (ps := ["size", "log"]) F__check_once fun _ _ _ _ _ _ us hl => match us, hl with | [_, _], _ => rfl⟩
  have c_is_complete : Cal P w K mg base 10 "is_complete" ["size", "log"] (sp_is_complete K) := ⟨_, fd_is_complete, ok_is_complete T F_is_complete c_Links_outs c__check_once c_replay, T.gf_is_complete, F_is_complete.kp, FunD.bindsN (ps := ["size", "log"]) F_is_complete fun _ _ _ _ _ _ us hl => match us, hl with | [_, _], _ => rfl⟩
  have c_Links_apply : Met P w K mg base 6 (He.ga K "Links") "apply" ["self", "operation"] (sp_Links_apply K) := ⟨_, fd_Links_apply, ok_Links_apply T F_Links_apply c_Links_apply_at, T.me_Links_apply, FunD.bindsN (ps := ["self", "operation"]) F_Links_apply fun _ _ _ _ _ _ us hl => match us, hl with | [_, _], _ => rfl⟩
  have c_Links_left : Met P w K mg base 3 (He.ga K "Links") "left" ["self", "node"] (sp_Links_left K) := ⟨_, fd_Links_left, ok_Links_left T F_Links_left x_BadNode, T.me_Links_left, FunD.bindsN (ps := ["self", "node"]) F_Links_left fun _ _ _ _ _ _ us hl => match us, hl with | [_, _], _ => rfl⟩
  have c_Links_right : Met P w K mg base 3 (He.ga K "Links") "right" ["self", "node"] (sp_Links_right K) := ⟨_, fd_Links_right, ok_Links_right T F_Links_right x_BadNode, T.me_Links_right, FunD.bindsN (ps := ["self", "node"]) F_Links_right fun _ _ _ _ _ _ us hl => match us, hl with | [_, _], _ => rfl⟩
  have c__late_gaps : Cal P w K mg base 4 "_late_gaps" ["links", "earlier", "operation"] (sp__late_gaps K) := ⟨_, fd__late_gaps, ok__late_gaps T F__late_gaps c_Links_left c_Links_right, T.gf__late_gaps, F__late_gaps.kp, FunD.bindsN (ps := ["links", "earlier", "operation"]) F__late_gaps fun _ _ _ _ _ _ us hl => match us, hl with | [_, _, _], _ => rfl⟩
  have c_late_writes : Cal P w K mg base 10 "late_writes" ["size", "log"] (sp_late_writes K) := ⟨_, fd_late_writes, ok_late_writes T F_late_writes m_Links c_Links_apply c__check_once c__late_gaps, T.gf_late_writes, F_late_writes.kp, FunD.bindsN (ps := ["size", "log"]) F_late_writes fun _ _ _ _ _ _ us hl => match us, hl with | [_, _], _ => rfl⟩
  have c_Links_is_out : Met P w K mg base 3 (He.ga K "Links") "is_out" ["self", "node"] (sp_Links_is_out K) := ⟨_, fd_Links_is_out, ok_Links_is_out T F_Links_is_out x_BadNode, T.me_Links_is_out, FunD.bindsN (ps := ["self", "node"]) F_Links_is_out fun _ _ _ _ _ _ us hl => match us, hl with | [_, _], _ => rfl⟩
  have c_safe_next : Cal P w K mg base 10 "safe_next" ["size", "log"] (sp_safe_next K) := ⟨_, fd_safe_next, ok_safe_next T F_safe_next c_Links_is_out c__check_once c__late_gaps c_replay, T.gf_safe_next, F_safe_next.kp, FunD.bindsN (ps := ["size", "log"]) F_safe_next fun _ _ _ _ _ _ us hl => match us, hl with | [_, _], _ => rfl⟩
  have c__law_agrees : Cal P w K mg base 11 "_law_agrees" ["size", "log"] (sp22__law_agrees K) := ⟨_, fd__law_agrees, ok__law_agrees T F__law_agrees c__law_due c__law_pairs c__law_row c_is_complete c_late_writes c_safe_next, T.gf__law_agrees, F__law_agrees.kp, FunD.bindsN (ps := ["size", "log"]) F__law_agrees fun _ _ _ _ _ _ us hl => match us, hl with | [_, _], _ => rfl⟩
  have c__law_box : Cal P w K mg base 1 "_law_box" ["script"] (sp__law_box K) := ⟨_, fd__law_box, ok__law_box T F__law_box , T.gf__law_box, F__law_box.kp, FunD.bindsN (ps := ["script"]) F__law_box fun _ _ _ _ _ _ us hl => match us, hl with | [_], _ => rfl⟩
  have c__law_mixed : Cal P w K mg base 1 "_law_mixed" ["cell", "turn"] (sp__law_mixed K) := ⟨_, fd__law_mixed, ok__law_mixed T F__law_mixed , T.gf__law_mixed, F__law_mixed.kp, FunD.bindsN (ps := ["cell", "turn"]) F__law_mixed fun _ _ _ _ _ _ us hl => match us, hl with | [_, _], _ => rfl⟩
  have c__law_take : Cal P w K mg base 2 "_law_take" ["box", "many"] (sp__law_take K) := ⟨_, fd__law_take, ok__law_take T F__law_take c__law_mixed, T.gf__law_take, F__law_take.kp, FunD.bindsN (ps := ["box", "many"]) F__law_take fun _ _ _ _ _ _ us hl => match us, hl with | [_, _], _ => rfl⟩
  have c__law_illegal : Cal P w K mg base 3 "_law_illegal" ["box", "size", "log"] (sp__law_illegal K) := ⟨_, fd__law_illegal, ok__law_illegal T F__law_illegal c__law_take, T.gf__law_illegal, F__law_illegal.kp, FunD.bindsN (ps := ["box", "size", "log"]) F__law_illegal fun _ _ _ _ _ _ us hl => match us, hl with | [_, _, _], _ => rfl⟩
  have c__law_twice : Cal P w K mg base 3 "_law_twice" ["box", "size", "log"] (sp__law_twice K) := ⟨_, fd__law_twice, ok__law_twice T F__law_twice c__law_take, T.gf__law_twice, F__law_twice.kp, FunD.bindsN (ps := ["box", "size", "log"]) F__law_twice fun _ _ _ _ _ _ us hl => match us, hl with | [_, _, _], _ => rfl⟩
  have c__law_faulty : Cal P w K mg base 4 "_law_faulty" ["box", "size", "log"] (sp__law_faulty K) := ⟨_, fd__law_faulty, ok__law_faulty T F__law_faulty c__law_illegal c__law_take c__law_twice, T.gf__law_faulty, F__law_faulty.kp, FunD.bindsN (ps := ["box", "size", "log"]) F__law_faulty fun _ _ _ _ _ _ us hl => match us, hl with | [_, _, _], _ => rfl⟩
  have c__law_pattern : Cal P w K mg base 3 "_law_pattern" ["box", "low", "high"] (sp__law_pattern K) := ⟨_, fd__law_pattern, ok__law_pattern T F__law_pattern c__law_take, T.gf__law_pattern, F__law_pattern.kp, FunD.bindsN (ps := ["box", "low", "high"]) F__law_pattern fun _ _ _ _ _ _ us hl => match us, hl with | [_, _, _], _ => rfl⟩
  have c__law_range : Cal P w K mg base 3 "_law_range" ["box", "size"] (sp__law_range K) := ⟨_, fd__law_range, ok__law_range T F__law_range c__law_take, T.gf__law_range, F__law_range.kp, FunD.bindsN (ps := ["box", "size"]) F__law_range fun _ _ _ _ _ _ us hl => match us, hl with | [_, _], _ => rfl⟩
  have c__law_log : Cal P w K mg base 4 "_law_log" ["box", "size"] (sp22__law_log K) := ⟨_, fd__law_log, ok__law_log T F__law_log c__law_late c__law_pattern c__law_range c__law_start c__law_step c__law_take, T.gf__law_log, F__law_log.kp, FunD.bindsN (ps := ["box", "size"]) F__law_log fun _ _ _ _ _ _ us hl => match us, hl with | [_, _], _ => rfl⟩
  have c__law_ask : Cal P w K mg base 11 "_law_ask" ["way", "size", "log"] (sp__law_ask K) := ⟨_, fd__law_ask, ok__law_ask T F__law_ask c_is_complete c_late_writes c_safe_next, T.gf__law_ask, F__law_ask.kp, FunD.bindsN (ps := ["way", "size", "log"]) F__law_ask fun _ _ _ _ _ _ us hl => match us, hl with | [_, _, _], _ => rfl⟩
  have c__law_refusal : Cal P w K mg base 12 "_law_refusal" ["way", "size", "log"] (sp22__law_refusal K) := ⟨_, fd__law_refusal, ok__law_refusal T F__law_refusal c__law_ask h__law_fields, T.gf__law_refusal, F__law_refusal.kp, FunD.bindsN (ps := ["way", "size", "log"]) F__law_refusal fun _ _ _ _ _ _ us hl => match us, hl with | [_, _, _], _ => rfl⟩
  have c__law_size : Cal P w K mg base 3 "_law_size" ["box"] (sp22__law_size K) := ⟨_, fd__law_size, ok__law_size T F__law_size c__law_take, T.gf__law_size, F__law_size.kp, FunD.bindsN (ps := ["box"]) F__law_size fun _ _ _ _ _ _ us hl => match us, hl with | [_], _ => rfl⟩
  exact ok_law T F_law c__law_agrees c__law_box c__law_faulty c__law_log c__law_refusal c__law_size c__law_take
end G
open PySem PySem.W PySem.Calls PyProof.Rows
set_option maxRecDepth 100000 in
set_option maxHeartbeats 0 in
theorem PySem.Challenge.cw_latelink_k22_late_writes_holds : PySem.Challenge.rw_latelink_k22_late_writes.Holds := by
  w_on; o_law
  refine HandSHeadRun.head_any (r := OpenLaw.row PySem.Challenge.rw_latelink_k22_late_writes) (q := view (OpenLaw.row PySem.Challenge.rw_latelink_k22_late_writes).prog [54]) (H := G.hk) (ob := G.ob) (M := 8000) (loose := G.loose) (d := HandSHeadRun.topDef (OpenLaw.row PySem.Challenge.rw_latelink_k22_late_writes).prog 54) (kwd := []) G.ob_eq
    (by kernel_rfl) (fun s => by kernel_rfl) G.run (by kernel_rfl) (by kernel_rfl) (by kernel_rfl) (by rfl) (by first | assumption | decide +kernel) (by decide +kernel) ⟨rfl, rfl, rfl, rfl, rfl, by decide +kernel⟩ ?hw ?hc
  case hw => w_witness2
  case hc =>
    refine L2.walk_ofE (l := PySem.Challenge.rw_latelink_k22_late_writes) (n := 63) (k := 13) (x := "script") (CX := L2.CX0) rfl (by decide) (by kernel_rfl) ⟨rfl, by decide, by decide⟩ ?F (fun _ _ _ _ z => z)
    case F =>
      intro w mg fa h Y Gm hmg0
      obtain ⟨K, KX, c⟩ := Y
      have hmg : mg ("law" : PySem.Str) = some (.ref fa) := by
        have e : (HandSHeadRun.topDef (OpenLaw.row PySem.Challenge.rw_latelink_k22_late_writes).prog 54).name = ("law" : PySem.Str) := by kernel_rfl
        rw [← e]
        exact hmg0
      obtain ⟨fd, hb, hF⟩ := G.facts (P := (PySem.Challenge.rw_latelink_k22_late_writes).prog) (w := w) KX Gm hmg c
      exact ⟨K, fd, _, KX, hb, fun H a ns hl _ hS => ⟨a, ns, rfl, hS, hl, fun _ => rfl⟩, fun base h1 h2 => G.noX (hF base h1 h2)⟩
