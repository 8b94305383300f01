import PyProof.Rows.All
import Wide.All
import OpenK.AllK
import Wide.FinOn
import KE.KStateDown
import KE.KExcIs
import HandS.ForMost
import HandS.Exc
import HandS.ExcOwn
import HandS.ExcCtx
import HandS.ExcInit
import HandS.ExcField
import HandS.HotCalls
import HandS.WordsExc
import HandS.IsInst
import HandS.Conv
import HandS.Defaults
import HandS.Evl
import HandS.Head0
import HandS.Head1
import HandS.Head2
import HandS.HeadEnd
import HandS.HeadHook1
import HandS.HeadHook2
import HandS.ClsMeth
import HandS.ExcInitHot
import HandS.OwnEq
import HandS.HeadNt
import HandS.NoneIn
import HandS.Text
import HandS.Steps
import HandS.Strs
import PySem.Challenge.RW_latelink_k06_states_of_gaps
set_option Elab.async false
set_option linter.all false
set_option maxRecDepth 100000
set_option maxHeartbeats 4000000
/-! Calls by bundles, own exceptions with fields, raised, caught, asked. -/
namespace G
open PySem PySem.Spec PyProof.Rows L2

/-! ### a def, a method of the text, ready to be called -/
structure Cal (P : Program) (w : World) (K : PySem.W.Frag) (mg : Str → Option Value) (base : Heap) (k : Nat) (x : Str) (ps : List Str) (sp : Sp) : Prop where
  ex : ∃ (f : Addr) (fd : FuncData), FnOk P w K mg base (L2N.CX P w) k f fd ps sp ∧ mg x = some (.ref f) ∧ PySem.W.keepIn K (.ref f) = true ∧ Binds K fd ps []
structure Met (P : Program) (w : World) (K : PySem.W.Frag) (mg : Str → Option Value) (base : Heap) (k : Nat) (C : Addr) (m : Str) (ps : List Str) (sp : Sp) : Prop where
  ex : ∃ (f : Addr) (fd : FuncData), FnOk P w K mg base (L2N.CX P w) k f fd ps sp ∧ Meth K C m f ∧ Binds K fd ps []
structure Mak (P : Program) (w : World) (K : PySem.W.Frag) (mg : Str → Option Value) (base : Heap) (k : Nat) (x : Str) (C : Addr) (ps : List Str) (sp : Sp) : Prop where
  ex : ∃ (f : Addr) (fd : FuncData), FnOk P w K mg base (L2N.CX P w) k f fd ps sp ∧ Mk K C f ∧ mg x = some (.ref C) ∧ Binds K fd ps []
/-- the same where an exception is handled -/
structure CalH (P : Program) (w : World) (K : PySem.W.Frag) (mg : Str → Option Value) (base : Heap) (k : Nat) (x : Str) (ps : List Str) (sp : Sp) : Prop where
  ex : ∃ (f : Addr) (fd : FuncData), L2H.FnH P w K mg base (L2N.CX P w) k f fd ps sp ∧ mg x = some (.ref f) ∧ PySem.W.keepIn K (.ref f) = true ∧ Binds K fd ps []
section
variable {X : Cx} {j k : Nat} {x m : Str} {ps : List Str} {sp : Sp} {E : XK} {C : Addr} {p pos apos : Pos} {e o : Expr} {es : List Expr} {t : TA} {ta : TE}
/-- f(..): what leaves it as an exception is wished for by E -/
def tCl (sp : Sp) (E : L2.St → XK) (t : TA) : TE := fun σ H Q => t σ H fun vs H1 => sp vs H1 Q (E σ)
def tMt (C : Addr) (m : Str) (sp : Sp) (E : L2.St → XK) (ta : TE) (t : TA) : TE := fun σ H Q => ta σ H fun x H1 => ∃ a dx fs, x = .ref a ∧ H1 a = some (.ins C dx fs) ∧ fs.lookup m = none ∧ t σ H1 fun vs H2 => sp (x :: vs) H2 Q (E σ)
def tMk (C : Addr) (sp : Sp) (E : L2.St → XK) (t : TA) : TE := fun σ H Q => t σ H fun vs H1 => ∀ x dx, H1 x = none → H1 dx = none → dx ≠ x → sp (.ref x :: vs) (upd (upd H1 dx (.own x)) x (.ins C dx [])) (fun v H2 => v = .non ∧ Q (.ref x) H2) (E σ)
abbrev PAt (X : Cx) (E : L2.St → XK) : Prop := ∀ σ, PassesAt (L2N.CX X.prog X.w) X σ (E σ)
theorem pat_of {X : Cx} {W : WX} (tk : L2N.Takes X W) : PAt X (WE W) := fun σ => L2N.passAt tk σ
/-- where nothing may be let out -/
theorem pat_no {X : Cx} : PAt X (fun _ => L2.E0) := fun σ pins H s e s' I c => by
  obtain ⟨_, _, _, _, _, _, _, _, _, _, _, _, z⟩ := c
  exact z.elim
variable {E : L2.St → XK}
theorem pe_cl (c : Cal X.prog X.w X.K X.mg X.base k x ps sp) (hr : Room j X.A) (hk : k ≤ j) (hx : PAt X E) (ha : PA X (e :: es) t) (hg : Gl X x := by rfl) (hdb : (x == ("__debug__" : Str)) = false := by decide)
    (he : starEach (e :: es) X.env = (false, eval e X.env) :: starEach es X.env := by rfl) (hpl : (backTo pos (starEach es X.env)).any (·.1) = false := by rfl) : PE X (.Call (.Name x p) (e :: es) [] pos) (tCl sp E t) := by
  obtain ⟨f, fd, F, hm, kp, hb⟩ := c.ex
  refine ⟨fun pins s σ H Q I h => ?_⟩
  exact (pe_callS (E := E) F (hr.mono hk) hg hm kp hb hx ha hdb he hpl).run pins s σ H Q I h
theorem pe_cl0 (c : Cal X.prog X.w X.K X.mg X.base k x ps sp) (hr : Room j X.A) (hk : k ≤ j) (hx : PAt X E) (hg : Gl X x := by rfl) (hdb : (x == ("__debug__" : Str)) = false := by decide) : PE X (.Call (.Name x p) [] [] pos) (tCl sp E tNil) := by
  obtain ⟨f, fd, F, hm, kp, hb⟩ := c.ex
  refine ⟨fun pins s σ H Q I h => wpAny_Call_Name_kw (ld_glob I hg hm ?_ hdb)⟩
  exact PySem.W.callWith_K0 I.kIn kp (run_fnS (E := E) (us := []) (vs := []) F (hr.mono hk) hb (hx σ) I .nil h)
theorem run_mt {pins : List (Addr × Obj)} {s : Shared} {σ : L2.St} {H : Hp} {Q : VK} {f : Addr} {fd : FuncData} {us : List Value} {vs : List V} (F : FnOk X.prog X.w X.K X.mg X.base (L2N.CX X.prog X.w) k f fd ps sp) (hr : Room k X.A) (hb : Binds X.K fd ps []) (hx : PAt X E) (I : Inv X pins σ H s) (r : Vals vs us)
    (h : sp vs H Q (E σ)) : wpAny (model X.prog X.w) X.A (call (.ref f) us) (EP X pins σ Q) X.xe s := run_fnS F hr hb (hx σ) I r h
theorem pe_mt {pl : Sem Bool} (c : Met X.prog X.w X.K X.mg X.base k C m ps sp) (cl : Cls X.K C) (hr : Room j X.A) (hk : k ≤ j) (hx : PAt X E) (he : PE X o ta) (ha : PA X (e :: es) t)
    (hst : starEach (e :: es) X.env = (false, eval e X.env) :: starEach es X.env := by rfl) (hpl : (backTo pos (starEach es X.env)).any (·.1) = false := by rfl)
    (ht : eval (.Call (.Attribute o m apos) (e :: es) [] pos) X.env = (do
      let ov ← eval o X.env
      standAt apos.atName
      let (f, first) ← holding [ov] (getMethod ov m pl)
      callWith pos f first (backTo pos (starEach (e :: es) X.env)) (backToKw pos (keywordEach [] X.env))) := by rfl) : PE X (.Call (.Attribute o m apos) (e :: es) [] pos) (tMt C m sp E ta t) := by
  obtain ⟨f, fd, F, hm, hb⟩ := c.ex
  refine ⟨fun pins s σ H Q I h => PySem.W.methodCall_KW (pl := pl) (thn (he.run pins s σ H _ I h) fun u s1 hh => ?_) ht⟩
  obtain ⟨x, H1, I1, rx, a, dx, fs, ex, ea, l, q⟩ := hh
  subst ex
  obtain rfl : u = Value.ref a := rx
  refine getmeth_ok I1 ea cl hm l (PySem.W.callWith_K (first := [.ref a]) (h₀ := X.base) I.ok.mod.kin hm.kp (thn (ha.run pos pins s1 σ H1 _ I1 q) fun us s2 hh => ?_) hst hpl)
  obtain ⟨vs, H2, I2, r, q2⟩ := hh
  exact ⟨I2.kIn, run_fnS (us := .ref a :: us) (vs := .ref a :: vs) F (hr.mono hk) hb (hx σ) I2 (.cons rfl r) q2⟩
theorem pe_mt0 {pl : Sem Bool} (c : Met X.prog X.w X.K X.mg X.base k C m ps sp) (cl : Cls X.K C) (hr : Room j X.A) (hk : k ≤ j) (hx : PAt X E) (he : PE X o ta)
    (ht : eval (.Call (.Attribute o m apos) [] [] pos) X.env = (do
      let ov ← eval o X.env
      standAt apos.atName
      let (f, first) ← holding [ov] (getMethod ov m pl)
      callWith pos f first (backTo pos (starEach [] X.env)) (backToKw pos (keywordEach [] X.env))) := by rfl) : PE X (.Call (.Attribute o m apos) [] [] pos) (tMt C m sp E ta tNil) := by
  obtain ⟨f, fd, F, hm, hb⟩ := c.ex
  refine ⟨fun pins s σ H Q I h => PySem.W.methodCall_KW (pl := pl) (thn (he.run pins s σ H _ I h) fun u s1 hh => ?_) ht⟩
  obtain ⟨x, H1, I1, rx, a, dx, fs, ex, ea, l, q⟩ := hh
  subst ex
  obtain rfl : u = Value.ref a := rx
  refine getmeth_ok I1 ea cl hm l ?_
  exact PySem.W.callWith_K0 (first := [.ref a]) I1.kIn hm.kp (run_fnS (us := [.ref a]) (vs := [.ref a]) F (hr.mono hk) hb (hx σ) I1 (.cons rfl .nil) q)
/-- an instance is made, what its __init__ lets out is wished for at the slots σ -/
theorem run_mk {pn : List (Addr × Obj)} {τ : L2.St} {H0 : Hp} {sh : Shared} {R : VK} {f : Addr} {fd : FuncData} {uu : List Value} {vv : List V} (M : Mk X.K C f) (F : FnOk X.prog X.w X.K X.mg X.base (L2N.CX X.prog X.w) k f fd ps sp)
    (hr : Room (k + 1) X.A) (hb : Binds X.K fd ps []) (hx : PAt X E) (I : Inv X pn τ H0 sh) (r : Vals vv uu)
    (h : ∀ x dx, H0 x = none → H0 dx = none → dx ≠ x → sp (.ref x :: vv) (upd (upd H0 dx (.own x)) x (.ins C dx [])) (fun v H2 => v = .non ∧ R (.ref x) H2) (E τ)) :
    wpAny (model X.prog X.w) X.A (call (.ref C) uu) (EP X pn τ R) X.xe sh := by
  have q0 := h (sh.heap.objs.size + 1) sh.heap.objs.size (I.hok.fresh (Nat.le_succ _)) (I.hok.fresh (Nat.le_refl _)) (Nat.ne_of_lt (Nat.lt_succ_self _))
  have J := Inv.made (C := C) I
  have rr : Vals (V.ref (sh.heap.objs.size + 1) :: vv) (Value.ref (sh.heap.objs.size + 1) :: uu) := .cons rfl r
  have ln : (Value.ref (sh.heap.objs.size + 1) :: uu ++ []).length = ps.length := by
    rw [List.append_nil, ← rr.length]
    exact F.len _ _ _ _ q0
  have bb := hb _ (Value.ref (sh.heap.objs.size + 1) :: uu) J.kIn ln
  rw [List.append_nil] at bb
  have go := F.run _ X.stack _ _ ⟨Value.ref (sh.heap.objs.size + 1) :: uu, []⟩ _ _ _ (E τ) (hr.make C uu []) (J.env0.make C uu []) bb rr q0
  refine wpAny_call (make_map (f := f) I.kIn M.makes M.init (beq_iff_eq.mp M.fn) (codeAny_mono go fun rs s2 w => ?_))
  cases rs with
  | error er => exact hx τ pn _ _ er s2 J w
  | ok fl =>
    cases fl with
    | ret u =>
      obtain ⟨v, H2, J2, rv, ev, w2⟩ := J.after w
      subst ev
      exact ⟨rv, V.ref (sh.heap.objs.size + 1), H2, J2, rfl, w2⟩
    | next => exact w.elim
    | brk => exact w.elim
    | cont => exact w.elim
theorem pe_mk (c : Mak X.prog X.w X.K X.mg X.base k x C ps sp) (hr : Room j X.A) (hk : k + 1 ≤ j) (hx : PAt X E) (ha : PA X (e :: es) t) (hg : Gl X x := by rfl) (hdb : (x == ("__debug__" : Str)) = false := by decide)
    (he : starEach (e :: es) X.env = (false, eval e X.env) :: starEach es X.env := by rfl) (hpl : (backTo pos (starEach es X.env)).any (·.1) = false := by rfl) : PE X (.Call (.Name x p) (e :: es) [] pos) (tMk C sp E t) := by
  obtain ⟨f, fd, F, M, hm, hb⟩ := c.ex
  refine ⟨fun pn s τ H Q I h => wpAny_Call_Name_kw (ld_glob I hg hm ?_ hdb)⟩
  refine PySem.W.callWith_K (h₀ := X.base) I.ok.mod.kin M.kp (thn (ha.run pos pn s τ H _ I h) fun us s1 hh => ?_) he hpl
  obtain ⟨vs, H1, I1, r, q⟩ := hh
  exact ⟨I1.kIn, run_mk M F (hr.mono hk) hb hx I1 r q⟩
end

/-! ### calls where an exception is handled -/
section
variable {X : Cx} {j k : Nat} {x : Str} {ps : List Str} {sp : Sp} {p pos : Pos} {e : Expr} {es : List Expr} {t : TA} {E : L2.St → XK}
theorem pe_clH (c : CalH X.prog X.w X.K X.mg X.base k x ps sp) (hr : L2H.RoomH j X.A) (hk : k ≤ j) (hc : L2H.HotC X) (hx : PAt X E) (ha : PA X (e :: es) t) (hg : Gl X x := by rfl) (hdb : (x == ("__debug__" : Str)) = false := by decide)
    (he : starEach (e :: es) X.env = (false, eval e X.env) :: starEach es X.env := by rfl) (hpl : (backTo pos (starEach es X.env)).any (·.1) = false := by rfl) : PE X (.Call (.Name x p) (e :: es) [] pos) (tCl sp E t) := by
  obtain ⟨f, fd, F, hm, kp, hb⟩ := c.ex
  refine ⟨fun pins s σ H Q I h => ?_⟩
  exact (L2H.pe_callH (E := E) F (hr.mono hk) hc hg hm kp hb hx ha hdb he hpl).run pins s σ H Q I h
/-- the suite of a clause is such a place -/
theorem hot_suite {X : Cx} {a : Addr} {oe : Obj} {cls : Value} {d : Option Addr} {pn : List (Addr × Obj)} (hz : L2N.Zn cls d oe) (hf : ∃ vs, oe.data = .fields vs) : L2H.HotC (X.suite a ((a, oe) :: pn)) := by
  obtain ⟨vs, hv⟩ := hf
  exact ⟨(a, oe), ⟨rfl, vs, hv, hz.2.2 vs hv⟩, List.mem_cons_self⟩
end

/-! ### own exceptions with fields -/
/-- what a class of errors must be for its instances to be asked and read -/
structure ExK (K : PySem.W.Frag) (C : Addr) : Prop where
  cl : (PySem.W.clsIn K C).isSome = true
  ga : PySem.W.findIn K (.ref C) "__getattribute__" = some (some (.builtin "BaseException.__getattribute__"))
  gg : PySem.W.findIn K (.ref C) "__getattr__" = some none
  be : PySem.W.subIn K (.ref C) (.type "BaseException") = some true
  hd : PySem.W.hasDictIn K C = true
  cc : PySem.W.findIn K (.ref C) "__class__" = some (some (.builtin "object.__class__"))
  gs : PySem.W.specialIn K (.builtin "object.__class__") "__get__" = some (some (.builtin "getset_descriptor.__get__"))
  tk : PySem.W.takesIn K (.builtin "object.__class__") = some true
  mo : PySem.W.mroIn K C (.type "object") = some true
/-- isinstance(raised, c) -/
def rIsX (K : PySem.W.Frag) (cls : Value) (d : Option Addr) (a : Addr) : List V → Hp → VK → Prop := fun xs H Q => ∃ (D dd : Addr) (fs : List (Str × V)) (c : V) (u : Value) (b : Bool),
  cls = .ref D ∧ d = some dd ∧ H dd = some (.xd fs) ∧ ExK K D ∧ xs = [.ref a, c] ∧ ClsV c u ∧ PySem.W.kitOne K (.ref D) u = some b ∧ Q (.bl b) H
section
variable {X : Cx} {a : Addr} {oe : Obj} {cls : Value} {d : Option Addr} {pn : List (Addr × Obj)}
theorem exc_at {pins : List (Addr × Obj)} {s : Shared} {σ : L2.St} {H : Hp} {D dd : Addr} {fs : List (Str × V)} (I : Inv (X.suite a ((a, oe) :: pn)) pins σ H s) (hz : Zc cls d oe) (hf : ∃ vs, oe.data = .fields vs) (ec : cls = .ref D) (ed : d = some dd)
    (hd : H dd = some (.xd fs)) : ∃ (od : Obj) (mA : Str → Option Value), PySem.W.InstAt s.heap a oe D (some od) ∧ (∀ f, RelO (fs.lookup f) (mA f)) ∧ ∀ n, PySem.W.lookIn n od = some (mA n) := by
  obtain ⟨hget, _⟩ := I.pin (a, oe) (List.mem_append_left _ List.mem_cons_self)
  obtain ⟨vs, hv⟩ := hf
  obtain ⟨mA, hns, hr⟩ := (show ObjOk X.prog X.w H s.heap dd (.xd fs) from I.hok dd _ hd)
  obtain ⟨od, ho, hl⟩ := lookIn_ns hns
  refine ⟨od, mA, ⟨hget, hz.1.trans ec, ?_, ?_⟩, hr, hl⟩
  · unfold PySem.W.notCls
    rw [hv] <;> rfl
  · rw [hz.2, ed]
    exact ho
theorem call_isX (hz : Zc cls d oe) (hf : ∃ vs, oe.data = .fields vs) : CallR (X.suite a ((a, oe) :: pn)) (.builtin "isinstance") (rIsX X.K cls d a) := by
  intro pins s σ H xs us Q I r h
  obtain ⟨D, dd, fs, c, u, b, ec, ed, hd, T, rfl, k, e, q⟩ := h
  obtain ⟨u1, u2, rfl, r1, r2⟩ := vals2 r
  cases (show u1 = Value.ref a from r1)
  have e2 := k.eq r2
  subst e2
  obtain ⟨od, mA, J, _, _⟩ := exc_at I hz hf ec ed hd
  exact PySem.W.kia_one (PySem.W.kitx_exc T.cl T.ga T.gg T.be T.cc T.gs T.tk T.mo) I.kIn J e (fun z => nomatch z) fun tk => ⟨.bl b, H, I.tok tk, rfl, q⟩
/-- raised.f -/
def tXat (K : PySem.W.Frag) (a : Addr) (cls : Value) (d : Option Addr) (f : Str) (te : TE) : TE := fun σ H Q => te σ H fun x H1 => ∃ (D dd : Addr) (fs : List (Str × V)) (v : V),
  cls = .ref D ∧ d = some dd ∧ H1 dd = some (.xd fs) ∧ ExK K D ∧ x = .ref a ∧ PySem.W.findIn K (.ref D) f = some none ∧ fs.lookup f = some v ∧ Q v H1
theorem pe_xat {e : Expr} {te : TE} {pos : Pos} {n : Str} (hz : Zc cls d oe) (hf : ∃ vs, oe.data = .fields vs) (he : PE (X.suite a ((a, oe) :: pn)) e te) (hb : attributeBase e n X.env (eval e X.env) = eval e X.env := by rfl) :
    PE (X.suite a ((a, oe) :: pn)) (.Attribute e n pos) (tXat X.K a cls d n te) := by
  refine ⟨fun pins s σ H Q I h => attr_of hb (thn (he.run pins s σ H _ I h) fun u s1 hh => ?_)⟩
  obtain ⟨x, H1, I1, rx, D, dd, fs, v, ec, ed, hd, T, ex, hno, l, q⟩ := hh
  subst ex
  obtain rfl : u = Value.ref a := rx
  obtain ⟨od, mA, J, hr, hl⟩ := exc_at I1 hz hf ec ed hd
  obtain ⟨u, hu, ru⟩ := RelO.some_of (v := v) (o := mA n) (by rw [← l]; exact hr n)
  exact HandSPX.exc_get I1.kIn J T.ga T.gg T.be (PySem.W.findObj_own T.hd hno rfl (by rw [hl, hu])) (handed_of ru) ⟨v, H1, I1.tok _, ru, q⟩
end
end G

set_option Elab.async false
set_option linter.all false
set_option maxRecDepth 100000
set_option maxHeartbeats 4000000
/-! Own errors made and raised where nothing is handled. -/
namespace G
open PySem PySem.Spec PyProof.Rows L2

/-- what an error's __init__ leaves: its fields fs hold the values us -/
def spIn (K : PySem.W.Frag) (fs : List Str) : Sp := fun vs H Q _ => ∃ (a C : Addr) (us : List V), vs = .ref a :: us ∧ us.length = fs.length ∧ OexC K C ∧ (∀ f ∈ fs, PySem.W.findIn K (.ref C) f = some none) ∧ H a = some (exo a C none) ∧
  ∀ (dx : Addr) (H' : Hp), H dx = none → dx ≠ a → H' a = some (exo a C (some dx)) → H' dx = some (exd dx (fs.zip us).reverse) → (∀ b, b ≠ a → b ≠ dx → H' b = H b) → Q .non H'
theorem spIn_len {K : PySem.W.Frag} {fs ps : List Str} (h : ps.length = fs.length + 1) : ∀ vs H Q E, spIn K fs vs H Q E → vs.length = ps.length := by
  rintro vs H Q E ⟨a, C, us, rfl, hl, _⟩
  rw [h, List.length_cons, hl]
/-- an own class of errors -/
structure ExM (P : Program) (w : World) (K : PySem.W.Frag) (mg : Str → Option Value) (base : Heap) (k : Nat) (x : Str) (C : Addr) (fs : List Str) : Prop where
  oex : OexC K C
  no : ∀ f ∈ fs, PySem.W.findIn K (.ref C) f = some none
  gl : mg x = some (.ref C)
  ex : ∃ (fI : Addr) (fd : FuncData) (ps : List Str), FnOk P w K mg base (L2N.CX P w) k fI fd ps (spIn K fs) ∧ PySem.W.findIn K (.ref C) "__init__" = some (some (.ref fI)) ∧ PySem.W.typeIn K (.ref fI) = some (.type "function") ∧ Binds K fd ps []
theorem heap_mk {H H2 : Hp} {a d : Addr} {o : HO} (ha : H a = none) (hd : d ≠ a) (k : ∀ b, b ≠ a → b ≠ d → H2 b = H b) : upd (del H2 a) d o = upd H d o := by
  funext b
  by_cases hb : b = d
  · rw [hb, upd_same, upd_same]
  · rw [upd_ne hb, upd_ne hb]
    by_cases hba : b = a
    · rw [hba, del_same, ha]
    · rw [del_ne hba, k b hba hb]
theorem mk_go {K : PySem.W.Frag} {C : Addr} {fs : List Str} {us : List V} {H : Hp} {Q : XK} (T : OexC K C) (hf : ∀ f ∈ fs, PySem.W.findIn K (.ref C) f = some none) (hl : us.length = fs.length) (h : ∀ d, H d = none → Q (.ref C) (some d) (upd H d (.xd (fs.zip us).reverse))) :
    ∀ a, H a = none → spIn K fs (.ref a :: us) (upd H a (exo a C none)) (fun v H2 => v = .non ∧ ∃ (d : Addr) (gs : List (Str × V)), H2 a = some (exo a C (some d)) ∧ H2 d = some (exd d gs) ∧ H d = none ∧ Q (.ref C) (some d) (upd (del H2 a) d (.xd gs))) (fun _ _ _ => False) := by
  intro a ha
  refine ⟨a, C, us, rfl, hl, T, hf, upd_same, fun dx H' nd ne e1 e2 k => ⟨rfl, dx, _, e1, e2, ?_, ?_⟩⟩
  · rw [upd_ne ne] at nd
    exact nd
  · have nd' : H dx = none := by
      rw [upd_ne ne] at nd
      exact nd
    rw [heap_mk ha ne fun b h1 h2 => (k b h1 h2).trans (upd_ne h1)]
    exact h dx nd'
/-- x(e, ..), x a class of errors -/
def tRz (C : Addr) (fs : List Str) (W : WX) (ta : TA) : TS := fun _ σ H => ta σ H fun us H1 => us.length = fs.length ∧ us.length ≤ 1000 ∧ ∀ d, H1 d = none → W (.ref C) (some d) σ (upd H1 d (.xd (fs.zip us).reverse))
section
variable {X : Cx} {j k : Nat} {x : Str} {C : Addr} {fs : List Str} {p pos pos2 : Pos} {e : Expr} {es : List Expr} {ta : TA}
theorem pmk_x (c : ExM X.prog X.w X.K X.mg X.base k x C fs) (hr : Room j X.A) (hk : k + 1 ≤ j) (ha : PA X (e :: es) ta) (hg : Gl X x) (hdb : (x == ("__debug__" : Str)) = false)
    (he : starEach (e :: es) X.env = (false, eval e X.env) :: starEach es X.env) (hpl : (backTo pos (starEach es X.env)).any (·.1) = false) :
    L2N.PMk X (.Call (.Name x p) (e :: es) [] pos) (fun σ H Q => ta σ H fun us H1 => us.length = fs.length ∧ us.length ≤ 1000 ∧ ∀ d, H1 d = none → Q (.ref C) (some d) (upd H1 d (.xd (fs.zip us).reverse))) := by
  obtain ⟨T, hno, hm, fI, fd, ps, F1, iC, tI, hb⟩ := c
  intro pn s τ H Q I h
  obtain ⟨nm, qn, N, bs, bm, sn, sub, ab, col, dd, k0, k1, k2, k3, k5, hC, hbm⟩ := T.cls
  refine wpAny_Call_Name_kw (ld_glob I hg hm (PySem.W.callWith_K (h₀ := X.base) I.ok.mod.kin T.kC (thn (ha.run pos pn s τ H _ I h) fun us s1 hh => ?_) he hpl) hdb)
  obtain ⟨vs, H1, I1, r1, hl, hz, q1⟩ := hh
  refine ⟨I1.kIn, ?_⟩
  obtain ⟨hp, g, dr, tk, os⟩ := s1
  show wpAny _ _ (call (.ref C) us) _ _ _
  have hle := Nat.le_succ hp.objs.size
  have hn : H1 (hp.objs.size + 1) = none := I1.hok.fresh hle
  have hq := mk_go (Q := Q) T hno hl q1 (hp.objs.size + 1) hn
  have up : ∀ b o, hp.get? b = some o → ((hp.push (PySem.W.kdv_tup us)).push (PySem.HandSPX.excO C hp.objs.size)).get? b = some o := fun b o z => Heap.get?_push_of_some _ (Heap.get?_push_of_some _ z)
  have new : ((hp.push (PySem.W.kdv_tup us)).push (PySem.HandSPX.excO C hp.objs.size)).get? (hp.objs.size + 1) = some (PySem.HandSPX.excO C hp.objs.size) := by heap_get
  have J := I1.laid (t' := tk) (a := hp.objs.size + 1) (o := exo (hp.objs.size + 1) C none) up hle (exo_ok new)
  have rr : Vals (V.ref (hp.objs.size + 1) :: vs) (Value.ref (hp.objs.size + 1) :: us) := .cons rfl r1
  have ln : (Value.ref (hp.objs.size + 1) :: us ++ []).length = ps.length := by
    rw [List.append_nil, ← rr.length]
    exact F1.len _ _ _ _ hq
  have bb := hb _ (Value.ref (hp.objs.size + 1) :: us) J.kIn ln
  rw [List.append_nil] at bb
  have sz : us.length ≤ sizeLine := by
    rw [← r1.length, sizeLine_eq]
    omega
  have hr' : Room (k + 1) X.A := hr.mono hk
  have go := F1.run _ X.stack _ _ ⟨Value.ref (hp.objs.size + 1) :: us, []⟩ _ _ _ _ (hr'.make C us []) (J.env0.make C us []) bb rr hq
  refine wpAny_call (PySem.HandSPX.call_own F.excBase_ValueError (fun Y => PySem.HandSPX.refsVE_contains Y bm hbm) (I1.kIn _ _ hC) (PySem.W.looks_findIn I1.kIn iC) (fun self => PySem.W.bind_fn I1.kIn self tI) sz (codeAny_mono go fun rs s2 w => ?_))
  cases rs with
  | error er =>
    obtain ⟨_, _, _, _, _, _, _, _, _, _, _, _, z⟩ := w
    exact z.elim
  | ok fl =>
    cases fl with
    | ret u =>
      obtain ⟨v, H2, os2, ba, un, hok, rv, ev, d, gs, ea, ed, hd1, q2⟩ := w
      subst ev
      obtain ⟨h2, g2, d2, t2, os'⟩ := s2
      obtain ⟨t0, HG, J2, kG, ge, hoe, na⟩ := mk_end0 (d2 := d2) (t2 := t2) I1 hle up un hok os2 ba ea ed hd1
      exact ⟨rv, hp.objs.size + 1, _, _, ⟨HG, g2, d2, t2, os'⟩, _, .ref C, some d, rfl, J2, kG, ge, hoe, ⟨rfl, rfl, fun zs hv => by cases hv; rfl⟩, rfl, rfl, na, rfl, ba, raises_own T.exC T.tyC, q2⟩
    | next => exact w.elim
    | brk => exact w.elim
    | cont => exact w.elim
/-- raise x(e, ..) -/
theorem ps_rz {W : WX} (c : ExM X.prog X.w X.K X.mg X.base k x C fs) (hc : X.calm = true) (tk : L2N.Takes X W) (hr : Room j X.A) (hk : k + 1 ≤ j) (ha : PA X (e :: es) ta) (hg : Gl X x := by rfl) (hdb : (x == ("__debug__" : Str)) = false := by decide)
    (he : starEach (e :: es) X.env = (false, eval e X.env) :: starEach es X.env := by rfl) (hpl : (backTo pos (starEach es X.env)).any (·.1) = false := by rfl) : PS X (.Raise (some (.Call (.Name x p) (e :: es) [] pos)) none pos2) (tRz C fs W ta) :=
  L2N.ps_raise hc tk (pmk_x c hr hk ha hg hdb he hpl)
end
/-! ### the __init__ of one field, of two -/
theorem ini1 {K : PySem.W.Frag} {f : Str} {vs : List V} {H : Hp} {Q : VK} {E : XK} {N : List Str} (hN : N.length = 2) (h : spIn K [f] vs H Q E) : (tOst K f (tVar 0) (tVar 1)) { nx := fun _ H' => Q .non H', rt := Q } (start N vs) H := by
  obtain ⟨a, C, us, rfl, hl, T, hno, ha, q⟩ := h
  match us, hl with
  | [v], _ =>
    match N, hN with
    | [_, _], _ =>
      refine ⟨_, rfl, _, rfl, a, C, rfl, T, hno f (List.mem_singleton.mpr rfl), Or.inl ⟨ha, fun dx hd ne => ?_⟩⟩
      refine q dx _ hd ne upd_same ?_ fun b h1 h2 => ?_
      · rw [upd_ne ne, upd_same] <;> rfl
      · rw [upd_ne h1, upd_ne h2]
theorem ini2 {K : PySem.W.Frag} {f g : Str} {vs : List V} {H : Hp} {Q : VK} {E : XK} {N : List Str} (hN : N.length = 3) (h : spIn K [f, g] vs H Q E) :
    (tSeq (tOst K f (tVar 0) (tVar 1)) (tOst K g (tVar 0) (tVar 2))) { nx := fun _ H' => Q .non H', rt := Q } (start N vs) H := by
  obtain ⟨a, C, us, rfl, hl, T, hno, ha, q⟩ := h
  match us, hl with
  | [v, v2], _ =>
    match N, hN with
    | [_, _, _], _ =>
      refine ⟨_, rfl, _, rfl, a, C, rfl, T, hno f List.mem_cons_self, Or.inl ⟨ha, fun dx hd ne => ?_⟩⟩
      refine ⟨_, rfl, _, rfl, a, C, rfl, T, hno g (List.mem_cons_of_mem _ List.mem_cons_self), Or.inr ⟨dx, [(f, v)], upd_same, ?_, by show 1 ≤ 900; decide, ?_⟩⟩
      · rw [upd_ne ne, upd_same]
      · refine q dx _ hd ne ?_ upd_same fun b h1 h2 => ?_
        · rw [upd_ne (Ne.symm ne), upd_same]
        · rw [upd_ne h2, upd_ne h1, upd_ne h2]
end G

set_option Elab.async false
set_option linter.all false
set_option maxRecDepth 100000
set_option maxHeartbeats 4000000
/-! Operators that take what comes, and the steps of a reading, from the front. -/
namespace G
open PySem PySem.Spec PyProof.Rows L2

/-! ### operators by values -/
def rAddA : R2 := fun x y H Q => (∃ i j, x = .int i ∧ y = .int j ∧ Q (.int (i + j)) H) ∨ (∃ i j : Str, x = .str i ∧ y = .str j ∧ i.length + j.length ≤ sizeLine ∧ Q (.str (i ++ j)) H) ∨ rCat x y H Q
def rMulA : R2 := fun x y H Q => (∃ i j, x = .int i ∧ y = .int j ∧ CMul i j ∧ Q (.int (i * j)) H) ∨ rRep x y H Q
def rEqA (K : PySem.W.Frag) : R2 := fun x y H Q => rEq x y H Q ∨ rEqD K x y H Q
def rNeA (K : PySem.W.Frag) : R2 := fun x y H Q => rNe x y H Q ∨ rNeD K x y H Q
def rLenA (K : PySem.W.Frag) : List V → Hp → VK → Prop := fun xs H Q => ∃ x n, xs = [x] ∧ LenV K x H n ∧ Q (.int n) H
def rListA (K : PySem.W.Frag) : List V → Hp → VK → Prop := fun xs H Q => ∃ p ys, xs = [.ref p] ∧ (SqL K H p ys ∨ SqT K H p ys) ∧ ∀ l, H l = none → Q (.ref l) (upd H l (.lst ys))
def rIntA : List V → Hp → VK → Prop := fun xs H Q => (∃ i, xs = [.int i] ∧ Q (.int i) H) ∨ ∃ k, xs = [.bl k] ∧ Q (.int (if k then 1 else 0)) H
def rAbsA : List V → Hp → VK → Prop := fun xs H Q => ∃ i, xs = [.int i] ∧ Q (.int (if i < 0 then -i else i)) H
def rMin2A : List V → Hp → VK → Prop := fun xs H Q => ∃ i j, xs = [.int i, .int j] ∧ Q (.int (if j < i then j else i)) H
def rMax2A : List V → Hp → VK → Prop := fun xs H Q => ∃ i j, xs = [.int i, .int j] ∧ Q (.int (if j > i then j else i)) H
def rIsNA : R2 := fun x y H Q => y = .non ∧ Q (.bl (decide (x = .non))) H
def rNotNA : R2 := fun x y H Q => y = .non ∧ Q (.bl (!decide (x = .non))) H
abbrev rSubA : R2 := rI0 fun i j => .int (i - j)
abbrev rModA : R2 := rI (fun _ j => 0 < j) fun i j => .int (i % j)
abbrev rDivA : R2 := rI CDiv fun i j => .int (i / j)
abbrev rPowA : R2 := rI CPow fun i j => .int (i ^ j.toNat)
abbrev rLtA : R2 := rI0 fun i j => .bl (decide (i < j))
abbrev rLeA : R2 := rI0 fun i j => .bl (decide (i ≤ j))
abbrev rGtA : R2 := rI0 fun i j => .bl (decide (j < i))
abbrev rGeA : R2 := rI0 fun i j => .bl (decide (j ≤ i))
abbrev rNegA : V → Hp → VK → Prop := rU fun i => .int (-i)
section
variable {X : Cx}
theorem op_addA : OpR X (binaryOp .Add) rAddA := OpR.or op_add (OpR.or op_add_str op_cat)
theorem op_mulA : OpR X (binaryOp .Mult) rMulA := OpR.or op_mul op_rep
theorem op_eqA {k : Nat} (hr : Room k X.A) : OpR X (compareOp .Eq) (rEqA X.K) := OpR.or op_eq (op_eqD hr.units)
theorem op_neA {k : Nat} (hr : Room k X.A) : OpR X (compareOp .NotEq) (rNeA X.K) := OpR.or op_ne (op_neD hr.units)
theorem call_lenA : CallR X (.builtin "len") (rLenA X.K) := call_len
theorem call_listA : CallR X (.type "list") (rListA X.K) := call_list_of
theorem call_intA : CallR X (.type "int") rIntA := call_int1
theorem call_absA : CallR X (.builtin "abs") rAbsA := call_abs
theorem call_min2A (hc : X.calm = true) : CallR X (.builtin "min") rMin2A := call_min2 hc
theorem call_max2A (hc : X.calm = true) : CallR X (.builtin "max") rMax2A := call_max2 hc
theorem op_isNA : OpR X (compareOp .Is) rIsNA := op_isN
theorem op_notNA : OpR X (compareOp .IsNot) rNotNA := op_notN
end

/-! ### what frames a step: all that was tracked but the addresses of S -/
def Kp (S : List Addr) (H H' : Hp) : Prop := ∀ b o, b ∉ S → H b = some o → H' b = some o
theorem Kp.refl (S : List Addr) (H : Hp) : Kp S H H := fun _ _ _ h => h
theorem Kp.trans {S : List Addr} {H H1 H2 : Hp} (a : Kp S H H1) (b : Kp S H1 H2) : Kp S H H2 := fun c o n h => b c o n (a c o n h)
theorem Kp.mono {S S' : List Addr} {H H1 : Hp} (a : Kp S H H1) (h : ∀ b ∈ S, b ∈ S') : Kp S' H H1 := fun c o n e => a c o (fun z => n (h c z)) e
theorem Kp.all {S : List Addr} {H H1 : Hp} (a : Kp [] H H1) : Kp S H H1 := fun c o _ e => a c o (by simp) e
theorem Kp.new {S : List Addr} {H : Hp} {p : Addr} {o : HO} (n : H p = none) : Kp S H (upd H p o) := fun b u _ e => by
  rw [upd_ne (ne_of_none e n)]
  exact e
theorem Kp.put {S : List Addr} {H : Hp} {p : Addr} {o : HO} (h : p ∈ S) : Kp S H (upd H p o) := fun b u n e => by
  have ne : b ≠ p := fun z => n (by rw [z]; exact h)
  rw [upd_ne ne]
  exact e
/-- an object that H does not know may change -/
theorem Kp.mut {S : List Addr} {H H1 : Hp} {p : Addr} {o : HO} (e : Kp S H H1) (n : H p = none) : Kp S H (upd H1 p o) := fun b u h z => by
  rw [upd_ne (ne_of_none z n)]
  exact e b u h z
theorem Kp.at0 {H H' : Hp} {b : Addr} {o : HO} (k : Kp [] H H') (h : H b = some o) : H' b = some o := k b o (by simp) h
theorem Kp.at1 {H H' : Hp} {a b : Addr} {o : HO} (k : Kp [a] H H') (n : b ≠ a) (h : H b = some o) : H' b = some o := k b o (by simpa using n) h
theorem Kp.free {S : List Addr} {H H' : Hp} {b : Addr} (k : Kp S H H') (n : b ∉ S) (h : H' b = none) : H b = none := by
  cases e : H b with
  | none => rfl
  | some o =>
    rw [k b o n e] at h
    cases h
theorem Kp.free0 {H H' : Hp} {b : Addr} (k : Kp [] H H') (h : H' b = none) : H b = none := k.free (by simp) h
theorem Kp.sql {S : List Addr} {K : PySem.W.Frag} {H H' : Hp} {a : Addr} {xs : List V} (e : Kp S H H') (n : a ∉ S) (h : SqL K H a xs) : SqL K H' a xs := by
  rcases h with (h | ⟨o, h⟩) | h
  · exact .inl (.inl (e _ _ n h))
  · exact .inl (.inr ⟨o, e _ _ n h⟩)
  · exact .inr h
theorem Kp.sqt {S : List Addr} {K : PySem.W.Frag} {H H' : Hp} {a : Addr} {xs : List V} (e : Kp S H H') (n : a ∉ S) (h : SqT K H a xs) : SqT K H' a xs := by
  rcases h with (h | ⟨o, h⟩) | h
  · exact .inl (.inl (e _ _ n h))
  · exact .inl (.inr ⟨o, e _ _ n h⟩)
  · exact .inr h

/-! ### the steps -/
section
variable {K : PySem.W.Frag} {σ : L2.St} {H : Hp} {Q : VK} {ta tb tc te : TE} {t u : TT} {x y v : V} {QB : Bool → Hp → Prop} {QA : List V → Hp → Prop} {D : Ends} {s1 s2 : TS} {tl tr : TA} {i j : Int} {n m : Nat} {p q : Addr} {xs ys : List V}
theorem w_var {k : Nat} (h : σ[k]? = some (some v)) (g : Q v H) : tVar k σ H Q := ⟨v, h, g⟩
theorem w_c (g : Q v H) : tC v σ H Q := g
theorem w_op {r : R2} (g : ta σ H fun x H1 => tb σ H1 fun y H2 => r x y H2 Q) : tOp r ta tb σ H Q := g
theorem w_un {r : V → Hp → VK → Prop} (g : ta σ H fun x H1 => r x H1 Q) : tUn r ta σ H Q := g
theorem w_test (g : te σ H fun x H1 => ∃ k, x = .bl k ∧ QB k H1) : tTest te σ H QB := g
theorem w_tb (g : te σ H fun x H1 => ∃ k, x = .bl k ∧ QB k H1) : tB te σ H QB := g
theorem w_and (g : t σ H fun c H1 => if c = true then u σ H1 QB else QB false H1) : tAnd t u σ H QB := g
theorem w_or (g : t σ H fun c H1 => if c = true then QB true H1 else u σ H1 QB) : tOr t u σ H QB := g
theorem w_not (g : t σ H fun c H1 => QB (!c) H1) : tNot t σ H QB := g
theorem w_andV (g : ta σ H fun x H1 => ∃ c, x = .bl c ∧ if c = true then tb σ H1 Q else Q (.bl false) H1) : tAndV ta tb σ H Q := g
theorem w_orV (g : ta σ H fun x H1 => ∃ c, x = .bl c ∧ if c = true then Q (.bl true) H1 else tb σ H1 Q) : tOrV ta tb σ H Q := g
theorem w_notV (g : ta σ H fun x H1 => ∃ c, x = .bl c ∧ Q (.bl (!c)) H1) : tNotV ta σ H Q := g
theorem w_ifE (g : t σ H fun c H1 => if c = true then ta σ H1 Q else tb σ H1 Q) : tIf t ta tb σ H Q := g
theorem w_chain {r r' : R2} (g : ta σ H fun x H1 => tb σ H1 fun y H2 => r x y H2 fun z H3 => ∃ k, z = .bl k ∧ (if k = true then tc σ H3 fun w' H4 => r' y w' H4 Q else Q (.bl false) H3)) : tChain r r' ta tb tc σ H Q := g
theorem w_nil (g : QA [] H) : tNil σ H QA := g
theorem w_cons (g : ta σ H fun x H1 => tr σ H1 fun xs H2 => QA (x :: xs) H2) : tCons ta tr σ H QA := g
theorem w_cb {r : List V → Hp → VK → Prop} (g : tl σ H fun vs H1 => r vs H1 Q) : tCB r tl σ H Q := g
theorem w_cl {sp : Sp} {E : L2.St → XK} (g : tl σ H fun vs H1 => sp vs H1 Q (E σ)) : tCl sp E tl σ H Q := g
theorem w_tup (g : tl σ H fun xs H1 => xs.length ≤ sizeLine ∧ ∀ p, H1 p = none → Q (.ref p) (upd H1 p (.tup xs))) : tTup tl σ H Q := g
theorem w_lst (g : tl σ H fun xs H1 => xs.length ≤ sizeLine ∧ ∀ p, H1 p = none → Q (.ref p) (upd H1 p (.lst xs))) : tLst tl σ H Q := g
theorem w_bm {T : String} {r : V → List V → Hp → VK → Prop} (g : te σ H fun x H1 => tyV K T x H1 ∧ tl σ H1 fun xs H2 => r x xs H2 Q) : tBM K T r te tl σ H Q := g
theorem w_bm0 {T : String} {r : V → List V → Hp → VK → Prop} (g : te σ H fun x H1 => tyV K T x H1 ∧ r x [] H1 Q) : tBM0 K T r te σ H Q := g
theorem w_fld {f : Str} (g : ta σ H fun x H1 => ∃ a C dx fs v, x = .ref a ∧ H1 a = some (.ins C dx fs) ∧ Cls K C ∧ NoAttr K C f ∧ fs.lookup f = some v ∧ Q v H1) : tFld K ta f σ H Q := g
theorem w_mt {C : Addr} {m : Str} {sp : Sp} {E : L2.St → XK} (g : ta σ H fun x H1 => ∃ a dx fs, x = .ref a ∧ H1 a = some (.ins C dx fs) ∧ fs.lookup m = none ∧ tl σ H1 fun vs H2 => sp (x :: vs) H2 Q (E σ)) : tMt C m sp E ta tl σ H Q := g
theorem w_seq (g : s1 { D with nx := s2 D } σ H) : tSeq s1 s2 D σ H := g
theorem w_next (g : D.nx σ H) : tNext D σ H := g
theorem w_if (g : t σ H fun b H1 => if b = true then s1 D σ H1 else s2 D σ H1) : tIfS t s1 s2 D σ H := g
theorem w_ret (g : te σ H D.rt) : tRet te D σ H := g
theorem w_drop (g : te σ H fun _ H1 => D.nx σ H1) : tDrop te D σ H := g
theorem w_asg {k : Nat} (g : te σ H fun x H1 => D.nx (σ.set k (some x)) H1) : tAsg te (gName k) D σ H := g
theorem w_asgS {to ti : TE} {r : TSet} (g : te σ H fun v H0 => to σ H0 fun o H1 => ti σ H1 fun i H2 => r o i v H2 fun H3 => D.nx σ H3) : tAsg te (gSub to ti r) D σ H := g
theorem w_ast {k : Nat} {ts : TGs} (g : te σ H fun v H0 => ∃ a xs, v = .ref a ∧ SqT K H0 a xs ∧ xs.length = k ∧ ts xs σ H0 D.nx) : tAsg te (gTup K k ts) D σ H := g
theorem w_asf {f : Str} (g : te σ H fun y H1 => ta σ H1 fun x H2 => ∃ a C dx fs, x = .ref a ∧ H2 a = some (.ins C dx fs) ∧ Cls K C ∧ NoAttr K C f ∧ fs.length < 1000 ∧ D.nx σ (upd H2 a (.ins C dx (putF f y fs)))) : sFld K ta te f D σ H := g
theorem w_ex1 {P : Bool → Prop} {b : Bool} (g : P b) : ∃ k, V.bl b = .bl k ∧ P k := ⟨b, rfl, g⟩
theorem w_iteD {c A B : Prop} [Decidable c] (h1 : c → A) (h2 : ¬ c → B) : if decide c = true then A else B := by
  by_cases h : c
  · rw [decide_eq_true h]
    exact iteT (h1 h)
  · rw [decide_eq_false h]
    exact iteF (h2 h)
theorem w_iteN {c A B : Prop} [Decidable c] (h1 : ¬ c → A) (h2 : c → B) : if (!decide c) = true then A else B := by
  by_cases h : c
  · rw [decide_eq_true h]
    exact iteF (h2 h)
  · rw [decide_eq_false h]
    exact iteT (h1 h)
theorem w_iteB {b : Bool} {A B : Prop} (h1 : b = true → A) (h2 : b = false → B) : if b = true then A else B := by
  cases b with
  | true => exact iteT (h1 rfl)
  | false => exact iteF (h2 rfl)
theorem w_iteBN {b : Bool} {A B : Prop} (h1 : b = false → A) (h2 : b = true → B) : if (!b) = true then A else B := by
  cases b with
  | true => exact iteF (h2 rfl)
  | false => exact iteT (h1 rfl)
theorem w_addI (g : Q (.int (i + j)) H) : rAddA (.int i) (.int j) H Q := .inl ⟨i, j, rfl, rfl, g⟩
theorem w_addS {a b : Str} (h : a.length + b.length ≤ sizeLine) (g : Q (.str (a ++ b)) H) : rAddA (.str a) (.str b) H Q := .inr (.inl ⟨a, b, rfl, rfl, h, g⟩)
theorem w_addL (h1 : H p = some (.lst xs)) (h2 : H q = some (.lst ys)) (h : xs.length + ys.length ≤ sizeLine) (g : ∀ r, H r = none → Q (.ref r) (upd H r (.lst (xs ++ ys)))) : rAddA (.ref p) (.ref q) H Q :=
  .inr (.inr ⟨p, q, xs, ys, rfl, rfl, h1, h2, h, g⟩)
theorem w_mulI (h : CMul i j) (g : Q (.int (i * j)) H) : rMulA (.int i) (.int j) H Q := .inl ⟨i, j, rfl, rfl, h, g⟩
theorem w_mulL (h1 : H p = some (.lst xs)) (h2 : -(2 ^ 63) ≤ j) (h3 : j < 2 ^ 63) (h : xs.length * j.toNat ≤ sizeLine) (g : ∀ r, H r = none → Q (.ref r) (upd H r (.lst (List.replicate j.toNat xs).flatten))) : rMulA (.ref p) (.int j) H Q :=
  .inr ⟨p, j, xs, rfl, rfl, h1, h2, h3, h, g⟩
theorem w_i0 {f : Int → Int → V} (g : Q (f i j) H) : rI0 f (.int i) (.int j) H Q := ⟨i, j, rfl, rfl, g⟩
theorem w_ic {C : Int → Int → Prop} {f : Int → Int → V} (h : C i j) (g : Q (f i j) H) : rI C f (.int i) (.int j) H Q := ⟨i, j, rfl, rfl, h, g⟩
theorem w_u1 {f : Int → V} (g : Q (f i) H) : rU f (.int i) H Q := ⟨i, rfl, g⟩
theorem dec_I : decide (V.int i = V.int j) = decide (i = j) := by
  rw [Bool.eq_iff_iff]
  simp
theorem dec_S {a b : Str} : decide (V.str a = V.str b) = decide (a = b) := by
  rw [Bool.eq_iff_iff]
  simp
theorem dec_B {a b : Bool} : decide (V.bl a = V.bl b) = decide (a = b) := by
  rw [Bool.eq_iff_iff]
  simp
theorem w_eqI (g : Q (.bl (decide (i = j))) H) : rEqA K (.int i) (.int j) H Q := .inl ⟨rfl, by rw [dec_I]; exact g⟩
theorem w_eqS {a b : Str} (g : Q (.bl (decide (a = b))) H) : rEqA K (.str a) (.str b) H Q := .inl ⟨rfl, by rw [dec_S]; exact g⟩
theorem w_eqB {a b : Bool} (g : Q (.bl (decide (a = b))) H) : rEqA K (.bl a) (.bl b) H Q := .inl ⟨rfl, by rw [dec_B]; exact g⟩
theorem w_neI (g : Q (.bl (!decide (i = j))) H) : rNeA K (.int i) (.int j) H Q := .inl ⟨rfl, by rw [dec_I]; exact g⟩
theorem w_neS {a b : Str} (g : Q (.bl (!decide (a = b))) H) : rNeA K (.str a) (.str b) H Q := .inl ⟨rfl, by rw [dec_S]; exact g⟩
theorem w_neB {a b : Bool} (g : Q (.bl (!decide (a = b))) H) : rNeA K (.bl a) (.bl b) H Q := .inl ⟨rfl, by rw [dec_B]; exact g⟩
theorem w_eqD {d e : PyData} (h1 : Dp K H x d) (h2 : Dp K H y e) (h3 : SeqAt.shaped d = true) (h4 : SeqAt.shaped e = true) (g : Q (.bl (PyData.eqv d e)) H) : rEqA K x y H Q := .inr ⟨d, e, h1, h2, h3, h4, g⟩
theorem w_neD {d e : PyData} (h1 : Dp K H x d) (h2 : Dp K H y e) (h3 : SeqAt.shaped d = true) (h4 : SeqAt.shaped e = true) (g : Q (.bl (!PyData.eqv d e)) H) : rNeA K x y H Q := .inr ⟨d, e, h1, h2, h3, h4, g⟩
theorem w_isN0 (g : Q (.bl true) H) : rIsNA .non .non H Q := ⟨rfl, g⟩
theorem w_isN1 (h : x ≠ .non) (g : Q (.bl false) H) : rIsNA x .non H Q := ⟨rfl, by rw [decide_eq_false h]; exact g⟩
theorem w_notN0 (g : Q (.bl false) H) : rNotNA .non .non H Q := ⟨rfl, g⟩
theorem w_notN1 (h : x ≠ .non) (g : Q (.bl true) H) : rNotNA x .non H Q := ⟨rfl, by rw [decide_eq_false h]; exact g⟩
theorem w_lenL (h : SqL K H p xs) (g : Q (.int (xs.length : Int)) H) : rLenA K [.ref p] H Q := ⟨_, _, rfl, .inl ⟨xs, h, rfl⟩, g⟩
theorem w_lenT (h : SqT K H p xs) (g : Q (.int (xs.length : Int)) H) : rLenA K [.ref p] H Q := ⟨_, _, rfl, .inr ⟨xs, h, rfl⟩, g⟩
theorem w_lenS {a : Str} (h : a.length ≤ sizeLine) (g : Q (.int (a.length : Int)) H) : rLenA K [.str a] H Q := ⟨_, _, rfl, ⟨h, rfl⟩, g⟩
theorem w_listL (h : SqL K H p xs) (g : ∀ l, H l = none → Q (.ref l) (upd H l (.lst xs))) : rListA K [.ref p] H Q := ⟨p, xs, rfl, .inl h, g⟩
theorem w_listT (h : SqT K H p xs) (g : ∀ l, H l = none → Q (.ref l) (upd H l (.lst xs))) : rListA K [.ref p] H Q := ⟨p, xs, rfl, .inr h, g⟩
theorem w_intI (g : Q (.int i) H) : rIntA [.int i] H Q := .inl ⟨i, rfl, g⟩
theorem w_abs (g : Q (.int (if i < 0 then -i else i)) H) : rAbsA [.int i] H Q := ⟨i, rfl, g⟩
theorem w_min2 (g : Q (.int (if j < i then j else i)) H) : rMin2A [.int i, .int j] H Q := ⟨i, j, rfl, g⟩
theorem w_max2 (g : Q (.int (if j > i then j else i)) H) : rMax2A [.int i, .int j] H Q := ⟨i, j, rfl, g⟩
theorem w_ixL (h : SqL K H p xs) (ha : atI xs i = some v) (g : Q v H) : rIx K (.ref p) (.int i) H Q := .inl ⟨p, xs, i, v, rfl, rfl, h, ha, g⟩
theorem w_ixT (h : SqT K H p xs) (ha : atI xs i = some v) (g : Q v H) : rIx K (.ref p) (.int i) H Q := .inr (.inl ⟨p, xs, i, v, rfl, rfl, h, ha, g⟩)
theorem w_ixS {a : Str} {c : Nat} (h : a.length ≤ sizeLine) (ha : atI a.cps.toList i = some c) (g : Q (.str ⟨#[c]⟩) H) : rIx K (.str a) (.int i) H Q := .inr (.inr ⟨a, i, c, rfl, rfl, h, ha, g⟩)
theorem w_setL {R : Hp → Prop} (h : H p = some (.lst xs)) (ha : ixN xs.length i = some n) (g : R (upd H p (.lst (xs.set n v)))) : rSetL (.ref p) (.int i) v H R := ⟨p, xs, i, n, rfl, rfl, h, ha, g⟩
theorem w_app (h : H p = some (.lst xs)) (hl : xs.length < sizeLine) (g : Q .non (upd H p (.lst (xs ++ [v])))) : tyV K "list" (.ref p) H ∧ rAppend (.ref p) [v] H Q := ⟨.inl ⟨rfl, xs, SqL.of h⟩, p, xs, v, rfl, rfl, h, hl, g⟩
theorem w_ty (h : SqL K H p xs) : tyV K "list" (.ref p) H := .inl ⟨rfl, xs, h⟩
theorem w_append (h : H p = some (.lst xs)) (hl : xs.length < sizeLine) (g : Q .non (upd H p (.lst (xs ++ [v])))) : rAppend (.ref p) [v] H Q := ⟨p, xs, v, rfl, rfl, h, hl, g⟩
end
end G

set_option Elab.async false
set_option linter.all false
set_option maxRecDepth 100000
set_option maxHeartbeats 4000000
/-! Loops, comprehensions by words; the head's own facts. -/
namespace G
open PySem PySem.Spec PyProof.Rows L2

/-! ### what a loop wants of its walk J -/
def LoopG (J : It) (g : TG) (tb : TS) (D : Ends) (σ : L2.St) (H1 : Hp) : Prop := ∃ W : Nat → Nat → L2.St → Hp → Prop, (∃ m, W 0 m σ H1) ∧ ∀ i m σ H, W i m σ H →
  (J.stop i H ∧ D.nx σ H) ∨ (J.go i H ∧ ∃ N : L2.St → Hp → Prop, (∀ σ' H', N σ' H' → ∃ m', m' < m ∧ W (i + 1) m' σ' H') ∧ ∀ x H', J.yld i H x H' → g x σ H' fun σ2 H2 => tb { D with nx := N, ct := N, bk := D.nx } σ2 H2)
def CompG (J : It) (g : TG) (tt : TT) (te : TE) (vs : List Nat) (σ : L2.St) (Q : VK) (H1 : Hp) : Prop := ∀ D, H1 D = none → ∃ W : Nat → Nat → Hp → Prop, (∃ m, W 0 m (upd H1 D (.lst []))) ∧ ∀ i m H, W i m H →
  (J.stop i H ∧ Q (.ref D) H) ∨ (J.go i H ∧ ∃ Nx : Hp → Prop, (∀ H', Nx H' → ∃ m', m' < m ∧ W (i + 1) m' H') ∧ ∀ x H', J.yld i H x H' → g x (wipe σ vs) H' fun σ2 H2 => wipe σ2 vs = wipe σ vs ∧ tt σ2 H2 fun b H3 =>
    if b = true then te σ2 H3 fun y H4 => ∃ acc, H4 D = some (.lst acc) ∧ acc.length < sizeLine ∧ Nx (upd H4 D (.lst (acc ++ [y]))) else Nx H3)
section
variable {K : PySem.W.Frag} {σ : L2.St} {H : Hp} {Q : VK} {ta : TA} {te tl : TE} {tt : TT} {D : Ends} {tb : TS} {g : TG} {wi : TI} {j : Nat} {R : It → Hp → Prop} {vs : List Nat}
theorem w_for (h : wi σ H fun J H1 => LoopG J g tb D σ H1) : tFor wi g tb D σ H := h
theorem w_lc (h : wi σ H fun J H1 => CompG J g tt te vs σ Q H1) : tLc wi g tt te vs σ H Q := h
theorem w_iR1 (h : ta σ H fun vs H1 => ∃ j : Int, vs = [.int j] ∧ -(2 ^ 62) ≤ j ∧ j < 2 ^ 62 ∧ R (Itr 0 j.toNat) H1) : iRng1 ta σ H R := h
theorem w_iR2 (h : ta σ H fun vs H1 => ∃ i j : Int, vs = [.int i, .int j] ∧ (-(2 ^ 62) ≤ i ∧ i < 2 ^ 62 ∧ -(2 ^ 62) ≤ j ∧ j < 2 ^ 62) ∧ R (Itr i (j - i).toNat) H1) : iRng2 ta σ H R := h
theorem w_rng1 {n : Int} (h : -(2 ^ 62) ≤ n ∧ n < 2 ^ 62) (g : R (Itr 0 n.toNat) H) : ∃ j : Int, [V.int n] = [.int j] ∧ -(2 ^ 62) ≤ j ∧ j < 2 ^ 62 ∧ R (Itr 0 j.toNat) H := ⟨n, rfl, h.1, h.2, g⟩
theorem w_rng2 {a b : Int} (h : -(2 ^ 62) ≤ a ∧ a < 2 ^ 62 ∧ -(2 ^ 62) ≤ b ∧ b < 2 ^ 62) (g : R (Itr a (b - a).toNat) H) :
    ∃ i j : Int, [V.int a, V.int b] = [.int i, .int j] ∧ (-(2 ^ 62) ≤ i ∧ i < 2 ^ 62 ∧ -(2 ^ 62) ≤ j ∧ j < 2 ^ 62) ∧ R (Itr i (j - i).toNat) H := ⟨a, b, rfl, h, g⟩
theorem w_iL (h : tl σ H fun x H1 => ∃ a, x = .ref a ∧ (∃ xs, SqL K H1 a xs) ∧ R (Itl K a) H1) : iList K tl σ H R := h
theorem w_iT (h : tl σ H fun x H1 => ∃ a, x = .ref a ∧ (∃ xs, SqT K H1 a xs) ∧ R (Itt K a) H1) : iTup K tl σ H R := h
theorem w_lst1 {a : Addr} {xs : List V} (h : SqL K H a xs) (g : R (Itl K a) H) : ∃ b, V.ref a = .ref b ∧ (∃ xs, SqL K H b xs) ∧ R (Itl K b) H := ⟨a, rfl, ⟨xs, h⟩, g⟩
theorem w_tup1 {a : Addr} {xs : List V} (h : SqT K H a xs) (g : R (Itt K a) H) : ∃ b, V.ref a = .ref b ∧ (∃ xs, SqT K H b xs) ∧ R (Itt K b) H := ⟨a, rfl, ⟨xs, h⟩, g⟩
theorem w_iE (h : ta σ H fun vs H1 => ∃ a xs, vs = [.ref a] ∧ SqL K H1 a xs ∧ R (Ite K a) H1) : iEnum K ta σ H R := h
theorem w_iZ (h : ta σ H fun vs H1 => ∃ a b xs ys, vs = [.ref a, .ref b] ∧ SqL K H1 a xs ∧ SqL K H1 b ys ∧ R (Itz K a b) H1) : iZip K ta σ H R := h

/-! ### loops -/
theorem lp_rng {lo : Int} {n : Nat} (Pv : Nat → L2.St → Hp → Prop) (h0 : Pv 0 σ H) (hs : ∀ (i : Nat) σ' H', i < n → Pv i σ' H' → g (.int (lo + (i : Int))) σ' H' fun σ2 H2 => tb { D with nx := Pv (i + 1), ct := Pv (i + 1), bk := D.nx } σ2 H2)
    (hd : ∀ σ' H', Pv n σ' H' → D.nx σ' H') : LoopG (Itr lo n) g tb D σ H := for_range Pv h0 hs hd
theorem lp_rng0 {n : Nat} (Pv : Nat → L2.St → Hp → Prop) (h0 : Pv 0 σ H) (hs : ∀ (i : Nat) σ' H', i < n → Pv i σ' H' → g (.int (i : Int)) σ' H' fun σ2 H2 => tb { D with nx := Pv (i + 1), ct := Pv (i + 1), bk := D.nx } σ2 H2)
    (hd : ∀ σ' H', Pv n σ' H' → D.nx σ' H') : LoopG (Itr 0 n) g tb D σ H := for_range Pv h0 (fun i σ' H' hi p => by rw [Int.zero_add]; exact hs i σ' H' hi p) hd
theorem lp_lst {a : Addr} {xs : List V} (Pv : Nat → L2.St → Hp → Prop) (h0 : Pv 0 σ H) (hl : ∀ i σ' H', i ≤ xs.length → Pv i σ' H' → SqL K H' a xs)
    (hs : ∀ i x σ' H', xs[i]? = some x → Pv i σ' H' → g x σ' H' fun σ2 H2 => tb { D with nx := Pv (i + 1), ct := Pv (i + 1), bk := D.nx } σ2 H2) (hd : ∀ σ' H', Pv xs.length σ' H' → D.nx σ' H') : LoopG (Itl K a) g tb D σ H := for_list Pv h0 hl hs hd
theorem lp_tup {a : Addr} {xs : List V} (Pv : Nat → L2.St → Hp → Prop) (h0 : Pv 0 σ H) (hl : ∀ i σ' H', i ≤ xs.length → Pv i σ' H' → SqT K H' a xs)
    (hs : ∀ i x σ' H', xs[i]? = some x → Pv i σ' H' → g x σ' H' fun σ2 H2 => tb { D with nx := Pv (i + 1), ct := Pv (i + 1), bk := D.nx } σ2 H2) (hd : ∀ σ' H', Pv xs.length σ' H' → D.nx σ' H') : LoopG (Itt K a) g tb D σ H := for_tup Pv h0 hl hs hd
theorem lp_enum {a : Addr} {xs : List V} (Pv : Nat → L2.St → Hp → Prop) (h0 : Pv 0 σ H) (hl : ∀ i σ' H', i ≤ xs.length → Pv i σ' H' → SqL K H' a xs)
    (hs : ∀ (i : Nat) (x : V) (T : Addr) σ' H', xs[i]? = some x → Pv i σ' H' → H' T = none → g (.ref T) σ' (upd H' T (.tup [.int (i : Int), x])) fun σ2 H2 => tb { D with nx := Pv (i + 1), ct := Pv (i + 1), bk := D.nx } σ2 H2)
    (hd : ∀ σ' H', Pv xs.length σ' H' → D.nx σ' H') : LoopG (Ite K a) g tb D σ H := by
  refine ⟨fun i m σ H => m = xs.length - i ∧ i ≤ xs.length ∧ Pv i σ H, ⟨xs.length, by simp, Nat.zero_le _, h0⟩, ?_⟩
  rintro i m σ H ⟨rfl, hi, p⟩
  have q := hl i σ H hi p
  by_cases lt : i < xs.length
  · refine .inr ⟨⟨xs, xs[i], q, by simp [lt]⟩, Pv (i + 1), fun σ' H' p' => ⟨xs.length - (i + 1), by omega, rfl, lt, p'⟩, fun v H' y => ?_⟩
    obtain ⟨T, x, rfl, nT, rfl, hx⟩ := y
    exact hs i x T σ H (hx xs q) p nT
  · have e : i = xs.length := by omega
    subst e
    exact .inl ⟨⟨xs, q, Nat.le_refl _⟩, hd σ H p⟩

/-! ### comprehensions: items i is what stands behind i turns -/
theorem cp_go {J : It} {n : Nat} (items : Nat → List V) (Ok : Hp → Prop) (hz : ∀ i, i < n → (items i).length < sizeLine) (h0 : items 0 = []) (ok0 : ∀ H', Kp [] H H' → Ok H') (hgo : ∀ i H', i < n → Ok H' → J.go i H') (hst : ∀ H', Ok H' → J.stop n H')
    (hs : ∀ (i : Nat) (x : V) (H' H'' : Hp) (S : V → Hp → Prop) (N : Hp → Prop), i < n → Kp [] H H' → J.yld i H' x H'' → (∀ y H4, Kp [] H' H4 → items (i + 1) = items i ++ [y] → S y H4) → (∀ H4, Kp [] H' H4 → items (i + 1) = items i → N H4) →
      g x (wipe σ vs) H'' fun σ2 H2 => wipe σ2 vs = wipe σ vs ∧ tt σ2 H2 fun b H3 => if b = true then te σ2 H3 S else N H3)
    (hd : ∀ D H', H D = none → Kp [] H H' → H' D = some (.lst (items n)) → Q (.ref D) H') : CompG J g tt te vs σ Q H := by
  intro D nD
  refine ⟨fun i m H' => m = n - i ∧ i ≤ n ∧ Kp [] H H' ∧ H' D = some (.lst (items i)), ⟨n, by simp, Nat.zero_le _, Kp.new nD, by rw [h0]; exact upd_same⟩, ?_⟩
  rintro i m H' ⟨rfl, hi, k, e⟩
  by_cases lt : i < n
  · refine .inr ⟨hgo i H' lt (ok0 H' k), fun H'' => Kp [] H H'' ∧ H'' D = some (.lst (items (i + 1))), fun H'' p => ⟨n - (i + 1), by omega, rfl, lt, p.1, p.2⟩, fun x H'' y => ?_⟩
    refine hs i x H' H'' _ _ lt k y (fun y H4 k4 ei => ⟨items i, k4.at0 e, hz i lt, ?_, ?_⟩) (fun H4 k4 ei => ⟨k.trans k4, ?_⟩)
    · exact Kp.mut (k.trans k4) nD
    · rw [ei]
      exact upd_same
    · rw [ei]
      exact k4.at0 e
  · have ei : i = n := by omega
    subst ei
    exact .inl ⟨hst H' (ok0 H' k), hd D H' nD k e⟩
theorem cp_rng {lo : Int} {n : Nat} (items : Nat → List V) (hz : ∀ i, i < n → (items i).length < sizeLine) (h0 : items 0 = [])
    (hs : ∀ (i : Nat) (H' : Hp) (S : V → Hp → Prop) (N : Hp → Prop), i < n → Kp [] H H' → (∀ y H4, Kp [] H' H4 → items (i + 1) = items i ++ [y] → S y H4) → (∀ H4, Kp [] H' H4 → items (i + 1) = items i → N H4) →
      g (.int (lo + (i : Int))) (wipe σ vs) H' fun σ2 H2 => wipe σ2 vs = wipe σ vs ∧ tt σ2 H2 fun b H3 => if b = true then te σ2 H3 S else N H3)
    (hd : ∀ D H', H D = none → Kp [] H H' → H' D = some (.lst (items n)) → Q (.ref D) H') : CompG (Itr lo n) g tt te vs σ Q H :=
  cp_go items (fun _ => True) hz h0 (fun _ _ => trivial) (fun i H' hi _ => hi) (fun H' _ => Nat.le_refl n) (fun i x H' H'' S N hi k y a b => by
    obtain ⟨rfl, rfl⟩ := y
    exact hs i H'' S N hi k a b) hd
theorem cp_lst {a : Addr} {xs : List V} (h : SqL K H a xs) (items : Nat → List V) (hz : ∀ i, i < xs.length → (items i).length < sizeLine) (h0 : items 0 = [])
    (hs : ∀ (i : Nat) (x : V) (H' : Hp) (S : V → Hp → Prop) (N : Hp → Prop), xs[i]? = some x → Kp [] H H' → (∀ y H4, Kp [] H' H4 → items (i + 1) = items i ++ [y] → S y H4) → (∀ H4, Kp [] H' H4 → items (i + 1) = items i → N H4) →
      g x (wipe σ vs) H' fun σ2 H2 => wipe σ2 vs = wipe σ vs ∧ tt σ2 H2 fun b H3 => if b = true then te σ2 H3 S else N H3)
    (hd : ∀ D H', H D = none → Kp [] H H' → H' D = some (.lst (items xs.length)) → Q (.ref D) H') : CompG (Itl K a) g tt te vs σ Q H :=
  cp_go (n := xs.length) items (fun H' => SqL K H' a xs) hz h0 (fun _ k => k.sql (by simp) h) (fun i H' hi q => ⟨xs, xs[i], q, by simp [hi]⟩) (fun H' q => ⟨xs, q, Nat.le_refl _⟩) (fun i x H' H'' S N hi k y a b => by
    obtain ⟨rfl, hx⟩ := y
    exact hs i x H'' S N (hx xs (k.sql (by simp) h)) k a b) hd
theorem cp_tup {a : Addr} {xs : List V} (h : SqT K H a xs) (items : Nat → List V) (hz : ∀ i, i < xs.length → (items i).length < sizeLine) (h0 : items 0 = [])
    (hs : ∀ (i : Nat) (x : V) (H' : Hp) (S : V → Hp → Prop) (N : Hp → Prop), xs[i]? = some x → Kp [] H H' → (∀ y H4, Kp [] H' H4 → items (i + 1) = items i ++ [y] → S y H4) → (∀ H4, Kp [] H' H4 → items (i + 1) = items i → N H4) →
      g x (wipe σ vs) H' fun σ2 H2 => wipe σ2 vs = wipe σ vs ∧ tt σ2 H2 fun b H3 => if b = true then te σ2 H3 S else N H3)
    (hd : ∀ D H', H D = none → Kp [] H H' → H' D = some (.lst (items xs.length)) → Q (.ref D) H') : CompG (Itt K a) g tt te vs σ Q H :=
  cp_go (n := xs.length) items (fun H' => SqT K H' a xs) hz h0 (fun _ k => k.sqt (by simp) h) (fun i H' hi q => ⟨xs, xs[i], q, by simp [hi]⟩) (fun H' q => ⟨xs, q, Nat.le_refl _⟩) (fun i x H' H'' S N hi k y a b => by
    obtain ⟨rfl, hx⟩ := y
    exact hs i x H'' S N (hx xs (k.sqt (by simp) h)) k a b) hd
theorem cp_enum {a : Addr} {xs : List V} (h : SqL K H a xs) (items : Nat → List V) (hz : ∀ i, i < xs.length → (items i).length < sizeLine) (h0 : items 0 = [])
    (hs : ∀ (i : Nat) (x : V) (T : Addr) (H' : Hp) (S : V → Hp → Prop) (N : Hp → Prop), xs[i]? = some x → Kp [] H H' → H' T = none → (∀ y H4, Kp [] H' H4 → items (i + 1) = items i ++ [y] → S y H4) → (∀ H4, Kp [] H' H4 → items (i + 1) = items i → N H4) →
      g (.ref T) (wipe σ vs) (upd H' T (.tup [.int (i : Int), x])) fun σ2 H2 => wipe σ2 vs = wipe σ vs ∧ tt σ2 H2 fun b H3 => if b = true then te σ2 H3 S else N H3)
    (hd : ∀ D H', H D = none → Kp [] H H' → H' D = some (.lst (items xs.length)) → Q (.ref D) H') : CompG (Ite K a) g tt te vs σ Q H :=
  cp_go (n := xs.length) items (fun H' => SqL K H' a xs) hz h0 (fun _ k => k.sql (by simp) h) (fun i H' hi q => ⟨xs, xs[i], q, by simp [hi]⟩) (fun H' q => ⟨xs, q, Nat.le_refl _⟩) (fun i v H' H'' S N hi k y a b => by
    obtain ⟨T, x, rfl, nT, rfl, hx⟩ := y
    exact hs i x T H' S N (hx xs (k.sql (by simp) h)) k nT a b) hd
end

/-! ### the head's facts: any tests of the written part -/
abbrev Chk := PySem.W.Frag → Bool
def obsX (fa : List Chk) (fn : List He.DefD) (K : PySem.W.Frag) : He.AlD := ((fa.all fun f => f K) && fn.all fun d => d.ok K, fn.map fun d => He.fnW K d.at_)
def SaysX (fa : List Chk) (fn : List He.DefD) (K : PySem.W.Frag) : Prop := obsX fa fn K = He.valD fn
def obsXG (n : Nat) (fa : List Chk) (fn : List He.DefD) (g : Addr → Option Obj) : He.AlD := obsX fa fn (He.frG g (He.asD g n ++ [cStatics]))
def hookX (n : Nat) (fa : List Chk) (fn : List He.DefD) : PySem.W.Hook where
  α := He.AlD
  obs := fun s => obsXG n fa fn s.heap.get?
  val := fun _ => He.valD fn
  says := fun _ h => ∃ K : PySem.W.Frag, K.In h ∧ SaysX fa fn K
  of := fun _ _ e => ⟨_, He.frG_in, e⟩
  keeps := fun _ _ _ ⟨K, hK, c⟩ k => ⟨K, PySem.W.Frag.In.keeps hK k, c⟩
theorem obsXG_eq {n : Nat} {fa : List Chk} {fn : List He.DefD} {g : Addr → Option Obj} {s : Shared} (h : ∀ a, g a = s.heap.get? a) : obsXG n fa fn g = (hookX n fa fn).obs s := by
  have e : g = s.heap.get? := funext h
  rw [e] <;> rfl
section
variable {fa : List Chk} {fn : List He.DefD} {K : PySem.W.Frag}
theorem SaysX.fact (c : SaysX fa fn K) (i : Nat) {f : Chk} (h : fa[i]? = some f := by rfl) : f K = true := by
  have c1 := (He.ba (show ((fa.all fun f => f K) && fn.all fun d => d.ok K) = true from congrArg (fun z : He.AlD => z.1) c)).1
  exact List.all_eq_true.mp c1 f (List.mem_of_getElem? h)
theorem SaysX.def_ (c : SaysX fa fn K) (i : Nat) {d : He.DefD} (h : fn[i]? = some d := by rfl) : ∃ fd, FunD K d.name d.qual d.params d.body d.scope (d.dvs K) (d.kws K) (He.fAd K d.at_) fd := by
  have c2 := (He.ba (show ((fa.all fun f => f K) && fn.all fun d => d.ok K) = true from congrArg (fun z : He.AlD => z.1) c)).2
  have e : fn.map (fun d => He.fnW K d.at_) = fn.map He.DefD.val := congrArg (fun z : He.AlD => z.2) c
  have e2 : (fn.map fun d => He.fnW K d.at_)[i]? = (fn.map He.DefD.val)[i]? := by rw [e]
  rw [List.getElem?_map, List.getElem?_map, h] at e2
  exact He.DefD.funD (Option.some.inj e2) (List.all_eq_true.mp c2 d (List.mem_of_getElem? h))
/-- a plain fact of He -/
abbrev fa_ (f : He.Fa) : Chk := fun K => f.ok K
/-- a class of errors, as it is made -/
def oexB (C : Addr) (K : PySem.W.Frag) : Bool := match K.lookup C with
  | some ⟨.type "type", _, .cls cd, sl⟩ => (match cd.mro, sl.toList with
    | .ref C1 :: bm, [_, _, _, _, some (.builtin n), _] => C1 == C && n == "ValueError.__new__" && !cd.hasDel && cd.hasDict && PySem.HandSPX.refsVE bm
    | _, _ => false)
  | _ => false
theorem oexB_ok {C : Addr} (q : oexB C K = true) : ∃ nm qn N bs bm sn sub ab col dd k0 k1 k2 k3 k5, K.lookup C = some (excClassObj nm qn C N bs bm true sn sub ab col dd k0 k1 k2 k3 k5 "ValueError.__new__") ∧ PySem.HandSPX.refsVE bm = true := by
  unfold oexB at q
  split at q
  · rename_i dd cd sl ho
    split at q
    · rename_i C1 bm k0 k1 k2 k3 n k5 hm hs
      simp only [Bool.and_eq_true, beq_iff_eq, Bool.not_eq_true'] at q
      obtain ⟨⟨⟨⟨rfl, rfl⟩, del⟩, hd⟩, hr⟩ := q
      obtain ⟨nm, bs, mro, ns, qn, hdd, sn, sub, ab, col, dl⟩ := cd
      dsimp only at hm del hd
      subst hm del hd
      have es : sl = #[k0, k1, k2, k3, some (.builtin "ValueError.__new__"), k5] := by
        obtain ⟨l⟩ := sl
        exact congrArg Array.mk hs
      subst es
      exact ⟨nm, qn, ns, bs, bm, sn, sub, ab, col, dd, k0, k1, k2, k3, k5, ho, hr⟩
    · cases q
  · cases q
def eqT (a b : Option Bool) : Bool := decide (a = b)
/-- all that an own class of errors C with the fields fs is asked -/
def excB (x : Str) (fs : List Str) (K : PySem.W.Frag) : Bool := oexB (He.ga K x) K && (He.eqO (PySem.W.findIn K (.ref (He.ga K x)) "__setattr__") (some (some (.builtin "object.__setattr__"))) &&
  (eqT (PySem.W.subIn K (.ref (He.ga K x)) (.type "BaseException")) (some true) && (decide (PySem.W.typeIn K (.ref (He.ga K x)) = some (.type "type")) && (PySem.W.keepIn K (.ref (He.ga K x)) &&
  (fs.all fun f => He.eqO (PySem.W.findIn K (.ref (He.ga K x)) f) (some none))))))
/-- .. and its instances are asked -/
def askB (x : Str) (K : PySem.W.Frag) : Bool := (PySem.W.clsIn K (He.ga K x)).isSome && (He.eqO (PySem.W.findIn K (.ref (He.ga K x)) "__getattribute__") (some (some (.builtin "BaseException.__getattribute__"))) &&
  (He.eqO (PySem.W.findIn K (.ref (He.ga K x)) "__getattr__") (some none) && (eqT (PySem.W.subIn K (.ref (He.ga K x)) (.type "BaseException")) (some true) && (PySem.W.hasDictIn K (He.ga K x) &&
  (He.eqO (PySem.W.findIn K (.ref (He.ga K x)) "__class__") (some (some (.builtin "object.__class__"))) && (He.eqO (PySem.W.specialIn K (.builtin "object.__class__") "__get__") (some (some (.builtin "getset_descriptor.__get__"))) &&
  (eqT (PySem.W.takesIn K (.builtin "object.__class__")) (some true) && eqT (PySem.W.mroIn K (He.ga K x) (.type "object")) (some true))))))))
theorem excB_ok {x : Str} {fs : List Str} (q : excB x fs K = true) : OexC K (He.ga K x) ∧ ∀ f ∈ fs, PySem.W.findIn K (.ref (He.ga K x)) f = some none := by
  obtain ⟨q1, q⟩ := He.ba q
  obtain ⟨q2, q⟩ := He.ba q
  obtain ⟨q3, q⟩ := He.ba q
  obtain ⟨q4, q⟩ := He.ba q
  obtain ⟨q5, q6⟩ := He.ba q
  exact ⟨⟨oexB_ok q1, He.eqO_ok q2, of_decide_eq_true q3, of_decide_eq_true q4, q5⟩, fun f hf => He.eqO_ok (List.all_eq_true.mp q6 f hf)⟩
theorem askB_ok {x : Str} (q : askB x K = true) : ExK K (He.ga K x) := by
  obtain ⟨q1, q⟩ := He.ba q
  obtain ⟨q2, q⟩ := He.ba q
  obtain ⟨q3, q⟩ := He.ba q
  obtain ⟨q4, q⟩ := He.ba q
  obtain ⟨q5, q⟩ := He.ba q
  obtain ⟨q6, q⟩ := He.ba q
  obtain ⟨q7, q⟩ := He.ba q
  obtain ⟨q8, q9⟩ := He.ba q
  exact ⟨q1, He.eqO_ok q2, He.eqO_ok q3, of_decide_eq_true q4, q5, He.eqO_ok q6, He.eqO_ok q7, of_decide_eq_true q8, of_decide_eq_true q9⟩
/-- isinstance of an instance of x by the class y, by a built-in one -/
def kitB2 (x y : Str) (b : Bool) (K : PySem.W.Frag) : Bool := eqT (PySem.W.kitOne K (.ref (He.ga K x)) (.ref (He.ga K y))) (some b)
def kitT2 (x : Str) (y : String) (b : Bool) (K : PySem.W.Frag) : Bool := eqT (PySem.W.kitOne K (.ref (He.ga K x)) (.type y)) (some b)
/-- except y takes an x -/
def exmB (x y : Str) (b : Bool) (K : PySem.W.Frag) : Bool := eqT (PySem.W.exmOne K (.ref (He.ga K x)) (.ref (He.ga K y))) (some b)
/-- the __init__ that is found, a function -/
def iniB (x : Str) (K : PySem.W.Frag) : Bool := He.eqO (PySem.W.findIn K (.ref (He.ga K x)) "__init__") (some (some (.ref (He.ma K (He.ga K x) "__init__")))) && decide (PySem.W.typeIn K (.ref (He.ma K (He.ga K x) "__init__")) = some (.type "function"))
theorem iniB_ok {x : Str} (q : iniB x K = true) : PySem.W.findIn K (.ref (He.ga K x)) "__init__" = some (some (.ref (He.ma K (He.ga K x) "__init__"))) ∧ PySem.W.typeIn K (.ref (He.ma K (He.ga K x) "__init__")) = some (.type "function") := by
  obtain ⟨q1, q2⟩ := He.ba q
  exact ⟨He.eqO_ok q1, of_decide_eq_true q2⟩
end
end G

set_option Elab.async false
set_option linter.all false
set_option maxRecDepth 100000
set_option maxHeartbeats 4000000
/-! Constants of a class; truth; two things more. -/
namespace G
open PySem PySem.Spec PyProof.Rows L2
section
variable {X : Cx} {C : Addr} {mc u : Value} {v : V} {e : Expr} {f : Str} {pos : Pos} {ta : TE}
theorem pe_cc (k : ∃ mc u, ClX.CRead X.K C mc ∧ ClX.CVal X.K C mc f v u) (he : PE X e (tC (.ref C))) (hb : attributeBase e f X.env (eval e X.env) = eval e X.env := by rfl) : PE X (.Attribute e f pos) (tC v) := by
  obtain ⟨mc, u, r, k⟩ := k
  exact ⟨fun pins s σ H Q I h => (ClX.pe_cval he hb).run pins s σ H Q I ⟨C, mc, v, u, rfl, r, k, h⟩⟩
def tTr (K : PySem.W.Frag) (ta : TE) : TT := fun σ H Q => ta σ H fun x H' => ∃ k, TruV K x H' k ∧ Q k H'
theorem pt_tr (ha : PE X e ta) (he : ∀ whole, isTrue e X.env whole = (do let v ← whole; standAt e.pos; holding [v] (truthy v))) : PT X e (tTr X.K ta) := pt_truth ha he
end
/-- x.f is the whole number i -/
def ccB (x f : Str) (i : Int) (K : PySem.W.Frag) : Bool := PySem.W.readsIn K (He.ga K x) (.type "type") && (He.eqO (PySem.W.specialIn K (.ref (He.ga K x)) "__getattribute__") (some (some (.builtin "type.__getattribute__"))) &&
  (match PySem.W.findCls K (.ref (He.ga K x)) (.type "type") f with
  | some (.val (.int j _)) => decide (j = i)
  | _ => false))
theorem ccB_ok {K : PySem.W.Frag} {x f : Str} {i : Int} (q : ccB x f i K = true) : ∃ mc u, ClX.CRead K (He.ga K x) mc ∧ ClX.CVal K (He.ga K x) mc f (.int i) u := by
  obtain ⟨q1, q⟩ := He.ba q
  obtain ⟨q2, q3⟩ := He.ba q
  have q4 : (match PySem.W.findCls K (.ref (He.ga K x)) (.type "type") f with
    | some (.val (.int j _)) => decide (j = i)
    | _ => false) = true := q3
  split at q4
  · rename_i j t e
    have ej : j = i := of_decide_eq_true q4
    subst ej
    exact ⟨.type "type", .int j t, ⟨q1, He.eqO_ok q2⟩, ⟨e, t, rfl⟩⟩
  · cases q4
/-- a fact's list is looked up -/
theorem glf_ok {K : PySem.W.Frag} {h : Heap} {mg : Str → Option Value} {x : Str} (X : K.In h) (G : h.Ns mainGlobals mg) (c : (He.Fa.glo x).ok K = true) : mg x = some (.ref (He.ga K x)) := He.glo_ok X G c
end G
namespace G
open PySem PySem.Spec PyProof.Rows L2
/-- a built-in class as a value -/
theorem pe_ty {X : Cx} {x : Str} (n : String) {pos : Pos} (hm : X.mg x = none) (hv : bootBuiltins x = some (.type n)) (hg : Gl X x := by rfl) (hn : x ≠ "__name__" := by decide) (hd : (x == ("__debug__" : Str)) = false := by decide) : PE X (.Name x pos) (tC (.ty n)) :=
  pe_bltn hg hm hv rfl hn hd
/-- an own class as a value -/
theorem pe_own {X : Cx} {x : Str} {C : Addr} {pos : Pos} (hm : X.mg x = some (.ref C)) (hg : Gl X x := by rfl) (hd : (x == ("__debug__" : Str)) = false := by decide) : PE X (.Name x pos) (tC (.ref C)) := pe_glob hg hm rfl hd
end G
namespace G
open PySem PySem.Spec PyProof.Rows L2
/-- a def of the text where an exception is handled -/
theorem okH {P : Program} {w : World} {K : PySem.W.Frag} {mg : Str → Option Value} {base : Heap} {CX : CXT} {x qual : Str} {params : Arguments} {body : List Stmt} {scope : Scope} {dvs : List V} {kws : List (Str × V)} {f : Addr} {fd : FuncData} {N ps : List Str} {k : Nat} {sp : Sp}
    (F : FunD K x qual params body scope dvs kws f fd) (S : FnScope N ps scope) (len : ∀ vs H Q E, sp vs H Q E → vs.length = ps.length)
    (hb : ∀ (cdv : Value) (A : Around) (outer : List Env) (s : Shared) (H : Hp) (vs : List V) (Q : VK) (E : XK) (p : Addr × Obj), L2H.Hot1 A p → L2H.RoomH k (A.deeper (envOfC qual scope s.heap.objs.size f cdv)) → sp vs H Q E →
      ∃ t, PSs (L2H.cxH CX P w K mg base N qual scope f cdv A outer s H E p) body t ∧ t { nx := fun _ H' => Q .non H', rt := Q } (start N vs) H) : L2H.FnH P w K mg base CX (k + 1) f fd ps sp := by
  obtain ⟨oc, od, dV, kV, doc, pm, an, cdv, ct, osl, rfl, lk, hcd, _, _⟩ := F.ex
  exact L2H.fn_ofH lk hcd S len fun A outer s H vs Q E p h1 h2 h3 => hb cdv A outer s H vs Q E p h1 h2 h3
/-- a def called there -/
theorem hotC {CX : CXT} {P : Program} {w : World} {K : PySem.W.Frag} {mg : Str → Option Value} {base : Heap} {N : List Str} {qual : Str} {scope : Scope} {f : Addr} {cd : Value} {A : Around} {outer : List Env} {s : Shared} {H : Hp} {E : XK} {p : Addr × Obj} (h : L2H.Hot1 A p) :
    L2H.HotC (L2H.cxH CX P w K mg base N qual scope f cd A outer s H E p) := ⟨p, h, List.mem_cons_self⟩
end G
namespace G
open PySem PySem.Spec PyProof.Rows L2
/-- what lets nothing out -/
theorem noX {P : Program} {w : World} {K : PySem.W.Frag} {mg : Str → Option Value} {base : Heap} {k : Nat} {f : Addr} {fd : FuncData} {ps : List Str} {sp : Sp} (F : FnOk P w K mg base (L2N.CX P w) k f fd ps sp) :
    FnOk P w K mg base L2.CX0 k f fd ps (fun vs H Q _ => sp vs H Q L2.E0) := by
  refine ⟨fun vs H Q E h => F.len vs H Q _ h, fun A outer s H args us vs Q E hr e0 hb r h => codeAny_mono (F.run A outer s H args us vs Q _ hr e0 hb r h) fun rs s2 q => ?_⟩
  cases rs with
  | error e =>
    obtain ⟨_, _, _, _, _, _, _, _, _, _, _, _, z⟩ := q
    exact z.elim
  | ok fl => cases fl <;> exact q
end G

set_option Elab.async false
set_option linter.all false
set_option maxRecDepth 100000
set_option maxHeartbeats 4000000
/-! Standings as plain lists, and what operations do to them. -/
namespace G
open PySem PySem.Spec PyProof.Rows L2

/-! ### lists by place -/
def gI (l : List Int) (i : Nat) : Int := l.getD i 0
def gB (l : List Bool) (i : Nat) : Bool := l.getD i false
theorem gI_at {l : List Int} {i : Nat} (h : i < l.length) : l[i]? = some (gI l i) := by
  unfold gI
  rw [List.getElem?_eq_getElem h, List.getD_eq_getElem?_getD, List.getElem?_eq_getElem h] <;> rfl
theorem gB_at {l : List Bool} {i : Nat} (h : i < l.length) : l[i]? = some (gB l i) := by
  unfold gB
  rw [List.getElem?_eq_getElem h, List.getD_eq_getElem?_getD, List.getElem?_eq_getElem h] <;> rfl
theorem gI_of {l : List Int} {i : Nat} {v : Int} (h : l[i]? = some v) : gI l i = v := by
  unfold gI
  rw [List.getD_eq_getElem?_getD, h] <;> rfl
theorem gB_of {l : List Bool} {i : Nat} {v : Bool} (h : l[i]? = some v) : gB l i = v := by
  unfold gB
  rw [List.getD_eq_getElem?_getD, h] <;> rfl
theorem gI_set {l : List Int} {i j : Nat} {v : Int} (h : i < l.length) : gI (l.set i v) j = if j = i then v else gI l j := by
  unfold gI
  rw [List.getD_eq_getElem?_getD, List.getD_eq_getElem?_getD]
  by_cases e : j = i
  · rw [if_pos e, e, List.getElem?_set_self h] <;> rfl
  · rw [if_neg e, List.getElem?_set_ne (Ne.symm e)]
theorem gB_set {l : List Bool} {i j : Nat} {v : Bool} (h : i < l.length) : gB (l.set i v) j = if j = i then v else gB l j := by
  unfold gB
  rw [List.getD_eq_getElem?_getD, List.getD_eq_getElem?_getD]
  by_cases e : j = i
  · rw [if_pos e, e, List.getElem?_set_self h] <;> rfl
  · rw [if_neg e, List.getElem?_set_ne (Ne.symm e)]
theorem atI_pos {α : Type} {l : List α} {i : Int} (h0 : 0 ≤ i) (h1 : i < (l.length : Int)) : atI l i = l[i.toNat]? := by
  unfold atI ixN
  rw [if_pos h0, if_pos h1] <;> rfl
theorem ixN_pos {n : Nat} {i : Int} (h0 : 0 ≤ i) (h1 : i < (n : Int)) : ixN n i = some i.toNat := by
  unfold ixN
  rw [if_pos h0, if_pos h1]
theorem at_I {l : List Int} {i : Int} (h0 : 0 ≤ i) (h1 : i < (l.length : Int)) : atI (l.map V.int) i = some (.int (gI l i.toNat)) := by
  rw [atI_pos h0 (by rw [List.length_map]; exact h1), List.getElem?_map, gI_at (by omega)] <;> rfl
theorem at_B {l : List Bool} {i : Int} (h0 : 0 ≤ i) (h1 : i < (l.length : Int)) : atI (l.map V.bl) i = some (.bl (gB l i.toNat)) := by
  rw [atI_pos h0 (by rw [List.length_map]; exact h1), List.getElem?_map, gB_at (by omega)] <;> rfl
theorem at_last {α : Type} {l : List α} {x : α} (h : l.getLast? = some x) : atI l (-1) = some x := by
  have hne : l ≠ [] := by
    intro e
    rw [e] at h
    cases h
  have hl : 0 < l.length := List.length_pos_iff.mpr hne
  unfold atI ixN
  rw [if_neg (by decide), if_pos (by omega)]
  show l[(-1 + (l.length : Int)).toNat]? = some x
  rw [show (-1 + (l.length : Int)).toNat = l.length - 1 by omega, ← List.getLast?_eq_getElem?]
  exact h
theorem set_I {l : List Int} {k : Nat} {v : Int} : (l.map V.int).set k (V.int v) = (l.set k v).map V.int := by rw [List.map_set]
theorem set_B {l : List Bool} {k : Nat} {v : Bool} : (l.map V.bl).set k (V.bl v) = (l.set k v).map V.bl := by rw [List.map_set]
theorem sz_ok {n : Nat} (h : n ≤ 1000000) : n ≤ sizeLine := by
  rw [sizeLine_eq]
  omega
theorem sz_lt {n : Nat} (h : n < 1000000) : n < sizeLine := by
  rw [sizeLine_eq]
  omega
theorem map_inj_I : ∀ {a b : List Int}, a.map V.int = b.map V.int → a = b
  | [], [], _ => rfl
  | [], _ :: _, h => by cases h
  | _ :: _, [], h => by cases h
  | x :: a, y :: b, h => by
    have h' : V.int x :: a.map V.int = V.int y :: b.map V.int := h
    injection h' with h1 h2
    injection h1 with h1
    rw [h1, map_inj_I h2]

/-! ### standings -/
structure Sd where
  n : Nat
  R : List Int
  L : List Int
  O : List Bool
structure Wf (s : Sd) : Prop where
  n60 : s.n ≤ 60
  lR : s.R.length = s.n + 1
  lL : s.L.length = s.n + 2
  lO : s.O.length = s.n + 2
  rb : ∀ v : Nat, v ≤ s.n → (v : Int) < gI s.R v ∧ gI s.R v ≤ (s.n : Int) + 1
  lb : ∀ v : Nat, 1 ≤ v → v ≤ s.n + 1 → 0 ≤ gI s.L v ∧ gI s.L v < (v : Int)
def stepS (s : Sd) (op : Int) : Sd :=
  let x := op.natAbs
  let l := (gI s.L x).toNat
  let r := (gI s.R x).toNat
  ⟨s.n, s.R.set l (if op < 0 then gI s.R x else (x : Int)), s.L.set r (if op < 0 then gI s.L x else (x : Int)), s.O.set x (decide (op < 0))⟩
/-- an operation for the size; a legal one -/
def IsOp (n : Nat) (op : Int) : Prop := 1 ≤ op.natAbs ∧ op.natAbs ≤ n
def OkOp (s : Sd) (op : Int) : Prop := IsOp s.n op ∧ gB s.O op.natAbs = decide (0 < op)
instance (n : Nat) (op : Int) : Decidable (IsOp n op) := by unfold IsOp; infer_instance
instance (s : Sd) (op : Int) : Decidable (OkOp s op) := by unfold OkOp; infer_instance
theorem Wf.step {s : Sd} (w : Wf s) {op : Int} (h : IsOp s.n op) : Wf (stepS s op) := by
  obtain ⟨h1, h2⟩ := h
  obtain ⟨r1, r2⟩ := w.rb op.natAbs (by omega)
  obtain ⟨l1, l2⟩ := w.lb op.natAbs h1 (by omega)
  have e1 : (gI s.L op.natAbs).toNat < s.R.length := by rw [w.lR]; omega
  have e2 : (gI s.R op.natAbs).toNat < s.L.length := by rw [w.lL]; omega
  refine ⟨w.n60, ?_, ?_, ?_, fun v hv => ?_, fun v hv hv2 => ?_⟩
  · show (s.R.set _ _).length = _
    rw [List.length_set]
    exact w.lR
  · show (s.L.set _ _).length = _
    rw [List.length_set]
    exact w.lL
  · show (s.O.set _ _).length = _
    rw [List.length_set]
    exact w.lO
  · show (v : Int) < gI (s.R.set _ _) v ∧ gI (s.R.set _ _) v ≤ (s.n : Int) + 1
    rw [gI_set e1]
    by_cases e : v = (gI s.L op.natAbs).toNat
    · rw [if_pos e]
      by_cases o : op < 0
      · rw [if_pos o]
        omega
      · rw [if_neg o]
        omega
    · rw [if_neg e]
      exact w.rb v hv
  · show 0 ≤ gI (s.L.set _ _) v ∧ gI (s.L.set _ _) v < (v : Int)
    rw [gI_set e2]
    by_cases e : v = (gI s.R op.natAbs).toNat
    · rw [if_pos e]
      by_cases o : op < 0
      · rw [if_pos o]
        omega
      · rw [if_neg o]
        omega
    · rw [if_neg e]
      exact w.lb v hv hv2
/-- its own links stay -/
theorem step_R {s : Sd} (w : Wf s) {op : Int} (h : IsOp s.n op) : gI (stepS s op).R op.natAbs = gI s.R op.natAbs := by
  obtain ⟨l1, l2⟩ := w.lb op.natAbs h.1 (by have := h.2; omega)
  show gI (s.R.set _ _) _ = _
  rw [gI_set (by rw [w.lR]; have := h.2; omega), if_neg (by omega)]
theorem step_L {s : Sd} (w : Wf s) {op : Int} (h : IsOp s.n op) : gI (stepS s op).L op.natAbs = gI s.L op.natAbs := by
  obtain ⟨l1, l2⟩ := w.rb op.natAbs (by have := h.2; omega)
  show gI (s.L.set _ _) _ = _
  rw [gI_set (by rw [w.lL]; omega), if_neg (by omega)]
/-- a, a + 1, .. n of them -/
def rgI (a : Int) (n : Nat) : List Int := (List.range n).map fun (i : Nat) => a + (i : Int)
theorem rgI_len (a : Int) (n : Nat) : (rgI a n).length = n := by simp [rgI]
def wholeS (n : Nat) : Sd := ⟨n, rgI 1 (n + 1), 0 :: rgI 0 (n + 1), List.replicate (n + 2) false⟩
theorem gI_range {n i : Nat} {a : Int} (h : i < n) : gI (rgI a n) i = a + (i : Int) := by
  refine gI_of ?_
  unfold rgI
  rw [List.getElem?_map, List.getElem?_range h] <;> rfl
theorem Wf.whole {n : Nat} (h : n ≤ 60) : Wf (wholeS n) := by
  refine ⟨h, rgI_len _ _, congrArg Nat.succ (rgI_len _ _), List.length_replicate, fun v hv => ?_, fun v h1 h2 => ?_⟩
  · show (v : Int) < gI (rgI 1 (n + 1)) v ∧ gI (rgI 1 (n + 1)) v ≤ (n : Int) + 1
    have hv' : v ≤ n := hv
    rw [gI_range (by omega)]
    omega
  · show 0 ≤ gI (0 :: rgI 0 (n + 1)) v ∧ gI (0 :: rgI 0 (n + 1)) v < (v : Int)
    have h2' : v ≤ n + 1 := h2
    obtain ⟨u, rfl⟩ : ∃ u, v = u + 1 := ⟨v - 1, by omega⟩
    have e : gI (0 :: rgI 0 (n + 1)) (u + 1) = gI (rgI 0 (n + 1)) u := rfl
    rw [e, gI_range (by omega)]
    omega
theorem snoc_ind {α : Type} {P : List α → Prop} (h0 : P []) (h1 : ∀ l x, P l → P (l ++ [x])) (l : List α) : P l := by
  have key : ∀ r : List α, P r.reverse := by
    intro r
    induction r with
    | nil => exact h0
    | cons x r ih =>
      rw [List.reverse_cons]
      exact h1 _ _ ih
  have e := key l.reverse
  rwa [List.reverse_reverse] at e
def runS (s : Sd) (log : List Int) : Sd := log.foldl stepS s
theorem runS_snoc (s : Sd) (log : List Int) (op : Int) : runS s (log ++ [op]) = stepS (runS s log) op := by
  unfold runS
  rw [List.foldl_append] <;> rfl
theorem stepS_n (s : Sd) (op : Int) : (stepS s op).n = s.n := rfl
theorem runS_n (s : Sd) : ∀ log : List Int, (runS s log).n = s.n := by
  intro log
  induction log using snoc_ind with
  | h0 => rfl
  | h1 l x ih => rw [runS_snoc]; exact ih
/-- every operation is legal in turn -/
def Leg (s : Sd) (log : List Int) : Prop := ∀ i op, log[i]? = some op → OkOp (runS s (log.take i)) op
theorem Leg.snoc {s : Sd} {log : List Int} {op : Int} (h : Leg s log) (o : OkOp (runS s log) op) : Leg s (log ++ [op]) := by
  intro i p hp
  by_cases hi : i < log.length
  · rw [List.getElem?_append_left hi] at hp
    rw [List.take_append_of_le_length (by omega)]
    exact h i p hp
  · rw [List.getElem?_append_right (by omega)] at hp
    have e : i = log.length := by
      have := (List.getElem?_eq_some_iff.mp hp).1
      simp at this
      omega
    subst e
    have : p = op := by simpa using hp.symm
    subst this
    rw [List.take_left']
    · exact o
    · rfl
theorem Leg.take {s : Sd} {log : List Int} (h : Leg s log) (k : Nat) : Leg s (log.take k) := by
  intro i op hp
  have hi : i < (log.take k).length := (List.getElem?_eq_some_iff.mp hp).1
  rw [List.length_take] at hi
  rw [List.getElem?_take_of_lt (by omega)] at hp
  rw [List.take_take, Nat.min_eq_left (by omega)]
  exact h i op hp
theorem Leg.wf {s : Sd} (w : Wf s) : ∀ {log : List Int}, Leg s log → Wf (runS s log) := by
  intro log
  induction log using snoc_ind with
  | h0 => exact fun _ => w
  | h1 l x ih =>
    intro h
    have h1 : Leg s l := by
      have := h.take l.length
      rwa [List.take_left' rfl] at this
    have h2 := h l.length x (by simp)
    rw [List.take_left' rfl] at h2
    rw [runS_snoc]
    exact (ih h1).step h2.1
end G

set_option Elab.async false
set_option linter.all false
set_option maxRecDepth 100000
set_option maxHeartbeats 4000000
/-! What the program's own defs promise: standings, logs, gaps. -/
namespace G
open PySem PySem.Spec PyProof.Rows L2

/-! ### a standing in the heap -/
def fl (n r l o : V) : List (Str × V) := putF "_out" o (putF "_lefts" l (putF "_rights" r (putF "size" n [])))
theorem n1 : ¬ (("size" : Str) = "_rights") := by decide +kernel
theorem n2 : ¬ (("size" : Str) = "_lefts") := by decide +kernel
theorem n3 : ¬ (("size" : Str) = "_out") := by decide +kernel
theorem n4 : ¬ (("_rights" : Str) = "_lefts") := by decide +kernel
theorem n5 : ¬ (("_rights" : Str) = "_out") := by decide +kernel
theorem n6 : ¬ (("_lefts" : Str) = "_out") := by decide +kernel
theorem fl_size (n r l o : V) : (fl n r l o).lookup ("size" : Str) = some n := by
  unfold fl
  rw [lookup_putF, if_neg n3, lookup_putF, if_neg n2, lookup_putF, if_neg n1, lookup_putF, if_pos rfl]
theorem fl_R (n r l o : V) : (fl n r l o).lookup ("_rights" : Str) = some r := by
  unfold fl
  rw [lookup_putF, if_neg n5, lookup_putF, if_neg n4, lookup_putF, if_pos rfl]
theorem fl_L (n r l o : V) : (fl n r l o).lookup ("_lefts" : Str) = some l := by
  unfold fl
  rw [lookup_putF, if_neg n6, lookup_putF, if_pos rfl]
theorem fl_O (n r l o : V) : (fl n r l o).lookup ("_out" : Str) = some o := by
  unfold fl
  rw [lookup_putF, if_pos rfl]
theorem fl_no {m : Str} (n r l o : V) (h1 : ¬ m = "size") (h2 : ¬ m = "_rights") (h3 : ¬ m = "_lefts") (h4 : ¬ m = "_out") : (fl n r l o).lookup m = none := by
  unfold fl
  rw [lookup_putF, if_neg h4, lookup_putF, if_neg h3, lookup_putF, if_neg h2, lookup_putF, if_neg h1]
  rfl
theorem fl_eq (n r l o : V) : fl n r l o = [(("size" : Str), n), ("_rights", r), ("_lefts", l), ("_out", o)] := by
  unfold fl
  simp only [putF, if_neg n1, if_neg n2, if_neg n3, if_neg n4, if_neg n5, if_neg n6]
theorem fl_len (n r l o : V) : (fl n r l o).length < 1000 := by
  rw [fl_eq]
  show 4 < 1000
  decide
theorem fl_putR (n r l o r2 : V) : putF "_rights" r2 (fl n r l o) = fl n r2 l o := by
  rw [fl_eq, fl_eq]
  simp only [putF]
  rw [if_neg n1, if_pos trivial]
theorem fl_putL (n r l o l2 : V) : putF "_lefts" l2 (fl n r l o) = fl n r l2 o := by
  rw [fl_eq, fl_eq]
  simp only [putF]
  rw [if_neg n2, if_neg n4, if_pos trivial]
theorem fl_putO (n r l o o2 : V) : putF "_out" o2 (fl n r l o) = fl n r l o2 := by
  rw [fl_eq, fl_eq]
  simp only [putF]
  rw [if_neg n3, if_neg n5, if_neg n6, if_pos trivial]
structure LinksAt (K : PySem.W.Frag) (H : Hp) (p r l o : Addr) (s : Sd) : Prop where
  ob : ∃ dx, H p = some (.ins (He.ga K "Links") dx (fl (.int s.n) (.ref r) (.ref l) (.ref o)))
  hr : H r = some (.lst (s.R.map V.int))
  hl : H l = some (.lst (s.L.map V.int))
  ho : H o = some (.lst (s.O.map V.bl))
  rl : r ≠ l
  ro : r ≠ o
  lo : l ≠ o
  wf : Wf s
theorem LinksAt.pr {K : PySem.W.Frag} {H : Hp} {p r l o : Addr} {s : Sd} (a : LinksAt K H p r l o s) : p ≠ r ∧ p ≠ l ∧ p ≠ o := by
  obtain ⟨dx, h⟩ := a.ob
  exact ⟨ne_of h a.hr (by intro z; cases z), ne_of h a.hl (by intro z; cases z), ne_of h a.ho (by intro z; cases z)⟩
theorem LinksAt.kp {K : PySem.W.Frag} {H H' : Hp} {p r l o : Addr} {s : Sd} {S : List Addr} (a : LinksAt K H p r l o s) (k : Kp S H H') (h1 : p ∉ S) (h2 : r ∉ S) (h3 : l ∉ S) (h4 : o ∉ S) : LinksAt K H' p r l o s := by
  obtain ⟨dx, h⟩ := a.ob
  exact ⟨⟨dx, k _ _ h1 h⟩, k _ _ h2 a.hr, k _ _ h3 a.hl, k _ _ h4 a.ho, a.rl, a.ro, a.lo, a.wf⟩
theorem LinksAt.k0 {K : PySem.W.Frag} {H H' : Hp} {p r l o : Addr} {s : Sd} (a : LinksAt K H p r l o s) (k : Kp [] H H') : LinksAt K H' p r l o s := a.kp k (by simp) (by simp) (by simp) (by simp)

/-! ### errors -/
/-- an error of the class x leaves, new, with these fields -/
def Ex (K : PySem.W.Frag) (x : Str) (fs : List (Str × V)) (E : XK) (H : Hp) : Prop := ∀ d, H d = none → E (.ref (He.ga K x)) (some d) (upd H d (.xd fs))
def OpE (K : PySem.W.Frag) (n : Nat) (op : Int) (i : Int) (E : XK) (H : Hp) : Prop := Ex K (if IsOp n op then "Illegal" else "BadOperation") [("index", .int i), ("operation", .int op)] E H
/-- .. the first wrong operation of a log -/
def LogE (K : PySem.W.Frag) (s : Sd) (log : List Int) (E : XK) (H : Hp) : Prop := ∀ (i : Nat) (op : Int), log[i]? = some op → Leg s (log.take i) → ¬ OkOp (runS s (log.take i)) op → ∀ H', Kp [] H H' → OpE K s.n op i E H'
def SizeOk (size : Int) : Prop := 0 ≤ size ∧ size ≤ 60
instance (size : Int) : Decidable (SizeOk size) := by unfold SizeOk; infer_instance

/-! ### gaps -/
def stT (s : Sd) (v : Nat) : Str := if gI s.R v = (v : Int) + 1 then (if gI s.L (v + 1) = (v : Int) then "joined" else "left") else (if gI s.L (v + 1) = (v : Int) then "right" else "lost")
def lostL (s : Sd) : List Nat := (List.range (s.n + 1)).filter fun v => decide (stT s v = "lost")

/-! ### promises -/
section
variable (K : PySem.W.Frag)
def sp_check_size : Sp := fun vs H Q E => ∃ size : Int, vs = [.int size] ∧ (SizeOk size → Q .non H) ∧ (¬ SizeOk size → Ex K "BadSize" [("size", .int size)] E H)
def sp_check_operation : Sp := fun vs H Q E => ∃ (n : Nat) (op i : Int), vs = [.int n, .int op, .int i] ∧ (IsOp n op → Q .non H) ∧ (¬ IsOp n op → Ex K "BadOperation" [("index", .int i), ("operation", .int op)] E H)
def sp_check_gap : Sp := fun vs H Q E => ∃ (n : Nat) (g : Int), vs = [.int n, .int g] ∧ (0 ≤ g ∧ g ≤ n → Q .non H) ∧ (¬ (0 ≤ g ∧ g ≤ n) → Ex K "BadGap" [("gap", .int g)] E H)
def sp_Links___init__ : Sp := fun vs H Q E => ∃ (p dx : Addr) (size : Int), vs = [.ref p, .int size] ∧ H p = some (.ins (He.ga K "Links") dx []) ∧
  (SizeOk size → ∀ (r l o : Addr) (H' : Hp), H r = none → H l = none → H o = none → Kp [p] H H' → LinksAt K H' p r l o (wholeS size.toNat) → Q .non H') ∧ (¬ SizeOk size → Ex K "BadSize" [("size", .int size)] E H)
def sp_Links_is_legal : Sp := fun vs H Q E => ∃ (p r l o : Addr) (s : Sd) (op : Int), vs = [.ref p, .int op] ∧ LinksAt K H p r l o s ∧ IsOp s.n op ∧ Q (.bl (decide (gB s.O op.natAbs = decide (0 < op)))) H
def sp_Links_check : Sp := fun vs H Q E => ∃ (p r l o : Addr) (s : Sd) (op i : Int), vs = [.ref p, .int op, .int i] ∧ LinksAt K H p r l o s ∧ (OkOp s op → Q .non H) ∧ (¬ OkOp s op → OpE K s.n op i E H)
def sp_Links_apply_at : Sp := fun vs H Q E => ∃ (p r l o : Addr) (s : Sd) (op i : Int), vs = [.ref p, .int op, .int i] ∧ LinksAt K H p r l o s ∧ (OkOp s op → ∀ H', Kp [r, l, o] H H' → LinksAt K H' p r l o (stepS s op) → Q .non H') ∧ (¬ OkOp s op → OpE K s.n op i E H)
def sp_Links_apply : Sp := fun vs H Q E => ∃ (p r l o : Addr) (s : Sd) (op : Int), vs = [.ref p, .int op] ∧ LinksAt K H p r l o s ∧ (OkOp s op → ∀ H', Kp [r, l, o] H H' → LinksAt K H' p r l o (stepS s op) → Q .non H') ∧ (¬ OkOp s op → OpE K s.n op 0 E H)
def sp_Links_left : Sp := fun vs H Q E => ∃ (p r l o : Addr) (s : Sd) (v : Nat), vs = [.ref p, .int v] ∧ LinksAt K H p r l o s ∧ 1 ≤ v ∧ v ≤ s.n + 1 ∧ Q (.int (gI s.L v)) H
def sp_Links_right : Sp := fun vs H Q E => ∃ (p r l o : Addr) (s : Sd) (v : Nat), vs = [.ref p, .int v] ∧ LinksAt K H p r l o s ∧ v ≤ s.n ∧ Q (.int (gI s.R v)) H
/-- a new standing s -/
def NewS (H : Hp) (s : Sd) (Q : VK) : Prop := ∀ (p r l o : Addr) (H' : Hp), H p = none → H r = none → H l = none → H o = none → Kp [] H H' → LinksAt K H' p r l o s → Q (.ref p) H'
def sp_Links_copy : Sp := fun vs H Q E => ∃ (p r l o : Addr) (s : Sd), vs = [.ref p] ∧ LinksAt K H p r l o s ∧ NewS K H s Q
def sp_play : Sp := fun vs H Q E => ∃ (p r l o a : Addr) (s : Sd) (log : List Int), vs = [.ref p, .ref a] ∧ LinksAt K H p r l o s ∧ SqL K H a (log.map V.int) ∧ (Leg s log → NewS K H (runS s log) Q) ∧ LogE K s log E H
def sp_replay : Sp := fun vs H Q E => ∃ (a : Addr) (size : Int) (log : List Int), vs = [.int size, .ref a] ∧ SqL K H a (log.map V.int) ∧ (SizeOk size → Leg (wholeS size.toNat) log → NewS K H (runS (wholeS size.toNat) log) Q) ∧
  (SizeOk size → LogE K (wholeS size.toNat) log E H) ∧ (¬ SizeOk size → ∀ H', Kp [] H H' → Ex K "BadSize" [("size", .int size)] E H')
def sp_gap_state : Sp := fun vs H Q E => ∃ (p r l o : Addr) (s : Sd) (g : Int), vs = [.ref p, .int g] ∧ LinksAt K H p r l o s ∧ (0 ≤ g ∧ g ≤ s.n → Q (.str (stT s g.toNat)) H) ∧ (¬ (0 ≤ g ∧ g ≤ s.n) → Ex K "BadGap" [("gap", .int g)] E H)
def sp_gap_states : Sp := fun vs H Q E => ∃ (p r l o : Addr) (s : Sd), vs = [.ref p] ∧ LinksAt K H p r l o s ∧ ∀ (q : Addr) (H' : Hp), H q = none → Kp [] H H' → H' q = some (.lst ((List.range (s.n + 1)).map fun (v : Nat) => V.str (stT s v))) → Q (.ref q) H'
def sp_lost_gaps : Sp := fun vs H Q E => ∃ (p r l o : Addr) (s : Sd), vs = [.ref p] ∧ LinksAt K H p r l o s ∧ ∀ (q : Addr) (H' : Hp), H q = none → Kp [] H H' → H' q = some (.lst ((lostL s).map fun (v : Nat) => V.int (v : Int))) → Q (.ref q) H'
end
end G

set_option Elab.async false
set_option linter.all false
set_option maxRecDepth 100000
set_option maxHeartbeats 4000000
/-! More steps. -/
namespace G
open PySem PySem.Spec PyProof.Rows L2
section
variable {K : PySem.W.Frag} {σ : L2.St} {H : Hp} {Q : VK} {ta tb tc te : TE} {x y v : V} {D : Ends} {tl : TA} {i j : Int} {n m : Nat} {p q : Addr} {xs ys : List V} {A B : Prop}
theorem w_tT (a : A) : if true = true then A else B := iteT a
theorem w_tF (b : B) : if false = true then A else B := iteF b
theorem w_nT (a : A) : if (!false) = true then A else B := iteT a
theorem w_nF (b : B) : if (!true) = true then A else B := iteF b
theorem w_rz {C : Addr} {fs : List Str} {W : WX} (g : tl σ H fun us H1 => us.length = fs.length ∧ us.length ≤ 1000 ∧ ∀ d, H1 d = none → W (.ref C) (some d) σ (upd H1 d (.xd (fs.zip us).reverse))) : tRz C fs W tl D σ H := g
theorem w_mk {C : Addr} {sp : Sp} {E : L2.St → XK} (g : tl σ H fun vs H1 => ∀ x dx, H1 x = none → H1 dx = none → dx ≠ x → sp (.ref x :: vs) (upd (upd H1 dx (.own x)) x (.ins C dx [])) (fun v H2 => v = .non ∧ Q (.ref x) H2) (E σ)) : tMk C sp E tl σ H Q := g
theorem w_lrg {t : L2.St → Hp → (Int → Int → Hp → Prop) → Prop} (g : t σ H fun a b H1 => RgOk a b ∧ ∀ q, H1 q = none → Q (.ref q) (upd H1 q (.lst (rgV a b)))) : tLstRg t σ H Q := g
theorem w_rg1 {R : Int → Int → Hp → Prop} (g : te σ H fun x H1 => ∃ n, x = .int n ∧ R 0 n H1) : tRg1 te σ H R := g
theorem w_rg2 {R : Int → Int → Hp → Prop} (g : ta σ H fun x H1 => tb σ H1 fun y H2 => ∃ i j, x = .int i ∧ y = .int j ∧ R i j H2) : tRg2 ta tb σ H R := g
theorem w_n1 {R : Int → Prop} (g : R i) : ∃ n, V.int i = .int n ∧ R n := ⟨i, rfl, g⟩
theorem w_n2 {R : Int → Int → Prop} (g : R i j) : ∃ a b, V.int i = .int a ∧ V.int j = .int b ∧ R a b := ⟨i, j, rfl, rfl, g⟩
theorem w_sl {r : V → Option Int → Option Int → Hp → VK → Prop} {tlo thi : TO} (g : te σ H fun x H1 => tlo σ H1 fun l H2 => thi σ H2 fun u H3 => r x l u H3 Q) : tSl r te tlo thi σ H Q := g
theorem w_np {R : Option Int → Hp → Prop} (g : R none H) : tNoPart σ H R := g
theorem w_pt {R : Option Int → Hp → Prop} (g : te σ H fun x H1 => ∃ i, x = .int i ∧ R (some i) H1) : tPart te σ H R := g
theorem w_tr {R : Bool → Hp → Prop} (g : te σ H fun x H' => ∃ k, TruV K x H' k ∧ R k H') : tTr K te σ H R := g
theorem w_truL {R : Bool → Prop} (h : SqL K H p xs) (g : R (!xs.isEmpty)) : ∃ k, TruV K (.ref p) H k ∧ R k := ⟨_, .inl ⟨xs, h, rfl⟩, g⟩
theorem w_gn {k : Nat} {R : L2.St → Hp → Prop} (g : R (σ.set k (some v)) H) : gName k v σ H R := g
theorem w_g2 {T : Addr} {g1 g2 : TG} {R : L2.St → Hp → Prop} (h : SqT K H T [x, y]) (g : g1 x σ H fun σ1 H1 => g2 y σ1 H1 R) : gTup K 2 (gCons g1 (gCons g2 gNil)) (.ref T) σ H R :=
  ⟨T, [x, y], rfl, h, rfl, x, [y], rfl, by
    show g1 x σ H _
    exact (funext fun σ1 => funext fun H1 => propext ⟨fun z => ⟨y, [], rfl, by
      show g2 y σ1 H1 _
      exact (funext fun σ2 => funext fun H2 => propext ⟨fun z => ⟨rfl, z⟩, fun z => z.2⟩ : R = fun σ2 H2 => ([] : List V) = [] ∧ R σ2 H2) ▸ z⟩, fun ⟨v, r, e, z⟩ => by
      injection e with e1 e2
      subst e1 e2
      exact (funext fun σ2 => funext fun H2 => propext ⟨fun z => z.2, fun z => ⟨rfl, z⟩⟩ : (fun σ2 H2 => ([] : List V) = [] ∧ R σ2 H2) = R) ▸ z⟩ : (fun σ1 H1 => g2 y σ1 H1 R) = fun σ1 H1 => gCons g2 gNil [y] σ1 H1 R) ▸ g⟩
theorem w_g1 {g1 : TG} {R : L2.St → Hp → Prop} (g : g1 x σ H R) : gCons g1 gNil [x] σ H R := ⟨x, [], rfl, by
  have e : (fun σ2 H2 => gNil [] σ2 H2 R) = R := funext fun σ2 => funext fun H2 => propext ⟨fun z => z.2, fun z => ⟨rfl, z⟩⟩
  rw [e]
  exact g⟩
theorem w_gc {g1 : TG} {ts : TGs} {R : L2.St → Hp → Prop} (g : g1 x σ H fun σ1 H1 => ts (y :: xs) σ1 H1 R) : gCons g1 ts (x :: y :: xs) σ H R := ⟨x, y :: xs, rfl, g⟩
theorem w_gt {T : Addr} {k : Nat} {ts : TGs} {R : L2.St → Hp → Prop} (h : SqT K H T xs) (hl : xs.length = k) (g : ts xs σ H R) : gTup K k ts (.ref T) σ H R := ⟨T, xs, rfl, h, hl, g⟩
/-- a new object: the heap goes on under a name -/
def NwU (o : HO) (H : Hp) (Q : VK) : Prop := ∀ q, H q = none → Q (.ref q) (upd H q o)
theorem nw {o : HO} (g : ∀ q H', H q = none → Kp [] H H' → H' q = some o → Q (.ref q) H') : NwU o H Q := fun q n => g q _ n (Kp.new n) upd_same
theorem nwu {o : HO} (g : ∀ q, H q = none → Q (.ref q) (upd H q o)) : NwU o H Q := g
theorem w_lstN (g : tl σ H fun xs H1 => xs.length ≤ sizeLine ∧ NwU (.lst xs) H1 Q) : tLst tl σ H Q := g
theorem w_tupN (g : tl σ H fun xs H1 => xs.length ≤ sizeLine ∧ NwU (.tup xs) H1 Q) : tTup tl σ H Q := g
theorem w_lrgN {t : L2.St → Hp → (Int → Int → Hp → Prop) → Prop} (g : t σ H fun a b H1 => RgOk a b ∧ NwU (.lst (rgV a b)) H1 Q) : tLstRg t σ H Q := g
theorem w_addLN (h1 : H p = some (.lst xs)) (h2 : H q = some (.lst ys)) (h : xs.length + ys.length ≤ sizeLine) (g : ∀ r H', H r = none → Kp [] H H' → H' r = some (.lst (xs ++ ys)) → Q (.ref r) H') : rAddA (.ref p) (.ref q) H Q := w_addL h1 h2 h (nw g)
theorem w_mulLN (h1 : H p = some (.lst xs)) (h2 : -(2 ^ 63) ≤ j) (h3 : j < 2 ^ 63) (h : xs.length * j.toNat ≤ sizeLine) (g : ∀ r H', H r = none → Kp [] H H' → H' r = some (.lst (List.replicate j.toNat xs).flatten) → Q (.ref r) H') : rMulA (.ref p) (.int j) H Q := w_mulL h1 h2 h3 h (nw g)
theorem w_listLN (h : SqL K H p xs) (g : ∀ l H', H l = none → Kp [] H H' → H' l = some (.lst xs) → Q (.ref l) H') : rListA K [.ref p] H Q := w_listL h (nw g)
theorem w_listTN (h : SqT K H p xs) (g : ∀ l H', H l = none → Kp [] H H' → H' l = some (.lst xs) → Q (.ref l) H') : rListA K [.ref p] H Q := w_listT h (nw g)
theorem w_sT {C dx : Addr} {fs : List (Str × V)} {f : Str} {R : Hp → Prop} {v : V} (cl : Cls K C) (na : NoAttr K C f) (h : H p = some (.ins C dx fs)) (hl : fs.length < 1000) (g : ∀ H', Kp [p] H H' → H' p = some (.ins C dx (putF f v fs)) → R H') :
    ∃ a C dx fs, V.ref p = .ref a ∧ H a = some (.ins C dx fs) ∧ Cls K C ∧ NoAttr K C f ∧ fs.length < 1000 ∧ R (upd H a (.ins C dx (putF f v fs))) := ⟨p, C, dx, fs, rfl, h, cl, na, hl, g _ (Kp.put (by simp)) upd_same⟩
theorem w_seT {R : Hp → Prop} (h : H p = some (.lst xs)) (ha : ixN xs.length i = some n) (g : ∀ H', Kp [p] H H' → H' p = some (.lst (xs.set n v)) → R H') : rSetL (.ref p) (.int i) v H R := w_setL h ha (g _ (Kp.put (by simp)) upd_same)
theorem w_apT (h : H p = some (.lst xs)) (hl : xs.length < sizeLine) (g : ∀ H', Kp [p] H H' → H' p = some (.lst (xs ++ [v])) → Q .non H') : rAppend (.ref p) [v] H Q := w_append h hl (g _ (Kp.put (by simp)) upd_same)
/-- an object of a class, made: its dict, the object -/
def MkU (C : Addr) (sp : Sp) (E : XK) (vs : List V) (H : Hp) (Q : VK) : Prop := ∀ x dx, H x = none → H dx = none → dx ≠ x → sp (.ref x :: vs) (upd (upd H dx (.own x)) x (.ins C dx [])) (fun v H2 => v = .non ∧ Q (.ref x) H2) E
theorem w_mkN {C : Addr} {sp : Sp} {E : L2.St → XK} (g : tl σ H fun vs H1 => MkU C sp (E σ) vs H1 Q) : tMk C sp E tl σ H Q := g
theorem mk {C : Addr} {sp : Sp} {E : XK} {vs : List V} (g : ∀ x dx H', H x = none → H' x = some (.ins C dx []) → Kp [] H H' → sp (.ref x :: vs) H' (fun v H2 => v = .non ∧ Q (.ref x) H2) E) : MkU C sp E vs H Q :=
  fun x dx n1 n2 ne => g x dx _ n1 upd_same ((Kp.new n2).trans (Kp.new (by rw [upd_ne (Ne.symm ne)]; exact n1)))
theorem w_r1 {R : Int → Prop} {n : Int} (h : -(2 ^ 62) ≤ n ∧ n < 2 ^ 62) (g : R n) : ∃ j : Int, [V.int n] = [.int j] ∧ -(2 ^ 62) ≤ j ∧ j < 2 ^ 62 ∧ R j := ⟨n, rfl, h.1, h.2, g⟩
theorem w_r2 {R : Int → Int → Prop} {a b : Int} (h : -(2 ^ 62) ≤ a ∧ a < 2 ^ 62 ∧ -(2 ^ 62) ≤ b ∧ b < 2 ^ 62) (g : R a b) : ∃ i j : Int, [V.int a, V.int b] = [.int i, .int j] ∧ (-(2 ^ 62) ≤ i ∧ i < 2 ^ 62 ∧ -(2 ^ 62) ≤ j ∧ j < 2 ^ 62) ∧ R i j := ⟨a, b, rfl, h, g⟩
theorem w_yes {R : Bool → Hp → Prop} (g : R true H) : tYes σ H R := g
theorem ref_ne : V.ref p ≠ .non := fun z => by cases z
theorem int_ne : V.int i ≠ .non := fun z => by cases z
theorem at_0 : atI (x :: xs) 0 = some x := by
  rw [atI_pos (by omega) (by rw [List.length_cons]; omega)] <;> rfl
theorem w_l1 {R : Addr → Prop} (h : SqL K H p xs) (g : R p) : ∃ a, V.ref p = .ref a ∧ (∃ xs, SqL K H a xs) ∧ R a := ⟨p, rfl, ⟨xs, h⟩, g⟩
/-- a field of a standing -/
theorem w_fR {r l o : Addr} {s : Sd} {R : V → Prop} (cl : Cls K (He.ga K "Links")) (na : NoAttr K (He.ga K "Links") "_rights") (a : LinksAt K H p r l o s) (g : R (.ref r)) :
    ∃ a C dx fs v, V.ref p = .ref a ∧ H a = some (.ins C dx fs) ∧ Cls K C ∧ NoAttr K C "_rights" ∧ fs.lookup ("_rights" : Str) = some v ∧ R v := by
  obtain ⟨dx, h⟩ := a.ob
  exact ⟨p, _, dx, _, _, rfl, h, cl, na, fl_R _ _ _ _, g⟩
theorem w_fL {r l o : Addr} {s : Sd} {R : V → Prop} (cl : Cls K (He.ga K "Links")) (na : NoAttr K (He.ga K "Links") "_lefts") (a : LinksAt K H p r l o s) (g : R (.ref l)) :
    ∃ a C dx fs v, V.ref p = .ref a ∧ H a = some (.ins C dx fs) ∧ Cls K C ∧ NoAttr K C "_lefts" ∧ fs.lookup ("_lefts" : Str) = some v ∧ R v := by
  obtain ⟨dx, h⟩ := a.ob
  exact ⟨p, _, dx, _, _, rfl, h, cl, na, fl_L _ _ _ _, g⟩
theorem w_fO {r l o : Addr} {s : Sd} {R : V → Prop} (cl : Cls K (He.ga K "Links")) (na : NoAttr K (He.ga K "Links") "_out") (a : LinksAt K H p r l o s) (g : R (.ref o)) :
    ∃ a C dx fs v, V.ref p = .ref a ∧ H a = some (.ins C dx fs) ∧ Cls K C ∧ NoAttr K C "_out" ∧ fs.lookup ("_out" : Str) = some v ∧ R v := by
  obtain ⟨dx, h⟩ := a.ob
  exact ⟨p, _, dx, _, _, rfl, h, cl, na, fl_O _ _ _ _, g⟩
theorem w_fS {r l o : Addr} {s : Sd} {R : V → Prop} (cl : Cls K (He.ga K "Links")) (na : NoAttr K (He.ga K "Links") "size") (a : LinksAt K H p r l o s) (g : R (.int s.n)) :
    ∃ a C dx fs v, V.ref p = .ref a ∧ H a = some (.ins C dx fs) ∧ Cls K C ∧ NoAttr K C "size" ∧ fs.lookup ("size" : Str) = some v ∧ R v := by
  obtain ⟨dx, h⟩ := a.ob
  exact ⟨p, _, dx, _, _, rfl, h, cl, na, fl_size _ _ _ _, g⟩
/-- .. of an object with the fields of a standing -/
theorem w_oR {dx : Addr} {n r l o : V} {R : V → Prop} (cl : Cls K (He.ga K "Links")) (na : NoAttr K (He.ga K "Links") "_rights") (h : H p = some (.ins (He.ga K "Links") dx (fl n r l o))) (g : R r) :
    ∃ a C dx fs v, V.ref p = .ref a ∧ H a = some (.ins C dx fs) ∧ Cls K C ∧ NoAttr K C "_rights" ∧ fs.lookup ("_rights" : Str) = some v ∧ R v := ⟨p, _, dx, _, _, rfl, h, cl, na, fl_R _ _ _ _, g⟩
theorem w_oL {dx : Addr} {n r l o : V} {R : V → Prop} (cl : Cls K (He.ga K "Links")) (na : NoAttr K (He.ga K "Links") "_lefts") (h : H p = some (.ins (He.ga K "Links") dx (fl n r l o))) (g : R l) :
    ∃ a C dx fs v, V.ref p = .ref a ∧ H a = some (.ins C dx fs) ∧ Cls K C ∧ NoAttr K C "_lefts" ∧ fs.lookup ("_lefts" : Str) = some v ∧ R v := ⟨p, _, dx, _, _, rfl, h, cl, na, fl_L _ _ _ _, g⟩
theorem w_oO {dx : Addr} {n r l o : V} {R : V → Prop} (cl : Cls K (He.ga K "Links")) (na : NoAttr K (He.ga K "Links") "_out") (h : H p = some (.ins (He.ga K "Links") dx (fl n r l o))) (g : R o) :
    ∃ a C dx fs v, V.ref p = .ref a ∧ H a = some (.ins C dx fs) ∧ Cls K C ∧ NoAttr K C "_out" ∧ fs.lookup ("_out" : Str) = some v ∧ R v := ⟨p, _, dx, _, _, rfl, h, cl, na, fl_O _ _ _ _, g⟩
/-- a field of an object is set -/
theorem w_st {C dx : Addr} {fs : List (Str × V)} {f : Str} {R : Hp → Prop} {v : V} (cl : Cls K C) (na : NoAttr K C f) (h : H p = some (.ins C dx fs)) (hl : fs.length < 1000) (g : R (upd H p (.ins C dx (putF f v fs)))) :
    ∃ a C dx fs, V.ref p = .ref a ∧ H a = some (.ins C dx fs) ∧ Cls K C ∧ NoAttr K C f ∧ fs.length < 1000 ∧ R (upd H a (.ins C dx (putF f v fs))) := ⟨p, C, dx, fs, rfl, h, cl, na, hl, g⟩
/-- a method of a standing -/
theorem w_me {r l o : Addr} {s : Sd} {m : Str} {R : Prop} (a : LinksAt K H p r l o s) (hm : ∀ n r l o : V, (fl n r l o).lookup m = none) (g : R) : ∃ a dx fs, V.ref p = .ref a ∧ H a = some (.ins (He.ga K "Links") dx fs) ∧ fs.lookup m = none ∧ R := by
  obtain ⟨dx, h⟩ := a.ob
  exact ⟨p, dx, _, rfl, h, hm _ _ _ _, g⟩
end
/-- a method's name is none of the fields -/
theorem no_m {m : Str} (h1 : ¬ m = "size" := by decide +kernel) (h2 : ¬ m = "_rights" := by decide +kernel) (h3 : ¬ m = "_lefts" := by decide +kernel) (h4 : ¬ m = "_out" := by decide +kernel) (n r l o : V) : (fl n r l o).lookup m = none := fl_no n r l o h1 h2 h3 h4
theorem natAbs_if (i : Int) : (if i < 0 then -i else i) = (i.natAbs : Int) := by
  split <;> omega
end G

set_option Elab.async false
set_option linter.all false
set_option maxRecDepth 100000
set_option maxHeartbeats 4000000
/-! == by an own __eq__, any answer. -/
namespace G
open PySem PySem.Spec PyProof.Rows L2
section
variable {X : Cx} {j k : Nat} {ps : List Str} {sp : Sp} {E : XK} {C f : Addr} {fd : FuncData}
def rOwn (C : Addr) (sp : Sp) (E : XK) : R2 := fun x y H Q => ∃ a b dx dy fs gs, x = .ref a ∧ y = .ref b ∧ H a = some (.ins C dx fs) ∧ H b = some (.ins C dy gs) ∧ sp [.ref a, .ref b] H (fun v H' => (∃ k, v = .bl k) ∧ Q v H') E
theorem op_own (F : FnOk X.prog X.w X.K X.mg X.base (L2N.CX X.prog X.w) k f fd ps sp) (hb : Binds X.K fd ps []) (hr : Room j X.A) (hk : k ≤ j) (hx : PAt X (fun _ => E))
    (hs : PySem.W.findIn X.K (.ref C) "__eq__" = some (some (.ref f))) (hf : PySem.W.isFn X.K (.ref f) = true) : OpR X (compareOp .Eq) (rOwn C sp E) := by
  intro pins s σ H x y u v Q I rx ry hq
  obtain ⟨a, b, dx, dy, fs, gs, rfl, rfl, ha, hb', q⟩ := hq
  cases rx
  cases ry
  obtain ⟨mA, J, _⟩ := ins_get I.hok ha
  obtain ⟨mB, J', _⟩ := ins_get I.hok hb'
  obtain ⟨od, J, _⟩ := J.look
  obtain ⟨od', J', _⟩ := J'.look
  obtain ⟨m, hF⟩ := I.fr
  show wpAny (model X.prog X.w) X.A (richCompare .Eq (.ref a) (.ref b)) (EP X pins σ Q) X.xe s
  refine PySem.W.cmp_K (op := .Eq) (tb := .ref C) hr.units0 hF I.ok.mod.kin J J'.type (by simp [PySem.W.notFirst]) hs hf ?_
  refine wpAny_mono (run_fnS (E := fun _ => E) (us := [.ref a, .ref b]) (vs := [.ref a, .ref b]) F (hr.mono hk) hb (hx σ) I (.cons rfl (.cons rfl .nil)) q) (fun r s' z => ?_) fun _ _ x => x
  obtain ⟨w, H', I', rw_, ⟨kk, rfl⟩, qq⟩ := z
  cases rw_
  exact ⟨.bl kk, H', I', rfl, qq⟩
end
end G
namespace G
open PySem PySem.Spec PyProof.Rows L2
section
variable {X : Cx} {j k : Nat} {ps : List Str} {sp : Sp} {E : XK} {C : Addr}
/-- == of data, or by the own __eq__ of the class at C -/
def rEqO (K : PySem.W.Frag) (C : Addr) (sp : Sp) (E : XK) : R2 := fun x y H Q => rEqA K x y H Q ∨ rOwn C sp E x y H Q
theorem op_eqO {i : Nat} (c : Met X.prog X.w X.K X.mg X.base k C "__eq__" ps sp) (hr : Room j X.A) (hk : k ≤ j) (hx : PAt X (fun _ => E)) : OpR X (compareOp .Eq) (rEqO X.K C sp E) := by
  obtain ⟨f, fd, F, hm, hb⟩ := c.ex
  exact OpR.or (op_eqA hr) (op_own F hb hr hk hx hm.at_ hm.fn)
end
end G
namespace G
open PySem PySem.Spec PyProof.Rows L2
/-- isinstance of an instance of an own class -/
def tyB (x : Str) (K : PySem.W.Frag) : Bool := He.eqO (PySem.W.findIn K (.ref (He.ga K x)) "__class__") (some (some (.builtin "object.__class__"))) && eqT (PySem.W.mroIn K (He.ga K x) (.type "object")) (some true)
theorem tyB_ok {x : Str} {K : PySem.W.Frag} (q : tyB x K = true) : PySem.W.findIn K (.ref (He.ga K x)) "__class__" = some (some (.builtin "object.__class__")) ∧ PySem.W.mroIn K (He.ga K x) (.type "object") = some true := by
  obtain ⟨q1, q2⟩ := He.ba q
  exact ⟨He.eqO_ok q1, of_decide_eq_true q2⟩
end G

set_option Elab.async false
set_option linter.all false
set_option maxRecDepth 100000
set_option maxHeartbeats 4000000
/-! More built-ins: str, tuple, is True, pop, insert, extend. -/
namespace G
open PySem PySem.Spec PyProof.Rows L2
def rStrA : List V → Hp → VK → Prop := fun xs H Q => ∃ i, xs = [.int i] ∧ i.natAbs.log2 < 1920 ∧ Q (.str (toString i)) H
def rTupA (K : PySem.W.Frag) : List V → Hp → VK → Prop := fun xs H Q => ∃ p ys, xs = [.ref p] ∧ ((SqL K H p ys ∧ ∀ l, H l = none → Q (.ref l) (upd H l (.tup ys))) ∨ (SqT K H p ys ∧ Q (.ref p) H))
/-- x is True, x is False, of a truth value -/
def rIsB (neg : Bool) : R2 := fun x y H Q => ∃ b c, x = .bl b ∧ y = .bl c ∧ Q (.bl (neg != decide (b = c))) H
section
variable {X : Cx}
theorem call_strA : CallR X (.type "str") rStrA := call_str_int
theorem call_tupA : CallR X (.type "tuple") (rTupA X.K) := call_tuple_of
theorem op_isB : OpR X (compareOp .Is) (rIsB false) := by
  intro pins s σ H x y v u Q I rx ry h
  obtain ⟨b, c, rfl, rfl, q⟩ := h
  cases rx
  cases ry
  show wpAny _ _ ((isSame (Value.bool b) (Value.bool c)) >>= fun z => pure (Value.bool z)) _ _ s
  refine wpAny_bind (wpAny_isSame_plain rfl (wpAny_pure (fin_bl I q ?_)))
  cases b <;> cases c <;> rfl
theorem op_isnotB : OpR X (compareOp .IsNot) (rIsB true) := by
  intro pins s σ H x y v u Q I rx ry h
  obtain ⟨b, c, rfl, rfl, q⟩ := h
  cases rx
  cases ry
  show wpAny _ _ ((isSame (Value.bool b) (Value.bool c)) >>= fun z => pure (Value.bool (!z))) _ _ s
  refine wpAny_bind (wpAny_isSame_plain rfl (wpAny_pure (fin_bl I q ?_)))
  cases b <;> cases c <;> rfl
end
section
variable {K : PySem.W.Frag} {σ : L2.St} {H : Hp} {Q : VK} {ta tb tc te : TE} {x y v : V} {i j : Int} {n m : Nat} {p q : Addr} {xs ys : List V} {b c : Bool}
theorem w_str (h : i.natAbs.log2 < 1920) (g : Q (.str (toString i)) H) : rStrA [.int i] H Q := ⟨i, rfl, h, g⟩
theorem w_tuA (h : SqL K H p xs) (g : ∀ l H', H l = none → Kp [] H H' → H' l = some (.tup xs) → Q (.ref l) H') : rTupA K [.ref p] H Q := ⟨p, xs, rfl, .inl ⟨h, nw g⟩⟩
theorem w_isB (g : Q (.bl (decide (b = c))) H) : rIsB false (.bl b) (.bl c) H Q := ⟨b, c, rfl, rfl, by
  have e : (false != decide (b = c)) = decide (b = c) := by cases decide (b = c) <;> rfl
  rw [e]; exact g⟩
theorem w_isnB (g : Q (.bl (!decide (b = c))) H) : rIsB true (.bl b) (.bl c) H Q := ⟨b, c, rfl, rfl, by
  have e : (true != decide (b = c)) = !decide (b = c) := by cases decide (b = c) <;> rfl
  rw [e]; exact g⟩
theorem w_pop (h : H p = some (.lst xs)) (hy : xs[xs.length - 1]? = some y) (g : ∀ H', Kp [p] H H' → H' p = some (.lst xs.dropLast) → Q y H') : rPop (.ref p) [] H Q := ⟨p, xs, y, rfl, rfl, h, hy, g _ (Kp.put (by simp)) upd_same⟩
theorem w_popAt {k : Nat} (h : H p = some (.lst xs)) (h1 : -(2 ^ 63) ≤ i) (h2 : i < 2 ^ 63) (hk : seqIndex? i xs.length = some k) (hy : xs[k]? = some y) (g : ∀ H', Kp [p] H H' → H' p = some (.lst (xs.eraseIdx k)) → Q y H') : rPopAt (.ref p) [.int i] H Q :=
  ⟨p, xs, i, k, y, rfl, rfl, h, h1, h2, hk, hy, g _ (Kp.put (by simp)) upd_same⟩
theorem w_inL {neg : Bool} (h : SqL K H p xs) (hx : flatV x = true) (ha : xs.all flatV = true) (g : Q (.bl (if neg then !inV x xs else inV x xs)) H) : rIn K neg x (.ref p) H Q := ⟨p, xs, rfl, .inl h, hx, ha, g⟩
theorem w_inT {neg : Bool} (h : SqT K H p xs) (hx : flatV x = true) (ha : xs.all flatV = true) (g : Q (.bl (if neg then !inV x xs else inV x xs)) H) : rIn K neg x (.ref p) H Q := ⟨p, xs, rfl, .inr h, hx, ha, g⟩
theorem flatI : ∀ l : List Int, (l.map V.int).all flatV = true
  | [] => rfl
  | a :: l => by rw [List.map_cons, List.all_cons, flatI l]; rfl
end
theorem strOk_of (s : String) : PyData.strOk (Str.ofString s) = true := by
  rw [Str.ofString_eq_toList]
  unfold PyData.strOk
  rw [Array.all_eq_true]
  intro i h
  have h' : i < s.toList.length := by simpa using h
  simp only [List.getElem_toArray, List.getElem_map, decide_eq_true_eq]
  have v := (s.toList[i]'h').valid
  rcases v with v | v
  · show (s.toList[i]'h').val.toNat < _
    have : (s.toList[i]'h').val.toNat < 0xd800 := v
    omega
  · exact v.2
end G

set_option Elab.async false
set_option linter.all false
set_option maxRecDepth 100000
set_option maxHeartbeats 4000000
/-! Static methods, texts, more in a handler; a head with defs at any address. -/
namespace G
open PySem PySem.Spec PyProof.Rows L2

/-! ### a static method by its class -/
structure Smt (P : Program) (w : World) (K : PySem.W.Frag) (mg : Str → Option Value) (base : Heap) (k : Nat) (C : Addr) (m : Str) (ps : List Str) (sp : Sp) : Prop where
  ex : ∃ (f p : Addr) (fd : FuncData) (rest : List Value), FnOk P w K mg base (L2N.CX P w) k f fd ps sp ∧ ClX.CRead K C (.type "type") ∧ PySem.W.findCls K (.ref C) (.type "type") m = some (.get (.builtin "staticmethod.__get__") (.ref p) .none (.ref C)) ∧
    PySem.W.recIn K p "staticmethod" = some (.ref f :: rest) ∧ PySem.W.keepIn K (.ref f) = true ∧ Binds K fd ps []
section
variable {X : Cx} {j k : Nat} {m : Str} {ps : List Str} {sp : Sp} {C : Addr} {pos apos : Pos} {e o : Expr} {es : List Expr} {t : TA} {E : L2.St → XK}
theorem pe_sm {pl : Sem Bool} (c : Smt X.prog X.w X.K X.mg X.base k C m ps sp) (hr : Room j X.A) (hk : k ≤ j) (hx : PAt X E) (he : PE X o (tC (.ref C))) (ha : PA X (e :: es) t)
    (hst : starEach (e :: es) X.env = (false, eval e X.env) :: starEach es X.env := by rfl) (hpl : (backTo pos (starEach es X.env)).any (·.1) = false := by rfl)
    (ht : eval (.Call (.Attribute o m apos) (e :: es) [] pos) X.env = (do
      let ov ← eval o X.env
      standAt apos.atName
      let (f, first) ← holding [ov] (getMethod ov m pl)
      callWith pos f first (backTo pos (starEach (e :: es) X.env)) (backToKw pos (keywordEach [] X.env))) := by rfl) : PE X (.Call (.Attribute o m apos) (e :: es) [] pos) (tCl sp E t) := by
  obtain ⟨f, p, fd, rest, F, r, e1, e2, kp, hb⟩ := c.ex
  refine ⟨fun pins s σ H Q I h => PySem.W.methodCall_KW (pl := pl) (thn (he.run pins s σ H (fun x H1 => x = V.ref C ∧ tCl sp E t σ H1 Q) I ⟨rfl, h⟩) fun u s1 hh => ?_) ht⟩
  obtain ⟨x, H1, I1, rx, ex, q⟩ := hh
  subst ex
  obtain rfl : u = Value.ref C := rx
  refine PySem.W.method_cls I1.kIn r.ga (PySem.W.cls_bind I1.kIn r.rd e1 (wpAny_call (PySem.W.sm_get (s := { s1 with toks := s1.toks + 1 }) I1.kIn e2 (PySem.W.handed_on rfl ?_))))
  have I2 := I1.tok (s1.toks + 1)
  refine PySem.W.callWith_K (first := []) (h₀ := X.base) I2.ok.mod.kin kp (thn (ha.run pos pins _ σ H1 _ I2 q) fun us s2 hh => ?_) hst hpl
  obtain ⟨vs, H2, I3, rv, q2⟩ := hh
  exact ⟨I3.kIn, run_fnS (E := E) (us := us) (vs := vs) F (hr.mono hk) hb (hx σ) I3 rv q2⟩
end
/-- C.m is a staticmethod -/
def smB (x m : Str) (K : PySem.W.Frag) : Bool := PySem.W.readsIn K (He.ga K x) (.type "type") && (He.eqO (PySem.W.specialIn K (.ref (He.ga K x)) "__getattribute__") (some (some (.builtin "type.__getattribute__"))) &&
  He5.wrapB K (He.ga K x) "staticmethod" "staticmethod.__get__" m)
theorem smB_ok {K : PySem.W.Frag} {x m : Str} (q : smB x m K = true) : ClX.CRead K (He.ga K x) (.type "type") ∧ ∃ (p : Addr) (rest : List Value), PySem.W.findCls K (.ref (He.ga K x)) (.type "type") m = some (.get (.builtin "staticmethod.__get__") (.ref p) .none (.ref (He.ga K x))) ∧
    PySem.W.recIn K p "staticmethod" = some (.ref (He5.wf K (He.ga K x) "staticmethod" m) :: rest) := by
  obtain ⟨q1, q⟩ := He.ba q
  obtain ⟨q2, q3⟩ := He.ba q
  obtain ⟨h1, rest, h2⟩ := He5.wrapB_ok q3
  exact ⟨⟨q1, He.eqO_ok q2⟩, _, rest, h1, h2⟩
theorem smt_of {P : Program} {w : World} {K : PySem.W.Frag} {mg : Str → Option Value} {base : Heap} {k : Nat} {x m : Str} {ps : List Str} {sp : Sp} {fd : FuncData} (q : ClX.CRead K (He.ga K x) (.type "type") ∧ ∃ (p : Addr) (rest : List Value), PySem.W.findCls K (.ref (He.ga K x)) (.type "type") m = some (.get (.builtin "staticmethod.__get__") (.ref p) .none (.ref (He.ga K x))) ∧
    PySem.W.recIn K p "staticmethod" = some (.ref (He5.wf K (He.ga K x) "staticmethod" m) :: rest)) (F : FnOk P w K mg base (L2N.CX P w) k (He5.wf K (He.ga K x) "staticmethod" m) fd ps sp) (kp : PySem.W.keepIn K (.ref (He5.wf K (He.ga K x) "staticmethod" m)) = true) (hb : Binds K fd ps []) :
    Smt P w K mg base k (He.ga K x) m ps sp := by
  obtain ⟨r, p, rest, h1, h2⟩ := q
  exact ⟨_, p, fd, rest, F, r, h1, h2, kp, hb⟩

/-! ### the head, defs at any address -/
def obsY (fa : List Chk) (fn : List He5.DefA) (K : PySem.W.Frag) : He.AlD := ((fa.all fun f => f K) && fn.all fun d => d.ok K, fn.map fun d => He5.fnA K (d.at_ K))
def valY (fn : List He5.DefA) : He.AlD := (true, fn.map He5.DefA.val)
def SaysY (fa : List Chk) (fn : List He5.DefA) (K : PySem.W.Frag) : Prop := obsY fa fn K = valY fn
def obsYG (n : Nat) (fa : List Chk) (fn : List He5.DefA) (g : Addr → Option Obj) : He.AlD := obsY fa fn (He.frG g (He.asD g n ++ [cStatics]))
def hookY (n : Nat) (fa : List Chk) (fn : List He5.DefA) : PySem.W.Hook where
  α := He.AlD
  obs := fun s => obsYG n fa fn s.heap.get?
  val := fun _ => valY fn
  says := fun _ h => ∃ K : PySem.W.Frag, K.In h ∧ SaysY fa fn K
  of := fun _ _ e => ⟨_, He.frG_in, e⟩
  keeps := fun _ _ _ ⟨K, hK, c⟩ k => ⟨K, PySem.W.Frag.In.keeps hK k, c⟩
theorem obsYG_eq {n : Nat} {fa : List Chk} {fn : List He5.DefA} {g : Addr → Option Obj} {s : Shared} (h : ∀ a, g a = s.heap.get? a) : obsYG n fa fn g = (hookY n fa fn).obs s := by
  have e : g = s.heap.get? := funext h
  rw [e] <;> rfl
section
variable {fa : List Chk} {fn : List He5.DefA} {K : PySem.W.Frag}
theorem SaysY.fact (c : SaysY fa fn K) (i : Nat) {f : Chk} (h : fa[i]? = some f := by rfl) : f K = true := by
  have c1 := (He.ba (show ((fa.all fun f => f K) && fn.all fun d => d.ok K) = true from congrArg (fun z : He.AlD => z.1) c)).1
  exact List.all_eq_true.mp c1 f (List.mem_of_getElem? h)
theorem SaysY.def_ (c : SaysY fa fn K) (i : Nat) {d : He5.DefA} (h : fn[i]? = some d := by rfl) : ∃ fd, FunD K d.name d.qual d.params d.body d.scope (d.dvs K) (d.kws K) (d.at_ K) fd := by
  have c2 := (He.ba (show ((fa.all fun f => f K) && fn.all fun d => d.ok K) = true from congrArg (fun z : He.AlD => z.1) c)).2
  have e : fn.map (fun d => He5.fnA K (d.at_ K)) = fn.map He5.DefA.val := congrArg (fun z : He.AlD => z.2) c
  have e2 : (fn.map fun d => He5.fnA K (d.at_ K))[i]? = (fn.map He5.DefA.val)[i]? := by rw [e]
  rw [List.getElem?_map, List.getElem?_map, h] at e2
  exact He5.DefA.funD (Option.some.inj e2) (List.all_eq_true.mp c2 d (List.mem_of_getElem? h))
end

/-! ### where an exception is handled -/
section
variable {X : Cx}
theorem op_eqAH {k : Nat} (hr : L2H.RoomH k X.A) : OpR X (compareOp .Eq) (rEqA X.K) := OpR.or op_eq (op_eqD (by have := hr.un; omega))
theorem op_neAH {k : Nat} (hr : L2H.RoomH k X.A) : OpR X (compareOp .NotEq) (rNeA X.K) := OpR.or op_ne (op_neD (by have := hr.un; omega))
end

/-! ### texts -/
def rJoin (K : PySem.W.Frag) : V → List V → Hp → VK → Prop := fun x xs H Q => ∃ a p, ∃ ys : List Str, x = .str a ∧ xs = [.ref p] ∧ (SqL K H p (ys.map V.str) ∨ SqT K H p (ys.map V.str)) ∧
    (ys.map (·.length)).sum + ys.length * a.length ≤ 16777216 ∧ Q (.str (Txt.join a ys)) H
def rSplit : V → List V → Hp → VK → Prop := fun x xs H Q => ∃ a b, x = .str a ∧ xs = [.str b] ∧ (b.length == 0) = false ∧ a.length + 2 ≤ sizeLine ∧ rNewStrs (Txt.split a b) H Q
def rIntS : List V → Hp → VK → Prop := fun xs H Q => ∃ a n, xs = [.str a] ∧ PySem.intText? a = some n ∧ a.length ≤ 640 ∧ Q (.int n) H
section
variable {X : Cx} {o e : Expr} {to te : TE}
theorem pe_joinA {apos pos : Pos} (ho : PE X o to) (he : PE X e te) (hs : starEach [e] X.env = [(false, eval e X.env)] := by rfl) (hbase : attributeBase o "join" X.env (eval o X.env) = eval o X.env := by rfl) (hline : (apos.endLine == pos.line) = true := by rfl) :
    PE X (.Call (.Attribute o "join" apos) [e] [] pos) (tM1 (rJoin X.K) to te) := pe_join ho he hs hbase hline
theorem pe_splitA {apos pos : Pos} (ho : PE X o to) (he : PE X e te) (hs : starEach [e] X.env = [(false, eval e X.env)] := by rfl) (hbase : attributeBase o "split" X.env (eval o X.env) = eval o X.env := by rfl) (hline : (apos.endLine == pos.line) = true := by rfl) :
    PE X (.Call (.Attribute o "split" apos) [e] [] pos) (tM1 rSplit to te) := pe_split ho he hs hbase hline
theorem call_intS : CallR X (.type "int") rIntS := call_int_str
end
section
variable {K : PySem.W.Frag} {σ : L2.St} {H : Hp} {Q : VK} {ta tb tc te : TE} {x y v : V} {i j : Int} {n m : Nat} {p q : Addr} {xs ys : List V} {b c : Bool}
theorem w_m1 {r : V → List V → Hp → VK → Prop} (g : ta σ H fun x H1 => (∃ a, x = .str a) ∧ te σ H1 fun y H2 => r x [y] H2 Q) : tM1 r ta te σ H Q := g
theorem w_joinL {a : Str} {ss : List Str} (h : SqL K H p (ss.map V.str)) (hl : (ss.map (·.length)).sum + ss.length * a.length ≤ 16777216) (g : Q (.str (Txt.join a ss)) H) : rJoin K (.str a) [.ref p] H Q := ⟨a, p, ss, rfl, rfl, .inl h, hl, g⟩
theorem w_split {a b : Str} (hb : (b.length == 0) = false) (hl : a.length + 2 ≤ sizeLine) (g : ∀ l H', H l = none → Kp [] H H' → H' l = some (.lst ((Txt.split a b).map V.str)) → Q (.ref l) H') : rSplit (.str a) [.str b] H Q := ⟨a, b, rfl, rfl, hb, hl, nw g⟩
theorem w_intS {a : Str} {k : Int} (h : PySem.intText? a = some k) (hl : a.length ≤ 640) (g : Q (.int k) H) : rIntS [.str a] H Q := ⟨a, k, rfl, h, hl, g⟩
theorem w_exS {P : Prop} {a : Str} (g : P) : (∃ b, V.str a = .str b) ∧ P := ⟨⟨a, rfl⟩, g⟩
theorem w_inS {c : Nat} {z : Str} (g : Q (.bl (decide (c ∈ z.cps.toList))) H) : rInS (.str ⟨#[c]⟩) (.str z) H Q := ⟨c, z, rfl, rfl, g⟩
theorem w_iS {R : It → Hp → Prop} (g : ta σ H fun v H1 => ∃ x, v = .str x ∧ R (Its x) H1) : iStr ta σ H R := g
theorem w_gu {T : Addr} {k : Nat} {ts : TGs} {R : L2.St → Hp → Prop} (h : SqL K H T xs) (hl : xs.length = k) (g : ts xs σ H R) : gUnl K k ts (.ref T) σ H R := ⟨T, xs, rfl, h, hl, g⟩
end
end G

set_option Elab.async false
set_option linter.all false
set_option maxRecDepth 100000
set_option maxHeartbeats 4000000
/-! What a log writes down: last writes, last changes, the first loss. Promises of the defs that read logs. -/
namespace G
open PySem PySem.Spec PyProof.Rows L2

/-! ### the book -/
structure Bk where
  s : Sd
  k : Nat
  wr : List Int
  wl : List Int
  de : List Int
  ls : Option (Nat × Nat)
def lowN (s : Sd) (op : Int) : Nat := (gI s.L op.natAbs).toNat
def hiN (s : Sd) (op : Int) : Nat := (gI s.R op.natAbs).toNat - 1
def deS (s s' : Sd) (k : Nat) (de : List Int) (g : Nat) : List Int := if stT s g = stT s' g then de else de.set g (k : Int)
def lsS (s s' : Sd) (k g : Nat) (ls : Option (Nat × Nat)) : Option (Nat × Nat) := if ls = none ∧ stT s g ≠ stT s' g ∧ stT s' g = "lost" then some (k, g) else ls
def bstep (b : Bk) (op : Int) : Bk :=
  let s' := stepS b.s op
  ⟨s', b.k + 1, b.wr.set (lowN b.s op) (b.k : Int), b.wl.set (hiN b.s op) (b.k : Int), deS b.s s' b.k (deS b.s s' b.k b.de (lowN b.s op)) (hiN b.s op), lsS b.s s' b.k (hiN b.s op) (lsS b.s s' b.k (lowN b.s op) b.ls)⟩
def bk0 (n : Nat) : Bk := ⟨wholeS n, 0, List.replicate (n + 1) (-1), List.replicate (n + 1) (-1), List.replicate (n + 1) (-1), none⟩
def bkR (n : Nat) (log : List Int) : Bk := log.foldl bstep (bk0 n)
theorem bkR_snoc (n : Nat) (log : List Int) (op : Int) : bkR n (log ++ [op]) = bstep (bkR n log) op := by
  unfold bkR
  rw [List.foldl_append] <;> rfl
theorem bkR_s (n : Nat) (log : List Int) : (bkR n log).s = runS (wholeS n) log := by
  induction log using snoc_ind with
  | h0 => rfl
  | h1 l x ih => rw [bkR_snoc, runS_snoc, ← ih] <;> rfl
theorem bkR_k (n : Nat) (log : List Int) : (bkR n log).k = log.length := by
  induction log using snoc_ind with
  | h0 => rfl
  | h1 l x ih =>
    rw [bkR_snoc, List.length_append]
    show (bkR n l).k + 1 = _
    rw [ih] <;> rfl
theorem deS_len (s s' : Sd) (k : Nat) (de : List Int) (g : Nat) : (deS s s' k de g).length = de.length := by
  unfold deS
  split
  · rfl
  · exact List.length_set
theorem bkR_len (n : Nat) (log : List Int) : (bkR n log).wr.length = n + 1 ∧ (bkR n log).wl.length = n + 1 ∧ (bkR n log).de.length = n + 1 := by
  induction log using snoc_ind with
  | h0 => exact ⟨List.length_replicate, List.length_replicate, List.length_replicate⟩
  | h1 l x ih =>
    rw [bkR_snoc]
    obtain ⟨a, b, c⟩ := ih
    refine ⟨?_, ?_, ?_⟩
    · show (List.set _ _ _).length = _
      rw [List.length_set, a]
    · show (List.set _ _ _).length = _
      rw [List.length_set, b]
    · show (deS _ _ _ _ _).length = _
      rw [deS_len, deS_len, c]
/-- bounds of the two touched gaps -/
theorem touch_bd {s : Sd} (w : Wf s) {op : Int} (h : IsOp s.n op) : lowN s op < op.natAbs ∧ op.natAbs ≤ hiN s op ∧ hiN s op ≤ s.n ∧ gI s.L op.natAbs = (lowN s op : Int) ∧ gI s.R op.natAbs = (hiN s op : Int) + 1 := by
  unfold lowN hiN
  obtain ⟨r1, r2⟩ := w.rb op.natAbs h.2
  obtain ⟨l1, l2⟩ := w.lb op.natAbs h.1 (by have := h.2; omega)
  refine ⟨by omega, by omega, by omega, by omega, by omega⟩
/-- no other gap changes -/
theorem step_st {s : Sd} (w : Wf s) {op : Int} (h : IsOp s.n op) {g : Nat} (hl : g ≠ lowN s op) (hh : g ≠ hiN s op) : stT (stepS s op) g = stT s g := by
  obtain ⟨t1, t2, t3, t4, t5⟩ := touch_bd w h
  have e1 : gI (stepS s op).R g = gI s.R g := by
    show gI (s.R.set _ _) g = _
    rw [gI_set (by rw [w.lR, t4]; have := h.2; omega), t4, if_neg (by rw [Int.toNat_natCast]; exact hl)]
  have e2 : gI (stepS s op).L (g + 1) = gI s.L (g + 1) := by
    show gI (s.L.set _ _) (g + 1) = _
    rw [gI_set (by rw [w.lL, t5]; omega), t5, if_neg (by omega)]
  unfold stT
  rw [e1, e2]
/-- the lost gaps, ascending -/
theorem mem_lost {s : Sd} {g : Nat} : g ∈ lostL s ↔ g ≤ s.n ∧ stT s g = "lost" := by
  unfold lostL
  rw [List.mem_filter, List.mem_range]
  constructor
  · exact fun ⟨a, b⟩ => ⟨by omega, of_decide_eq_true b⟩
  · exact fun ⟨a, b⟩ => ⟨by omega, decide_eq_true b⟩
theorem lost_sorted (s : Sd) : (lostL s).Pairwise (· < ·) := by
  unfold lostL
  exact List.Pairwise.filter _ List.pairwise_lt_range
theorem lost_head {s : Sd} {g : Nat} {r : List Nat} (h : lostL s = g :: r) : g ≤ s.n ∧ stT s g = "lost" ∧ ∀ x, x ≤ s.n → stT s x = "lost" → g ≤ x := by
  have m : g ∈ lostL s := by rw [h]; exact List.mem_cons_self
  obtain ⟨a, b⟩ := mem_lost.mp m
  refine ⟨a, b, fun x h1 h2 => ?_⟩
  have mx : x ∈ lostL s := mem_lost.mpr ⟨h1, h2⟩
  have so := lost_sorted s
  rw [h] at mx so
  rcases List.mem_cons.mp mx with rfl | q
  · exact Nat.le_refl _
  · exact Nat.le_of_lt ((List.pairwise_cons.mp so).1 x q)
/-- while nothing is lost, a loss stands at a touched gap -/
theorem ls_step {s : Sd} (w : Wf s) {op : Int} (h : IsOp s.n op) (k : Nat) (e : lostL s = []) :
    lsS s (stepS s op) k (hiN s op) (lsS s (stepS s op) k (lowN s op) none) = ((lostL (stepS s op)).head?.map fun g => (k, g)) := by
  obtain ⟨t1, t2, t3, t4, t5⟩ := touch_bd w h
  have no : ∀ x, x ≤ s.n → stT s x ≠ "lost" := fun x h1 h2 => by
    have := mem_lost.mpr ⟨h1, h2⟩
    rw [e] at this
    cases this
  have nl := no (lowN s op) (by have := h.2; omega)
  have nh := no (hiN s op) t3
  have key : ∀ g, g ≤ s.n → ∀ l0, lsS s (stepS s op) k g l0 = if l0 = none ∧ stT (stepS s op) g = "lost" then some (k, g) else l0 := by
    intro g hg l0
    unfold lsS
    by_cases c1 : l0 = none
    · by_cases c2 : stT (stepS s op) g = "lost"
      · rw [if_pos ⟨c1, by rw [c2]; exact no g hg, c2⟩, if_pos ⟨c1, c2⟩]
      · rw [if_neg (fun z => c2 z.2.2), if_neg (fun z => c2 z.2)]
    · rw [if_neg (fun z => c1 z.1), if_neg (fun z => c1 z.1)]
  have kl := key (lowN s op) (by have := h.2; omega) none
  have only : ∀ x, x ≤ s.n → stT (stepS s op) x = "lost" → x = lowN s op ∨ x = hiN s op := by
    intro x hx hl
    by_cases c1 : x = lowN s op
    · exact .inl c1
    · by_cases c2 : x = hiN s op
      · exact .inr c2
      · rw [step_st w h c1 c2] at hl
        exact absurd hl (no x hx)
  cases hL : lostL (stepS s op) with
  | nil =>
    have n1 : stT (stepS s op) (lowN s op) ≠ "lost" := fun z => by
      have := mem_lost.mpr ⟨show lowN s op ≤ (stepS s op).n by rw [stepS_n]; have := h.2; omega, z⟩
      rw [hL] at this
      cases this
    have n2 : stT (stepS s op) (hiN s op) ≠ "lost" := fun z => by
      have := mem_lost.mpr ⟨show hiN s op ≤ (stepS s op).n by rw [stepS_n]; exact t3, z⟩
      rw [hL] at this
      cases this
    rw [kl, if_neg (fun z => n1 z.2), key _ t3, if_neg (fun z => n2 z.2)] <;> rfl
  | cons g r =>
    obtain ⟨g1, g2, g3⟩ := lost_head hL
    rw [stepS_n] at g1 g3
    show _ = some (k, g)
    by_cases c : stT (stepS s op) (lowN s op) = "lost"
    · have := g3 _ (by have := h.2; omega) c
      have eg : g = lowN s op := by
        rcases only g g1 g2 with q | q
        · exact q
        · omega
      rw [kl, if_pos ⟨rfl, c⟩, key _ t3, if_neg (fun z => by cases z.1), eg]
    · have eg : g = hiN s op := by
        rcases only g g1 g2 with q | q
        · exact absurd (q ▸ g2) c
        · exact q
      rw [kl, if_neg (fun z => c z.2), key _ t3, if_pos ⟨rfl, eg ▸ g2⟩, eg]
/-- the last change of a gap, when one more operation comes -/
theorem de_step {s : Sd} (w : Wf s) {op : Int} (h : IsOp s.n op) (k : Nat) {de : List Int} (hl : de.length = s.n + 1) {g : Nat} (hg : g ≤ s.n) :
    gI (deS s (stepS s op) k (deS s (stepS s op) k de (lowN s op)) (hiN s op)) g = if stT s g = stT (stepS s op) g then gI de g else (k : Int) := by
  obtain ⟨t1, t2, t3, t4, t5⟩ := touch_bd w h
  have key : ∀ de' : List Int, de'.length = s.n + 1 → ∀ x, x ≤ s.n → gI (deS s (stepS s op) k de' x) g = if g = x ∧ ¬ stT s g = stT (stepS s op) g then (k : Int) else gI de' g := by
    intro de' hl' x hx
    unfold deS
    by_cases c : stT s x = stT (stepS s op) x
    · rw [if_pos c, if_neg]
      rintro ⟨rfl, n⟩
      exact n c
    · rw [if_neg c, gI_set (by omega)]
      by_cases e : g = x
      · rw [if_pos e, if_pos ⟨e, by rw [e]; exact c⟩]
      · rw [if_neg e, if_neg (fun z => e z.1)]
  rw [key _ (by rw [deS_len, hl]) _ t3, key _ hl _ (by have := h.2; omega)]
  by_cases c : stT s g = stT (stepS s op) g
  · rw [if_pos c, if_neg (fun z => z.2 c), if_neg (fun z => z.2 c)]
  · rw [if_neg c]
    by_cases e2 : g = hiN s op
    · rw [if_pos ⟨e2, c⟩]
    · rw [if_neg (fun z => e2 z.1)]
      by_cases e1 : g = lowN s op
      · rw [if_pos ⟨e1, c⟩]
      · exact absurd (step_st w h e1 e2).symm c

/-! ### promises -/
section
variable (K : PySem.W.Frag)
/-- the errors of a log from the whole list -/
structure RepE (H : Hp) (size : Int) (log : List Int) (E : XK) : Prop where
  op : SizeOk size → LogE K (wholeS size.toNat) log E H
  sz : ¬ SizeOk size → ∀ H', Kp [] H H' → Ex K "BadSize" [("size", .int size)] E H'
theorem RepE.kp {K : PySem.W.Frag} {H H1 : Hp} {size : Int} {log : List Int} {E : XK} (r : RepE K H size log E) (k : Kp [] H H1) : RepE K H1 size log E :=
  ⟨fun ok i op h l b H' k' => r.op ok i op h l b H' (k.trans k'), fun b H' k' => r.sz b H' (k.trans k')⟩
def TouchAt (H : Hp) (n : Nat) (log : List Int) (xs : List V) : Prop := xs.length = log.length ∧ ∀ (i : Nat) (op : Int), log[i]? = some op → ∃ t, xs[i]? = some (.ref t) ∧ H t = some (.tup [.int (op.natAbs : Int), .int (gI (runS (wholeS n) (log.take i)).L op.natAbs), .int (gI (runS (wholeS n) (log.take i)).R op.natAbs)])
def sp__links_of_operations : Sp := fun vs H Q E => ∃ (a : Addr) (size : Int) (log : List Int), vs = [.int size, .ref a] ∧ SqL K H a (log.map V.int) ∧ log.length ≤ 1000 ∧ RepE K H size log E ∧
  (SizeOk size → Leg (wholeS size.toNat) log → ∀ q H' xs, H q = none → Kp [] H H' → H' q = some (.lst xs) → TouchAt H' size.toNat log xs → Q (.ref q) H')
def sp_writers : Sp := fun vs H Q E => ∃ (a : Addr) (size : Int) (log : List Int), vs = [.int size, .ref a] ∧ SqL K H a (log.map V.int) ∧ log.length ≤ 1000 ∧ RepE K H size log E ∧
  (SizeOk size → Leg (wholeS size.toNat) log → ∀ t r l H', Kp [] H H' → H' t = some (.tup [.ref r, .ref l]) → H' r = some (.lst ((bkR size.toNat log).wr.map V.int)) → H' l = some (.lst ((bkR size.toNat log).wl.map V.int)) → Q (.ref t) H')
def sp_decided_by : Sp := fun vs H Q E => ∃ (a : Addr) (size g : Int) (log : List Int), vs = [.int size, .ref a, .int g] ∧ SqL K H a (log.map V.int) ∧ RepE K H size log E ∧
  (SizeOk size → Leg (wholeS size.toNat) log → ¬ (0 ≤ g ∧ g ≤ size) → ∀ H', Kp [] H H' → Ex K "BadGap" [("gap", .int g)] E H') ∧
  (SizeOk size → Leg (wholeS size.toNat) log → 0 ≤ g → g ≤ size → ∀ H', Kp [] H H' → Q (.int (gI (bkR size.toNat log).de g.toNat)) H')
/-- None or a pair -/
def OptP (H : Hp) (v : V) : Option (Nat × Nat) → Prop
  | none => v = .non
  | some (k, g) => ∃ t, v = .ref t ∧ H t = some (.tup [.int (k : Int), .int (g : Int)])
def sp_first_loss : Sp := fun vs H Q E => ∃ (a : Addr) (size : Int) (log : List Int), vs = [.int size, .ref a] ∧ SqL K H a (log.map V.int) ∧ RepE K H size log E ∧
  (SizeOk size → Leg (wholeS size.toNat) log → ∀ v H', Kp [] H H' → OptP H' v (bkR size.toNat log).ls → Q v H')
end
end G

set_option Elab.async false
set_option linter.all false
set_option maxRecDepth 100000
set_option maxHeartbeats 4000000
/-! What the law's own defs promise. -/
namespace G
open PySem PySem.Spec PyProof.Rows L2
def Bag (H : Hp) (b : Addr) : Prop := ∃ c m t : Int, H b = some (.lst [.int c, .int m, .int t])
/-- the law's own standing: a list of a size and three lists -/
structure LW (H : Hp) (w r l o : Addr) (s : Sd) : Prop where
  ob : H w = some (.lst [.int s.n, .ref r, .ref l, .ref o])
  hr : H r = some (.lst (s.R.map V.int))
  hl : ∃ L' : List Int, H l = some (.lst (L'.map V.int)) ∧ L'.length = s.n + 2 ∧ ∀ v, 1 ≤ v → gI L' v = gI s.L v
  ho : H o = some (.lst (s.O.map V.bl))
  ne : r ≠ l ∧ r ≠ o ∧ l ≠ o ∧ w ≠ r ∧ w ≠ l ∧ w ≠ o
  wf : Wf s
theorem LW.kp {H H' : Hp} {w r l o : Addr} {s : Sd} {S : List Addr} (a : LW H w r l o s) (k : Kp S H H') (h1 : w ∉ S) (h2 : r ∉ S) (h3 : l ∉ S) (h4 : o ∉ S) : LW H' w r l o s := by
  obtain ⟨L', e1, e2⟩ := a.hl
  exact ⟨k _ _ h1 a.ob, k _ _ h2 a.hr, ⟨L', k _ _ h3 e1, e2⟩, k _ _ h4 a.ho, a.ne, a.wf⟩
theorem LW.k0 {H H' : Hp} {w r l o : Addr} {s : Sd} (a : LW H w r l o s) (k : Kp [] H H') : LW H' w r l o s := a.kp k (by simp) (by simp) (by simp) (by simp)
/-- out, by the last operation of the node -/
def outF (log : List Int) (v : Nat) : Bool := match log.reverse.find? (fun x => decide (x.natAbs = v)) with
  | some x => decide (x < 0)
  | none => false
theorem outF_snoc (log : List Int) (op : Int) (v : Nat) : outF (log ++ [op]) v = if op.natAbs = v then decide (op < 0) else outF log v := by
  unfold outF
  rw [List.reverse_append, List.reverse_singleton, List.singleton_append, List.find?_cons]
  by_cases h : op.natAbs = v
  · rw [decide_eq_true h, if_pos h]
  · rw [decide_eq_false h, if_neg h]
theorem run_out {n : Nat} (hn : n ≤ 60) : ∀ log : List Int, (∀ x ∈ log, IsOp n x) → ∀ v, gB (runS (wholeS n) log).O v = outF log v := by
  intro log
  induction log using snoc_ind with
  | h0 =>
    intro _ v
    show gB (List.replicate (n + 2) false) v = false
    unfold gB
    rw [List.getD_eq_getElem?_getD]
    by_cases h : v < n + 2
    · rw [List.getElem?_replicate_of_lt h] <;> rfl
    · rw [List.getElem?_eq_none (by rw [List.length_replicate]; omega)] <;> rfl
  | h1 l x ih =>
    intro h v
    have hx := h x (by simp)
    have lo : (runS (wholeS n) l).O.length = n + 2 := by
      clear ih h hx
      induction l using snoc_ind with
      | h0 => exact List.length_replicate
      | h1 l y ih =>
        rw [runS_snoc]
        show (List.set _ _ _).length = _
        rw [List.length_set, ih]
    rw [runS_snoc, outF_snoc]
    show gB ((runS (wholeS n) l).O.set x.natAbs (decide (x < 0))) v = _
    rw [gB_set (by rw [lo]; have := hx.2; omega), ih (fun y hy => h y (by simp [hy]))]
    by_cases e : x.natAbs = v
    · rw [if_pos e.symm, if_pos e]
    · rw [if_neg (fun z => e z.symm), if_neg e]
/-- each operation turns its node -/
def Alt (log : List Int) : Prop := ∀ i op, log[i]? = some op → outF (log.take i) op.natAbs = decide (0 < op)
theorem leg_of {n : Nat} (hn : n ≤ 60) {log : List Int} (h : ∀ x ∈ log, IsOp n x) (a : Alt log) : Leg (wholeS n) log := by
  intro i op hi
  refine ⟨by rw [runS_n]; exact h op (List.mem_of_getElem? hi), ?_⟩
  rw [run_out hn _ (fun x hx => h x (List.mem_of_mem_take hx))]
  exact a i op hi
theorem Leg.isop {n : Nat} {log : List Int} (h : Leg (wholeS n) log) : ∀ x ∈ log, IsOp n x := by
  intro x hx
  obtain ⟨i, hi⟩ := List.getElem?_of_mem hx
  have := (h i x hi).1
  rwa [runS_n] at this
theorem ok_out {n : Nat} (hn : n ≤ 60) {log : List Int} (h : Leg (wholeS n) log) {op : Int} : OkOp (runS (wholeS n) log) op ↔ IsOp n op ∧ outF log op.natAbs = decide (0 < op) := by
  unfold OkOp
  rw [run_out hn log h.isop, runS_n] <;> rfl

/-- what is due for a size, a log and a gap -/
def FltV (size : Int) (log : List Int) (g : Int) (xs : List V) : Prop :=
  (¬ SizeOk size ∧ xs = [.str "size", .int size]) ∨
  (SizeOk size ∧ ∃ (i : Nat) (op : Int), log[i]? = some op ∧ Leg (wholeS size.toNat) (log.take i) ∧ ¬ OkOp (runS (wholeS size.toNat) (log.take i)) op ∧ xs = [.str (if IsOp size.toNat op then "illegal" else "operation"), .int op, .int (i : Int)]) ∨
  (SizeOk size ∧ Leg (wholeS size.toNat) log ∧ ¬ (0 ≤ g ∧ g ≤ size) ∧ xs = [.str "gap", .int g]) ∨
  (SizeOk size ∧ Leg (wholeS size.toNat) log ∧ (0 ≤ g ∧ g ≤ size) ∧ xs = [.str "done"])
theorem bad_uniq {s : Sd} {log : List Int} {i j : Nat} {a b : Int} (hi : log[i]? = some a) (hj : log[j]? = some b) (li : Leg s (log.take i)) (lj : Leg s (log.take j)) (ni : ¬ OkOp (runS s (log.take i)) a) (nj : ¬ OkOp (runS s (log.take j)) b) : i = j ∧ a = b := by
  have lt : ∀ {i j : Nat} {a : Int}, log[i]? = some a → Leg s (log.take j) → ¬ OkOp (runS s (log.take i)) a → ¬ i < j := by
    intro i j a hi lj ni h
    have := lj i a (by rw [List.getElem?_take_of_lt h]; exact hi)
    rw [List.take_take, Nat.min_eq_left (by omega)] at this
    exact ni this
  have e : i = j := by
    have := lt hi lj ni
    have := lt hj li nj
    omega
  subst e
  exact ⟨rfl, by rw [hi] at hj; injection hj⟩
theorem bad_leg {s : Sd} {log : List Int} {i : Nat} {a : Int} (hi : log[i]? = some a) (ni : ¬ OkOp (runS s (log.take i)) a) (l : Leg s log) : False := ni (l i a hi)
theorem FltV.uniq {size : Int} {log : List Int} {g : Int} {xs ys : List V} (a : FltV size log g xs) (b : FltV size log g ys) : xs = ys := by
  rcases a with ⟨a1, rfl⟩ | ⟨a1, i, op, a2, a3, a4, rfl⟩ | ⟨a1, a2, a3, rfl⟩ | ⟨a1, a2, a3, rfl⟩ <;> rcases b with ⟨b1, rfl⟩ | ⟨b1, j, oq, b2, b3, b4, rfl⟩ | ⟨b1, b2, b3, rfl⟩ | ⟨b1, b2, b3, rfl⟩
  all_goals first
    | rfl
    | exact absurd b1 a1
    | exact absurd a1 b1
    | exact absurd b3 a3
    | exact absurd a3 b3
    | exact (bad_leg a2 a4 b2).elim
    | exact (bad_leg b2 b4 a2).elim
    | (obtain ⟨rfl, rfl⟩ := bad_uniq a2 b2 a3 b3 a4 b4; rfl)
section
def sp__law_bag (K : PySem.W.Frag) : Sp := fun vs H Q E => ∃ (a : Addr) (lane : Int) (ns : List Int), vs = [.ref a, .int lane] ∧ 0 ≤ lane ∧ lane ≤ 1 ∧ SqL K H a (ns.map V.int) ∧ ns.length ≤ 63 ∧ ∀ b H', H b = none → Kp [] H H' → Bag H' b → Q (.ref b) H'
def sp__law_draw (K : PySem.W.Frag) : Sp := fun vs H Q E => ∃ (b : Addr) (many : Int), vs = [.ref b, .int many] ∧ 0 < many ∧ many < 2 ^ 30 ∧ Bag H b ∧ ∀ (d : Int) H', 0 ≤ d → d < many → Kp [b] H H' → Bag H' b → Q (.int d) H'
def sp__law_size (K : PySem.W.Frag) : Sp := fun vs H Q E => ∃ b : Addr, vs = [.ref b] ∧ Bag H b ∧ ∀ (n : Nat) H', n ≤ 60 → Kp [b] H H' → Bag H' b → Q (.int (n : Int)) H'
def sp__law_whole (K : PySem.W.Frag) : Sp := fun vs H Q E => ∃ n : Nat, vs = [.int (n : Int)] ∧ n ≤ 60 ∧ ∀ w r l o H', H w = none → H r = none → H l = none → H o = none → Kp [] H H' → LW H' w r l o (wholeS n) → Q (.ref w) H'
def sp__law_planted (K : PySem.W.Frag) : Sp := fun vs H Q E => ∃ (b : Addr) (n : Nat), vs = [.ref b, .int (n : Int)] ∧ n ≤ 60 ∧ Bag H b ∧ ∀ (ds : List Int) (q : Addr) H', H q = none → (∀ x ∈ ds, IsOp n x) → Alt ds → ds.length ≤ 9 → Kp [b] H H' → Bag H' b → H' q = some (.lst (ds.map V.int)) → Q (.ref q) H'
def sp__law_log (K : PySem.W.Frag) : Sp := fun vs H Q E => ∃ (b : Addr) (n : Nat), vs = [.ref b, .int (n : Int)] ∧ n ≤ 60 ∧ Bag H b ∧ ∀ (ds : List Int) (q : Addr) H', H q = none → (∀ x ∈ ds, IsOp n x) → Alt ds → ds.length ≤ 200 → Kp [b] H H' → Bag H' b → H' q = some (.lst (ds.map V.int)) → Q (.ref q) H'
def sp__law_state (K : PySem.W.Frag) : Sp := fun vs H Q E => ∃ (w r l o : Addr) (s : Sd) (g : Nat), vs = [.ref w, .int (g : Int)] ∧ LW H w r l o s ∧ g ≤ s.n ∧ Q (.str (stT s g)) H
def sp__law_step (K : PySem.W.Frag) : Sp := fun vs H Q E => ∃ (w r l o : Addr) (s : Sd) (op : Int), vs = [.ref w, .int op] ∧ LW H w r l o s ∧ IsOp s.n op ∧ ∀ H', Kp [r, l, o] H H' → LW H' w r l o (stepS s op) → Q .non H'
def sp__law_whole_number (K : PySem.W.Frag) : Sp := fun vs H Q E => ∃ i : Int, vs = [.int i] ∧ Q (.bl true) H
def sp__law_numbers (K : PySem.W.Frag) : Sp := fun vs H Q E => ∃ (a b : Addr) (xs : List Int), vs = [.ref a, .ref b] ∧ xs.length ≤ 1000 ∧ H a = some (.lst (xs.map V.int)) ∧ H b = some (.lst (xs.map V.int)) ∧ Q (.bl true) H
def sp__law_pair (K : PySem.W.Frag) : Sp := fun vs H Q E => ∃ (x y : V) (p : Option (Nat × Nat)), vs = [x, y] ∧ OptP H x p ∧ OptP H y p ∧ Q (.bl true) H
def sp__law_book (K : PySem.W.Frag) : Sp := fun vs H Q E => ∃ (n : Nat) (a : Addr) (log : List Int), vs = [.int (n : Int), .ref a] ∧ n ≤ 60 ∧ SqL K H a (log.map V.int) ∧ log.length ≤ 1000 ∧ Leg (wholeS n) log ∧
  ∀ q r l d v H', Kp [] H H' → H' q = some (.lst [.ref r, .ref l, .ref d, v]) → H' r = some (.lst ((bkR n log).wr.map V.int)) → H' l = some (.lst ((bkR n log).wl.map V.int)) → H' d = some (.lst ((bkR n log).de.map V.int)) → OptP H' v (bkR n log).ls → Q (.ref q) H'
def sp__law_agrees (K : PySem.W.Frag) : Sp := fun vs H Q E => ∃ (n : Nat) (a c : Addr) (log gs : List Int), vs = [.int (n : Int), .ref a, .ref c] ∧ n ≤ 60 ∧ H a = some (.lst (log.map V.int)) ∧ log.length ≤ 1000 ∧ Leg (wholeS n) log ∧ SqL K H c (gs.map V.int) ∧ (∀ g ∈ gs, 0 ≤ g ∧ g ≤ n) ∧ gs.length ≤ 1000 ∧ ∀ H', Kp [] H H' → Q (.bl true) H'
def sp__law_fault (K : PySem.W.Frag) : Sp := fun vs H Q E => ∃ (size g : Int) (a : Addr) (log : List Int), vs = [.int size, .ref a, .int g] ∧ SqL K H a (log.map V.int) ∧ log.length ≤ 1000 ∧ ∀ xs t H', FltV size log g xs → Kp [] H H' → H' t = some (.tup xs) → Q (.ref t) H'
def sp__law_answer (K : PySem.W.Frag) : Sp := fun vs H Q E => ∃ (way size g : Int) (a : Addr) (log : List Int), vs = [.int way, .int size, .ref a, .int g] ∧ (way = 0 ∨ g = 0) ∧ 0 ≤ way ∧ way ≤ 2 ∧ SqL K H a (log.map V.int) ∧ log.length ≤ 1000 ∧ ∀ xs t H', FltV size log g xs → Kp [] H H' → H' t = some (.tup xs) → Q (.ref t) H'
def sp__law_spoilt (K : PySem.W.Frag) : Sp := fun vs H Q E => ∃ (b a : Addr) (n : Nat) (log : List Int), vs = [.ref b, .int (n : Int), .ref a] ∧ n ≤ 60 ∧ Bag H b ∧ a ≠ b ∧ H a = some (.lst (log.map V.int)) ∧ log.length ≤ 400 ∧ ∀ (ds : List Int) (q : Addr) H', H q = none → ds.length ≤ 2 * log.length + 2 → Kp [b] H H' → Bag H' b → H' q = some (.lst (ds.map V.int)) → Q (.ref q) H'
/-- a trial: a size, a log, a gap -/
def Trial (H : Hp) (x : V) : Prop := ∃ (t a : Addr) (size g : Int) (log : List Int), x = .ref t ∧ H t = some (.tup [.int size, .ref a, .int g]) ∧ H a = some (.lst (log.map V.int)) ∧ log.length ≤ 1000
def sp__law_trials (K : PySem.W.Frag) : Sp := fun vs H Q E => ∃ (b a : Addr) (n : Nat) (log : List Int), vs = [.ref b, .int (n : Int), .ref a] ∧ n ≤ 60 ∧ Bag H b ∧ a ≠ b ∧ H a = some (.lst (log.map V.int)) ∧ log.length ≤ 400 ∧ ∀ (xs : List V) (q : Addr) H', Kp [b] H H' → Bag H' b → H' q = some (.lst xs) → xs.length ≤ 100 → (∀ x ∈ xs, Trial H' x) → Q (.ref q) H'
def sp__law_places (K : PySem.W.Frag) : Sp := fun vs H Q E => ∃ (b a : Addr) (n : Nat) (log : List Int), vs = [.ref b, .int (n : Int), .ref a] ∧ n ≤ 60 ∧ Bag H b ∧ a ≠ b ∧ H a = some (.lst (log.map V.int)) ∧ log.length ≤ 500 ∧ (∀ x ∈ log, IsOp n x) ∧ ∀ (gs : List Int) (q : Addr) H', gs.length ≤ 100 → (∀ g ∈ gs, 0 ≤ g ∧ g ≤ n) → Kp [b] H H' → Bag H' b → H' q = some (.lst (gs.map V.int)) → Q (.ref q) H'
def sp__law_refuses (K : PySem.W.Frag) : Sp := fun vs H Q E => ∃ (q : Addr) (xs : List V), vs = [.ref q] ∧ H q = some (.lst xs) ∧ xs.length ≤ 100 ∧ (∀ x ∈ xs, Trial H x) ∧ ∀ H', Kp [] H H' → Q (.bl true) H'
def sp_law (K : PySem.W.Frag) : Sp := fun vs H Q E => ∃ (a : Addr) (ns : List Int), vs = [.ref a] ∧ SqL K H a (ns.map V.int) ∧ ns.length ≤ 63 ∧ ∀ H', Q (.bl true) H'
end
end G

set_option Elab.async false
set_option linter.all false
set_option maxRecDepth 100000
set_option maxHeartbeats 4000000
/-! k10: verdicts, certificates, values of many kinds. -/
namespace G
open PySem PySem.Spec PyProof.Rows L2
/-- a comprehension whose turns change the heap -/
theorem cp_mut {σ : L2.St} {H : Hp} {Q : VK} {te : TE} {tt : TT} {g : TG} {vs : List Nat} {lo : Int} {n : Nat} (Pv : Addr → Nat → List V → Hp → Prop) (hn : n < sizeLine)
    (h0 : ∀ D H', H D = none → Kp [] H H' → H' D = some (.lst []) → Pv D 0 [] H')
    (hs : ∀ (D : Addr) (i : Nat) (acc : List V) (H' : Hp) (S : V → Hp → Prop) (N : Hp → Prop), H D = none → i < n → H' D = some (.lst acc) → Pv D i acc H' →
      (∀ y H4, H4 D = some (.lst acc) → (∀ H5, Kp [D] H4 H5 → H5 D = some (.lst (acc ++ [y])) → Pv D (i + 1) (acc ++ [y]) H5) → S y H4) → (∀ H4, H4 D = some (.lst acc) → Pv D (i + 1) acc H4 → N H4) →
      g (.int (lo + (i : Int))) (wipe σ vs) H' fun σ2 H2 => wipe σ2 vs = wipe σ vs ∧ tt σ2 H2 fun b H3 => if b = true then te σ2 H3 S else N H3)
    (hd : ∀ D acc H', H D = none → H' D = some (.lst acc) → acc.length ≤ n → Pv D n acc H' → Q (.ref D) H') : CompG (Itr lo n) g tt te vs σ Q H := by
  intro D nD
  refine ⟨fun i m H' => m = n - i ∧ i ≤ n ∧ ∃ acc, acc.length ≤ i ∧ H' D = some (.lst acc) ∧ Pv D i acc H', ⟨n, by simp, Nat.zero_le _, [], Nat.le_refl _, upd_same, h0 D _ nD (Kp.new nD) upd_same⟩, ?_⟩
  rintro i m H' ⟨rfl, hi, acc, la, e, p⟩
  by_cases lt : i < n
  · refine .inr ⟨lt, fun H'' => ∃ acc, acc.length ≤ i + 1 ∧ H'' D = some (.lst acc) ∧ Pv D (i + 1) acc H'', fun H'' p => ⟨n - (i + 1), by omega, rfl, lt, p⟩, fun x H'' y => ?_⟩
    obtain ⟨rfl, rfl⟩ := y
    refine hs D i acc _ _ _ nD lt e p (fun y H4 h4 k4 => ⟨acc, h4, by omega, acc ++ [y], by rw [List.length_append]; show acc.length + 1 ≤ _; omega, upd_same, k4 _ (Kp.put (by simp)) upd_same⟩) (fun H4 h4 k4 => ⟨acc, by omega, h4, k4⟩)
  · have ei : i = n := by omega
    subst ei
    exact .inl ⟨Nat.le_refl _, hd D acc H' nD e la p⟩
/-- .. over a list -/
theorem cp_mutL {K : PySem.W.Frag} {σ : L2.St} {H : Hp} {Q : VK} {te : TE} {tt : TT} {g : TG} {vs : List Nat} {a : Addr} {xs : List V} (Pv : Addr → Nat → List V → Hp → Prop) (hn : xs.length < sizeLine)
    (h0 : ∀ D H', H D = none → Kp [] H H' → H' D = some (.lst []) → Pv D 0 [] H')
    (hl : ∀ D i acc H', H D = none → Pv D i acc H' → SqL K H' a xs)
    (hs : ∀ (D : Addr) (i : Nat) (x : V) (acc : List V) (H' : Hp) (S : V → Hp → Prop) (N : Hp → Prop), H D = none → xs[i]? = some x → H' D = some (.lst acc) → Pv D i acc H' →
      (∀ y H4, H4 D = some (.lst acc) → (∀ H5, Kp [D] H4 H5 → H5 D = some (.lst (acc ++ [y])) → Pv D (i + 1) (acc ++ [y]) H5) → S y H4) → (∀ H4, H4 D = some (.lst acc) → Pv D (i + 1) acc H4 → N H4) →
      g x (wipe σ vs) H' fun σ2 H2 => wipe σ2 vs = wipe σ vs ∧ tt σ2 H2 fun b H3 => if b = true then te σ2 H3 S else N H3)
    (hd : ∀ D acc H', H D = none → H' D = some (.lst acc) → acc.length ≤ xs.length → Pv D xs.length acc H' → Q (.ref D) H') : CompG (Itl K a) g tt te vs σ Q H := by
  intro D nD
  refine ⟨fun i m H' => m = xs.length - i ∧ i ≤ xs.length ∧ ∃ acc, acc.length ≤ i ∧ H' D = some (.lst acc) ∧ Pv D i acc H', ⟨xs.length, by simp, Nat.zero_le _, [], Nat.le_refl _, upd_same, h0 D _ nD (Kp.new nD) upd_same⟩, ?_⟩
  rintro i m H' ⟨rfl, hi, acc, la, e, p⟩
  have q := hl D i acc H' nD p
  by_cases lt : i < xs.length
  · refine .inr ⟨⟨xs, xs[i], q, by simp [lt]⟩, fun H'' => ∃ acc, acc.length ≤ i + 1 ∧ H'' D = some (.lst acc) ∧ Pv D (i + 1) acc H'', fun H'' p => ⟨xs.length - (i + 1), by omega, rfl, lt, p⟩, fun x H'' y => ?_⟩
    obtain ⟨rfl, hx⟩ := y
    refine hs D i x acc _ _ _ nD (hx xs q) e p (fun y H4 h4 k4 => ⟨acc, h4, by omega, acc ++ [y], by rw [List.length_append]; show acc.length + 1 ≤ _; omega, upd_same, k4 _ (Kp.put (by simp)) upd_same⟩) (fun H4 h4 k4 => ⟨acc, by omega, h4, k4⟩)
  · have ei : i = xs.length := by omega
    subst ei
    exact .inl ⟨⟨xs, q, Nat.le_refl _⟩, hd D acc H' nD e la p⟩
/-- the nodes that are out, from the least on -/
def outN (n : Nat) (O : List Bool) : List Int := (((List.range n).map fun (v : Nat) => v + 1).filter fun v => gB O v).map fun (v : Nat) => (v : Int)
theorem outN_len (n : Nat) (O : List Bool) : (outN n O).length ≤ n := by
  unfold outN
  rw [List.length_map]
  refine Nat.le_trans (List.length_filter_le _ _) ?_
  rw [List.length_map, List.length_range]
  exact Nat.le_refl _
/-- None or a whole number -/
def Isn (v : V) : Prop := v = .non ∨ ∃ i : Int, v = .int i
/-! a verdict in the heap -/
def vfl (g a b w : V) : List (Str × V) := putF "whole" w (putF "index" b (putF "gap" a (putF "out_nodes" g [])))
theorem m1 : ¬ (("out_nodes" : Str) = "gap") := by decide +kernel
theorem m2 : ¬ (("out_nodes" : Str) = "index") := by decide +kernel
theorem m3 : ¬ (("out_nodes" : Str) = "whole") := by decide +kernel
theorem m4 : ¬ (("gap" : Str) = "index") := by decide +kernel
theorem m5 : ¬ (("gap" : Str) = "whole") := by decide +kernel
theorem m6 : ¬ (("index" : Str) = "whole") := by decide +kernel
theorem vfl_g (g a b w : V) : (vfl g a b w).lookup ("out_nodes" : Str) = some g := by
  unfold vfl
  rw [lookup_putF, if_neg m3, lookup_putF, if_neg m2, lookup_putF, if_neg m1, lookup_putF, if_pos rfl]
theorem vfl_a (g a b w : V) : (vfl g a b w).lookup ("gap" : Str) = some a := by
  unfold vfl
  rw [lookup_putF, if_neg m5, lookup_putF, if_neg m4, lookup_putF, if_pos rfl]
theorem vfl_b (g a b w : V) : (vfl g a b w).lookup ("index" : Str) = some b := by
  unfold vfl
  rw [lookup_putF, if_neg m6, lookup_putF, if_pos rfl]
theorem vfl_w (g a b w : V) : (vfl g a b w).lookup ("whole" : Str) = some w := by
  unfold vfl
  rw [lookup_putF, if_pos rfl]
def whB (a : V) (gone : List Int) : Bool := match a with
  | .non => decide ((gone.length : Int) = 0)
  | _ => false
structure VdAt (K : PySem.W.Frag) (H : Hp) (x g : Addr) (gone : List Int) (a b : V) : Prop where
  ob : ∃ dx, H x = some (.ins (He.ga K "Verdict") dx (vfl (.ref g) a b (.bl (whB a gone))))
  hg : H g = some (.lst (gone.map V.int))
theorem VdAt.kp {K : PySem.W.Frag} {H H' : Hp} {x g : Addr} {gone : List Int} {a b : V} {S : List Addr} (v : VdAt K H x g gone a b) (k : Kp S H H') (h1 : x ∉ S) (h2 : g ∉ S) : VdAt K H' x g gone a b := by
  obtain ⟨dx, h⟩ := v.ob
  exact ⟨⟨dx, k _ _ h1 h⟩, k _ _ h2 v.hg⟩
theorem VdAt.k0 {K : PySem.W.Frag} {H H' : Hp} {x g : Addr} {gone : List Int} {a b : V} (v : VdAt K H x g gone a b) (k : Kp [] H H') : VdAt K H' x g gone a b := v.kp k (by simp) (by simp)
/-- what the verdict of a log is due to tell -/
def VF (n : Nat) (log : List Int) (v w : V) : Prop :=
  (∃ i : Nat, i ≤ n ∧ (∀ j, j < i → stT (runS (wholeS n) log) j = "joined") ∧ stT (runS (wholeS n) log) i ≠ "joined" ∧ v = .int (i : Int) ∧ w = .int (gI (bkR n log).de i)) ∨
  ((∀ j, j ≤ n → stT (runS (wholeS n) log) j = "joined") ∧ v = .non ∧ w = .non)
theorem VF.isn {n : Nat} {log : List Int} {v w : V} (h : VF n log v w) : Isn v ∧ Isn w := by
  rcases h with ⟨i, _, _, _, rfl, rfl⟩ | ⟨_, rfl, rfl⟩
  · exact ⟨.inr ⟨_, rfl⟩, .inr ⟨_, rfl⟩⟩
  · exact ⟨.inl rfl, .inl rfl⟩
/-- the certificate of a gap -/
def paper (n : Nat) (log : List Int) (i : Nat) : List V := [.str (stT (runS (wholeS n) log) i), .int (gI (bkR n log).wr i), .int (gI (bkR n log).wl i)]
def PapersAt (H : Hp) (p : Addr) (n : Nat) (log : List Int) : Prop := ∃ ps : List V, H p = some (.lst ps) ∧ ps.length = n + 1 ∧ ∀ i, i ≤ n → ∃ t, ps[i]? = some (.ref t) ∧ H t = some (.tup (paper n log i))
def outS (n : Nat) (log : List Int) : List Int := outN n (runS (wholeS n) log).O
def BookAt (H : Hp) (q : Addr) (n : Nat) (log : List Int) : Prop := ∃ p d g, H q = some (.lst [.ref p, .ref d, .ref g]) ∧ PapersAt H p n log ∧ H d = some (.lst ((bkR n log).de.map V.int)) ∧ H g = some (.lst ((outS n log).map V.int))
theorem PapersAt.k0 {H H' : Hp} {p : Addr} {n : Nat} {log : List Int} (a : PapersAt H p n log) (k : Kp [] H H') : PapersAt H' p n log := by
  obtain ⟨ps, h1, h2, h3⟩ := a
  refine ⟨ps, k.at0 h1, h2, fun i hi => ?_⟩
  obtain ⟨t, h4, h5⟩ := h3 i hi
  exact ⟨t, h4, k.at0 h5⟩
theorem PapersAt.k1 {H H' : Hp} {p b : Addr} {n : Nat} {log : List Int} (a : PapersAt H p n log) (hb : Bag H b) (ne : p ≠ b) (k : Kp [b] H H') : PapersAt H' p n log := by
  obtain ⟨ps, h1, h2, h3⟩ := a
  refine ⟨ps, k.at1 ne h1, h2, fun i hi => ?_⟩
  obtain ⟨t, h4, h5⟩ := h3 i hi
  obtain ⟨c, m, t', hb⟩ := hb
  exact ⟨t, h4, k.at1 (ne_of h5 hb (by intro z; cases z)) h5⟩
/-! values of many kinds, apart from b -/
mutual
inductive Vl (b : Addr) (H : Hp) : V → PyData → Prop
  | non : Vl b H .non .none
  | bl (k : Bool) : Vl b H (.bl k) (.bool k)
  | int (i : Int) : Vl b H (.int i) (.int i)
  | str (x : Str) : Vl b H (.str x) (.str x)
  | lst {a : Addr} {xs : List V} {ds : List PyData} : a ≠ b → H a = some (.lst xs) → VlA b H xs ds → Vl b H (.ref a) (.list ds)
  | tup {a : Addr} {xs : List V} {ds : List PyData} : a ≠ b → H a = some (.tup xs) → VlA b H xs ds → Vl b H (.ref a) (.tuple ds)
inductive VlA (b : Addr) (H : Hp) : List V → List PyData → Prop
  | nil : VlA b H [] []
  | cons {v : V} {vs : List V} {d : PyData} {ds : List PyData} : Vl b H v d → VlA b H vs ds → VlA b H (v :: vs) (d :: ds)
end
mutual
theorem Vl.dp {K : PySem.W.Frag} {b : Addr} {H : Hp} : ∀ (d : PyData) (v : V), Vl b H v d → Dp K H v d
  | .none, _, h => by cases h; exact .non
  | .bool b, _, h => by cases h; exact .bl b
  | .int i, _, h => by cases h; exact .int i
  | .str x, _, h => by cases h; exact .str x
  | .list ds, _, h => by
    cases h with
    | lst ne hs ha => exact .lst (SqL.of hs) (VlA.dp ds _ ha)
  | .tuple ds, _, h => by
    cases h with
    | tup ne hs ha => exact .tup (SqT.of hs) (VlA.dp ds _ ha)
  | .dict _, _, h => by cases h
theorem VlA.dp {K : PySem.W.Frag} {b : Addr} {H : Hp} : ∀ (ds : List PyData) (vs : List V), VlA b H vs ds → DpAll K H vs ds
  | [], _, h => by cases h; exact .nil
  | d :: ds, _, h => by
    cases h with
    | cons h1 h2 => exact .cons (Vl.dp d _ h1) (VlA.dp ds _ h2)
end
mutual
theorem Vl.kp {b : Addr} {H H' : Hp} (k : Kp [b] H H') : ∀ (d : PyData) (v : V), Vl b H v d → Vl b H' v d
  | .none, _, h => by cases h; exact .non
  | .bool b, _, h => by cases h; exact .bl b
  | .int i, _, h => by cases h; exact .int i
  | .str x, _, h => by cases h; exact .str x
  | .list ds, _, h => by
    cases h with
    | lst ne hs ha => exact .lst ne (k.at1 ne hs) (VlA.kp k ds _ ha)
  | .tuple ds, _, h => by
    cases h with
    | tup ne hs ha => exact .tup ne (k.at1 ne hs) (VlA.kp k ds _ ha)
  | .dict _, _, h => by cases h
theorem VlA.kp {b : Addr} {H H' : Hp} (k : Kp [b] H H') : ∀ (ds : List PyData) (vs : List V), VlA b H vs ds → VlA b H' vs ds
  | [], _, h => by cases h; exact .nil
  | d :: ds, _, h => by
    cases h with
    | cons h1 h2 => exact .cons (Vl.kp k d _ h1) (VlA.kp k ds _ h2)
end
theorem Vl.k0 {b : Addr} {H H' : Hp} {v : V} {d : PyData} (h : Vl b H v d) (k : Kp [] H H') : Vl b H' v d := Vl.kp k.all d v h
/-- no truth value stands where a whole number should -/
def okv : PyData → Bool
  | .tuple [_, .bool _, _] => false
  | .tuple [_, _, .bool _] => false
  | _ => true
structure Val (b : Addr) (H : Hp) (v : V) : Prop where
  ex : ∃ d, Vl b H v d ∧ SeqAt.shaped d = true ∧ okv d = true
theorem Val.k1 {b : Addr} {H H' : Hp} {v : V} (h : Val b H v) (k : Kp [b] H H') : Val b H' v := by
  obtain ⟨d, h1, h2⟩ := h.ex
  exact ⟨d, Vl.kp k d v h1, h2⟩
/-- the value is the certificate -/
def cerB (d : PyData) (s : Str) (i j : Int) : Bool := match d with
  | .tuple [.str t, .int k, .int l] => decide (t = s) && (decide (k = i) && decide (l = j))
  | _ => false
def isS : PyData → Bool
  | .str _ => true
  | _ => false
def isI : PyData → Bool
  | .int _ => true
  | _ => false
def isTu : PyData → Bool
  | .tuple _ => true
  | _ => false
theorem cer_of (a b c : PyData) (s : Str) (i j : Int) : cerB (.tuple [a, b, c]) s i j = (isS a && ((isI b && isI c) && PyData.eqv (.tuple [a, b, c]) (.tuple [.str s, .int i, .int j]))) := by
  cases a <;> cases b <;> cases c <;> simp [cerB, isS, isI, PyData.eqv, PyData.eqvAll, Bool.beq_eq_decide_eq]
theorem cer_okv {d : PyData} (h : okv d = true) (s : Str) (i j : Int) : cerB d s i j = PyData.eqv d (.tuple [.str s, .int i, .int j]) := by
  cases d with
  | tuple ds =>
    match ds with
    | [] => simp [cerB, PyData.eqv, PyData.eqvAll]
    | [a] => simp [cerB, PyData.eqv, PyData.eqvAll]
    | [a, b] => simp [cerB, PyData.eqv, PyData.eqvAll]
    | [a, b, c] =>
      rw [cer_of]
      cases a <;> cases b <;> cases c <;> simp_all [isS, isI, okv, PyData.eqv, PyData.eqvAll]
    | a :: b :: c :: d :: e => simp [cerB, PyData.eqv, PyData.eqvAll]
  | _ => simp [cerB, PyData.eqv]
theorem cer_len {ds : List PyData} (h : ds.length ≠ 3) (s : Str) (i j : Int) : cerB (.tuple ds) s i j = false := by
  match ds with
  | [] => rfl
  | [a] => simp [cerB]
  | [a, b] => simp [cerB]
  | [a, b, c] => exact absurd rfl h
  | a :: b :: c :: d :: e => simp [cerB]
theorem cer_tu {d : PyData} (h : isTu d = false) (s : Str) (i j : Int) : cerB d s i j = false := by
  cases d <;> simp_all [isTu, cerB]
/-! promises -/
section
def sp_Links_outs (K : PySem.W.Frag) : Sp := fun vs H Q E => ∃ (p r l o : Addr) (s : Sd), vs = [.ref p] ∧ LinksAt K H p r l o s ∧ ∀ q H', H q = none → Kp [] H H' → H' q = some (.lst ((outN s.n s.O).map V.int)) → Q (.ref q) H'
def sp_Verdict___init__ (K : PySem.W.Frag) : Sp := fun vs H Q E => ∃ (p l dx : Addr) (a b : V) (gone : List Int), vs = [.ref p, .ref l, a, b] ∧ H p = some (.ins (He.ga K "Verdict") dx []) ∧ p ≠ l ∧ SqL K H l (gone.map V.int) ∧ gone.length ≤ 1000 ∧ Isn a ∧
  ∀ g H', H g = none → Kp [p] H H' → VdAt K H' p g gone a b → Q .non H'
def sp_verdict (K : PySem.W.Frag) : Sp := fun vs H Q E => ∃ (a : Addr) (size : Int) (log : List Int), vs = [.int size, .ref a] ∧ SqL K H a (log.map V.int) ∧ log.length ≤ 1000 ∧ RepE K H size log E ∧
  (SizeOk size → Leg (wholeS size.toNat) log → ∀ x g v w H', Kp [] H H' → VdAt K H' x g (outS size.toNat log) v w → VF size.toNat log v w → Q (.ref x) H')
def sp__law_number_or_none (K : PySem.W.Frag) : Sp := fun vs H Q E => ∃ v : V, vs = [v, v] ∧ Isn v ∧ Q (.bl true) H
def sp__law_bears (K : PySem.W.Frag) : Sp := fun vs H Q E => ∃ (x g c : Addr) (gone : List Int) (v w : V), vs = [.ref x, .ref c, v, w] ∧ VdAt K H x g gone v w ∧ H c = some (.lst (gone.map V.int)) ∧ gone.length ≤ 1000 ∧ Isn v ∧ Isn w ∧ Q (.bl true) H
def sp10__law_book (K : PySem.W.Frag) : Sp := fun vs H Q E => ∃ (n : Nat) (a : Addr) (log : List Int), vs = [.int (n : Int), .ref a] ∧ n ≤ 60 ∧ SqL K H a (log.map V.int) ∧ log.length ≤ 1000 ∧ Leg (wholeS n) log ∧ ∀ q H', Kp [] H H' → BookAt H' q n log → Q (.ref q) H'
def sp__law_verdict_fits (K : PySem.W.Frag) : Sp := fun vs H Q E => ∃ (x g q : Addr) (n : Nat) (log : List Int) (v w : V), vs = [.ref x, .ref q] ∧ n ≤ 60 ∧ VdAt K H x g (outS n log) v w ∧ VF n log v w ∧ BookAt H q n log ∧ Q (.bl true) H
def sp__law_made (K : PySem.W.Frag) : Sp := fun vs H Q E => ∃ (c : Addr) (gone : List Int) (v w : V), vs = [.ref c, v, w] ∧ H c = some (.lst (gone.map V.int)) ∧ gone.length ≤ 10 ∧ Isn v ∧ Isn w ∧ ∀ H', Kp [] H H' → Q (.bl true) H'
def sp__law_is_paper (K : PySem.W.Frag) : Sp := fun vs H Q E => ∃ (t u : Addr) (s : Str) (i j : Int), vs = [.ref t, .ref u] ∧ H t = some (.tup [.str s, .int i, .int j]) ∧ H u = some (.tup [.str s, .int i, .int j]) ∧ Q (.bl true) H
def sp__law_bents (K : PySem.W.Frag) : Sp := fun vs H Q E => ∃ (b u o : Addr) (by_ i j i' j' : Int) (s s' : Str), vs = [.ref u, .ref o, .int by_] ∧ H u = some (.tup [.str s, .int i, .int j]) ∧ H o = some (.tup [.str s', .int i', .int j']) ∧ PyData.strOk s = true ∧ PyData.strOk s' = true ∧
  -2000 ≤ i ∧ i ≤ 2000 ∧ u ≠ b ∧ o ≠ b ∧ H b ≠ none ∧ ∀ q xs H', H q = none → Kp [] H H' → H' q = some (.lst xs) → 1 ≤ xs.length → xs.length ≤ 100 → (∀ x ∈ xs, Val b H' x) → Q (.ref q) H'
def sp_is_plain_integer (K : PySem.W.Frag) : Sp := fun vs H Q E => ∃ (b : Addr) (x : V) (d : PyData), vs = [x] ∧ Vl b H x d ∧ Q (.bl (isI d)) H
def sp_gap_certificate (K : PySem.W.Frag) : Sp := fun vs H Q E => ∃ (a : Addr) (size g : Int) (log : List Int), vs = [.int size, .ref a, .int g] ∧ SqL K H a (log.map V.int) ∧ log.length ≤ 1000 ∧ RepE K H size log E ∧
  (SizeOk size → Leg (wholeS size.toNat) log → ¬ (0 ≤ g ∧ g ≤ size) → ∀ H', Kp [] H H' → Ex K "BadGap" [("gap", .int g)] E H') ∧
  (SizeOk size → Leg (wholeS size.toNat) log → 0 ≤ g → g ≤ size → ∀ t H', Kp [] H H' → H' t = some (.tup (paper size.toNat log g.toNat)) → Q (.ref t) H')
def sp_is_gap_certificate (K : PySem.W.Frag) : Sp := fun vs H Q E => ∃ (a b : Addr) (size g : Int) (log : List Int) (x : V) (d : PyData), vs = [.int size, .ref a, .int g, x] ∧ SqL K H a (log.map V.int) ∧ log.length ≤ 1000 ∧ Vl b H x d ∧ SeqAt.shaped d = true ∧ RepE K H size log E ∧
  (SizeOk size → Leg (wholeS size.toNat) log → ¬ (0 ≤ g ∧ g ≤ size) → ∀ H', Kp [] H H' → Ex K "BadGap" [("gap", .int g)] E H') ∧
  (SizeOk size → Leg (wholeS size.toNat) log → 0 ≤ g → g ≤ size → ∀ H', Kp [] H H' → Q (.bl (cerB d (stT (runS (wholeS size.toNat) log) g.toNat) (gI (bkR size.toNat log).wr g.toNat) (gI (bkR size.toNat log).wl g.toNat))) H')
def sp__law_judged (K : PySem.W.Frag) : Sp := fun vs H Q E => ∃ (n g : Nat) (a b u : Addr) (log : List Int) (x : V) (d : PyData), vs = [.int (n : Int), .ref a, .int (g : Int), x, .ref u] ∧ n ≤ 60 ∧ g ≤ n ∧ SqL K H a (log.map V.int) ∧ log.length ≤ 1000 ∧ Leg (wholeS n) log ∧
  Vl b H x d ∧ SeqAt.shaped d = true ∧ okv d = true ∧ H u = some (.tup (paper n log g)) ∧ ∀ H', Kp [] H H' → Q (.bl true) H'
def sp__law_papers_fit (K : PySem.W.Frag) : Sp := fun vs H Q E => ∃ (n : Nat) (a c p b : Addr) (log gs : List Int), vs = [.int (n : Int), .ref a, .ref c, .ref p, .ref b] ∧ n ≤ 60 ∧ H a = some (.lst (log.map V.int)) ∧ log.length ≤ 1000 ∧ Leg (wholeS n) log ∧ H c = some (.lst (gs.map V.int)) ∧ gs ≠ [] ∧
  (∀ g ∈ gs, 0 ≤ g ∧ g ≤ n) ∧ gs.length ≤ 1000 ∧ PapersAt H p n log ∧ Bag H b ∧ a ≠ b ∧ c ≠ b ∧ p ≠ b ∧ ∀ H', Kp [b] H H' → Bag H' b → Q (.bl true) H'
def sp10__law_agrees (K : PySem.W.Frag) : Sp := fun vs H Q E => ∃ (n : Nat) (a c b : Addr) (log gs : List Int), vs = [.int (n : Int), .ref a, .ref c, .ref b] ∧ n ≤ 60 ∧ H a = some (.lst (log.map V.int)) ∧ log.length ≤ 1000 ∧ Leg (wholeS n) log ∧ H c = some (.lst (gs.map V.int)) ∧ gs ≠ [] ∧
  (∀ g ∈ gs, 0 ≤ g ∧ g ≤ n) ∧ gs.length ≤ 1000 ∧ Bag H b ∧ a ≠ b ∧ c ≠ b ∧ ∀ H', Kp [b] H H' → Bag H' b → Q (.bl true) H'
def sp10__law_answer (K : PySem.W.Frag) : Sp := fun vs H Q E => ∃ (way size g : Int) (a : Addr) (log : List Int), vs = [.int way, .int size, .ref a, .int g] ∧ (way ≤ 1 ∨ g = 0) ∧ 0 ≤ way ∧ way ≤ 2 ∧ SqL K H a (log.map V.int) ∧ log.length ≤ 1000 ∧ ∀ xs t H', FltV size log g xs → Kp [] H H' → H' t = some (.tup xs) → Q (.ref t) H'
def sp10__law_places (K : PySem.W.Frag) : Sp := fun vs H Q E => ∃ (b a : Addr) (n : Nat) (log : List Int), vs = [.ref b, .int (n : Int), .ref a] ∧ n ≤ 60 ∧ Bag H b ∧ a ≠ b ∧ H a = some (.lst (log.map V.int)) ∧ log.length ≤ 500 ∧ (∀ x ∈ log, IsOp n x) ∧ ∀ (gs : List Int) (q : Addr) H', H q = none → gs ≠ [] → gs.length ≤ 100 → (∀ g ∈ gs, 0 ≤ g ∧ g ≤ n) → Kp [b] H H' → Bag H' b → H' q = some (.lst (gs.map V.int)) → Q (.ref q) H'
end
end G

set_option Elab.async false
set_option linter.all false
set_option maxRecDepth 100000
set_option maxHeartbeats 4000000
/-! Texts of numbers, and of standings. -/
namespace G
open PySem PySem.Spec PyProof.Rows L2 TL
def numI (i : Int) : Str := Str.ofString (toString i)
def spS : Str := " "
def barS : Str := " | "
def joinI (l : List Int) : Str := Txt.join spS (l.map numI)
theorem tl_numI {i : Int} (h : 0 ≤ i) : tl (numI i) = numL i.toNat := by
  obtain ⟨n, rfl⟩ : ∃ n : Nat, i = (n : Int) := ⟨i.toNat, by omega⟩
  rw [Int.toNat_natCast]
  exact tl_num n
theorem tl_spS : tl spS = [32] := by decide +kernel
theorem tl_barS : tl barS = [32, 124, 32] := by decide +kernel
theorem numI_len {i : Int} (h : 0 ≤ i) (h2 : i < 1000000000) : (numI i).length ≤ 9 := by
  rw [len_tl, tl_numI h]
  exact numL_len (by decide) (by omega)
theorem numI_pos {i : Int} (h : 0 ≤ i) : 1 ≤ (numI i).length := by
  rw [len_tl, tl_numI h]
  exact List.length_pos_iff.mpr (numL_ne _)
theorem split_joinI {l : List Int} (hne : l ≠ []) (h : ∀ i ∈ l, 0 ≤ i) : Txt.split (joinI l) spS = l.map numI := by
  refine split_join (y := spS) (s := 32) (S := []) tl_spS (by decide +kernel) (by simpa using hne) fun p hp => ?_
  obtain ⟨i, hi, rfl⟩ := List.mem_map.mp hp
  rw [tl_numI (h i hi)]
  exact numL_free (by omega)
theorem joinL_len (S : List Nat) : ∀ ps : List (List Nat), (joinL S ps).length ≤ (ps.map List.length).sum + ps.length * S.length
  | [] => by simp [joinL]
  | [p] => by simp [joinL]
  | p :: q :: r => by
    have ih := joinL_len S (q :: r)
    show (p ++ (S ++ joinL S (q :: r))).length ≤ _
    simp only [List.length_append, List.map_cons, List.sum_cons, List.length_cons, Nat.add_mul, Nat.one_mul] at ih ⊢
    omega
theorem sum_le9 : ∀ {l : List Int}, (∀ i ∈ l, 0 ≤ i ∧ i < 1000000000) → ((l.map numI).map (·.length)).sum ≤ 9 * l.length
  | [], _ => by simp
  | i :: l, h => by
    have ih := sum_le9 (l := l) fun j hj => h j (List.mem_cons_of_mem _ hj)
    have h0 := h i List.mem_cons_self
    have := numI_len h0.1 h0.2
    simp only [List.map_cons, List.sum_cons, List.length_cons]
    omega
theorem joinI_len {l : List Int} (h : ∀ i ∈ l, 0 ≤ i ∧ i < 1000000000) : (joinI l).length ≤ 10 * l.length := by
  unfold joinI
  rw [len_tl, join_eq, tl_join]
  refine Nat.le_trans (joinL_len _ _) ?_
  have := sum_le9 h
  rw [tl_spS, List.map_map, List.length_map, List.length_map]
  have e : (List.map (List.length ∘ tl) (List.map numI l)).sum = ((l.map numI).map (·.length)).sum := by
    congr 1
  rw [e]
  show _ + l.length * 1 ≤ _
  omega
theorem join_cost {l : List Int} (h : ∀ i ∈ l, 0 ≤ i ∧ i < 1000000000) (hl : l.length ≤ 1000) : ((l.map numI).map (·.length)).sum + (l.map numI).length * spS.length ≤ 16777216 := by
  have := sum_le9 h
  have e : spS.length = 1 := by decide +kernel
  rw [e, List.length_map]
  omega
theorem intText_num {i : Int} (h : 0 ≤ i) (h2 : i < 1000000000) : intText? (numI i) = some i := by
  obtain ⟨n, rfl⟩ : ∃ n : Nat, i = (n : Int) := ⟨i.toNat, by omega⟩
  refine int_num ?_
  have := numL_len (n := n) (k := 9) (by decide) (by omega)
  omega
theorem numI_inj {i j : Int} (hi : 0 ≤ i) (hj : 0 ≤ j) (e : numI i = numI j) : i = j := by
  have e2 := congrArg tl e
  rw [tl_numI hi, tl_numI hj] at e2
  have := numL_inj e2
  omega
theorem zeroS : numI 0 = ("0" : Str) := by decide +kernel
theorem numI_ne0 {i : Int} (h : 1 ≤ i) : ¬ numI i = ("0" : Str) := fun e => by
  rw [← zeroS] at e
  have := numI_inj (by omega) (by omega) e
  omega
theorem numL_head : ∀ n : Nat, 1 ≤ n → ∀ c r, numL n = c :: r → c ≠ 48 := by
  intro n
  induction n using Nat.strongRecOn with
  | _ n ih =>
    intro h c r e
    by_cases h10 : n < 10
    · rw [numL_lt h10] at e
      injection e with e1 e2
      omega
    · rw [numL_step (by omega)] at e
      cases e2 : numL (n / 10) with
      | nil => exact absurd e2 (numL_ne _)
      | cons d t =>
        rw [e2, List.cons_append] at e
        injection e with e3 e4
        have := ih (n / 10) (by omega) (by omega) d t e2
        omega
def digS : Str := "0123456789"
theorem digs_mem {c : Nat} (h : 48 ≤ c ∧ c ≤ 57) : c ∈ digS.cps.toList := by
  have e : digS.cps.toList = [48, 49, 50, 51, 52, 53, 54, 55, 56, 57] := by decide +kernel
  rw [e]
  have : c = 48 ∨ c = 49 ∨ c = 50 ∨ c = 51 ∨ c = 52 ∨ c = 53 ∨ c = 54 ∨ c = 55 ∨ c = 56 ∨ c = 57 := by omega
  simp only [List.mem_cons, List.not_mem_nil, or_false]
  exact this
theorem numI_digits {i : Int} (h : 0 ≤ i) {c : Nat} (hc : c ∈ (numI i).cps.toList) : c ∈ digS.cps.toList := by
  have e : (numI i).cps.toList = numL i.toNat := tl_numI h
  rw [e] at hc
  exact digs_mem (numL_digits _ _ hc)
/-! ### a text's parts -/
def GoodP (p : List Nat) : Prop := 124 ∉ p ∧ ∀ q, p ≠ q ++ [32]
theorem pre_bar {x y : Nat} (r : List Nat) (h : y ≠ 124) : pre [32, 124, 32] (x :: y :: r) = false := by
  cases hp : pre [32, 124, 32] (x :: y :: r) with
  | false => rfl
  | true =>
    have e : (x :: y :: r).take 3 = [32, 124, 32] := eq_of_beq hp
    rw [List.take_succ_cons, List.take_succ_cons] at e
    injection e with e1 e2
    injection e2 with e3 e4
    exact absurd e3 h
theorem good_free {p rest : List Nat} (g : GoodP p) : ∀ i, i < p.length → pre [32, 124, 32] ((p ++ rest).drop i) = false := by
  intro i hi
  have h1 : i < (p ++ rest).length := by rw [List.length_append]; omega
  have e1 : (p ++ rest).drop i = (p ++ rest)[i] :: (p ++ rest).drop (i + 1) := List.drop_eq_getElem_cons h1
  have e2 : (p ++ rest)[i] = p[i] := List.getElem_append_left hi
  rw [e1, e2]
  by_cases c : p[i] = 32
  · have lt : i + 1 < p.length := by
      apply Classical.byContradiction
      intro nlt
      have ei : i = p.length - 1 := by omega
      refine g.2 p.dropLast ?_
      have hne : p ≠ [] := fun z => by rw [z] at hi; simp at hi
      have := List.dropLast_concat_getLast hne
      rw [← this]
      congr 1
      · rw [List.dropLast_concat]
      · congr 1
        rw [List.getLast_eq_getElem]
        subst ei
        exact c
    have h2 : i + 1 < (p ++ rest).length := by rw [List.length_append]; omega
    have e3 : (p ++ rest).drop (i + 1) = (p ++ rest)[i + 1] :: (p ++ rest).drop (i + 2) := List.drop_eq_getElem_cons h2
    have e4 : (p ++ rest)[i + 1] = p[i + 1] := List.getElem_append_left lt
    rw [e3, e4]
    exact pre_bar _ fun z => g.1 (by rw [← z]; exact List.getElem_mem lt)
  · exact pre_of_head _ _ c
theorem split_bar {a b c : Str} (ga : GoodP (tl a)) (gb : GoodP (tl b)) (gc : GoodP (tl c)) : Txt.split (Txt.join barS [a, b, c]) barS = [a, b, c] := by
  refine map_tl_inj ?_
  rw [split_spl _ barS (by rw [tl_barS]; simp) (kind_ok (by decide +kernel)), join_eq, tl_join, tl_barS]
  show spl [32, 124, 32] 0 [] (tl a ++ ([32, 124, 32] ++ (tl b ++ ([32, 124, 32] ++ tl c)))) = [tl a, tl b, tl c]
  rw [spl_part (by simp) (good_free ga), spl_part (by simp) (good_free gb), spl_last (fun i hi => by
    have := good_free (rest := []) gc i hi
    rw [List.append_nil] at this
    exact this)]
  rfl
theorem joinL_mem {S : List Nat} {c : Nat} : ∀ {ps : List (List Nat)}, c ∈ joinL S ps → c ∈ S ∨ ∃ p ∈ ps, c ∈ p
  | [], h => by cases h
  | [p], h => .inr ⟨p, List.mem_singleton.mpr rfl, h⟩
  | p :: q :: r, h => by
    have h : c ∈ p ++ (S ++ joinL S (q :: r)) := h
    rcases List.mem_append.mp h with h | h
    · exact .inr ⟨p, List.mem_cons_self, h⟩
    rcases List.mem_append.mp h with h | h
    · exact .inl h
    rcases joinL_mem h with h | ⟨z, hz, h⟩
    · exact .inl h
    · exact .inr ⟨z, List.mem_cons_of_mem _ hz, h⟩
theorem joinL_last {S : List Nat} : ∀ {ps : List (List Nat)}, ps ≠ [] → (∀ p ∈ ps, p ≠ [] ∧ ∀ q, p ≠ q ++ [32]) → joinL S ps ≠ [] ∧ ∀ q, joinL S ps ≠ q ++ [32]
  | [], h, _ => absurd rfl h
  | [p], _, h => h p (List.mem_singleton.mpr rfl)
  | p :: q :: r, _, h => by
    obtain ⟨i1, i2⟩ := joinL_last (S := S) (ps := q :: r) (by simp) fun z hz => h z (List.mem_cons_of_mem _ hz)
    have hj : joinL S (p :: q :: r) = (p ++ S) ++ joinL S (q :: r) := (List.append_assoc ..).symm
    rw [hj]
    refine ⟨fun z => i1 (List.append_eq_nil_iff.mp z).2, fun t ht => ?_⟩
    have e := congrArg List.getLast? ht
    rw [List.getLast?_append, List.getLast?_concat, List.getLast?_eq_some_getLast i1, Option.some_or] at e
    have d := List.dropLast_concat_getLast i1
    have gl : (joinL S (q :: r)).getLast i1 = 32 := by injection e
    rw [gl] at d
    exact i2 _ d.symm
theorem numL_last (n : Nat) : ∀ q, numL n ≠ q ++ [32] := fun q e => by
  have := numL_digits n 32 (by rw [e]; simp)
  omega
theorem good_joinI {l : List Int} (hne : l ≠ []) (h : ∀ i ∈ l, 0 ≤ i) : GoodP (tl (joinI l)) := by
  unfold joinI
  rw [join_eq, tl_join, tl_spS]
  have hp : ∀ p ∈ (l.map numI).map tl, ∃ n, p = numL n := by
    intro p hp
    obtain ⟨z, hz, rfl⟩ := List.mem_map.mp hp
    obtain ⟨i, hi, rfl⟩ := List.mem_map.mp hz
    exact ⟨_, tl_numI (h i hi)⟩
  refine ⟨fun hm => ?_, (joinL_last (by simpa using hne) fun p hq => ?_).2⟩
  · rcases joinL_mem hm with z | ⟨p, hq, z⟩
    · simp at z
    · obtain ⟨n, rfl⟩ := hp p hq
      have := numL_digits n _ z
      omega
  · obtain ⟨n, rfl⟩ := hp p hq
    exact ⟨numL_ne n, numL_last n⟩
def noneS : Str := "none"
theorem good_none : GoodP (tl noneS) := by
  have e : tl noneS = [110, 111, 110, 101] := by decide +kernel
  rw [e]
  refine ⟨by decide, fun q h => ?_⟩
  have := congrArg List.getLast? h
  rw [List.getLast?_concat] at this
  simp at this
/-! ### the dump -/
def outsT (l : List Int) : Str := if l = [] then noneS else joinI l
def dumpS (s : Sd) : Str := Txt.join barS [joinI s.R, joinI (s.L.drop 1), outsT (outN s.n s.O)]
theorem joinI_ne_none {l : List Int} (hne : l ≠ []) (h : ∀ i ∈ l, 0 ≤ i) : ¬ joinI l = noneS := fun e => by
  have e2 := split_joinI hne h
  rw [e] at e2
  have d : Txt.split noneS spS = [noneS] := by
    refine map_tl_inj ?_
    rw [split_spl _ spS (by rw [tl_spS]; simp) (kind_ok (by decide +kernel))]
    decide +kernel
  rw [d] at e2
  match l, hne with
  | i :: r, _ =>
    rw [List.map_cons] at e2
    injection e2 with e3 e4
    have hi := h i List.mem_cons_self
    have t := congrArg tl e3
    rw [tl_numI hi] at t
    have m : (110 : Nat) ∈ numL i.toNat := by
      rw [← t]
      decide +kernel
    have := numL_digits _ _ m
    omega
theorem outN_bd {n : Nat} {O : List Bool} {i : Int} (h : i ∈ outN n O) : 1 ≤ i ∧ i ≤ n ∧ gB O i.toNat = true := by
  unfold outN at h
  obtain ⟨v, hv, rfl⟩ := List.mem_map.mp h
  obtain ⟨h1, h2⟩ := List.mem_filter.mp hv
  obtain ⟨u, hu, rfl⟩ := List.mem_map.mp h1
  have := List.mem_range.mp hu
  refine ⟨by omega, by omega, ?_⟩
  rw [Int.toNat_natCast]
  exact h2
end G

set_option Elab.async false
set_option linter.all false
set_option maxRecDepth 100000
set_option maxHeartbeats 4000000
/-! k07, k06: standings read from texts; what an operation changes. -/
namespace G
open PySem PySem.Spec PyProof.Rows L2
/-- a standing that can be read back: no left link of the head, the sentinels in -/
structure Snd (s : Sd) : Prop where
  l0 : ∃ t, s.L = 0 :: t
  o0 : gB s.O 0 = false
  o1 : gB s.O (s.n + 1) = false
theorem stepS_snd {s : Sd} (w : Wf s) (d : Snd s) {op : Int} (h : IsOp s.n op) : Snd (stepS s op) := by
  obtain ⟨t, e⟩ := d.l0
  obtain ⟨r1, r2⟩ := w.rb op.natAbs (by have := h.2; omega)
  have h1 := h.1
  have h2 := h.2
  refine ⟨?_, ?_, ?_⟩
  · obtain ⟨k, ek⟩ : ∃ k, (gI s.R op.natAbs).toNat = k + 1 := ⟨(gI s.R op.natAbs).toNat - 1, by omega⟩
    refine ⟨t.set k (if op < 0 then gI s.L op.natAbs else (op.natAbs : Int)), ?_⟩
    show s.L.set (gI s.R op.natAbs).toNat _ = _
    rw [ek]
    generalize (if op < 0 then gI s.L op.natAbs else (op.natAbs : Int)) = v
    rw [e]
    rfl
  · show gB (s.O.set op.natAbs _) 0 = false
    rw [gB_set (by rw [w.lO]; omega), if_neg (by omega)]
    exact d.o0
  · show gB (s.O.set op.natAbs _) (s.n + 1) = false
    rw [gB_set (by rw [w.lO]; omega), if_neg (by omega)]
    exact d.o1
theorem runS_snd {s : Sd} (w : Wf s) (d : Snd s) : ∀ {log : List Int}, Leg s log → Snd (runS s log) := by
  intro log
  induction log using snoc_ind with
  | h0 => exact fun _ => d
  | h1 l x ih =>
    intro h
    have h1 : Leg s l := by
      have := h.take l.length
      rwa [List.take_left' rfl] at this
    have h2 := h l.length x (by simp)
    rw [List.take_left' rfl] at h2
    rw [runS_snoc]
    exact stepS_snd (h1.wf w) (ih h1) h2.1
theorem wholeS_snd (n : Nat) : Snd (wholeS n) := by
  refine ⟨⟨_, rfl⟩, ?_, ?_⟩
  · exact gB_of (by show (List.replicate (n + 2) false)[0]? = _; rw [List.getElem?_replicate_of_lt (by omega)])
  · exact gB_of (by show (List.replicate (n + 2) false)[n + 1]? = _; rw [List.getElem?_replicate_of_lt (by omega)])
/-! ### the gaps of foreign writes -/
def forW (s : Sd) (x : Nat) : List Int :=
  (if gI s.L x ≠ (x : Int) - 1 ∧ gI s.R (gI s.L x).toNat = gI s.L x + 1 then [gI s.L x] else []) ++
  (if gI s.R x ≠ (x : Int) + 1 ∧ gI s.L (gI s.R x).toNat = gI s.R x - 1 then [gI s.R x - 1] else [])
theorem forW_len (s : Sd) (x : Nat) : (forW s x).length ≤ 2 := by
  unfold forW
  rw [List.length_append]
  split <;> split <;> simp
/-! ### changes -/
abbrev Tr := Nat × Str × Str
def trV (t : Tr) : List V := [.int (t.1 : Int), .str t.2.1, .str t.2.2]
def chg (s s' : Sd) : List Tr := ((List.range (s.n + 1)).filter fun g => !decide (stT s g = stT s' g)).map fun g => (g, stT s g, stT s' g)
def TupsAt (H : Hp) (xs : List V) (ts : List Tr) : Prop := xs.length = ts.length ∧ ∀ (i : Nat) (t : Tr), ts[i]? = some t → ∃ a, xs[i]? = some (.ref a) ∧ H a = some (.tup (trV t))
theorem TupsAt.kp {S : List Addr} {H H' : Hp} {xs : List V} {ts : List Tr} (h : TupsAt H xs ts) (k : Kp S H H') (hS : ∀ b ∈ S, ∀ ys, H b ≠ some (.tup ys)) : TupsAt H' xs ts := by
  refine ⟨h.1, fun i t e => ?_⟩
  obtain ⟨a, h1, h2⟩ := h.2 i t e
  exact ⟨a, h1, k _ _ (fun z => hS a z _ h2) h2⟩
theorem TupsAt.k0 {H H' : Hp} {xs : List V} {ts : List Tr} (h : TupsAt H xs ts) (k : Kp [] H H') : TupsAt H' xs ts := h.kp k (by simp)
theorem TupsAt.snoc {H : Hp} {xs : List V} {ts : List Tr} {a : Addr} {t : Tr} (h : TupsAt H xs ts) (ha : H a = some (.tup (trV t))) : TupsAt H (xs ++ [.ref a]) (ts ++ [t]) := by
  refine ⟨by rw [List.length_append, List.length_append, h.1] <;> rfl, fun i u e => ?_⟩
  by_cases c : i < ts.length
  · rw [List.getElem?_append_left c] at e
    obtain ⟨b, h1, h2⟩ := h.2 i u e
    exact ⟨b, by rw [List.getElem?_append_left (by rw [h.1]; exact c)]; exact h1, h2⟩
  · have hl := (List.getElem?_eq_some_iff.mp e).1
    rw [List.length_append] at hl
    have ei : i = ts.length := by simp at hl; omega
    subst ei
    rw [List.getElem?_append_right (Nat.le_refl _), Nat.sub_self] at e
    have eu : t = u := by simpa using e
    subst eu
    exact ⟨a, by rw [List.getElem?_append_right (by rw [h.1]; exact Nat.le_refl _), h.1, Nat.sub_self] <;> rfl, ha⟩
theorem TupsAt.nil {H : Hp} : TupsAt H [] [] := ⟨rfl, fun i t e => by simp at e⟩
theorem chg_len (s s' : Sd) : (chg s s').length ≤ s.n + 1 := by
  unfold chg
  rw [List.length_map]
  have := List.length_filter_le (fun g => !decide (stT s g = stT s' g)) (List.range (s.n + 1))
  rw [List.length_range] at this
  exact this
/-- the two ends of an operation: the gap, its state behind it -/
structure Ends2 (s : Sd) (op : Int) (es : List (Nat × Str)) : Prop where
  ex : ∃ c1 c2 : Bool, es = (if c1 then [(lowN s op, stT (stepS s op) (lowN s op))] else []) ++ (if c2 then [(hiN s op, stT (stepS s op) (hiN s op))] else []) ∧
    (c1 = false → stT (stepS s op) (lowN s op) = stT s (lowN s op)) ∧ (c2 = false → stT (stepS s op) (hiN s op) = stT s (hiN s op))
def chE (s : Sd) (es : List (Nat × Str)) : List Tr := (es.filter fun e => !decide (stT s e.1 = e.2)).map fun e => (e.1, stT s e.1, e.2)
theorem filter_two {n a b : Nat} {p : Nat → Bool} (hab : a < b) (hb : b < n) (h : ∀ g, g < n → g ≠ a → g ≠ b → p g = false) : (List.range n).filter p = (if p a then [a] else []) ++ (if p b then [b] else []) := by
  have key : ∀ m, (List.range m).filter p = (if a < m ∧ p a = true then [a] else []) ++ (if b < m ∧ p b = true then [b] else []) ∨ n < m := by
    intro m
    induction m with
    | zero => left; rw [if_neg (by omega), if_neg (by omega)]; rfl
    | succ m ih =>
      by_cases hm : n < m + 1
      · exact .inr hm
      rcases ih with ih | ih
      · left
        rw [List.range_succ, List.filter_append, ih]
        by_cases e1 : m = a
        · subst e1
          rw [if_neg (by omega), if_neg (by omega : ¬ (b < m ∧ p b = true)), if_neg (by omega : ¬ (b < m + 1 ∧ p b = true))]
          cases hp : p m with
          | true => rw [List.filter_cons_of_pos hp, if_pos ⟨by omega, rfl⟩]; rfl
          | false => rw [List.filter_cons_of_neg (by rw [hp]; exact Bool.false_ne_true), if_neg (by simp)]; rfl
        · by_cases e2 : m = b
          · subst e2
            rw [if_neg (by omega : ¬ (m < m ∧ p m = true))]
            have i1 : (a < m ∧ p a = true) = (a < m + 1 ∧ p a = true) := by
              refine propext ⟨fun z => ⟨by omega, z.2⟩, fun z => ⟨by omega, z.2⟩⟩
            simp only [i1, List.append_nil]
            cases hp : p m with
            | true => rw [List.filter_cons_of_pos hp, if_pos (⟨by omega, rfl⟩ : m < m + 1 ∧ true = true)]; rfl
            | false => rw [List.filter_cons_of_neg (by rw [hp]; exact Bool.false_ne_true), if_neg (by simp : ¬ (m < m + 1 ∧ false = true))]; rfl
          · rw [List.filter_cons_of_neg (by rw [h m (by omega) e1 e2]; exact Bool.false_ne_true)]
            have i1 : (a < m ∧ p a = true) = (a < m + 1 ∧ p a = true) := by
              refine propext ⟨fun z => ⟨by omega, z.2⟩, fun z => ⟨by omega, z.2⟩⟩
            have i2 : (b < m ∧ p b = true) = (b < m + 1 ∧ p b = true) := by
              refine propext ⟨fun z => ⟨by omega, z.2⟩, fun z => ⟨by omega, z.2⟩⟩
            simp only [i1, i2]
            rw [List.filter_nil, List.append_nil]
      · omega
  rcases key n with k | k
  · rw [k]
    congr 1
    · by_cases c : p a = true
      · rw [if_pos ⟨by omega, c⟩, if_pos c]
      · rw [if_neg (fun z => c z.2), if_neg c]
    · by_cases c : p b = true
      · rw [if_pos ⟨by omega, c⟩, if_pos c]
      · rw [if_neg (fun z => c z.2), if_neg c]
  · omega
theorem ends_chg {s : Sd} (w : Wf s) {op : Int} (h : IsOp s.n op) {es : List (Nat × Str)} (e : Ends2 s op es) : chE s es = chg s (stepS s op) := by
  obtain ⟨t1, t2, t3, t4, t5⟩ := touch_bd w h
  unfold chg
  rw [filter_two (a := lowN s op) (b := hiN s op) (by omega) (by omega) (fun g hg g1 g2 => by rw [step_st w h g1 g2, decide_eq_true rfl]; rfl)]
  obtain ⟨c1, c2, rfl, h1, h2⟩ := e.ex
  unfold chE
  rw [List.filter_append, List.map_append, List.map_append]
  congr 1
  · cases c1 with
    | true =>
      by_cases d : stT s (lowN s op) = stT (stepS s op) (lowN s op)
      · rw [decide_eq_true d]
        simp [d]
      · rw [decide_eq_false d]
        simp [d]
    | false =>
      have d := h1 rfl
      rw [d, decide_eq_true rfl]
      rfl
  · cases c2 with
    | true =>
      by_cases d : stT s (hiN s op) = stT (stepS s op) (hiN s op)
      · rw [decide_eq_true d]
        simp [d]
      · rw [decide_eq_false d]
        simp [d]
    | false =>
      have d := h2 rfl
      rw [d, decide_eq_true rfl]
      rfl
theorem ne_w : ¬ ("joined" : Str) = "lost" ∧ ¬ ("left" : Str) = "lost" ∧ ¬ ("right" : Str) = "lost" ∧ ¬ ("left" : Str) = "joined" ∧ ¬ ("right" : Str) = "joined" ∧ ¬ ("lost" : Str) = "joined" ∧ ¬ ("right" : Str) = "left" ∧ ¬ ("lost" : Str) = "left" ∧ ¬ ("lost" : Str) = "right" ∧ ¬ ("joined" : Str) = "left" ∧ ¬ ("joined" : Str) = "right" ∧ ¬ ("left" : Str) = "right" := by
  decide +kernel
theorem stT_lost {s : Sd} {g : Nat} : stT s g = "lost" ↔ gI s.R g ≠ (g : Int) + 1 ∧ gI s.L (g + 1) ≠ (g : Int) := by
  obtain ⟨a, b, c, _⟩ := ne_w
  unfold stT
  by_cases h1 : gI s.R g = (g : Int) + 1 <;> by_cases h2 : gI s.L (g + 1) = (g : Int)
  · rw [if_pos h1, if_pos h2]
    exact ⟨fun z => absurd z a, fun z => absurd h1 z.1⟩
  · rw [if_pos h1, if_neg h2]
    exact ⟨fun z => absurd z b, fun z => absurd h1 z.1⟩
  · rw [if_neg h1, if_pos h2]
    exact ⟨fun z => absurd z c, fun z => absurd h2 z.2⟩
  · rw [if_neg h1, if_neg h2]
    exact ⟨fun _ => ⟨h1, h2⟩, fun _ => rfl⟩
theorem step_gR {s : Sd} (w : Wf s) {op : Int} (h : IsOp s.n op) (g : Nat) : gI (stepS s op).R g = if g = lowN s op then (if op < 0 then (hiN s op : Int) + 1 else (op.natAbs : Int)) else gI s.R g := by
  obtain ⟨t1, t2, t3, t4, t5⟩ := touch_bd w h
  show gI (s.R.set _ _) g = _
  rw [gI_set (by rw [w.lR, t4]; have := h.2; omega), t4, Int.toNat_natCast, t5]
theorem step_gL {s : Sd} (w : Wf s) {op : Int} (h : IsOp s.n op) (g : Nat) : gI (stepS s op).L (g + 1) = if g = hiN s op then (if op < 0 then (lowN s op : Int) else (op.natAbs : Int)) else gI s.L (g + 1) := by
  obtain ⟨t1, t2, t3, t4, t5⟩ := touch_bd w h
  show gI (s.L.set _ _) (g + 1) = _
  rw [gI_set (by rw [w.lL, t5]; omega), t5, t4, show ((hiN s op : Int) + 1).toNat = hiN s op + 1 by omega]
  by_cases c : g = hiN s op
  · rw [if_pos c, if_pos (by omega)]
  · rw [if_neg c, if_neg (by omega)]
/-- what is lost stays lost -/
theorem lost_stays {s : Sd} (w : Wf s) {op : Int} (h : IsOp s.n op) {g : Nat} (hl : stT s g = "lost") : stT (stepS s op) g = "lost" := by
  obtain ⟨t1, t2, t3, t4, t5⟩ := touch_bd w h
  obtain ⟨a, b⟩ := stT_lost.mp hl
  refine stT_lost.mpr ⟨?_, ?_⟩
  · rw [step_gR w h]
    by_cases c : g = lowN s op
    · rw [if_pos c]
      by_cases o : op < 0
      · rw [if_pos o]
        omega
      · rw [if_neg o]
        intro z
        have e : g + 1 = op.natAbs := by omega
        rw [e, t4] at b
        omega
    · rw [if_neg c]
      exact a
  · rw [step_gL w h]
    by_cases c : g = hiN s op
    · rw [if_pos c]
      by_cases o : op < 0
      · rw [if_pos o]
        omega
      · rw [if_neg o]
        intro z
        have e : g = op.natAbs := by omega
        rw [e, t5] at a
        omega
    · rw [if_neg c]
      exact b
/-- the state of the lower gap behind the operation -/
theorem st_low {s : Sd} (w : Wf s) {op : Int} (h : IsOp s.n op) : stT (stepS s op) (lowN s op) = if lowN s op + 1 = op.natAbs then (if 0 < op then ("joined" : Str) else "right") else (if gI s.L (lowN s op + 1) = (lowN s op : Int) then ("right" : Str) else "lost") := by
  obtain ⟨t1, t2, t3, t4, t5⟩ := touch_bd w h
  have h1 := h.1
  have eR : gI (stepS s op).R (lowN s op) = if op < 0 then (hiN s op : Int) + 1 else (op.natAbs : Int) := by rw [step_gR w h, if_pos rfl]
  have eL : gI (stepS s op).L (lowN s op + 1) = gI s.L (lowN s op + 1) := by rw [step_gL w h, if_neg (by omega)]
  unfold stT
  rw [eR, eL]
  by_cases c : lowN s op + 1 = op.natAbs
  · rw [if_pos c]
    have e : gI s.L (lowN s op + 1) = (lowN s op : Int) := by rw [c]; exact t4
    rw [if_pos e, if_pos e]
    by_cases o : op < 0
    · rw [if_pos o, if_neg (by omega), if_neg (by omega)]
    · rw [if_neg o, if_pos (by omega), if_pos (by omega)]
  · rw [if_neg c]
    by_cases o : op < 0
    · rw [if_pos o, if_neg (by omega)]
    · rw [if_neg o, if_neg (by omega)]
theorem st_hi {s : Sd} (w : Wf s) {op : Int} (h : IsOp s.n op) : stT (stepS s op) (hiN s op) = if hiN s op = op.natAbs then (if 0 < op then ("joined" : Str) else "left") else (if gI s.R (hiN s op) = (hiN s op : Int) + 1 then ("left" : Str) else "lost") := by
  obtain ⟨t1, t2, t3, t4, t5⟩ := touch_bd w h
  have h1 := h.1
  have eR : gI (stepS s op).R (hiN s op) = gI s.R (hiN s op) := by rw [step_gR w h, if_neg (by omega)]
  have eL : gI (stepS s op).L (hiN s op + 1) = if op < 0 then (lowN s op : Int) else (op.natAbs : Int) := by rw [step_gL w h, if_pos rfl]
  unfold stT
  rw [eR, eL]
  by_cases c : hiN s op = op.natAbs
  · rw [if_pos c]
    have e : gI s.R (hiN s op) = (hiN s op : Int) + 1 := by rw [c, t5, c]
    rw [if_pos e]
    by_cases o : op < 0
    · rw [if_pos o, if_neg (by omega), if_neg (by omega)]
    · rw [if_neg o, if_pos (by omega), if_pos (by omega)]
  · rw [if_neg c]
    have n1 : ¬ (if op < 0 then (lowN s op : Int) else (op.natAbs : Int)) = (hiN s op : Int) := by
      by_cases o : op < 0
      · rw [if_pos o]
        omega
      · rw [if_neg o]
        omega
    rw [if_neg n1, if_neg n1]
/-! ### promises -/
section
def Num9 (l : List Int) : Prop := ∀ i ∈ l, 0 ≤ i ∧ i < 1000000000
/-- a new list -/
def NewL (H : Hp) (xs : List V) (Q : VK) : Prop := ∀ a H', H a = none → Kp [] H H' → H' a = some (.lst xs) → Q (.ref a) H'
def Any (H : Hp) (v : V) (Q : VK) : Prop := ∀ H', Kp [] H H' → Q v H'
def sp_is_positive (K : PySem.W.Frag) : Sp := fun vs H Q E => ∃ i : Int, vs = [.str (numI i)] ∧ 1 ≤ i ∧ i < 1000000000 ∧ Any H (.bl true) Q
def sp__read_numbers (K : PySem.W.Frag) : Sp := fun vs H Q E => ∃ (l : List Int) (part : Int), vs = [.str (joinI l), .int part] ∧ l ≠ [] ∧ Num9 l ∧ l.length ≤ 100 ∧ NewL H (l.map V.int) Q
def sp__read_rights (K : PySem.W.Frag) : Sp := fun vs H Q E => ∃ (n : Nat) (l : List Int), vs = [.str (joinI l)] ∧ n ≤ 60 ∧ l.length = n + 1 ∧ (∀ v, v ≤ n → (v : Int) < gI l v ∧ gI l v ≤ (n : Int) + 1) ∧ NewL H (l.map V.int) Q
def sp__read_lefts (K : PySem.W.Frag) : Sp := fun vs H Q E => ∃ (n : Nat) (l : List Int), vs = [.str (joinI l), .int (n : Int)] ∧ n ≤ 60 ∧ l.length = n + 1 ∧ (∀ v, v ≤ n → 0 ≤ gI l v ∧ gI l v ≤ (v : Int)) ∧ NewL H (l.map V.int) Q
def sp__read_outs (K : PySem.W.Frag) : Sp := fun vs H Q E => ∃ (n : Nat) (O : List Bool), vs = [.str (outsT (outN n O)), .int (n : Int)] ∧ n ≤ 60 ∧ NewL H ((outN n O).map V.int) Q
def sp_Links_read (K : PySem.W.Frag) : Sp := fun vs H Q E => ∃ s : Sd, vs = [.str (dumpS s)] ∧ Wf s ∧ Snd s ∧ NewS K H s Q
def sp__joined (K : PySem.W.Frag) : Sp := fun vs H Q E => ∃ (a : Addr) (l : List Int), vs = [.ref a] ∧ SqL K H a (l.map V.int) ∧ Num9 l ∧ l.length ≤ 100 ∧ Any H (.str (joinI l)) Q
def sp_dump_of (K : PySem.W.Frag) : Sp := fun vs H Q E => ∃ (r l o : Addr) (R L O : List Int), vs = [.ref r, .ref l, .ref o] ∧ SqL K H r (R.map V.int) ∧ SqL K H l (L.map V.int) ∧ SqL K H o (O.map V.int) ∧ (Num9 R ∧ R.length ≤ 100) ∧ (Num9 L ∧ L.length ≤ 100) ∧ (Num9 O ∧ O.length ≤ 100) ∧
  Any H (.str (Txt.join barS [joinI R, joinI L, outsT O])) Q
def sp_Links_dump (K : PySem.W.Frag) : Sp := fun vs H Q E => ∃ (p r l o : Addr) (s : Sd), vs = [.ref p] ∧ LinksAt K H p r l o s ∧ Any H (.str (dumpS s)) Q
def sp_foreign_writes (K : PySem.W.Frag) : Sp := fun vs H Q E => ∃ (p r l o : Addr) (s : Sd) (op : Int), vs = [.ref p, .int op] ∧ LinksAt K H p r l o s ∧ (OkOp s op → NewL H ((forW s op.natAbs).map V.int) Q) ∧ (¬ OkOp s op → OpE K s.n op 0 E H)
def sp_gap_changes (K : PySem.W.Frag) : Sp := fun vs H Q E => ∃ (p r l o : Addr) (s : Sd) (op : Int), vs = [.ref p, .int op] ∧ LinksAt K H p r l o s ∧
  (OkOp s op → ∀ xs q H', H q = none → Kp [] H H' → H' q = some (.lst xs) → TupsAt H' xs (chg s (stepS s op)) → Q (.ref q) H') ∧ (¬ OkOp s op → ∀ H', Kp [] H H' → OpE K s.n op 0 E H')
def sp__law_standing (K : PySem.W.Frag) : Sp := fun vs H Q E => ∃ (b : Addr) (n : Nat), vs = [.ref b, .int (n : Int)] ∧ n ≤ 60 ∧ Bag H b ∧ ∀ (s : Sd) w r l o H', s.n = n → Snd s → H w = none → H r = none → H l = none → H o = none → Kp [b] H H' → Bag H' b → LW H' w r l o s → Q (.ref w) H'
def sp__law_text (K : PySem.W.Frag) : Sp := fun vs H Q E => ∃ (w r l o : Addr) (s : Sd), vs = [.ref w] ∧ LW H w r l o s ∧ Any H (.str (dumpS s)) Q
def sp__law_words (K : PySem.W.Frag) : Sp := fun vs H Q E => ∃ (a b : Addr) (xs : List Str), vs = [.ref a, .ref b] ∧ xs.length ≤ 1000 ∧ H a = some (.lst (xs.map V.str)) ∧ H b = some (.lst (xs.map V.str)) ∧ Q (.bl true) H
def sp__law_triples (K : PySem.W.Frag) : Sp := fun vs H Q E => ∃ (a b : Addr) (xs ys : List V) (ts : List Tr), vs = [.ref a, .ref b] ∧ ts.length ≤ 1000 ∧ H a = some (.lst xs) ∧ H b = some (.lst ys) ∧ TupsAt H xs ts ∧ TupsAt H ys ts ∧ (∀ t ∈ ts, PyData.strOk t.2.1 = true ∧ PyData.strOk t.2.2 = true) ∧ Q (.bl true) H
def sp__law_states (K : PySem.W.Frag) : Sp := fun vs H Q E => ∃ (w r l o : Addr) (s : Sd), vs = [.ref w] ∧ LW H w r l o s ∧ NewL H ((List.range (s.n + 1)).map fun (v : Nat) => V.str (stT s v)) Q
def legO (s : Sd) (v : Nat) : Int := if gB s.O v then (v : Int) else -(v : Int)
def sp__law_legal (K : PySem.W.Frag) : Sp := fun vs H Q E => ∃ (w r l o : Addr) (s : Sd) (v : Nat), vs = [.ref w, .int (v : Int)] ∧ LW H w r l o s ∧ 1 ≤ v ∧ v ≤ s.n ∧ Q (.int (legO s v)) H
def sp__law_foreign (K : PySem.W.Frag) : Sp := fun vs H Q E => ∃ (w r l o : Addr) (s : Sd) (v : Nat), vs = [.ref w, .int (v : Int)] ∧ LW H w r l o s ∧ 1 ≤ v ∧ v ≤ s.n ∧ NewL H ((forW s v).map V.int) Q
/-- the pairs of a gap and a state -/
def PrsAt (H : Hp) (xs : List V) (es : List (Nat × Str)) : Prop := xs.length = es.length ∧ ∀ (i : Nat) (e : Nat × Str), es[i]? = some e → ∃ a, xs[i]? = some (.ref a) ∧ H a = some (.tup [.int (e.1 : Int), .str e.2])
def sp__law_ends (K : PySem.W.Frag) : Sp := fun vs H Q E => ∃ (w r l o : Addr) (s : Sd) (op : Int), vs = [.ref w, .int op] ∧ LW H w r l o s ∧ IsOp s.n op ∧ ∀ es xs q H', Ends2 s op es → H q = none → Kp [] H H' → H' q = some (.lst xs) → PrsAt H' xs es → Q (.ref q) H'
def sp__law_changes (K : PySem.W.Frag) : Sp := fun vs H Q E => ∃ (w r l o : Addr) (s : Sd) (op : Int), vs = [.ref w, .int op] ∧ LW H w r l o s ∧ IsOp s.n op ∧ ∀ xs q H', H q = none → Kp [] H H' → H' q = some (.lst xs) → TupsAt H' xs (chg s (stepS s op)) → Q (.ref q) H'
def sp7__law_agrees (K : PySem.W.Frag) : Sp := fun vs H Q E => ∃ (p r l o w wr wl wo : Addr) (s : Sd) (v : Nat), vs = [.ref p, .ref w, .int (v : Int)] ∧ LinksAt K H p r l o s ∧ LW H w wr wl wo s ∧ 1 ≤ v ∧ v ≤ s.n ∧ Any H (.bl true) Q
def sp__law_all_agree (K : PySem.W.Frag) : Sp := fun vs H Q E => ∃ (p r l o w wr wl wo a : Addr) (s : Sd) (ns : List Int), vs = [.ref p, .ref w, .ref a] ∧ LinksAt K H p r l o s ∧ LW H w wr wl wo s ∧ SqL K H a (ns.map V.int) ∧ (∀ x ∈ ns, 1 ≤ x ∧ x ≤ s.n) ∧ Any H (.bl true) Q
def sp__law_refusal (K : PySem.W.Frag) : Sp := fun vs H Q E => ∃ (p r l o : Addr) (s : Sd) (way op : Int), vs = [.int way, .ref p, .int op] ∧ LinksAt K H p r l o s ∧ ¬ OkOp s op ∧ ∀ t H', Kp [] H H' → H' t = some (.tup [.str (if IsOp s.n op then "not legal" else "no operation"), .int op, .int 0]) → Q (.ref t) H'
def sp7__law_refuses (K : PySem.W.Frag) : Sp := fun vs H Q E => ∃ (p r l o w wr wl wo a : Addr) (s : Sd) (ns : List Int) (far : Int), vs = [.ref p, .ref w, .ref a, .int far] ∧ LinksAt K H p r l o s ∧ LW H w wr wl wo s ∧ SqL K H a (ns.map V.int) ∧ (∀ x ∈ ns, 1 ≤ x ∧ x ≤ s.n) ∧ 0 ≤ far ∧ Any H (.bl true) Q
def sp__law_nodes (K : PySem.W.Frag) : Sp := fun vs H Q E => ∃ (b : Addr) (n : Nat), vs = [.ref b, .int (n : Int)] ∧ n ≤ 60 ∧ Bag H b ∧ ∀ (ns : List Int) a H', (∀ x ∈ ns, 1 ≤ x ∧ x ≤ n) → H a = none → Kp [b] H H' → Bag H' b → H' a = some (.lst (ns.map V.int)) → Q (.ref a) H'
/-- what stands apart -/
structure Apart (p r l o w wr wl wo b : Addr) : Prop where
  a1 : r ≠ wr ∧ r ≠ wl ∧ r ≠ wo ∧ l ≠ wr ∧ l ≠ wl ∧ l ≠ wo ∧ o ≠ wr ∧ o ≠ wl ∧ o ≠ wo
  a2 : w ≠ r ∧ w ≠ l ∧ w ≠ o ∧ p ≠ wr ∧ p ≠ wl ∧ p ≠ wo
  a3 : b ≠ p ∧ b ≠ r ∧ b ≠ l ∧ b ≠ o ∧ b ≠ w ∧ b ≠ wr ∧ b ≠ wl ∧ b ≠ wo
def sp__law_run (K : PySem.W.Frag) : Sp := fun vs H Q E => ∃ (p r l o w wr wl wo b : Addr) (s : Sd), vs = [.ref p, .ref w, .ref b] ∧ LinksAt K H p r l o s ∧ LW H w wr wl wo s ∧ Bag H b ∧ Apart p r l o w wr wl wo b ∧ 1 ≤ s.n ∧ Snd s ∧
  ∀ s' H', s'.n = s.n → LinksAt K H' p r l o s' → LW H' w wr wl wo s' → Kp [b, r, l, o, wr, wl, wo] H H' → Q (.bl true) H'
end
end G

set_option Elab.async false
set_option linter.all false
set_option maxRecDepth 100000
set_option maxHeartbeats 4000000
/-! Comprehensions over texts and pairs; cuts; all. -/
namespace G
open PySem PySem.Spec PyProof.Rows L2
section
variable {K : PySem.W.Frag} {σ : L2.St} {H : Hp} {Q : VK} {te : TE} {tt : TT} {g : TG} {vs : List Nat} {p : Addr} {xs ys : List V}
theorem cp_str {x : Str} (items : Nat → List V) (hz : ∀ i, i < x.cps.size → (items i).length < sizeLine) (h0 : items 0 = [])
    (hs : ∀ (i : Nat) (c : Nat) (H' : Hp) (S : V → Hp → Prop) (N : Hp → Prop), x.cps[i]? = some c → Kp [] H H' → (∀ y H4, Kp [] H' H4 → items (i + 1) = items i ++ [y] → S y H4) → (∀ H4, Kp [] H' H4 → items (i + 1) = items i → N H4) →
      g (.str ⟨#[c]⟩) (wipe σ vs) H' fun σ2 H2 => wipe σ2 vs = wipe σ vs ∧ tt σ2 H2 fun b H3 => if b = true then te σ2 H3 S else N H3)
    (hd : ∀ D H', H D = none → Kp [] H H' → H' D = some (.lst (items x.cps.size)) → Q (.ref D) H') : CompG (Its x) g tt te vs σ Q H :=
  cp_go (n := x.cps.size) items (fun _ => True) hz h0 (fun _ _ => trivial) (fun i H' hi _ => hi) (fun H' _ => Nat.le_refl _) (fun i v H' H'' S N hi k y a b => by
    obtain ⟨rfl, c, hc, rfl⟩ := y
    exact hs i c H'' S N hc k a b) hd
theorem cp_zip {a b : Addr} (h1 : SqL K H a xs) (h2 : SqL K H b ys) (hl : ys.length ≤ xs.length) (items : Nat → List V) (hz : ∀ i, i < ys.length → (items i).length < sizeLine) (h0 : items 0 = [])
    (hs : ∀ (i : Nat) (x y : V) (T : Addr) (H' : Hp) (S : V → Hp → Prop) (N : Hp → Prop), xs[i]? = some x → ys[i]? = some y → Kp [] H H' → H' T = none → (∀ z H4, Kp [] H' H4 → items (i + 1) = items i ++ [z] → S z H4) → (∀ H4, Kp [] H' H4 → items (i + 1) = items i → N H4) →
      g (.ref T) (wipe σ vs) (upd H' T (.tup [x, y])) fun σ2 H2 => wipe σ2 vs = wipe σ vs ∧ tt σ2 H2 fun b H3 => if b = true then te σ2 H3 S else N H3)
    (hd : ∀ D H', H D = none → Kp [] H H' → H' D = some (.lst (items ys.length)) → Q (.ref D) H') : CompG (Itz K a b) g tt te vs σ Q H :=
  cp_go (n := ys.length) items (fun H' => SqL K H' a xs ∧ SqL K H' b ys) hz h0 (fun _ k => ⟨k.sql (by simp) h1, k.sql (by simp) h2⟩)
    (fun i H' hi q => ⟨xs, ys, xs[i]'(by omega), ys[i], q.1, q.2, by simp [show i < xs.length by omega], by simp [hi]⟩) (fun H' q => ⟨xs, ys, q.1, q.2, .inr (Nat.le_refl _)⟩) (fun i v H' H'' S N hi k y e1 e2 => by
    obtain ⟨T, x, y, rfl, nT, rfl, hx, hy⟩ := y
    exact hs i x y T H' S N (hx xs (k.sql (by simp) h1)) (hy ys (k.sql (by simp) h2)) k nT e1 e2) hd
theorem w_slL {lo hi : Option Int} (h : SqL K H p xs) (g : ∀ q H', H q = none → Kp [] H H' → H' q = some (.lst (cutV xs lo hi)) → Q (.ref q) H') : rSlL K (.ref p) lo hi H Q := ⟨p, xs, rfl, h, nw g⟩
theorem cut_drop (xs : List V) (k : Nat) (h : k ≤ xs.length) : cutV xs (some (k : Int)) none = xs.drop k := by
  unfold cutV
  rw [HT.sIx_nat, HT.sIx_none, Nat.min_eq_left h]
  refine List.take_of_length_le ?_
  rw [List.length_drop] <;> omega
theorem cut_take (xs : List V) (k : Nat) (h : k ≤ xs.length) : cutV xs none (some (k : Int)) = xs.take k := by
  unfold cutV
  rw [HT.sIx_nat, HT.sIx_none, Nat.min_eq_left h, List.drop_zero, Nat.sub_zero]
theorem w_allT {n : Nat} (h : SqL K H p (List.replicate n (V.bl true))) (g : Q (.bl true) H) : rAll K [.ref p] H Q := ⟨p, List.replicate n true, rfl, by rw [List.map_replicate]; exact h, by
  have e : (List.replicate n true).all id = true := by
    rw [List.all_eq_true]
    intro x hx
    rw [(List.mem_replicate.mp hx).2] <;> rfl
  rw [e]
  exact g⟩
theorem w_asu {D : Ends} {k : Nat} {ts : TGs} (h : te σ H fun v H0 => gUnl K k ts v σ H0 D.nx) : tAsg te (gUnl K k ts) D σ H := h
theorem rep_snoc {α : Type} (n : Nat) (x : α) : List.replicate (n + 1) x = List.replicate n x ++ [x] := List.replicate_succ'
theorem map_snoc {l : List Int} {i : Nat} {x : Int} {f : Int → V} (h : l[i]? = some x) : (l.take (i + 1)).map f = (l.take i).map f ++ [f x] := by
  rw [List.take_succ, h, List.map_append] <;> rfl
end
/-! ### joins behind an if -/
section
variable {σ : L2.St} {H : Hp} {s1 s2 a b : TS} {t : TT} {D : Ends}
def SeqIf (t : TT) (a b s2 : TS) : TS := tSeq (tIfS t a b) s2
theorem w_seqI (g : SeqIf t a b s2 D σ H) : tSeq (tIfS t a b) s2 D σ H := g
theorem w_seqO (g : tSeq (tIfS t a b) s2 D σ H) : SeqIf t a b s2 D σ H := g
theorem w_ifK (P : Hp → Prop) (h1 : ∀ N : L2.St → Hp → Prop, (∀ H', P H' → N σ H') → tIfS t a b { D with nx := N } σ H) (h2 : ∀ H', P H' → s2 D σ H') : SeqIf t a b s2 D σ H := h1 _ h2
theorem w_ifJ (P : L2.St → Hp → Prop) (h1 : ∀ N : L2.St → Hp → Prop, (∀ σ' H', P σ' H' → N σ' H') → tIfS t a b { D with nx := N } σ H) (h2 : ∀ σ' H', P σ' H' → s2 D σ' H') : SeqIf t a b s2 D σ H := h1 _ h2
theorem w_seqK (P : Hp → Prop) (h1 : ∀ N : L2.St → Hp → Prop, (∀ H', P H' → N σ H') → s1 { D with nx := N } σ H) (h2 : ∀ H', P H' → s2 D σ H') : tSeq s1 s2 D σ H := h1 _ h2
theorem w_seqJ (P : L2.St → Hp → Prop) (h1 : ∀ N : L2.St → Hp → Prop, (∀ σ' H', P σ' H' → N σ' H') → s1 { D with nx := N } σ H) (h2 : ∀ σ' H', P σ' H' → s2 D σ' H') : tSeq s1 s2 D σ H := h1 _ h2
end
section
variable {K : PySem.W.Frag} {H : Hp} {Q : VK}
theorem w_isiS {x : Str} {t : String} {r : Bool} (h : kitB "str" t = some r) (g : Q (.bl r) H) : rIsi K [.str x, .ty t] H Q := ⟨_, _, _, _, r, rfl, .ty t, .base (.str x), kit_ty h, g⟩
theorem w_neT {p q : Addr} {xs : List V} {ds : List PyData} (h1 : H p = some (.tup xs)) (h2 : H q = some (.tup xs)) (d : DpAll K H xs ds) (s : SeqAt.shaped (.tuple ds) = true) (g : Q (.bl false) H) : rNeA K (.ref p) (.ref q) H Q :=
  w_neD (.tup (SqT.of h1) d) (.tup (SqT.of h2) d) s s (by
    rw [SeqAt.eqv_refl _ (SeqAt.canLay_of_shaped s)]
    exact g)
theorem inI (i : Int) (l : List Int) : inV (.int i) (l.map V.int) = decide (i ∈ l) := by
  unfold inV
  rw [Bool.eq_iff_iff, List.any_eq_true, decide_eq_true_iff]
  constructor
  · rintro ⟨y, hy, e⟩
    obtain ⟨j, hj, rfl⟩ := List.mem_map.mp hy
    have : j = i := by simpa [eqV] using e
    rw [← this]
    exact hj
  · intro h
    exact ⟨.int i, List.mem_map.mpr ⟨i, h, rfl⟩, by simp [eqV]⟩
theorem stOk (s : Sd) (g : Nat) : PyData.strOk (stT s g) = true := by
  unfold stT
  split <;> split <;> decide +kernel
end
end G

set_option Elab.async false
set_option linter.all false
set_option maxRecDepth 100000
set_option maxHeartbeats 4000000
/-! k06: sole holders; promises. -/
namespace G
open PySem PySem.Spec PyProof.Rows L2
/-- v holds a gap alone -/
def soleB (s : Sd) (v : Nat) : Bool := decide (stT s v = "left") || decide (stT s (v - 1) = "right")
def aloneL (s : Sd) : List Int := (((List.range s.n).map fun (v : Nat) => v + 1).filter fun v => soleB s v).map fun (v : Nat) => (v : Int)
theorem stT_left {s : Sd} {g : Nat} : stT s g = "left" ↔ gI s.R g = (g : Int) + 1 ∧ gI s.L (g + 1) ≠ (g : Int) := by
  obtain ⟨a, b, c, d, e, f, h, i, j, k, l, m⟩ := ne_w
  unfold stT
  by_cases h1 : gI s.R g = (g : Int) + 1 <;> by_cases h2 : gI s.L (g + 1) = (g : Int)
  · rw [if_pos h1, if_pos h2]
    exact ⟨fun z => absurd z k, fun z => absurd h2 z.2⟩
  · rw [if_pos h1, if_neg h2]
    exact ⟨fun _ => ⟨h1, h2⟩, fun _ => rfl⟩
  · rw [if_neg h1, if_pos h2]
    exact ⟨fun z => absurd z h, fun z => absurd z.1 h1⟩
  · rw [if_neg h1, if_neg h2]
    exact ⟨fun z => absurd z i, fun z => absurd z.1 h1⟩
theorem stT_right {s : Sd} {g : Nat} : stT s g = "right" ↔ gI s.R g ≠ (g : Int) + 1 ∧ gI s.L (g + 1) = (g : Int) := by
  obtain ⟨a, b, c, d, e, f, h, i, j, k, l, m⟩ := ne_w
  unfold stT
  by_cases h1 : gI s.R g = (g : Int) + 1 <;> by_cases h2 : gI s.L (g + 1) = (g : Int)
  · rw [if_pos h1, if_pos h2]
    exact ⟨fun z => absurd z l, fun z => absurd h1 z.1⟩
  · rw [if_pos h1, if_neg h2]
    exact ⟨fun z => absurd z m, fun z => absurd h1 z.1⟩
  · rw [if_neg h1, if_pos h2]
    exact ⟨fun _ => ⟨h1, h2⟩, fun _ => rfl⟩
  · rw [if_neg h1, if_neg h2]
    exact ⟨fun z => absurd z j, fun z => absurd z.2 h2⟩
theorem not_left0 {s : Sd} (w : Wf s) : stT s 0 ≠ "left" := fun z => by
  have h1 := (stT_left.mp z).2
  have h2 := w.lb 1 (by omega) (by omega)
  have e : gI s.L (0 + 1) = gI s.L 1 := rfl
  rw [e] at h1
  omega
theorem not_rightn {s : Sd} (w : Wf s) : stT s s.n ≠ "right" := fun z => by
  have h := (stT_right.mp z).1
  have := w.rb s.n (by omega)
  omega
theorem mem_alone {s : Sd} {i : Int} : i ∈ aloneL s ↔ 1 ≤ i ∧ i ≤ s.n ∧ soleB s i.toNat = true := by
  unfold aloneL
  constructor
  · intro h
    obtain ⟨v, hv, rfl⟩ := List.mem_map.mp h
    obtain ⟨h1, h2⟩ := List.mem_filter.mp hv
    obtain ⟨u, hu, rfl⟩ := List.mem_map.mp h1
    have := List.mem_range.mp hu
    rw [Int.toNat_natCast]
    exact ⟨by omega, by omega, h2⟩
  · rintro ⟨h1, h2, h3⟩
    exact List.mem_map.mpr ⟨i.toNat, List.mem_filter.mpr ⟨List.mem_map.mpr ⟨i.toNat - 1, List.mem_range.mpr (by omega), by omega⟩, h3⟩, by omega⟩
theorem alone_sorted (s : Sd) : (aloneL s).Pairwise (· < ·) := by
  unfold aloneL
  refine List.Pairwise.map (R := fun a b : Nat => a < b) _ (fun a b h => ?_) (List.Pairwise.filter (R := fun a b : Nat => a < b) _ (List.Pairwise.map (R := fun a b : Nat => a < b) (S := fun a b : Nat => a < b) _ (fun a b h => ?_) (List.pairwise_lt_range (n := s.n))))
  · exact Int.ofNat_lt.mpr h
  · exact Nat.succ_lt_succ h
theorem alone_len (s : Sd) : (aloneL s).length ≤ s.n := by
  unfold aloneL
  rw [List.length_map]
  refine Nat.le_trans (List.length_filter_le _ _) ?_
  rw [List.length_map, List.length_range]
  exact Nat.le_refl _
theorem sorted_ext : ∀ {a b : List Int}, a.Pairwise (· < ·) → b.Pairwise (· < ·) → (∀ x, x ∈ a ↔ x ∈ b) → a = b
  | [], [], _, _, _ => rfl
  | [], y :: b, _, _, h => by
    have := (h y).mpr List.mem_cons_self
    cases this
  | x :: a, [], _, _, h => by
    have := (h x).mp List.mem_cons_self
    cases this
  | x :: a, y :: b, ha, hb, h => by
    obtain ⟨a1, a2⟩ := List.pairwise_cons.mp ha
    obtain ⟨b1, b2⟩ := List.pairwise_cons.mp hb
    have exy : x = y := by
      rcases List.mem_cons.mp ((h x).mp List.mem_cons_self) with e | e
      · exact e
      · rcases List.mem_cons.mp ((h y).mpr List.mem_cons_self) with f | f
        · exact f.symm
        · have := a1 y f
          have := b1 x e
          omega
    subst exy
    congr 1
    refine sorted_ext a2 b2 fun z => ⟨fun hz => ?_, fun hz => ?_⟩
    · rcases List.mem_cons.mp ((h z).mp (List.mem_cons_of_mem _ hz)) with e | e
      · have := a1 z hz
        omega
      · exact e
    · rcases List.mem_cons.mp ((h z).mpr (List.mem_cons_of_mem _ hz)) with e | e
      · have := b1 z hz
        omega
      · exact e
/-- the holders found behind i gaps -/
def holdB (s : Sd) (i : Nat) (k : Int) : Bool := (List.range i).any fun g => (decide (stT s g = "left") && decide (k = (g : Int))) || (decide (stT s g = "right") && decide (k = (g : Int) + 1))
theorem holdB_all {s : Sd} (w : Wf s) {k : Int} : holdB s (s.n + 1) k = true ↔ k ∈ aloneL s := by
  rw [mem_alone]
  unfold holdB soleB
  rw [List.any_eq_true]
  constructor
  · rintro ⟨g, hg, h⟩
    have hg := List.mem_range.mp hg
    rw [Bool.or_eq_true, Bool.and_eq_true, Bool.and_eq_true, decide_eq_true_iff, decide_eq_true_iff, decide_eq_true_iff, decide_eq_true_iff] at h
    rcases h with ⟨h1, rfl⟩ | ⟨h1, rfl⟩
    · have g0 : g ≠ 0 := fun z => by
        subst z
        exact not_left0 w h1
      have gn : g ≠ s.n ∨ g = s.n := by omega
      refine ⟨by omega, ?_, ?_⟩
      · omega
      · rw [Int.toNat_natCast, decide_eq_true h1, Bool.true_or]
    · have gn : g ≠ s.n := fun z => by
        subst z
        exact not_rightn w h1
      refine ⟨by omega, by omega, ?_⟩
      rw [show ((g : Int) + 1).toNat = g + 1 by omega, Nat.add_sub_cancel, decide_eq_true h1, Bool.or_true]
  · rintro ⟨h1, h2, h3⟩
    obtain ⟨v, rfl⟩ : ∃ v : Nat, k = (v : Int) := ⟨k.toNat, by omega⟩
    rw [Int.toNat_natCast, Bool.or_eq_true, decide_eq_true_iff, decide_eq_true_iff] at h3
    rcases h3 with h3 | h3
    · exact ⟨v, List.mem_range.mpr (by omega), by rw [decide_eq_true h3, decide_eq_true rfl] <;> rfl⟩
    · refine ⟨v - 1, List.mem_range.mpr (by omega), ?_⟩
      rw [Bool.or_eq_true]
      refine .inr ?_
      rw [decide_eq_true h3, decide_eq_true (by omega)] <;> rfl
theorem holdB_snoc (s : Sd) (i : Nat) (k : Int) : holdB s (i + 1) k = (holdB s i k || ((decide (stT s i = "left") && decide (k = (i : Int))) || (decide (stT s i = "right") && decide (k = (i : Int) + 1)))) := by
  unfold holdB
  rw [List.range_succ, List.any_append]
  simp
/-- the four words of a state, one by one -/
theorem st_cases (s : Sd) (g : Nat) : (gI s.R g = (g : Int) + 1 ∧ gI s.L (g + 1) = (g : Int) ∧ stT s g = "joined") ∨ (gI s.R g = (g : Int) + 1 ∧ ¬ gI s.L (g + 1) = (g : Int) ∧ stT s g = "left") ∨
    (¬ gI s.R g = (g : Int) + 1 ∧ gI s.L (g + 1) = (g : Int) ∧ stT s g = "right") ∨ (¬ gI s.R g = (g : Int) + 1 ∧ ¬ gI s.L (g + 1) = (g : Int) ∧ stT s g = "lost") := by
  unfold stT
  by_cases h1 : gI s.R g = (g : Int) + 1 <;> by_cases h2 : gI s.L (g + 1) = (g : Int)
  · exact .inl ⟨h1, h2, by rw [if_pos h1, if_pos h2]⟩
  · exact .inr (.inl ⟨h1, h2, by rw [if_pos h1, if_neg h2]⟩)
  · exact .inr (.inr (.inl ⟨h1, h2, by rw [if_neg h1, if_pos h2]⟩))
  · exact .inr (.inr (.inr ⟨h1, h2, by rw [if_neg h1, if_neg h2]⟩))
/-! ### promises -/
section
def sp_sole_holders (K : PySem.W.Frag) : Sp := fun vs H Q E => ∃ (p r l o : Addr) (s : Sd), vs = [.ref p] ∧ LinksAt K H p r l o s ∧ NewL H ((aloneL s).map V.int) Q
def sp__law_alone (K : PySem.W.Frag) : Sp := fun vs H Q E => ∃ (w r l o : Addr) (s : Sd), vs = [.ref w] ∧ LW H w r l o s ∧ NewL H ((aloneL s).map V.int) Q
def sp6__law_agrees (K : PySem.W.Frag) : Sp := fun vs H Q E => ∃ (p r l o w wr wl wo : Addr) (s : Sd), vs = [.ref p, .ref w] ∧ LinksAt K H p r l o s ∧ LW H w wr wl wo s ∧ Any H (.bl true) Q
def sp__law_refused (K : PySem.W.Frag) : Sp := fun vs H Q E => ∃ (p r l o : Addr) (s : Sd) (g : Int), vs = [.ref p, .int g] ∧ LinksAt K H p r l o s ∧ ¬ (0 ≤ g ∧ g ≤ s.n) ∧ Any H (.bl true) Q
def sp__law_bounds_kept (K : PySem.W.Frag) : Sp := fun vs H Q E => ∃ (p r l o : Addr) (s : Sd) (far : Int), vs = [.ref p, .int (s.n : Int), .int far] ∧ LinksAt K H p r l o s ∧ 0 ≤ far ∧ Any H (.bl true) Q
def sp__law_after (K : PySem.W.Frag) : Sp := fun vs H Q E => ∃ (p r l o w wr wl wo b : Addr) (s : Sd), vs = [.ref p, .ref w, .ref b] ∧ LinksAt K H p r l o s ∧ LW H w wr wl wo s ∧ Bag H b ∧ Apart p r l o w wr wl wo b ∧ 1 ≤ s.n ∧
  ∀ s' H', s'.n = s.n → LinksAt K H' p r l o s' → LW H' w wr wl wo s' → Kp [b, r, l, o, wr, wl, wo] H H' → Q (.bl true) H'
end
end G

set_option Elab.async false
set_option linter.all false
set_option maxRecDepth 100000
set_option maxHeartbeats 4000000

namespace G
open PySem PySem.Spec PyProof.Rows L2
def top (i : Nat) : Stmt := PySem.Challenge.pw_latelink_k06_states_of_gaps.main.body.getD i (.Pass ⟨0, 0, 0, 0⟩)
abbrev s_check_size : Stmt := top 14
abbrev s_Links___init__ : Stmt := inClass (top 13) 1
abbrev s_Links_copy : Stmt := inClass (top 13) 19
abbrev s_is_positive : Stmt := top 16
abbrev s__read_numbers : Stmt := top 19
abbrev s__read_lefts : Stmt := top 21
abbrev s__read_outs : Stmt := top 22
abbrev s__read_rights : Stmt := top 20
abbrev s_Links_read : Stmt := inClass (top 13) 2
abbrev s_Links_is_legal : Stmt := inClass (top 13) 11
abbrev s_check_operation : Stmt := top 15
abbrev s_Links_check : Stmt := inClass (top 13) 12
abbrev s_Links_apply_at : Stmt := inClass (top 13) 14
abbrev s_Links_apply : Stmt := inClass (top 13) 13
abbrev s_Links_outs : Stmt := inClass (top 13) 10
abbrev s__joined : Stmt := top 18
abbrev s_dump_of : Stmt := top 17
abbrev s_Links_dump : Stmt := inClass (top 13) 21
abbrev s__law_alone : Stmt := top 40
abbrev s__law_whole_number : Stmt := top 37
abbrev s__law_numbers : Stmt := top 38
abbrev s__law_state : Stmt := top 35
abbrev s__law_text : Stmt := top 34
abbrev s__law_words : Stmt := top 39
abbrev s_Links_left : Stmt := inClass (top 13) 7
abbrev s_Links_right : Stmt := inClass (top 13) 8
abbrev s_check_gap : Stmt := top 28
abbrev s_gap_state : Stmt := top 24
abbrev s_gap_states : Stmt := top 25
abbrev s_lost_gaps : Stmt := top 26
abbrev s_sole_holders : Stmt := top 27
abbrev s__law_agrees : Stmt := top 41
abbrev s__law_draw : Stmt := top 31
abbrev s__law_step : Stmt := top 36
abbrev s__law_after : Stmt := top 44
abbrev s__law_bag : Stmt := top 30
abbrev s__law_refused : Stmt := top 42
abbrev s__law_bounds_kept : Stmt := top 43
abbrev s__law_size : Stmt := top 32
abbrev s__law_standing : Stmt := top 33
abbrev s_law : Stmt := top 45
abbrev s_BadDump___init__ : Stmt := inClass (top 9) 0
abbrev s_BadGap___init__ : Stmt := inClass (top 8) 0
abbrev s_BadNode___init__ : Stmt := inClass (top 7) 0
abbrev s_BadSize___init__ : Stmt := inClass (top 6) 0
abbrev s_LogError___init__ : Stmt := inClass (top 3) 0
theorem sc_check_size : FnScope ["size"] ["size"] (defScope s_check_size) := ⟨rfl, rfl, rfl, by decide +kernel, rfl, by decide +kernel, by decide +kernel⟩
theorem sc_Links___init__ : FnScope ["self", "size"] ["self", "size"] (defScope s_Links___init__) := ⟨rfl, rfl, rfl, by decide +kernel, rfl, by decide +kernel, by decide +kernel⟩
theorem sc_Links_copy : FnScope ["self", "twin"] ["self"] (defScope s_Links_copy) := ⟨rfl, rfl, rfl, by decide +kernel, rfl, by decide +kernel, by decide +kernel⟩
theorem sc_is_positive : FnScope ["word", "letter"] ["word"] (defScope s_is_positive) := ⟨rfl, rfl, rfl, by decide +kernel, rfl, by decide +kernel, by decide +kernel⟩
theorem sc__read_numbers : FnScope ["text", "part", "words", "word"] ["text", "part"] (defScope s__read_numbers) := ⟨rfl, rfl, rfl, by decide +kernel, rfl, by decide +kernel, by decide +kernel⟩
theorem sc__read_lefts : FnScope ["text", "size", "lefts", "place", "link"] ["text", "size"] (defScope s__read_lefts) := ⟨rfl, rfl, rfl, by decide +kernel, rfl, by decide +kernel, by decide +kernel⟩
theorem sc__read_outs : FnScope ["text", "size", "outs", "bounds", "low", "high"] ["text", "size"] (defScope s__read_outs) := ⟨rfl, rfl, rfl, by decide +kernel, rfl, by decide +kernel, by decide +kernel⟩
theorem sc__read_rights : FnScope ["text", "rights", "size", "node", "link"] ["text"] (defScope s__read_rights) := ⟨rfl, rfl, rfl, by decide +kernel, rfl, by decide +kernel, by decide +kernel⟩
theorem sc_Links_read : FnScope ["text", "parts", "rights", "lefts", "outs", "right_links", "links", "node"] ["text"] (defScope s_Links_read) := ⟨rfl, rfl, rfl, by decide +kernel, rfl, by decide +kernel, by decide +kernel⟩
theorem sc_Links_is_legal : FnScope ["self", "operation"] ["self", "operation"] (defScope s_Links_is_legal) := ⟨rfl, rfl, rfl, by decide +kernel, rfl, by decide +kernel, by decide +kernel⟩
theorem sc_check_operation : FnScope ["size", "operation", "index"] ["size", "operation", "index"] (defScope s_check_operation) := ⟨rfl, rfl, rfl, by decide +kernel, rfl, by decide +kernel, by decide +kernel⟩
theorem sc_Links_check : FnScope ["self", "operation", "index"] ["self", "operation", "index"] (defScope s_Links_check) := ⟨rfl, rfl, rfl, by decide +kernel, rfl, by decide +kernel, by decide +kernel⟩
theorem sc_Links_apply_at : FnScope ["self", "operation", "index", "node", "low", "high", "is_unlink"] ["self", "operation", "index"] (defScope s_Links_apply_at) := ⟨rfl, rfl, rfl, by decide +kernel, rfl, by decide +kernel, by decide +kernel⟩
theorem sc_Links_apply : FnScope ["self", "operation"] ["self", "operation"] (defScope s_Links_apply) := ⟨rfl, rfl, rfl, by decide +kernel, rfl, by decide +kernel, by decide +kernel⟩
theorem sc_Links_outs : FnScope ["self", "node"] ["self"] (defScope s_Links_outs) := ⟨rfl, rfl, rfl, by decide +kernel, rfl, by decide +kernel, by decide +kernel⟩
theorem sc__joined : FnScope ["numbers", "number"] ["numbers"] (defScope s__joined) := ⟨rfl, rfl, rfl, by decide +kernel, rfl, by decide +kernel, by decide +kernel⟩
theorem sc_dump_of : FnScope ["rights", "lefts", "outs"] ["rights", "lefts", "outs"] (defScope s_dump_of) := ⟨rfl, rfl, rfl, by decide +kernel, rfl, by decide +kernel, by decide +kernel⟩
theorem sc_Links_dump : FnScope ["self"] ["self"] (defScope s_Links_dump) := ⟨rfl, rfl, rfl, by decide +kernel, rfl, by decide +kernel, by decide +kernel⟩
theorem sc__law_alone : FnScope ["world", "found", "node", "holds_right", "holds_left"] ["world"] (defScope s__law_alone) := ⟨rfl, rfl, rfl, by decide +kernel, rfl, by decide +kernel, by decide +kernel⟩
theorem sc__law_whole_number : FnScope ["told"] ["told"] (defScope s__law_whole_number) := ⟨rfl, rfl, rfl, by decide +kernel, rfl, by decide +kernel, by decide +kernel⟩
theorem sc__law_numbers : FnScope ["told", "due", "k"] ["told", "due"] (defScope s__law_numbers) := ⟨rfl, rfl, rfl, by decide +kernel, rfl, by decide +kernel, by decide +kernel⟩
theorem sc__law_state : FnScope ["world", "place", "from_left", "from_right"] ["world", "place"] (defScope s__law_state) := ⟨rfl, rfl, rfl, by decide +kernel, rfl, by decide +kernel, by decide +kernel⟩
theorem sc__law_text : FnScope ["world", "gone", "rights", "lefts", "node"] ["world"] (defScope s__law_text) := ⟨rfl, rfl, rfl, by decide +kernel, rfl, by decide +kernel, by decide +kernel⟩
theorem sc__law_words : FnScope ["told", "due", "k"] ["told", "due"] (defScope s__law_words) := ⟨rfl, rfl, rfl, by decide +kernel, rfl, by decide +kernel, by decide +kernel⟩
theorem sc_Links_left : FnScope ["self", "node"] ["self", "node"] (defScope s_Links_left) := ⟨rfl, rfl, rfl, by decide +kernel, rfl, by decide +kernel, by decide +kernel⟩
theorem sc_Links_right : FnScope ["self", "node"] ["self", "node"] (defScope s_Links_right) := ⟨rfl, rfl, rfl, by decide +kernel, rfl, by decide +kernel, by decide +kernel⟩
theorem sc_check_gap : FnScope ["size", "gap"] ["size", "gap"] (defScope s_check_gap) := ⟨rfl, rfl, rfl, by decide +kernel, rfl, by decide +kernel, by decide +kernel⟩
theorem sc_gap_state : FnScope ["links", "gap", "is_held_left", "is_held_right"] ["links", "gap"] (defScope s_gap_state) := ⟨rfl, rfl, rfl, by decide +kernel, rfl, by decide +kernel, by decide +kernel⟩
theorem sc_gap_states : FnScope ["links", "gap"] ["links"] (defScope s_gap_states) := ⟨rfl, rfl, rfl, by decide +kernel, rfl, by decide +kernel, by decide +kernel⟩
theorem sc_lost_gaps : FnScope ["links", "gap", "state"] ["links"] (defScope s_lost_gaps) := ⟨rfl, rfl, rfl, by decide +kernel, rfl, by decide +kernel, by decide +kernel⟩
theorem sc_sole_holders : FnScope ["links", "holders", "gap", "state"] ["links"] (defScope s_sole_holders) := ⟨rfl, rfl, rfl, by decide +kernel, rfl, by decide +kernel, by decide +kernel⟩
theorem sc__law_agrees : FnScope ["links", "world", "states", "lost", "alone", "first", "second", "third", "place", "told"] ["links", "world"] (defScope s__law_agrees) := ⟨rfl, rfl, rfl, by decide +kernel, rfl, by decide +kernel, by decide +kernel⟩
theorem sc__law_draw : FnScope ["bag", "many", "digit"] ["bag", "many"] (defScope s__law_draw) := ⟨rfl, rfl, rfl, by decide +kernel, rfl, by decide +kernel, by decide +kernel⟩
theorem sc__law_step : FnScope ["world", "deed", "node", "low", "high", "rights", "lefts", "flags"] ["world", "deed"] (defScope s__law_step) := ⟨rfl, rfl, rfl, by decide +kernel, rfl, by decide +kernel, by decide +kernel⟩
theorem sc__law_after : FnScope ["links", "world", "bag", "turn", "asked", "node", "deed"] ["links", "world", "bag"] (defScope s__law_after) := ⟨rfl, rfl, rfl, by decide +kernel, rfl, by decide +kernel, by decide +kernel⟩
theorem sc__law_bag : FnScope ["script", "lane", "mixed", "k", "cell"] ["script", "lane"] (defScope s__law_bag) := ⟨rfl, rfl, rfl, by decide +kernel, rfl, by decide +kernel, by decide +kernel⟩
theorem sc__law_refused : FnScope ["links", "place", "raised"] ["links", "place"] (defScope s__law_refused) := ⟨rfl, rfl, rfl, by decide +kernel, rfl, by decide +kernel, by decide +kernel⟩
theorem sc__law_bounds_kept : FnScope ["links", "size", "far", "place"] ["links", "size", "far"] (defScope s__law_bounds_kept) := ⟨rfl, rfl, rfl, by decide +kernel, rfl, by decide +kernel, by decide +kernel⟩
theorem sc__law_size : FnScope ["bag", "way"] ["bag"] (defScope s__law_size) := ⟨rfl, rfl, rfl, by decide +kernel, rfl, by decide +kernel, by decide +kernel⟩
theorem sc__law_standing : FnScope ["bag", "size", "way", "rights", "lefts", "flags", "node", "far_right", "far_left"] ["bag", "size"] (defScope s__law_standing) := ⟨rfl, rfl, rfl, by decide +kernel, rfl, by decide +kernel, by decide +kernel⟩
theorem sc_law : FnScope ["script", "bag", "more", "world", "other", "far", "links", "beside", "old", "kept_links"] ["script"] (defScope s_law) := ⟨rfl, rfl, rfl, by decide +kernel, rfl, by decide +kernel, by decide +kernel⟩
theorem sc_BadDump___init__ : FnScope ["self", "part"] ["self", "part"] (defScope s_BadDump___init__) := ⟨rfl, rfl, rfl, by decide +kernel, rfl, by decide +kernel, by decide +kernel⟩
theorem sc_BadGap___init__ : FnScope ["self", "gap"] ["self", "gap"] (defScope s_BadGap___init__) := ⟨rfl, rfl, rfl, by decide +kernel, rfl, by decide +kernel, by decide +kernel⟩
theorem sc_BadNode___init__ : FnScope ["self", "node"] ["self", "node"] (defScope s_BadNode___init__) := ⟨rfl, rfl, rfl, by decide +kernel, rfl, by decide +kernel, by decide +kernel⟩
theorem sc_BadSize___init__ : FnScope ["self", "size"] ["self", "size"] (defScope s_BadSize___init__) := ⟨rfl, rfl, rfl, by decide +kernel, rfl, by decide +kernel, by decide +kernel⟩
theorem sc_LogError___init__ : FnScope ["self", "operation", "index"] ["self", "operation", "index"] (defScope s_LogError___init__) := ⟨rfl, rfl, rfl, by decide +kernel, rfl, by decide +kernel, by decide +kernel⟩
def d_check_size : He5.DefA := ⟨fun K => He.fAd K ("check_size", none), "check_size", "check_size", defArgs s_check_size, defBody s_check_size, defScope s_check_size, [], []⟩
def d_Links___init__ : He5.DefA := ⟨fun K => He.fAd K ("Links", some "__init__"), "__init__", "Links.__init__", defArgs s_Links___init__, defBody s_Links___init__, defScope s_Links___init__, [], []⟩
def d_Links_copy : He5.DefA := ⟨fun K => He.fAd K ("Links", some "copy"), "copy", "Links.copy", defArgs s_Links_copy, defBody s_Links_copy, defScope s_Links_copy, [], []⟩
def d_is_positive : He5.DefA := ⟨fun K => He.fAd K ("is_positive", none), "is_positive", "is_positive", defArgs s_is_positive, defBody s_is_positive, defScope s_is_positive, [], []⟩
def d__read_numbers : He5.DefA := ⟨fun K => He.fAd K ("_read_numbers", none), "_read_numbers", "_read_numbers", defArgs s__read_numbers, defBody s__read_numbers, defScope s__read_numbers, [], []⟩
def d__read_lefts : He5.DefA := ⟨fun K => He.fAd K ("_read_lefts", none), "_read_lefts", "_read_lefts", defArgs s__read_lefts, defBody s__read_lefts, defScope s__read_lefts, [], []⟩
def d__read_outs : He5.DefA := ⟨fun K => He.fAd K ("_read_outs", none), "_read_outs", "_read_outs", defArgs s__read_outs, defBody s__read_outs, defScope s__read_outs, [], []⟩
def d__read_rights : He5.DefA := ⟨fun K => He.fAd K ("_read_rights", none), "_read_rights", "_read_rights", defArgs s__read_rights, defBody s__read_rights, defScope s__read_rights, [], []⟩
def d_Links_read : He5.DefA := ⟨fun K => He5.wf K (He.ga K "Links") "staticmethod" "read", "read", "Links.read", defArgs s_Links_read, defBody s_Links_read, defScope s_Links_read, [], []⟩
def d_Links_is_legal : He5.DefA := ⟨fun K => He.fAd K ("Links", some "is_legal"), "is_legal", "Links.is_legal", defArgs s_Links_is_legal, defBody s_Links_is_legal, defScope s_Links_is_legal, [], []⟩
def d_check_operation : He5.DefA := ⟨fun K => He.fAd K ("check_operation", none), "check_operation", "check_operation", defArgs s_check_operation, defBody s_check_operation, defScope s_check_operation, [], []⟩
def d_Links_check : He5.DefA := ⟨fun K => He.fAd K ("Links", some "check"), "check", "Links.check", defArgs s_Links_check, defBody s_Links_check, defScope s_Links_check, [], []⟩
def d_Links_apply_at : He5.DefA := ⟨fun K => He.fAd K ("Links", some "apply_at"), "apply_at", "Links.apply_at", defArgs s_Links_apply_at, defBody s_Links_apply_at, defScope s_Links_apply_at, [], []⟩
def d_Links_apply : He5.DefA := ⟨fun K => He.fAd K ("Links", some "apply"), "apply", "Links.apply", defArgs s_Links_apply, defBody s_Links_apply, defScope s_Links_apply, [], []⟩
def d_Links_outs : He5.DefA := ⟨fun K => He.fAd K ("Links", some "outs"), "outs", "Links.outs", defArgs s_Links_outs, defBody s_Links_outs, defScope s_Links_outs, [], []⟩
def d__joined : He5.DefA := ⟨fun K => He.fAd K ("_joined", none), "_joined", "_joined", defArgs s__joined, defBody s__joined, defScope s__joined, [], []⟩
def d_dump_of : He5.DefA := ⟨fun K => He.fAd K ("dump_of", none), "dump_of", "dump_of", defArgs s_dump_of, defBody s_dump_of, defScope s_dump_of, [], []⟩
def d_Links_dump : He5.DefA := ⟨fun K => He.fAd K ("Links", some "dump"), "dump", "Links.dump", defArgs s_Links_dump, defBody s_Links_dump, defScope s_Links_dump, [], []⟩
def d__law_alone : He5.DefA := ⟨fun K => He.fAd K ("_law_alone", none), "_law_alone", "_law_alone", defArgs s__law_alone, defBody s__law_alone, defScope s__law_alone, [], []⟩
def d__law_whole_number : He5.DefA := ⟨fun K => He.fAd K ("_law_whole_number", none), "_law_whole_number", "_law_whole_number", defArgs s__law_whole_number, defBody s__law_whole_number, defScope s__law_whole_number, [], []⟩
def d__law_numbers : He5.DefA := ⟨fun K => He.fAd K ("_law_numbers", none), "_law_numbers", "_law_numbers", defArgs s__law_numbers, defBody s__law_numbers, defScope s__law_numbers, [], []⟩
def d__law_state : He5.DefA := ⟨fun K => He.fAd K ("_law_state", none), "_law_state", "_law_state", defArgs s__law_state, defBody s__law_state, defScope s__law_state, [], []⟩
def d__law_text : He5.DefA := ⟨fun K => He.fAd K ("_law_text", none), "_law_text", "_law_text", defArgs s__law_text, defBody s__law_text, defScope s__law_text, [], []⟩
def d__law_words : He5.DefA := ⟨fun K => He.fAd K ("_law_words", none), "_law_words", "_law_words", defArgs s__law_words, defBody s__law_words, defScope s__law_words, [], []⟩
def d_Links_left : He5.DefA := ⟨fun K => He.fAd K ("Links", some "left"), "left", "Links.left", defArgs s_Links_left, defBody s_Links_left, defScope s_Links_left, [], []⟩
def d_Links_right : He5.DefA := ⟨fun K => He.fAd K ("Links", some "right"), "right", "Links.right", defArgs s_Links_right, defBody s_Links_right, defScope s_Links_right, [], []⟩
def d_check_gap : He5.DefA := ⟨fun K => He.fAd K ("check_gap", none), "check_gap", "check_gap", defArgs s_check_gap, defBody s_check_gap, defScope s_check_gap, [], []⟩
def d_gap_state : He5.DefA := ⟨fun K => He.fAd K ("gap_state", none), "gap_state", "gap_state", defArgs s_gap_state, defBody s_gap_state, defScope s_gap_state, [], []⟩
def d_gap_states : He5.DefA := ⟨fun K => He.fAd K ("gap_states", none), "gap_states", "gap_states", defArgs s_gap_states, defBody s_gap_states, defScope s_gap_states, [], []⟩
def d_lost_gaps : He5.DefA := ⟨fun K => He.fAd K ("lost_gaps", none), "lost_gaps", "lost_gaps", defArgs s_lost_gaps, defBody s_lost_gaps, defScope s_lost_gaps, [], []⟩
def d_sole_holders : He5.DefA := ⟨fun K => He.fAd K ("sole_holders", none), "sole_holders", "sole_holders", defArgs s_sole_holders, defBody s_sole_holders, defScope s_sole_holders, [], []⟩
def d__law_agrees : He5.DefA := ⟨fun K => He.fAd K ("_law_agrees", none), "_law_agrees", "_law_agrees", defArgs s__law_agrees, defBody s__law_agrees, defScope s__law_agrees, [], []⟩
def d__law_draw : He5.DefA := ⟨fun K => He.fAd K ("_law_draw", none), "_law_draw", "_law_draw", defArgs s__law_draw, defBody s__law_draw, defScope s__law_draw, [], []⟩
def d__law_step : He5.DefA := ⟨fun K => He.fAd K ("_law_step", none), "_law_step", "_law_step", defArgs s__law_step, defBody s__law_step, defScope s__law_step, [], []⟩
def d__law_after : He5.DefA := ⟨fun K => He.fAd K ("_law_after", none), "_law_after", "_law_after", defArgs s__law_after, defBody s__law_after, defScope s__law_after, [], []⟩
def d__law_bag : He5.DefA := ⟨fun K => He.fAd K ("_law_bag", none), "_law_bag", "_law_bag", defArgs s__law_bag, defBody s__law_bag, defScope s__law_bag, [], []⟩
def d__law_refused : He5.DefA := ⟨fun K => He.fAd K ("_law_refused", none), "_law_refused", "_law_refused", defArgs s__law_refused, defBody s__law_refused, defScope s__law_refused, [], []⟩
def d__law_bounds_kept : He5.DefA := ⟨fun K => He.fAd K ("_law_bounds_kept", none), "_law_bounds_kept", "_law_bounds_kept", defArgs s__law_bounds_kept, defBody s__law_bounds_kept, defScope s__law_bounds_kept, [], []⟩
def d__law_size : He5.DefA := ⟨fun K => He.fAd K ("_law_size", none), "_law_size", "_law_size", defArgs s__law_size, defBody s__law_size, defScope s__law_size, [], []⟩
def d__law_standing : He5.DefA := ⟨fun K => He.fAd K ("_law_standing", none), "_law_standing", "_law_standing", defArgs s__law_standing, defBody s__law_standing, defScope s__law_standing, [], []⟩
def d_law : He5.DefA := ⟨fun K => He.fAd K ("law", none), "law", "law", defArgs s_law, defBody s_law, defScope s_law, [], []⟩
def d_BadDump___init__ : He5.DefA := ⟨fun K => He.fAd K ("BadDump", some "__init__"), "__init__", "BadDump.__init__", defArgs s_BadDump___init__, defBody s_BadDump___init__, defScope s_BadDump___init__, [], []⟩
def d_BadGap___init__ : He5.DefA := ⟨fun K => He.fAd K ("BadGap", some "__init__"), "__init__", "BadGap.__init__", defArgs s_BadGap___init__, defBody s_BadGap___init__, defScope s_BadGap___init__, [], []⟩
def d_BadNode___init__ : He5.DefA := ⟨fun K => He.fAd K ("BadNode", some "__init__"), "__init__", "BadNode.__init__", defArgs s_BadNode___init__, defBody s_BadNode___init__, defScope s_BadNode___init__, [], []⟩
def d_BadSize___init__ : He5.DefA := ⟨fun K => He.fAd K ("BadSize", some "__init__"), "__init__", "BadSize.__init__", defArgs s_BadSize___init__, defBody s_BadSize___init__, defScope s_BadSize___init__, [], []⟩
def d_LogError___init__ : He5.DefA := ⟨fun K => He.fAd K ("LogError", some "__init__"), "__init__", "LogError.__init__", defArgs s_LogError___init__, defBody s_LogError___init__, defScope s_LogError___init__, [], []⟩
def fnL : List He5.DefA := [d_check_size, d_Links___init__, d_Links_copy, d_is_positive, d__read_numbers, d__read_lefts, d__read_outs, d__read_rights, d_Links_read, d_Links_is_legal, d_check_operation, d_Links_check, d_Links_apply_at, d_Links_apply, d_Links_outs, d__joined, d_dump_of, d_Links_dump, d__law_alone, d__law_whole_number, d__law_numbers, d__law_state, d__law_text, d__law_words, d_Links_left, d_Links_right, d_check_gap, d_gap_state, d_gap_states, d_lost_gaps, d_sole_holders, d__law_agrees, d__law_draw, d__law_step, d__law_after, d__law_bag, d__law_refused, d__law_bounds_kept, d__law_size, d__law_standing, d_law, d_BadDump___init__, d_BadGap___init__, d_BadNode___init__, d_BadSize___init__, d_LogError___init__]
def chkL : List Chk := [fa_ (.glo "LinkError"),
  fa_ (.glo "LogError"),
  fa_ (.glo "BadOperation"),
  fa_ (.glo "Illegal"),
  fa_ (.glo "BadSize"),
  fa_ (.glo "BadNode"),
  fa_ (.glo "BadGap"),
  fa_ (.glo "BadDump"),
  fa_ (.glo "Links"),
  fa_ (.glo "check_size"),
  fa_ (.glo "is_positive"),
  fa_ (.glo "_read_numbers"),
  fa_ (.glo "_read_lefts"),
  fa_ (.glo "_read_outs"),
  fa_ (.glo "_read_rights"),
  fa_ (.glo "check_operation"),
  fa_ (.glo "_joined"),
  fa_ (.glo "dump_of"),
  fa_ (.glo "_law_alone"),
  fa_ (.glo "_law_whole_number"),
  fa_ (.glo "_law_numbers"),
  fa_ (.glo "_law_state"),
  fa_ (.glo "_law_text"),
  fa_ (.glo "_law_words"),
  fa_ (.glo "check_gap"),
  fa_ (.glo "gap_state"),
  fa_ (.glo "gap_states"),
  fa_ (.glo "lost_gaps"),
  fa_ (.glo "sole_holders"),
  fa_ (.glo "_law_agrees"),
  fa_ (.glo "_law_draw"),
  fa_ (.glo "_law_step"),
  fa_ (.glo "_law_after"),
  fa_ (.glo "_law_bag"),
  fa_ (.glo "_law_refused"),
  fa_ (.glo "_law_bounds_kept"),
  fa_ (.glo "_law_size"),
  fa_ (.glo "_law_standing"),
  fa_ (.glo "law"),
  fa_ (.free "ValueError"),
  fa_ (.free "abs"),
  fa_ (.free "all"),
  fa_ (.free "bool"),
  fa_ (.free "enumerate"),
  fa_ (.free "int"),
  fa_ (.free "isinstance"),
  fa_ (.free "len"),
  fa_ (.free "list"),
  fa_ (.free "min"),
  fa_ (.free "range"),
  fa_ (.free "set"),
  fa_ (.free "sorted"),
  fa_ (.free "str"),
  fa_ (.free "tuple"),
  fa_ (.free "zip"),
  fa_ (.str "DIGITS" "0123456789"),
  fa_ (.int "MOST_DIGITS" 9),
  ccB "Links" "MOST" 60,
  fa_ (.cls "Links"),
  tyB "Links",
  fa_ (.noat "Links" "_lefts"),
  fa_ (.noat "Links" "_out"),
  fa_ (.noat "Links" "_rights"),
  fa_ (.noat "Links" "size"),
  fa_ (.mkr "Links"),
  fa_ (.meth "Links" "copy"),
  smB "Links" "read",
  fa_ (.meth "Links" "is_legal"),
  fa_ (.meth "Links" "check"),
  fa_ (.meth "Links" "apply_at"),
  fa_ (.meth "Links" "apply"),
  fa_ (.meth "Links" "outs"),
  fa_ (.meth "Links" "dump"),
  fa_ (.meth "Links" "left"),
  fa_ (.meth "Links" "right"),
  askB "BadDump",
  askB "BadGap",
  askB "BadNode",
  askB "BadOperation",
  askB "BadSize",
  askB "Illegal",
  askB "LinkError",
  askB "LogError",
  excB "BadDump" ["part"],
  iniB "BadDump",
  kitB2 "BadDump" "BadDump" true,
  kitB2 "BadDump" "BadGap" false,
  kitB2 "BadDump" "BadNode" false,
  kitB2 "BadDump" "BadOperation" false,
  kitB2 "BadDump" "BadSize" false,
  kitB2 "BadDump" "Illegal" false,
  kitB2 "BadDump" "LinkError" true,
  exmB "BadDump" "LinkError" true,
  kitB2 "BadDump" "LogError" false,
  kitT2 "BadDump" "ValueError" true,
  excB "BadGap" ["gap"],
  iniB "BadGap",
  kitB2 "BadGap" "BadDump" false,
  kitB2 "BadGap" "BadGap" true,
  kitB2 "BadGap" "BadNode" false,
  kitB2 "BadGap" "BadOperation" false,
  kitB2 "BadGap" "BadSize" false,
  kitB2 "BadGap" "Illegal" false,
  kitB2 "BadGap" "LinkError" true,
  exmB "BadGap" "LinkError" true,
  kitB2 "BadGap" "LogError" false,
  kitT2 "BadGap" "ValueError" true,
  excB "BadNode" ["node"],
  iniB "BadNode",
  kitB2 "BadNode" "BadDump" false,
  kitB2 "BadNode" "BadGap" false,
  kitB2 "BadNode" "BadNode" true,
  kitB2 "BadNode" "BadOperation" false,
  kitB2 "BadNode" "BadSize" false,
  kitB2 "BadNode" "Illegal" false,
  kitB2 "BadNode" "LinkError" true,
  exmB "BadNode" "LinkError" true,
  kitB2 "BadNode" "LogError" false,
  kitT2 "BadNode" "ValueError" true,
  excB "BadOperation" ["operation", "index"],
  iniB "BadOperation",
  (fun K => decide (He.ma K (He.ga K "BadOperation") "__init__" = He.ma K (He.ga K "LogError") "__init__")),
  kitB2 "BadOperation" "BadDump" false,
  kitB2 "BadOperation" "BadGap" false,
  kitB2 "BadOperation" "BadNode" false,
  kitB2 "BadOperation" "BadOperation" true,
  kitB2 "BadOperation" "BadSize" false,
  kitB2 "BadOperation" "Illegal" false,
  kitB2 "BadOperation" "LinkError" true,
  exmB "BadOperation" "LinkError" true,
  kitB2 "BadOperation" "LogError" true,
  kitT2 "BadOperation" "ValueError" true,
  excB "BadSize" ["size"],
  iniB "BadSize",
  kitB2 "BadSize" "BadDump" false,
  kitB2 "BadSize" "BadGap" false,
  kitB2 "BadSize" "BadNode" false,
  kitB2 "BadSize" "BadOperation" false,
  kitB2 "BadSize" "BadSize" true,
  kitB2 "BadSize" "Illegal" false,
  kitB2 "BadSize" "LinkError" true,
  exmB "BadSize" "LinkError" true,
  kitB2 "BadSize" "LogError" false,
  kitT2 "BadSize" "ValueError" true,
  excB "Illegal" ["operation", "index"],
  iniB "Illegal",
  (fun K => decide (He.ma K (He.ga K "Illegal") "__init__" = He.ma K (He.ga K "LogError") "__init__")),
  kitB2 "Illegal" "BadDump" false,
  kitB2 "Illegal" "BadGap" false,
  kitB2 "Illegal" "BadNode" false,
  kitB2 "Illegal" "BadOperation" false,
  kitB2 "Illegal" "BadSize" false,
  kitB2 "Illegal" "Illegal" true,
  kitB2 "Illegal" "LinkError" true,
  exmB "Illegal" "LinkError" true,
  kitB2 "Illegal" "LogError" true,
  kitT2 "Illegal" "ValueError" true]
abbrev R : PySem.W.OpenRow := PySem.W.OpenLaw.row PySem.Challenge.rw_latelink_k06_states_of_gaps
abbrev hk : PySem.W.Hook := hookY 6 chkL fnL
def ob (s : PySem.W.SharedT) : He.AlD := obsYG 6 chkL fnL (HandSHeadRun.getT s)
theorem ob_eq (s : PySem.W.SharedT) : ob s = hk.obs s.abs := obsYG_eq (HandSHeadRun.getT_eq s)
def loose0 : List Str := ["_wall", "__name__", "LinkError", "LogError", "BadOperation", "Illegal", "BadSize", "BadNode", "BadGap", "BadDump", "DIGITS", "MOST_DIGITS", "Links", "check_size", "check_operation", "is_positive", "dump_of", "_joined", "_read_numbers", "_read_rights"]
def loose1 : List Str := ["_read_lefts", "_read_outs", "gap_state", "gap_states", "lost_gaps", "sole_holders", "check_gap", "_law_bag", "_law_draw", "_law_size", "_law_standing", "_law_text", "_law_state", "_law_step", "_law_whole_number", "_law_numbers", "_law_words", "_law_alone", "_law_agrees", "_law_refused"]
def loose2 : List Str := ["_law_bounds_kept", "_law_after"]
def loose : List Str := loose0 ++ loose1 ++ loose2
set_option maxHeartbeats 0 in
theorem run (w : World) : HandSHeadRun.RunEq R (PySem.W.view R.prog [45]) hk ob 8000 loose w := by
  intro os
  kernel_rfl
/-- what the top has written -/
structure Txt (K : PySem.W.Frag) (mg : Str → Option Value) : Prop where
  g_LinkError : mg "LinkError" = some (.ref (He.ga K "LinkError"))
  g_LogError : mg "LogError" = some (.ref (He.ga K "LogError"))
  g_BadOperation : mg "BadOperation" = some (.ref (He.ga K "BadOperation"))
  g_Illegal : mg "Illegal" = some (.ref (He.ga K "Illegal"))
  g_BadSize : mg "BadSize" = some (.ref (He.ga K "BadSize"))
  g_BadNode : mg "BadNode" = some (.ref (He.ga K "BadNode"))
  g_BadGap : mg "BadGap" = some (.ref (He.ga K "BadGap"))
  g_BadDump : mg "BadDump" = some (.ref (He.ga K "BadDump"))
  g_Links : mg "Links" = some (.ref (He.ga K "Links"))
  gf_check_size : mg "check_size" = some (.ref (He.ga K "check_size"))
  gf_is_positive : mg "is_positive" = some (.ref (He.ga K "is_positive"))
  gf__read_numbers : mg "_read_numbers" = some (.ref (He.ga K "_read_numbers"))
  gf__read_lefts : mg "_read_lefts" = some (.ref (He.ga K "_read_lefts"))
  gf__read_outs : mg "_read_outs" = some (.ref (He.ga K "_read_outs"))
  gf__read_rights : mg "_read_rights" = some (.ref (He.ga K "_read_rights"))
  gf_check_operation : mg "check_operation" = some (.ref (He.ga K "check_operation"))
  gf__joined : mg "_joined" = some (.ref (He.ga K "_joined"))
  gf_dump_of : mg "dump_of" = some (.ref (He.ga K "dump_of"))
  gf__law_alone : mg "_law_alone" = some (.ref (He.ga K "_law_alone"))
  gf__law_whole_number : mg "_law_whole_number" = some (.ref (He.ga K "_law_whole_number"))
  gf__law_numbers : mg "_law_numbers" = some (.ref (He.ga K "_law_numbers"))
  gf__law_state : mg "_law_state" = some (.ref (He.ga K "_law_state"))
  gf__law_text : mg "_law_text" = some (.ref (He.ga K "_law_text"))
  gf__law_words : mg "_law_words" = some (.ref (He.ga K "_law_words"))
  gf_check_gap : mg "check_gap" = some (.ref (He.ga K "check_gap"))
  gf_gap_state : mg "gap_state" = some (.ref (He.ga K "gap_state"))
  gf_gap_states : mg "gap_states" = some (.ref (He.ga K "gap_states"))
  gf_lost_gaps : mg "lost_gaps" = some (.ref (He.ga K "lost_gaps"))
  gf_sole_holders : mg "sole_holders" = some (.ref (He.ga K "sole_holders"))
  gf__law_agrees : mg "_law_agrees" = some (.ref (He.ga K "_law_agrees"))
  gf__law_draw : mg "_law_draw" = some (.ref (He.ga K "_law_draw"))
  gf__law_step : mg "_law_step" = some (.ref (He.ga K "_law_step"))
  gf__law_after : mg "_law_after" = some (.ref (He.ga K "_law_after"))
  gf__law_bag : mg "_law_bag" = some (.ref (He.ga K "_law_bag"))
  gf__law_refused : mg "_law_refused" = some (.ref (He.ga K "_law_refused"))
  gf__law_bounds_kept : mg "_law_bounds_kept" = some (.ref (He.ga K "_law_bounds_kept"))
  gf__law_size : mg "_law_size" = some (.ref (He.ga K "_law_size"))
  gf__law_standing : mg "_law_standing" = some (.ref (He.ga K "_law_standing"))
  gf_law : mg "law" = some (.ref (He.ga K "law"))
  b_ValueError : mg "ValueError" = none
  b_abs : mg "abs" = none
  b_all : mg "all" = none
  b_bool : mg "bool" = none
  b_enumerate : mg "enumerate" = none
  b_int : mg "int" = none
  b_isinstance : mg "isinstance" = none
  b_len : mg "len" = none
  b_list : mg "list" = none
  b_min : mg "min" = none
  b_range : mg "range" = none
  b_set : mg "set" = none
  b_sorted : mg "sorted" = none
  b_str : mg "str" = none
  b_tuple : mg "tuple" = none
  b_zip : mg "zip" = none
  k_DIGITS : ∃ t, mg "DIGITS" = some (.str "0123456789" t)
  k_MOST_DIGITS : ∃ t, mg "MOST_DIGITS" = some (.int 9 t)
  cc_Links_MOST : ∃ mc u, ClX.CRead K (He.ga K "Links") mc ∧ ClX.CVal K (He.ga K "Links") mc "MOST" (.int 60) u
  cl_Links : Cls K (He.ga K "Links")
  ty_Links : PySem.W.findIn K (.ref (He.ga K "Links")) "__class__" = some (some (.builtin "object.__class__")) ∧ PySem.W.mroIn K (He.ga K "Links") (.type "object") = some true
  na_Links__lefts : NoAttr K (He.ga K "Links") "_lefts"
  na_Links__out : NoAttr K (He.ga K "Links") "_out"
  na_Links__rights : NoAttr K (He.ga K "Links") "_rights"
  na_Links_size : NoAttr K (He.ga K "Links") "size"
  mk_Links : Mk K (He.ga K "Links") (He.ma K (He.ga K "Links") "__init__")
  me_Links_copy : Meth K (He.ga K "Links") "copy" (He.ma K (He.ga K "Links") "copy")
  sm_Links_read : ClX.CRead K (He.ga K "Links") (.type "type") ∧ ∃ (p : Addr) (rest : List Value), PySem.W.findCls K (.ref (He.ga K "Links")) (.type "type") "read" = some (.get (.builtin "staticmethod.__get__") (.ref p) .none (.ref (He.ga K "Links"))) ∧ PySem.W.recIn K p "staticmethod" = some (.ref (He5.wf K (He.ga K "Links") "staticmethod" "read") :: rest)
  me_Links_is_legal : Meth K (He.ga K "Links") "is_legal" (He.ma K (He.ga K "Links") "is_legal")
  me_Links_check : Meth K (He.ga K "Links") "check" (He.ma K (He.ga K "Links") "check")
  me_Links_apply_at : Meth K (He.ga K "Links") "apply_at" (He.ma K (He.ga K "Links") "apply_at")
  me_Links_apply : Meth K (He.ga K "Links") "apply" (He.ma K (He.ga K "Links") "apply")
  me_Links_outs : Meth K (He.ga K "Links") "outs" (He.ma K (He.ga K "Links") "outs")
  me_Links_dump : Meth K (He.ga K "Links") "dump" (He.ma K (He.ga K "Links") "dump")
  me_Links_left : Meth K (He.ga K "Links") "left" (He.ma K (He.ga K "Links") "left")
  me_Links_right : Meth K (He.ga K "Links") "right" (He.ma K (He.ga K "Links") "right")
  ex_BadDump : ExK K (He.ga K "BadDump")
  ex_BadGap : ExK K (He.ga K "BadGap")
  ex_BadNode : ExK K (He.ga K "BadNode")
  ex_BadOperation : ExK K (He.ga K "BadOperation")
  ex_BadSize : ExK K (He.ga K "BadSize")
  ex_Illegal : ExK K (He.ga K "Illegal")
  ex_LinkError : ExK K (He.ga K "LinkError")
  ex_LogError : ExK K (He.ga K "LogError")
  oe_BadDump : OexC K (He.ga K "BadDump") ∧ ∀ f ∈ (["part"] : List Str), PySem.W.findIn K (.ref (He.ga K "BadDump")) f = some none
  in_BadDump : PySem.W.findIn K (.ref (He.ga K "BadDump")) "__init__" = some (some (.ref (He.ma K (He.ga K "BadDump") "__init__"))) ∧ PySem.W.typeIn K (.ref (He.ma K (He.ga K "BadDump") "__init__")) = some (.type "function")
  kit_BadDump_BadDump : PySem.W.kitOne K (.ref (He.ga K "BadDump")) (.ref (He.ga K "BadDump")) = some true
  kit_BadDump_BadGap : PySem.W.kitOne K (.ref (He.ga K "BadDump")) (.ref (He.ga K "BadGap")) = some false
  kit_BadDump_BadNode : PySem.W.kitOne K (.ref (He.ga K "BadDump")) (.ref (He.ga K "BadNode")) = some false
  kit_BadDump_BadOperation : PySem.W.kitOne K (.ref (He.ga K "BadDump")) (.ref (He.ga K "BadOperation")) = some false
  kit_BadDump_BadSize : PySem.W.kitOne K (.ref (He.ga K "BadDump")) (.ref (He.ga K "BadSize")) = some false
  kit_BadDump_Illegal : PySem.W.kitOne K (.ref (He.ga K "BadDump")) (.ref (He.ga K "Illegal")) = some false
  kit_BadDump_LinkError : PySem.W.kitOne K (.ref (He.ga K "BadDump")) (.ref (He.ga K "LinkError")) = some true
  exm_BadDump_LinkError : PySem.W.exmOne K (.ref (He.ga K "BadDump")) (.ref (He.ga K "LinkError")) = some true
  kit_BadDump_LogError : PySem.W.kitOne K (.ref (He.ga K "BadDump")) (.ref (He.ga K "LogError")) = some false
  kit_BadDump_ValueError : PySem.W.kitOne K (.ref (He.ga K "BadDump")) (.type "ValueError") = some true
  oe_BadGap : OexC K (He.ga K "BadGap") ∧ ∀ f ∈ (["gap"] : List Str), PySem.W.findIn K (.ref (He.ga K "BadGap")) f = some none
  in_BadGap : PySem.W.findIn K (.ref (He.ga K "BadGap")) "__init__" = some (some (.ref (He.ma K (He.ga K "BadGap") "__init__"))) ∧ PySem.W.typeIn K (.ref (He.ma K (He.ga K "BadGap") "__init__")) = some (.type "function")
  kit_BadGap_BadDump : PySem.W.kitOne K (.ref (He.ga K "BadGap")) (.ref (He.ga K "BadDump")) = some false
  kit_BadGap_BadGap : PySem.W.kitOne K (.ref (He.ga K "BadGap")) (.ref (He.ga K "BadGap")) = some true
  kit_BadGap_BadNode : PySem.W.kitOne K (.ref (He.ga K "BadGap")) (.ref (He.ga K "BadNode")) = some false
  kit_BadGap_BadOperation : PySem.W.kitOne K (.ref (He.ga K "BadGap")) (.ref (He.ga K "BadOperation")) = some false
  kit_BadGap_BadSize : PySem.W.kitOne K (.ref (He.ga K "BadGap")) (.ref (He.ga K "BadSize")) = some false
  kit_BadGap_Illegal : PySem.W.kitOne K (.ref (He.ga K "BadGap")) (.ref (He.ga K "Illegal")) = some false
  kit_BadGap_LinkError : PySem.W.kitOne K (.ref (He.ga K "BadGap")) (.ref (He.ga K "LinkError")) = some true
  exm_BadGap_LinkError : PySem.W.exmOne K (.ref (He.ga K "BadGap")) (.ref (He.ga K "LinkError")) = some true
  kit_BadGap_LogError : PySem.W.kitOne K (.ref (He.ga K "BadGap")) (.ref (He.ga K "LogError")) = some false
  kit_BadGap_ValueError : PySem.W.kitOne K (.ref (He.ga K "BadGap")) (.type "ValueError") = some true
  oe_BadNode : OexC K (He.ga K "BadNode") ∧ ∀ f ∈ (["node"] : List Str), PySem.W.findIn K (.ref (He.ga K "BadNode")) f = some none
  in_BadNode : PySem.W.findIn K (.ref (He.ga K "BadNode")) "__init__" = some (some (.ref (He.ma K (He.ga K "BadNode") "__init__"))) ∧ PySem.W.typeIn K (.ref (He.ma K (He.ga K "BadNode") "__init__")) = some (.type "function")
  kit_BadNode_BadDump : PySem.W.kitOne K (.ref (He.ga K "BadNode")) (.ref (He.ga K "BadDump")) = some false
  kit_BadNode_BadGap : PySem.W.kitOne K (.ref (He.ga K "BadNode")) (.ref (He.ga K "BadGap")) = some false
  kit_BadNode_BadNode : PySem.W.kitOne K (.ref (He.ga K "BadNode")) (.ref (He.ga K "BadNode")) = some true
  kit_BadNode_BadOperation : PySem.W.kitOne K (.ref (He.ga K "BadNode")) (.ref (He.ga K "BadOperation")) = some false
  kit_BadNode_BadSize : PySem.W.kitOne K (.ref (He.ga K "BadNode")) (.ref (He.ga K "BadSize")) = some false
  kit_BadNode_Illegal : PySem.W.kitOne K (.ref (He.ga K "BadNode")) (.ref (He.ga K "Illegal")) = some false
  kit_BadNode_LinkError : PySem.W.kitOne K (.ref (He.ga K "BadNode")) (.ref (He.ga K "LinkError")) = some true
  exm_BadNode_LinkError : PySem.W.exmOne K (.ref (He.ga K "BadNode")) (.ref (He.ga K "LinkError")) = some true
  kit_BadNode_LogError : PySem.W.kitOne K (.ref (He.ga K "BadNode")) (.ref (He.ga K "LogError")) = some false
  kit_BadNode_ValueError : PySem.W.kitOne K (.ref (He.ga K "BadNode")) (.type "ValueError") = some true
  oe_BadOperation : OexC K (He.ga K "BadOperation") ∧ ∀ f ∈ (["operation", "index"] : List Str), PySem.W.findIn K (.ref (He.ga K "BadOperation")) f = some none
  in_BadOperation : PySem.W.findIn K (.ref (He.ga K "BadOperation")) "__init__" = some (some (.ref (He.ma K (He.ga K "BadOperation") "__init__"))) ∧ PySem.W.typeIn K (.ref (He.ma K (He.ga K "BadOperation") "__init__")) = some (.type "function")
  sm_BadOperation : He.ma K (He.ga K "BadOperation") "__init__" = He.ma K (He.ga K "LogError") "__init__"
  kit_BadOperation_BadDump : PySem.W.kitOne K (.ref (He.ga K "BadOperation")) (.ref (He.ga K "BadDump")) = some false
  kit_BadOperation_BadGap : PySem.W.kitOne K (.ref (He.ga K "BadOperation")) (.ref (He.ga K "BadGap")) = some false
  kit_BadOperation_BadNode : PySem.W.kitOne K (.ref (He.ga K "BadOperation")) (.ref (He.ga K "BadNode")) = some false
  kit_BadOperation_BadOperation : PySem.W.kitOne K (.ref (He.ga K "BadOperation")) (.ref (He.ga K "BadOperation")) = some true
  kit_BadOperation_BadSize : PySem.W.kitOne K (.ref (He.ga K "BadOperation")) (.ref (He.ga K "BadSize")) = some false
  kit_BadOperation_Illegal : PySem.W.kitOne K (.ref (He.ga K "BadOperation")) (.ref (He.ga K "Illegal")) = some false
  kit_BadOperation_LinkError : PySem.W.kitOne K (.ref (He.ga K "BadOperation")) (.ref (He.ga K "LinkError")) = some true
  exm_BadOperation_LinkError : PySem.W.exmOne K (.ref (He.ga K "BadOperation")) (.ref (He.ga K "LinkError")) = some true
  kit_BadOperation_LogError : PySem.W.kitOne K (.ref (He.ga K "BadOperation")) (.ref (He.ga K "LogError")) = some true
  kit_BadOperation_ValueError : PySem.W.kitOne K (.ref (He.ga K "BadOperation")) (.type "ValueError") = some true
  oe_BadSize : OexC K (He.ga K "BadSize") ∧ ∀ f ∈ (["size"] : List Str), PySem.W.findIn K (.ref (He.ga K "BadSize")) f = some none
  in_BadSize : PySem.W.findIn K (.ref (He.ga K "BadSize")) "__init__" = some (some (.ref (He.ma K (He.ga K "BadSize") "__init__"))) ∧ PySem.W.typeIn K (.ref (He.ma K (He.ga K "BadSize") "__init__")) = some (.type "function")
  kit_BadSize_BadDump : PySem.W.kitOne K (.ref (He.ga K "BadSize")) (.ref (He.ga K "BadDump")) = some false
  kit_BadSize_BadGap : PySem.W.kitOne K (.ref (He.ga K "BadSize")) (.ref (He.ga K "BadGap")) = some false
  kit_BadSize_BadNode : PySem.W.kitOne K (.ref (He.ga K "BadSize")) (.ref (He.ga K "BadNode")) = some false
  kit_BadSize_BadOperation : PySem.W.kitOne K (.ref (He.ga K "BadSize")) (.ref (He.ga K "BadOperation")) = some false
  kit_BadSize_BadSize : PySem.W.kitOne K (.ref (He.ga K "BadSize")) (.ref (He.ga K "BadSize")) = some true
  kit_BadSize_Illegal : PySem.W.kitOne K (.ref (He.ga K "BadSize")) (.ref (He.ga K "Illegal")) = some false
  kit_BadSize_LinkError : PySem.W.kitOne K (.ref (He.ga K "BadSize")) (.ref (He.ga K "LinkError")) = some true
  exm_BadSize_LinkError : PySem.W.exmOne K (.ref (He.ga K "BadSize")) (.ref (He.ga K "LinkError")) = some true
  kit_BadSize_LogError : PySem.W.kitOne K (.ref (He.ga K "BadSize")) (.ref (He.ga K "LogError")) = some false
  kit_BadSize_ValueError : PySem.W.kitOne K (.ref (He.ga K "BadSize")) (.type "ValueError") = some true
  oe_Illegal : OexC K (He.ga K "Illegal") ∧ ∀ f ∈ (["operation", "index"] : List Str), PySem.W.findIn K (.ref (He.ga K "Illegal")) f = some none
  in_Illegal : PySem.W.findIn K (.ref (He.ga K "Illegal")) "__init__" = some (some (.ref (He.ma K (He.ga K "Illegal") "__init__"))) ∧ PySem.W.typeIn K (.ref (He.ma K (He.ga K "Illegal") "__init__")) = some (.type "function")
  sm_Illegal : He.ma K (He.ga K "Illegal") "__init__" = He.ma K (He.ga K "LogError") "__init__"
  kit_Illegal_BadDump : PySem.W.kitOne K (.ref (He.ga K "Illegal")) (.ref (He.ga K "BadDump")) = some false
  kit_Illegal_BadGap : PySem.W.kitOne K (.ref (He.ga K "Illegal")) (.ref (He.ga K "BadGap")) = some false
  kit_Illegal_BadNode : PySem.W.kitOne K (.ref (He.ga K "Illegal")) (.ref (He.ga K "BadNode")) = some false
  kit_Illegal_BadOperation : PySem.W.kitOne K (.ref (He.ga K "Illegal")) (.ref (He.ga K "BadOperation")) = some false
  kit_Illegal_BadSize : PySem.W.kitOne K (.ref (He.ga K "Illegal")) (.ref (He.ga K "BadSize")) = some false
  kit_Illegal_Illegal : PySem.W.kitOne K (.ref (He.ga K "Illegal")) (.ref (He.ga K "Illegal")) = some true
  kit_Illegal_LinkError : PySem.W.kitOne K (.ref (He.ga K "Illegal")) (.ref (He.ga K "LinkError")) = some true
  exm_Illegal_LinkError : PySem.W.exmOne K (.ref (He.ga K "Illegal")) (.ref (He.ga K "LinkError")) = some true
  kit_Illegal_LogError : PySem.W.kitOne K (.ref (He.ga K "Illegal")) (.ref (He.ga K "LogError")) = some true
  kit_Illegal_ValueError : PySem.W.kitOne K (.ref (He.ga K "Illegal")) (.type "ValueError") = some true
theorem txt_of {K : PySem.W.Frag} {h : Heap} {mg : Str → Option Value} (X : K.In h) (G : h.Ns mainGlobals mg) (c : SaysY chkL fnL K) : Txt K mg where
  g_LinkError := He.glo_ok X G (c.fact 0 (f := fa_ (.glo "LinkError")) rfl)
  g_LogError := He.glo_ok X G (c.fact 1 (f := fa_ (.glo "LogError")) rfl)
  g_BadOperation := He.glo_ok X G (c.fact 2 (f := fa_ (.glo "BadOperation")) rfl)
  g_Illegal := He.glo_ok X G (c.fact 3 (f := fa_ (.glo "Illegal")) rfl)
  g_BadSize := He.glo_ok X G (c.fact 4 (f := fa_ (.glo "BadSize")) rfl)
  g_BadNode := He.glo_ok X G (c.fact 5 (f := fa_ (.glo "BadNode")) rfl)
  g_BadGap := He.glo_ok X G (c.fact 6 (f := fa_ (.glo "BadGap")) rfl)
  g_BadDump := He.glo_ok X G (c.fact 7 (f := fa_ (.glo "BadDump")) rfl)
  g_Links := He.glo_ok X G (c.fact 8 (f := fa_ (.glo "Links")) rfl)
  gf_check_size := He.glo_ok X G (c.fact 9 (f := fa_ (.glo "check_size")) rfl)
  gf_is_positive := He.glo_ok X G (c.fact 10 (f := fa_ (.glo "is_positive")) rfl)
  gf__read_numbers := He.glo_ok X G (c.fact 11 (f := fa_ (.glo "_read_numbers")) rfl)
  gf__read_lefts := He.glo_ok X G (c.fact 12 (f := fa_ (.glo "_read_lefts")) rfl)
  gf__read_outs := He.glo_ok X G (c.fact 13 (f := fa_ (.glo "_read_outs")) rfl)
  gf__read_rights := He.glo_ok X G (c.fact 14 (f := fa_ (.glo "_read_rights")) rfl)
  gf_check_operation := He.glo_ok X G (c.fact 15 (f := fa_ (.glo "check_operation")) rfl)
  gf__joined := He.glo_ok X G (c.fact 16 (f := fa_ (.glo "_joined")) rfl)
  gf_dump_of := He.glo_ok X G (c.fact 17 (f := fa_ (.glo "dump_of")) rfl)
  gf__law_alone := He.glo_ok X G (c.fact 18 (f := fa_ (.glo "_law_alone")) rfl)
  gf__law_whole_number := He.glo_ok X G (c.fact 19 (f := fa_ (.glo "_law_whole_number")) rfl)
  gf__law_numbers := He.glo_ok X G (c.fact 20 (f := fa_ (.glo "_law_numbers")) rfl)
  gf__law_state := He.glo_ok X G (c.fact 21 (f := fa_ (.glo "_law_state")) rfl)
  gf__law_text := He.glo_ok X G (c.fact 22 (f := fa_ (.glo "_law_text")) rfl)
  gf__law_words := He.glo_ok X G (c.fact 23 (f := fa_ (.glo "_law_words")) rfl)
  gf_check_gap := He.glo_ok X G (c.fact 24 (f := fa_ (.glo "check_gap")) rfl)
  gf_gap_state := He.glo_ok X G (c.fact 25 (f := fa_ (.glo "gap_state")) rfl)
  gf_gap_states := He.glo_ok X G (c.fact 26 (f := fa_ (.glo "gap_states")) rfl)
  gf_lost_gaps := He.glo_ok X G (c.fact 27 (f := fa_ (.glo "lost_gaps")) rfl)
  gf_sole_holders := He.glo_ok X G (c.fact 28 (f := fa_ (.glo "sole_holders")) rfl)
  gf__law_agrees := He.glo_ok X G (c.fact 29 (f := fa_ (.glo "_law_agrees")) rfl)
  gf__law_draw := He.glo_ok X G (c.fact 30 (f := fa_ (.glo "_law_draw")) rfl)
  gf__law_step := He.glo_ok X G (c.fact 31 (f := fa_ (.glo "_law_step")) rfl)
  gf__law_after := He.glo_ok X G (c.fact 32 (f := fa_ (.glo "_law_after")) rfl)
  gf__law_bag := He.glo_ok X G (c.fact 33 (f := fa_ (.glo "_law_bag")) rfl)
  gf__law_refused := He.glo_ok X G (c.fact 34 (f := fa_ (.glo "_law_refused")) rfl)
  gf__law_bounds_kept := He.glo_ok X G (c.fact 35 (f := fa_ (.glo "_law_bounds_kept")) rfl)
  gf__law_size := He.glo_ok X G (c.fact 36 (f := fa_ (.glo "_law_size")) rfl)
  gf__law_standing := He.glo_ok X G (c.fact 37 (f := fa_ (.glo "_law_standing")) rfl)
  gf_law := He.glo_ok X G (c.fact 38 (f := fa_ (.glo "law")) rfl)
  b_ValueError := He.free_ok X G (c.fact 39 (f := fa_ (.free "ValueError")) rfl)
  b_abs := He.free_ok X G (c.fact 40 (f := fa_ (.free "abs")) rfl)
  b_all := He.free_ok X G (c.fact 41 (f := fa_ (.free "all")) rfl)
  b_bool := He.free_ok X G (c.fact 42 (f := fa_ (.free "bool")) rfl)
  b_enumerate := He.free_ok X G (c.fact 43 (f := fa_ (.free "enumerate")) rfl)
  b_int := He.free_ok X G (c.fact 44 (f := fa_ (.free "int")) rfl)
  b_isinstance := He.free_ok X G (c.fact 45 (f := fa_ (.free "isinstance")) rfl)
  b_len := He.free_ok X G (c.fact 46 (f := fa_ (.free "len")) rfl)
  b_list := He.free_ok X G (c.fact 47 (f := fa_ (.free "list")) rfl)
  b_min := He.free_ok X G (c.fact 48 (f := fa_ (.free "min")) rfl)
  b_range := He.free_ok X G (c.fact 49 (f := fa_ (.free "range")) rfl)
  b_set := He.free_ok X G (c.fact 50 (f := fa_ (.free "set")) rfl)
  b_sorted := He.free_ok X G (c.fact 51 (f := fa_ (.free "sorted")) rfl)
  b_str := He.free_ok X G (c.fact 52 (f := fa_ (.free "str")) rfl)
  b_tuple := He.free_ok X G (c.fact 53 (f := fa_ (.free "tuple")) rfl)
  b_zip := He.free_ok X G (c.fact 54 (f := fa_ (.free "zip")) rfl)
  k_DIGITS := He.str_ok X G (c.fact 55 (f := fa_ (.str "DIGITS" "0123456789")) rfl)
  k_MOST_DIGITS := He.int_ok X G (c.fact 56 (f := fa_ (.int "MOST_DIGITS" 9)) rfl)
  cc_Links_MOST := ccB_ok (c.fact 57 (f := ccB "Links" "MOST" 60) rfl)
  cl_Links := He.cls_ok (c.fact 58 (f := fa_ (.cls "Links")) rfl)
  ty_Links := tyB_ok (c.fact 59 (f := tyB "Links") rfl)
  na_Links__lefts := He.noat_ok (c.fact 60 (f := fa_ (.noat "Links" "_lefts")) rfl)
  na_Links__out := He.noat_ok (c.fact 61 (f := fa_ (.noat "Links" "_out")) rfl)
  na_Links__rights := He.noat_ok (c.fact 62 (f := fa_ (.noat "Links" "_rights")) rfl)
  na_Links_size := He.noat_ok (c.fact 63 (f := fa_ (.noat "Links" "size")) rfl)
  mk_Links := He.mkr_ok (c.fact 64 (f := fa_ (.mkr "Links")) rfl)
  me_Links_copy := He.meth_ok (c.fact 65 (f := fa_ (.meth "Links" "copy")) rfl)
  sm_Links_read := smB_ok (c.fact 66 (f := smB "Links" "read") rfl)
  me_Links_is_legal := He.meth_ok (c.fact 67 (f := fa_ (.meth "Links" "is_legal")) rfl)
  me_Links_check := He.meth_ok (c.fact 68 (f := fa_ (.meth "Links" "check")) rfl)
  me_Links_apply_at := He.meth_ok (c.fact 69 (f := fa_ (.meth "Links" "apply_at")) rfl)
  me_Links_apply := He.meth_ok (c.fact 70 (f := fa_ (.meth "Links" "apply")) rfl)
  me_Links_outs := He.meth_ok (c.fact 71 (f := fa_ (.meth "Links" "outs")) rfl)
  me_Links_dump := He.meth_ok (c.fact 72 (f := fa_ (.meth "Links" "dump")) rfl)
  me_Links_left := He.meth_ok (c.fact 73 (f := fa_ (.meth "Links" "left")) rfl)
  me_Links_right := He.meth_ok (c.fact 74 (f := fa_ (.meth "Links" "right")) rfl)
  ex_BadDump := askB_ok (c.fact 75 (f := askB "BadDump") rfl)
  ex_BadGap := askB_ok (c.fact 76 (f := askB "BadGap") rfl)
  ex_BadNode := askB_ok (c.fact 77 (f := askB "BadNode") rfl)
  ex_BadOperation := askB_ok (c.fact 78 (f := askB "BadOperation") rfl)
  ex_BadSize := askB_ok (c.fact 79 (f := askB "BadSize") rfl)
  ex_Illegal := askB_ok (c.fact 80 (f := askB "Illegal") rfl)
  ex_LinkError := askB_ok (c.fact 81 (f := askB "LinkError") rfl)
  ex_LogError := askB_ok (c.fact 82 (f := askB "LogError") rfl)
  oe_BadDump := excB_ok (c.fact 83 (f := excB "BadDump" ["part"]) rfl)
  in_BadDump := iniB_ok (c.fact 84 (f := iniB "BadDump") rfl)
  kit_BadDump_BadDump := of_decide_eq_true (c.fact 85 (f := kitB2 "BadDump" "BadDump" true) rfl)
  kit_BadDump_BadGap := of_decide_eq_true (c.fact 86 (f := kitB2 "BadDump" "BadGap" false) rfl)
  kit_BadDump_BadNode := of_decide_eq_true (c.fact 87 (f := kitB2 "BadDump" "BadNode" false) rfl)
  kit_BadDump_BadOperation := of_decide_eq_true (c.fact 88 (f := kitB2 "BadDump" "BadOperation" false) rfl)
  kit_BadDump_BadSize := of_decide_eq_true (c.fact 89 (f := kitB2 "BadDump" "BadSize" false) rfl)
  kit_BadDump_Illegal := of_decide_eq_true (c.fact 90 (f := kitB2 "BadDump" "Illegal" false) rfl)
  kit_BadDump_LinkError := of_decide_eq_true (c.fact 91 (f := kitB2 "BadDump" "LinkError" true) rfl)
  exm_BadDump_LinkError := of_decide_eq_true (c.fact 92 (f := exmB "BadDump" "LinkError" true) rfl)
  kit_BadDump_LogError := of_decide_eq_true (c.fact 93 (f := kitB2 "BadDump" "LogError" false) rfl)
  kit_BadDump_ValueError := of_decide_eq_true (c.fact 94 (f := kitT2 "BadDump" "ValueError" true) rfl)
  oe_BadGap := excB_ok (c.fact 95 (f := excB "BadGap" ["gap"]) rfl)
  in_BadGap := iniB_ok (c.fact 96 (f := iniB "BadGap") rfl)
  kit_BadGap_BadDump := of_decide_eq_true (c.fact 97 (f := kitB2 "BadGap" "BadDump" false) rfl)
  kit_BadGap_BadGap := of_decide_eq_true (c.fact 98 (f := kitB2 "BadGap" "BadGap" true) rfl)
  kit_BadGap_BadNode := of_decide_eq_true (c.fact 99 (f := kitB2 "BadGap" "BadNode" false) rfl)
  kit_BadGap_BadOperation := of_decide_eq_true (c.fact 100 (f := kitB2 "BadGap" "BadOperation" false) rfl)
  kit_BadGap_BadSize := of_decide_eq_true (c.fact 101 (f := kitB2 "BadGap" "BadSize" false) rfl)
  kit_BadGap_Illegal := of_decide_eq_true (c.fact 102 (f := kitB2 "BadGap" "Illegal" false) rfl)
  kit_BadGap_LinkError := of_decide_eq_true (c.fact 103 (f := kitB2 "BadGap" "LinkError" true) rfl)
  exm_BadGap_LinkError := of_decide_eq_true (c.fact 104 (f := exmB "BadGap" "LinkError" true) rfl)
  kit_BadGap_LogError := of_decide_eq_true (c.fact 105 (f := kitB2 "BadGap" "LogError" false) rfl)
  kit_BadGap_ValueError := of_decide_eq_true (c.fact 106 (f := kitT2 "BadGap" "ValueError" true) rfl)
  oe_BadNode := excB_ok (c.fact 107 (f := excB "BadNode" ["node"]) rfl)
  in_BadNode := iniB_ok (c.fact 108 (f := iniB "BadNode") rfl)
  kit_BadNode_BadDump := of_decide_eq_true (c.fact 109 (f := kitB2 "BadNode" "BadDump" false) rfl)
  kit_BadNode_BadGap := of_decide_eq_true (c.fact 110 (f := kitB2 "BadNode" "BadGap" false) rfl)
  kit_BadNode_BadNode := of_decide_eq_true (c.fact 111 (f := kitB2 "BadNode" "BadNode" true) rfl)
  kit_BadNode_BadOperation := of_decide_eq_true (c.fact 112 (f := kitB2 "BadNode" "BadOperation" false) rfl)
  kit_BadNode_BadSize := of_decide_eq_true (c.fact 113 (f := kitB2 "BadNode" "BadSize" false) rfl)
  kit_BadNode_Illegal := of_decide_eq_true (c.fact 114 (f := kitB2 "BadNode" "Illegal" false) rfl)
  kit_BadNode_LinkError := of_decide_eq_true (c.fact 115 (f := kitB2 "BadNode" "LinkError" true) rfl)
  exm_BadNode_LinkError := of_decide_eq_true (c.fact 116 (f := exmB "BadNode" "LinkError" true) rfl)
  kit_BadNode_LogError := of_decide_eq_true (c.fact 117 (f := kitB2 "BadNode" "LogError" false) rfl)
  kit_BadNode_ValueError := of_decide_eq_true (c.fact 118 (f := kitT2 "BadNode" "ValueError" true) rfl)
  oe_BadOperation := excB_ok (c.fact 119 (f := excB "BadOperation" ["operation", "index"]) rfl)
  in_BadOperation := iniB_ok (c.fact 120 (f := iniB "BadOperation") rfl)
  sm_BadOperation := of_decide_eq_true (c.fact 121 (f := (fun K => decide (He.ma K (He.ga K "BadOperation") "__init__" = He.ma K (He.ga K "LogError") "__init__"))) rfl)
  kit_BadOperation_BadDump := of_decide_eq_true (c.fact 122 (f := kitB2 "BadOperation" "BadDump" false) rfl)
  kit_BadOperation_BadGap := of_decide_eq_true (c.fact 123 (f := kitB2 "BadOperation" "BadGap" false) rfl)
  kit_BadOperation_BadNode := of_decide_eq_true (c.fact 124 (f := kitB2 "BadOperation" "BadNode" false) rfl)
  kit_BadOperation_BadOperation := of_decide_eq_true (c.fact 125 (f := kitB2 "BadOperation" "BadOperation" true) rfl)
  kit_BadOperation_BadSize := of_decide_eq_true (c.fact 126 (f := kitB2 "BadOperation" "BadSize" false) rfl)
  kit_BadOperation_Illegal := of_decide_eq_true (c.fact 127 (f := kitB2 "BadOperation" "Illegal" false) rfl)
  kit_BadOperation_LinkError := of_decide_eq_true (c.fact 128 (f := kitB2 "BadOperation" "LinkError" true) rfl)
  exm_BadOperation_LinkError := of_decide_eq_true (c.fact 129 (f := exmB "BadOperation" "LinkError" true) rfl)
  kit_BadOperation_LogError := of_decide_eq_true (c.fact 130 (f := kitB2 "BadOperation" "LogError" true) rfl)
  kit_BadOperation_ValueError := of_decide_eq_true (c.fact 131 (f := kitT2 "BadOperation" "ValueError" true) rfl)
  oe_BadSize := excB_ok (c.fact 132 (f := excB "BadSize" ["size"]) rfl)
  in_BadSize := iniB_ok (c.fact 133 (f := iniB "BadSize") rfl)
  kit_BadSize_BadDump := of_decide_eq_true (c.fact 134 (f := kitB2 "BadSize" "BadDump" false) rfl)
  kit_BadSize_BadGap := of_decide_eq_true (c.fact 135 (f := kitB2 "BadSize" "BadGap" false) rfl)
  kit_BadSize_BadNode := of_decide_eq_true (c.fact 136 (f := kitB2 "BadSize" "BadNode" false) rfl)
  kit_BadSize_BadOperation := of_decide_eq_true (c.fact 137 (f := kitB2 "BadSize" "BadOperation" false) rfl)
  kit_BadSize_BadSize := of_decide_eq_true (c.fact 138 (f := kitB2 "BadSize" "BadSize" true) rfl)
  kit_BadSize_Illegal := of_decide_eq_true (c.fact 139 (f := kitB2 "BadSize" "Illegal" false) rfl)
  kit_BadSize_LinkError := of_decide_eq_true (c.fact 140 (f := kitB2 "BadSize" "LinkError" true) rfl)
  exm_BadSize_LinkError := of_decide_eq_true (c.fact 141 (f := exmB "BadSize" "LinkError" true) rfl)
  kit_BadSize_LogError := of_decide_eq_true (c.fact 142 (f := kitB2 "BadSize" "LogError" false) rfl)
  kit_BadSize_ValueError := of_decide_eq_true (c.fact 143 (f := kitT2 "BadSize" "ValueError" true) rfl)
  oe_Illegal := excB_ok (c.fact 144 (f := excB "Illegal" ["operation", "index"]) rfl)
  in_Illegal := iniB_ok (c.fact 145 (f := iniB "Illegal") rfl)
  sm_Illegal := of_decide_eq_true (c.fact 146 (f := (fun K => decide (He.ma K (He.ga K "Illegal") "__init__" = He.ma K (He.ga K "LogError") "__init__"))) rfl)
  kit_Illegal_BadDump := of_decide_eq_true (c.fact 147 (f := kitB2 "Illegal" "BadDump" false) rfl)
  kit_Illegal_BadGap := of_decide_eq_true (c.fact 148 (f := kitB2 "Illegal" "BadGap" false) rfl)
  kit_Illegal_BadNode := of_decide_eq_true (c.fact 149 (f := kitB2 "Illegal" "BadNode" false) rfl)
  kit_Illegal_BadOperation := of_decide_eq_true (c.fact 150 (f := kitB2 "Illegal" "BadOperation" false) rfl)
  kit_Illegal_BadSize := of_decide_eq_true (c.fact 151 (f := kitB2 "Illegal" "BadSize" false) rfl)
  kit_Illegal_Illegal := of_decide_eq_true (c.fact 152 (f := kitB2 "Illegal" "Illegal" true) rfl)
  kit_Illegal_LinkError := of_decide_eq_true (c.fact 153 (f := kitB2 "Illegal" "LinkError" true) rfl)
  exm_Illegal_LinkError := of_decide_eq_true (c.fact 154 (f := exmB "Illegal" "LinkError" true) rfl)
  kit_Illegal_LogError := of_decide_eq_true (c.fact 155 (f := kitB2 "Illegal" "LogError" true) rfl)
  kit_Illegal_ValueError := of_decide_eq_true (c.fact 156 (f := kitT2 "Illegal" "ValueError" true) rfl)
end G

set_option Elab.async false
set_option linter.all false
set_option maxRecDepth 100000
set_option maxHeartbeats 4000000

namespace G
open PySem PySem.Spec PyProof.Rows L2
def t_check_size (K : PySem.W.Frag) (E : XK) : TS :=
  tIfS (tNot (tTest (tChain rLeA rLeA (tC (.int 0)) (tVar 0) (tC (.int 60))))) (tRz (He.ga K "BadSize") ["size"] (fun cls d _ H => E cls d H) (tCons (tVar 0) (tNil))) (tNext)
def t_Links___init__ (K : PySem.W.Frag) (E : XK) : TS :=
  tSeq (tDrop (tCl (sp_check_size K) (fun _ => E) (tCons (tVar 1) (tNil)))) (tSeq (sFld K (tVar 0) (tVar 1) "size") (tSeq (sFld K (tVar 0) (tLstRg (tRg2 (tC (.int 1)) (tOp rAddA (tVar 1) (tC (.int 2))))) "_rights") (tSeq (sFld K (tVar 0) (tOp rAddA (tLst (tCons (tC (.int 0)) (tNil))) (tLstRg (tRg1 (tOp rAddA (tVar 1) (tC (.int 1)))))) "_lefts") (sFld K (tVar 0) (tOp rMulA (tLst (tCons (tC (.bl false)) (tNil))) (tOp rAddA (tVar 1) (tC (.int 2)))) "_out"))))
def t_Links_copy (K : PySem.W.Frag) (E : XK) : TS :=
  tSeq (tAsg (tMk (He.ga K "Links") (sp_Links___init__ K) (fun _ => E) (tCons (tFld K (tVar 0) "size") (tNil))) (gName 1)) (tSeq (sFld K (tVar 1) (tCB (rListA K) (tCons (tFld K (tVar 0) "_rights") (tNil))) "_rights") (tSeq (sFld K (tVar 1) (tCB (rListA K) (tCons (tFld K (tVar 0) "_lefts") (tNil))) "_lefts") (tSeq (sFld K (tVar 1) (tCB (rListA K) (tCons (tFld K (tVar 0) "_out") (tNil))) "_out") (tRet (tVar 1)))))
def t_is_positive (K : PySem.W.Frag) (E : XK) : TS :=
  tRet (tAndV (tChain rLeA rLeA (tC (.int 1)) (tCB (rLenA K) (tCons (tVar 0) (tNil))) (tC (.int (9)))) (tAndV (tOp (rNeA K) (tOp (rIx K) (tVar 0) (tC (.int 0))) (tC (.str "0"))) (tCB (rAll K) (tCons (tLc (iStr (tVar 0)) (gName 1) (tYes) (tOp rInS (tVar 1) (tC (.str "0123456789"))) [1]) (tNil)))))
def t__read_numbers (K : PySem.W.Frag) (E : XK) : TS :=
  tSeq (tAsg (tM1 rSplit (tVar 0) (tC (.str " "))) (gName 2)) (tSeq (tIfS (tNot (tB (tCB (rAll K) (tCons (tLc (iList K (tVar 2)) (gName 3) (tYes) (tOrV (tOp (rEqA K) (tVar 3) (tC (.str "0"))) (tCl (sp_is_positive K) (fun _ => E0) (tCons (tVar 3) (tNil)))) [3]) (tNil))))) (tRz (He.ga K "BadDump") ["part"] (fun cls d _ H => E cls d H) (tCons (tVar 1) (tNil))) (tNext)) (tRet (tLc (iList K (tVar 2)) (gName 3) (tYes) (tCB rIntS (tCons (tVar 3) (tNil))) [3])))
def t__read_lefts (K : PySem.W.Frag) (E : XK) : TS :=
  tSeq (tAsg (tCl (sp__read_numbers K) (fun _ => E) (tCons (tVar 0) (tCons (tC (.int 1)) (tNil)))) (gName 2)) (tSeq (tIfS (tOr (tTest (tOp (rNeA K) (tCB (rLenA K) (tCons (tVar 2) (tNil))) (tOp rAddA (tVar 1) (tC (.int 1))))) (tNot (tB (tCB (rAll K) (tCons (tLc (iEnum K (tCons (tVar 2) (tNil))) (gTup K 2 (gCons (gName 3) (gCons (gName 4) (gNil)))) (tYes) (tOp rLeA (tVar 4) (tVar 3)) [3, 4]) (tNil)))))) (tRz (He.ga K "BadDump") ["part"] (fun cls d _ H => E cls d H) (tCons (tC (.int 1)) (tNil))) (tNext)) (tRet (tVar 2)))
def t__read_outs (K : PySem.W.Frag) (E : XK) : TS :=
  tSeq (tIfS (tTest (tOp (rEqA K) (tVar 0) (tC (.str "none")))) (tRet (tLst (tNil))) (tNext)) (tSeq (tAsg (tCl (sp__read_numbers K) (fun _ => E) (tCons (tVar 0) (tCons (tC (.int 2)) (tNil)))) (gName 2)) (tSeq (tAsg (tOp rAddA (tOp rAddA (tLst (tCons (tC (.int 0)) (tNil))) (tVar 2)) (tLst (tCons (tOp rAddA (tVar 1) (tC (.int 1))) (tNil)))) (gName 3)) (tSeq (tIfS (tNot (tB (tCB (rAll K) (tCons (tLc (iZip K (tCons (tVar 3) (tCons (tSl (rSlL K) (tVar 3) (tPart (tC (.int 1))) (tNoPart)) (tNil)))) (gTup K 2 (gCons (gName 4) (gCons (gName 5) (gNil)))) (tYes) (tOp rLtA (tVar 4) (tVar 5)) [4, 5]) (tNil))))) (tRz (He.ga K "BadDump") ["part"] (fun cls d _ H => E cls d H) (tCons (tC (.int 2)) (tNil))) (tNext)) (tRet (tVar 2)))))
def t__read_rights (K : PySem.W.Frag) (E : XK) : TS :=
  tSeq (tAsg (tCl (sp__read_numbers K) (fun _ => E) (tCons (tVar 0) (tCons (tC (.int 0)) (tNil)))) (gName 1)) (tSeq (tAsg (tOp rSubA (tCB (rLenA K) (tCons (tVar 1) (tNil))) (tC (.int 1))) (gName 2)) (tSeq (tIfS (tOr (tTest (tOp rGtA (tVar 2) (tC (.int 60)))) (tNot (tB (tCB (rAll K) (tCons (tLc (iEnum K (tCons (tVar 1) (tNil))) (gTup K 2 (gCons (gName 3) (gCons (gName 4) (gNil)))) (tYes) (tChain rLtA rLeA (tVar 3) (tVar 4) (tOp rAddA (tVar 2) (tC (.int 1)))) [3, 4]) (tNil)))))) (tRz (He.ga K "BadDump") ["part"] (fun cls d _ H => E cls d H) (tCons (tC (.int 0)) (tNil))) (tNext)) (tRet (tVar 1))))
def t_Links_read (K : PySem.W.Frag) (E : XK) : TS :=
  tSeq (tAsg (tM1 rSplit (tVar 0) (tC (.str " | "))) (gName 1)) (tSeq (tAsg (tSl (rSlL K) (tOp rAddA (tVar 1) (tLst (tCons (tC (.str "")) (tCons (tC (.str "")) (tNil))))) (tNoPart) (tPart (tC (.int 3)))) (gUnl K 3 (gCons (gName 2) (gCons (gName 3) (gCons (gName 4) (gNil)))))) (tSeq (tAsg (tCl (sp__read_rights K) (fun _ => E) (tCons (tVar 2) (tNil))) (gName 5)) (tSeq (tAsg (tMk (He.ga K "Links") (sp_Links___init__ K) (fun _ => E) (tCons (tOp rSubA (tCB (rLenA K) (tCons (tVar 5) (tNil))) (tC (.int 1))) (tNil))) (gName 6)) (tSeq (sFld K (tVar 6) (tVar 5) "_rights") (tSeq (sFld K (tVar 6) (tOp rAddA (tLst (tCons (tC (.int 0)) (tNil))) (tCl (sp__read_lefts K) (fun _ => E) (tCons (tVar 3) (tCons (tFld K (tVar 6) "size") (tNil))))) "_lefts") (tSeq (tFor (iList K (tCl (sp__read_outs K) (fun _ => E) (tCons (tVar 4) (tCons (tFld K (tVar 6) "size") (tNil))))) (gName 7) (tAsg (tC (.bl true)) (gSub (tFld K (tVar 6) "_out") (tVar 7) rSetL))) (tSeq (tIfS (tTest (tOp rGtA (tCB (rLenA K) (tCons (tVar 1) (tNil))) (tC (.int 3)))) (tRz (He.ga K "BadDump") ["part"] (fun cls d _ H => E cls d H) (tCons (tC (.int 3)) (tNil))) (tNext)) (tRet (tVar 6)))))))))
def t_Links_is_legal (K : PySem.W.Frag) (E : XK) : TS :=
  tRet (tOp (rEqA K) (tOp (rIx K) (tFld K (tVar 0) "_out") (tCB rAbsA (tCons (tVar 1) (tNil)))) (tOp rGtA (tVar 1) (tC (.int 0))))
def t_check_operation (K : PySem.W.Frag) (E : XK) : TS :=
  tIfS (tNot (tTest (tChain rLeA rLeA (tC (.int 1)) (tCB rAbsA (tCons (tVar 1) (tNil))) (tVar 0)))) (tRz (He.ga K "BadOperation") ["operation", "index"] (fun cls d _ H => E cls d H) (tCons (tVar 1) (tCons (tVar 2) (tNil)))) (tNext)
def t_Links_check (K : PySem.W.Frag) (E : XK) : TS :=
  tSeq (tDrop (tCl (sp_check_operation K) (fun _ => E) (tCons (tFld K (tVar 0) "size") (tCons (tVar 1) (tCons (tVar 2) (tNil)))))) (tIfS (tNot (tB (tMt (He.ga K "Links") "is_legal" (sp_Links_is_legal K) (fun _ => E) (tVar 0) (tCons (tVar 1) (tNil))))) (tRz (He.ga K "Illegal") ["operation", "index"] (fun cls d _ H => E cls d H) (tCons (tVar 1) (tCons (tVar 2) (tNil)))) (tNext))
def t_Links_apply_at (K : PySem.W.Frag) (E : XK) : TS :=
  tSeq (tDrop (tMt (He.ga K "Links") "check" (sp_Links_check K) (fun _ => E) (tVar 0) (tCons (tVar 1) (tCons (tVar 2) (tNil))))) (tSeq (tAsg (tCB rAbsA (tCons (tVar 1) (tNil))) (gName 3)) (tSeq (tAsg (tOp (rIx K) (tFld K (tVar 0) "_lefts") (tVar 3)) (gName 4)) (tSeq (tAsg (tOp (rIx K) (tFld K (tVar 0) "_rights") (tVar 3)) (gName 5)) (tSeq (tAsg (tOp rLtA (tVar 1) (tC (.int 0))) (gName 6)) (tSeq (tAsg (tIf (tB (tVar 6)) (tVar 5) (tVar 3)) (gSub (tFld K (tVar 0) "_rights") (tVar 4) rSetL)) (tSeq (tAsg (tIf (tB (tVar 6)) (tVar 4) (tVar 3)) (gSub (tFld K (tVar 0) "_lefts") (tVar 5) rSetL)) (tAsg (tVar 6) (gSub (tFld K (tVar 0) "_out") (tVar 3) rSetL))))))))
def t_Links_apply (K : PySem.W.Frag) (E : XK) : TS :=
  tDrop (tMt (He.ga K "Links") "apply_at" (sp_Links_apply_at K) (fun _ => E) (tVar 0) (tCons (tVar 1) (tCons (tC (.int 0)) (tNil))))
def t_Links_outs (K : PySem.W.Frag) (E : XK) : TS :=
  tRet (tLc (iRng2 (tCons (tC (.int 1)) (tCons (tOp rAddA (tFld K (tVar 0) "size") (tC (.int 1))) (tNil)))) (gName 1) (tB (tOp (rIx K) (tFld K (tVar 0) "_out") (tVar 1))) (tVar 1) [1])
def t__joined (K : PySem.W.Frag) (E : XK) : TS :=
  tRet (tM1 (rJoin K) (tC (.str " ")) (tLc (iList K (tVar 0)) (gName 1) (tYes) (tCB rStrA (tCons (tVar 1) (tNil))) [1]))
def t_dump_of (K : PySem.W.Frag) (E : XK) : TS :=
  tRet (tM1 (rJoin K) (tC (.str " | ")) (tLst (tCons (tCl (sp__joined K) (fun _ => E) (tCons (tVar 0) (tNil))) (tCons (tCl (sp__joined K) (fun _ => E) (tCons (tVar 1) (tNil))) (tCons (tIf (tTr K (tVar 2)) (tCl (sp__joined K) (fun _ => E) (tCons (tVar 2) (tNil))) (tC (.str "none"))) (tNil))))))
def t_Links_dump (K : PySem.W.Frag) (E : XK) : TS :=
  tRet (tCl (sp_dump_of K) (fun _ => E) (tCons (tFld K (tVar 0) "_rights") (tCons (tSl (rSlL K) (tFld K (tVar 0) "_lefts") (tPart (tC (.int 1))) (tNoPart)) (tCons (tMt (He.ga K "Links") "outs" (sp_Links_outs K) (fun _ => E) (tVar 0) tNil) (tNil)))))
def t__law_alone (K : PySem.W.Frag) (E : XK) : TS :=
  tSeq (tAsg (tLst (tNil)) (gName 1)) (tSeq (tFor (iRng2 (tCons (tC (.int 1)) (tCons (tOp rAddA (tOp (rIx K) (tVar 0) (tC (.int 0))) (tC (.int 1))) (tNil)))) (gName 2) (tSeq (tAsg (tOp (rEqA K) (tOp (rIx K) (tOp (rIx K) (tVar 0) (tC (.int 1))) (tVar 2)) (tOp rAddA (tVar 2) (tC (.int 1)))) (gName 3)) (tSeq (tAsg (tOp (rEqA K) (tOp (rIx K) (tOp (rIx K) (tVar 0) (tC (.int 2))) (tVar 2)) (tOp rSubA (tVar 2) (tC (.int 1)))) (gName 4)) (tIfS (tAnd (tB (tVar 3)) (tTest (tOp (rNeA K) (tOp (rIx K) (tOp (rIx K) (tVar 0) (tC (.int 2))) (tOp rAddA (tVar 2) (tC (.int 1)))) (tVar 2)))) (tDrop (tBM K "list" rAppend (tVar 1) (tCons (tVar 2) (tNil)))) (tIfS (tAnd (tB (tVar 4)) (tTest (tOp (rNeA K) (tOp (rIx K) (tOp (rIx K) (tVar 0) (tC (.int 1))) (tOp rSubA (tVar 2) (tC (.int 1)))) (tVar 2)))) (tDrop (tBM K "list" rAppend (tVar 1) (tCons (tVar 2) (tNil)))) (tNext)))))) (tRet (tVar 1)))
def t__law_whole_number (K : PySem.W.Frag) (E : XK) : TS :=
  tRet (tAndV (tCB (rIsi K) (tCons (tVar 0) (tCons (tC (.ty "int")) (tNil)))) (tNotV (tCB (rIsi K) (tCons (tVar 0) (tCons (tC (.ty "bool")) (tNil))))))
def t__law_numbers (K : PySem.W.Frag) (E : XK) : TS :=
  tSeq (tIfS (tOr (tNot (tB (tCB (rIsi K) (tCons (tVar 0) (tCons (tC (.ty "list")) (tNil)))))) (tTest (tOp (rNeA K) (tCB (rLenA K) (tCons (tVar 0) (tNil))) (tCB (rLenA K) (tCons (tVar 1) (tNil)))))) (tRet (tC (.bl false))) (tNext)) (tSeq (tFor (iRng1 (tCons (tCB (rLenA K) (tCons (tVar 1) (tNil))) (tNil))) (gName 2) (tIfS (tOr (tNot (tB (tCl (sp__law_whole_number K) (fun _ => E) (tCons (tOp (rIx K) (tVar 0) (tVar 2)) (tNil))))) (tTest (tOp (rNeA K) (tOp (rIx K) (tVar 0) (tVar 2)) (tOp (rIx K) (tVar 1) (tVar 2))))) (tRet (tC (.bl false))) (tNext))) (tRet (tC (.bl true))))
def t__law_state (K : PySem.W.Frag) (E : XK) : TS :=
  tSeq (tAsg (tOp (rEqA K) (tOp (rIx K) (tOp (rIx K) (tVar 0) (tC (.int 1))) (tVar 1)) (tOp rAddA (tVar 1) (tC (.int 1)))) (gName 2)) (tSeq (tAsg (tOp (rEqA K) (tOp (rIx K) (tOp (rIx K) (tVar 0) (tC (.int 2))) (tOp rAddA (tVar 1) (tC (.int 1)))) (tVar 1)) (gName 3)) (tSeq (tIfS (tAnd (tB (tVar 2)) (tB (tVar 3))) (tRet (tC (.str "joined"))) (tNext)) (tSeq (tIfS (tB (tVar 2)) (tRet (tC (.str "left"))) (tNext)) (tSeq (tIfS (tB (tVar 3)) (tRet (tC (.str "right"))) (tNext)) (tRet (tC (.str "lost")))))))
def t__law_text (K : PySem.W.Frag) (E : XK) : TS :=
  tSeq (tAsg (tLc (iRng2 (tCons (tC (.int 1)) (tCons (tOp rAddA (tOp (rIx K) (tVar 0) (tC (.int 0))) (tC (.int 1))) (tNil)))) (gName 4) (tB (tOp (rIx K) (tOp (rIx K) (tVar 0) (tC (.int 3))) (tVar 4))) (tCB rStrA (tCons (tVar 4) (tNil))) [4]) (gName 1)) (tSeq (tIfS (tTest (tOp (rEqA K) (tCB (rLenA K) (tCons (tVar 1) (tNil))) (tC (.int 0)))) (tAsg (tLst (tCons (tC (.str "none")) (tNil))) (gName 1)) (tNext)) (tSeq (tAsg (tM1 (rJoin K) (tC (.str " ")) (tLc (iList K (tOp (rIx K) (tVar 0) (tC (.int 1)))) (gName 4) (tYes) (tCB rStrA (tCons (tVar 4) (tNil))) [4])) (gName 2)) (tSeq (tAsg (tM1 (rJoin K) (tC (.str " ")) (tLc (iList K (tSl (rSlL K) (tOp (rIx K) (tVar 0) (tC (.int 2))) (tPart (tC (.int 1))) (tNoPart))) (gName 4) (tYes) (tCB rStrA (tCons (tVar 4) (tNil))) [4])) (gName 3)) (tRet (tOp rAddA (tOp rAddA (tOp rAddA (tOp rAddA (tVar 2) (tC (.str " | "))) (tVar 3)) (tC (.str " | "))) (tM1 (rJoin K) (tC (.str " ")) (tVar 1)))))))
def t__law_words (K : PySem.W.Frag) (E : XK) : TS :=
  tSeq (tIfS (tOr (tNot (tB (tCB (rIsi K) (tCons (tVar 0) (tCons (tC (.ty "list")) (tNil)))))) (tTest (tOp (rNeA K) (tCB (rLenA K) (tCons (tVar 0) (tNil))) (tCB (rLenA K) (tCons (tVar 1) (tNil)))))) (tRet (tC (.bl false))) (tNext)) (tSeq (tFor (iRng1 (tCons (tCB (rLenA K) (tCons (tVar 1) (tNil))) (tNil))) (gName 2) (tIfS (tOr (tNot (tB (tCB (rIsi K) (tCons (tOp (rIx K) (tVar 0) (tVar 2)) (tCons (tC (.ty "str")) (tNil)))))) (tTest (tOp (rNeA K) (tOp (rIx K) (tVar 0) (tVar 2)) (tOp (rIx K) (tVar 1) (tVar 2))))) (tRet (tC (.bl false))) (tNext))) (tRet (tC (.bl true))))
def t_Links_left (K : PySem.W.Frag) (E : XK) : TS :=
  tSeq (tIfS (tNot (tTest (tChain rLeA rLeA (tC (.int 1)) (tVar 1) (tOp rAddA (tFld K (tVar 0) "size") (tC (.int 1)))))) (tRz (He.ga K "BadNode") ["node"] (fun cls d _ H => E cls d H) (tCons (tVar 1) (tNil))) (tNext)) (tRet (tOp (rIx K) (tFld K (tVar 0) "_lefts") (tVar 1)))
def t_Links_right (K : PySem.W.Frag) (E : XK) : TS :=
  tSeq (tIfS (tNot (tTest (tChain rLeA rLeA (tC (.int 0)) (tVar 1) (tFld K (tVar 0) "size")))) (tRz (He.ga K "BadNode") ["node"] (fun cls d _ H => E cls d H) (tCons (tVar 1) (tNil))) (tNext)) (tRet (tOp (rIx K) (tFld K (tVar 0) "_rights") (tVar 1)))
def t_check_gap (K : PySem.W.Frag) (E : XK) : TS :=
  tIfS (tNot (tTest (tChain rLeA rLeA (tC (.int 0)) (tVar 1) (tVar 0)))) (tRz (He.ga K "BadGap") ["gap"] (fun cls d _ H => E cls d H) (tCons (tVar 1) (tNil))) (tNext)
def t_gap_state (K : PySem.W.Frag) (E : XK) : TS :=
  tSeq (tDrop (tCl (sp_check_gap K) (fun _ => E) (tCons (tFld K (tVar 0) "size") (tCons (tVar 1) (tNil))))) (tSeq (tAsg (tOp (rEqA K) (tMt (He.ga K "Links") "right" (sp_Links_right K) (fun _ => E) (tVar 0) (tCons (tVar 1) (tNil))) (tOp rAddA (tVar 1) (tC (.int 1)))) (gName 2)) (tSeq (tAsg (tOp (rEqA K) (tMt (He.ga K "Links") "left" (sp_Links_left K) (fun _ => E) (tVar 0) (tCons (tOp rAddA (tVar 1) (tC (.int 1))) (tNil))) (tVar 1)) (gName 3)) (tSeq (tIfS (tB (tVar 2)) (tRet (tIf (tB (tVar 3)) (tC (.str "joined")) (tC (.str "left")))) (tNext)) (tRet (tIf (tB (tVar 3)) (tC (.str "right")) (tC (.str "lost")))))))
def t_gap_states (K : PySem.W.Frag) (E : XK) : TS :=
  tRet (tLc (iRng1 (tCons (tOp rAddA (tFld K (tVar 0) "size") (tC (.int 1))) (tNil))) (gName 1) (tYes) (tCl (sp_gap_state K) (fun _ => E0) (tCons (tVar 0) (tCons (tVar 1) (tNil)))) [1])
def t_lost_gaps (K : PySem.W.Frag) (E : XK) : TS :=
  tRet (tLc (iEnum K (tCons (tCl (sp_gap_states K) (fun _ => E) (tCons (tVar 0) (tNil))) (tNil))) (gTup K 2 (gCons (gName 1) (gCons (gName 2) (gNil)))) (tTest (tOp (rEqA K) (tVar 2) (tC (.str "lost")))) (tVar 1) [1, 2])
def t_sole_holders (K : PySem.W.Frag) (w : World) (E : XK) : TS :=
  tSeq (tAsg (tCB (rSet0 w) tNil) (gName 1)) (tSeq (tFor (iEnum K (tCons (tCl (sp_gap_states K) (fun _ => E) (tCons (tVar 0) (tNil))) (tNil))) (gTup K 2 (gCons (gName 2) (gCons (gName 3) (gNil)))) (tIfS (tTest (tOp (rIn K false) (tVar 3) (tTup (tCons (tC (.str "left")) (tCons (tC (.str "right")) (tNil)))))) (tDrop (tSAdd w (tVar 1) (tCons (tIf (tTest (tOp (rEqA K) (tVar 3) (tC (.str "left")))) (tVar 2) (tOp rAddA (tVar 2) (tC (.int 1)))) (tNil)))) (tNext))) (tRet (tCB (rSortedSet w) (tCons (tVar 1) (tNil)))))
def t__law_agrees (K : PySem.W.Frag) (E : XK) : TS :=
  tSeq (tAsg (tLc (iRng1 (tCons (tOp rAddA (tOp (rIx K) (tVar 1) (tC (.int 0))) (tC (.int 1))) (tNil))) (gName 8) (tYes) (tCl (sp__law_state K) (fun _ => E0) (tCons (tVar 1) (tCons (tVar 8) (tNil)))) [8]) (gName 2)) (tSeq (tAsg (tLc (iRng1 (tCons (tOp rAddA (tOp (rIx K) (tVar 1) (tC (.int 0))) (tC (.int 1))) (tNil))) (gName 8) (tTest (tOp (rEqA K) (tOp (rIx K) (tVar 2) (tVar 8)) (tC (.str "lost")))) (tVar 8) [8]) (gName 3)) (tSeq (tAsg (tCl (sp__law_alone K) (fun _ => E) (tCons (tVar 1) (tNil))) (gName 4)) (tSeq (tAsg (tCl (sp_gap_states K) (fun _ => E) (tCons (tVar 0) (tNil))) (gName 5)) (tSeq (tAsg (tCl (sp_lost_gaps K) (fun _ => E) (tCons (tVar 0) (tNil))) (gName 6)) (tSeq (tAsg (tCl (sp_sole_holders K) (fun _ => E) (tCons (tVar 0) (tNil))) (gName 7)) (tSeq (tIfS (tOr (tNot (tB (tCl (sp__law_words K) (fun _ => E) (tCons (tVar 5) (tCons (tVar 2) (tNil)))))) (tOr (tNot (tB (tCl (sp__law_numbers K) (fun _ => E) (tCons (tVar 6) (tCons (tVar 3) (tNil)))))) (tNot (tB (tCl (sp__law_numbers K) (fun _ => E) (tCons (tVar 7) (tCons (tVar 4) (tNil)))))))) (tRet (tC (.bl false))) (tNext)) (tSeq (tAsg (tC (.str "open")) (gSub (tVar 5) (tC (.int 0)) rSetL)) (tSeq (tDrop (tBM K "list" rAppend (tVar 5) (tCons (tC (.str "joined")) (tNil)))) (tSeq (tDrop (tBM K "list" rAppend (tVar 6) (tCons (tC (.int 0)) (tNil)))) (tSeq (tDrop (tBM K "list" rAppend (tVar 7) (tCons (tC (.int 1)) (tNil)))) (tSeq (tIfS (tOr (tNot (tB (tCl (sp__law_words K) (fun _ => E) (tCons (tCl (sp_gap_states K) (fun _ => E) (tCons (tVar 0) (tNil))) (tCons (tVar 2) (tNil)))))) (tNot (tB (tCl (sp__law_numbers K) (fun _ => E) (tCons (tCl (sp_lost_gaps K) (fun _ => E) (tCons (tVar 0) (tNil))) (tCons (tVar 3) (tNil))))))) (tRet (tC (.bl false))) (tNext)) (tSeq (tIfS (tNot (tB (tCl (sp__law_numbers K) (fun _ => E) (tCons (tCl (sp_sole_holders K) (fun _ => E) (tCons (tVar 0) (tNil))) (tCons (tVar 4) (tNil)))))) (tRet (tC (.bl false))) (tNext)) (tSeq (tFor (iRng1 (tCons (tOp rAddA (tOp (rIx K) (tVar 1) (tC (.int 0))) (tC (.int 1))) (tNil))) (gName 8) (tSeq (tAsg (tCl (sp_gap_state K) (fun _ => E) (tCons (tVar 0) (tCons (tVar 8) (tNil)))) (gName 9)) (tIfS (tOr (tNot (tB (tCB (rIsi K) (tCons (tVar 9) (tCons (tC (.ty "str")) (tNil)))))) (tTest (tOp (rNeA K) (tVar 9) (tOp (rIx K) (tVar 2) (tVar 8))))) (tRet (tC (.bl false))) (tNext)))) (tRet (tOp (rEqA K) (tMt (He.ga K "Links") "dump" (sp_Links_dump K) (fun _ => E) (tVar 0) tNil) (tCl (sp__law_text K) (fun _ => E) (tCons (tVar 1) (tNil))))))))))))))))))
def t__law_draw (K : PySem.W.Frag) (E : XK) : TS :=
  tSeq (tIfS (tTest (tOp rGtA (tOp (rIx K) (tVar 0) (tC (.int 0))) (tC (.int 0)))) (tSeq (tAsg (tOp rModA (tCB rIntA (tCons (tOp (rIx K) (tVar 0) (tC (.int 0))) (tNil))) (tVar 1)) (gName 2)) (tSeq (tAsg (tOp rDivA (tOp (rIx K) (tVar 0) (tC (.int 0))) (tVar 1)) (gSub (tVar 0) (tC (.int 0)) rSetL)) (tRet (tVar 2)))) (tNext)) (tSeq (tAsg (tOp rAddA (tOp (rIx K) (tVar 0) (tC (.int 2))) (tC (.int 1))) (gSub (tVar 0) (tC (.int 2)) rSetL)) (tSeq (tAsg (tOp rModA (tCB rIntA (tCons (tOp rAddA (tOp rAddA (tOp rMulA (tOp (rIx K) (tVar 0) (tC (.int 1))) (tC (.int 69621))) (tOp rMulA (tOp (rIx K) (tVar 0) (tC (.int 2))) (tC (.int 40692)))) (tC (.int 11))) (tNil))) (tC (.int 2147483647))) (gSub (tVar 0) (tC (.int 1)) rSetL)) (tRet (tOp rModA (tCB rIntA (tCons (tOp rDivA (tOp rModA (tCB rIntA (tCons (tOp rAddA (tOp rMulA (tOp (rIx K) (tVar 0) (tC (.int 1))) (tC (.int 16807))) (tOp rMulA (tOp (rIx K) (tVar 0) (tC (.int 2))) (tC (.int 7919)))) (tNil))) (tC (.int 2147483629))) (tC (.int 64))) (tNil))) (tVar 1)))))
def t__law_step (K : PySem.W.Frag) (E : XK) : TS :=
  tSeq (tAsg (tCB rAbsA (tCons (tVar 1) (tNil))) (gName 2)) (tSeq (tAsg (tOp (rIx K) (tOp (rIx K) (tVar 0) (tC (.int 2))) (tVar 2)) (gName 3)) (tSeq (tAsg (tOp (rIx K) (tOp (rIx K) (tVar 0) (tC (.int 1))) (tVar 2)) (gName 4)) (tSeq (tAsg (tOp (rIx K) (tVar 0) (tC (.int 1))) (gName 5)) (tSeq (tAsg (tOp (rIx K) (tVar 0) (tC (.int 2))) (gName 6)) (tSeq (tAsg (tOp (rIx K) (tVar 0) (tC (.int 3))) (gName 7)) (tSeq (tIfS (tTest (tOp rLtA (tVar 1) (tC (.int 0)))) (tSeq (tAsg (tVar 4) (gSub (tVar 5) (tVar 3) rSetL)) (tAsg (tVar 3) (gSub (tVar 6) (tVar 4) rSetL))) (tSeq (tAsg (tVar 2) (gSub (tVar 5) (tVar 3) rSetL)) (tAsg (tVar 2) (gSub (tVar 6) (tVar 4) rSetL)))) (tAsg (tOp rLtA (tVar 1) (tC (.int 0))) (gSub (tVar 7) (tVar 2) rSetL))))))))
def t__law_after (K : PySem.W.Frag) (E : XK) : TS :=
  tSeq (tFor (iRng1 (tCons (tCl (sp__law_draw K) (fun _ => E) (tCons (tVar 2) (tCons (tC (.int 7)) (tNil)))) (tNil))) (gName 3) (tSeq (tAsg (tOp (rEqA K) (tCl (sp__law_draw K) (fun _ => E) (tCons (tVar 2) (tCons (tC (.int 2)) (tNil)))) (tC (.int 1))) (gName 4)) (tSeq (tAsg (tOp rAddA (tC (.int 1)) (tCl (sp__law_draw K) (fun _ => E) (tCons (tVar 2) (tCons (tOp (rIx K) (tVar 1) (tC (.int 0))) (tNil))))) (gName 5)) (tSeq (tAsg (tUn rNegA (tVar 5)) (gName 6)) (tSeq (tIfS (tB (tOp (rIx K) (tOp (rIx K) (tVar 1) (tC (.int 3))) (tVar 5))) (tAsg (tVar 5) (gName 6)) (tNext)) (tSeq (tDrop (tMt (He.ga K "Links") "apply" (sp_Links_apply K) (fun _ => E) (tVar 0) (tCons (tVar 6) (tNil)))) (tSeq (tDrop (tCl (sp__law_step K) (fun _ => E) (tCons (tVar 1) (tCons (tVar 6) (tNil))))) (tIfS (tAnd (tB (tVar 4)) (tNot (tB (tCl (sp6__law_agrees K) (fun _ => E) (tCons (tVar 0) (tCons (tVar 1) (tNil))))))) (tRet (tC (.bl false))) (tNext))))))))) (tRet (tCl (sp6__law_agrees K) (fun _ => E) (tCons (tVar 0) (tCons (tVar 1) (tNil)))))
def t__law_bag (K : PySem.W.Frag) (E : XK) : TS :=
  tSeq (tAsg (tOp rAddA (tOp rMulA (tC (.int 1009)) (tVar 1)) (tC (.int 4525))) (gName 2)) (tSeq (tFor (iRng1 (tCons (tCB rMin2A (tCons (tC (.int 63)) (tCons (tCB (rLenA K) (tCons (tVar 0) (tNil))) (tNil)))) (tNil))) (gName 3) (tAsg (tOp rModA (tCB rIntA (tCons (tOp rAddA (tOp rAddA (tOp rMulA (tVar 2) (tC (.int 48271))) (tOp rModA (tCB rIntA (tCons (tOp (rIx K) (tVar 0) (tVar 3)) (tNil))) (tC (.int 2147483629)))) (tOp rMulA (tC (.int 7919)) (tVar 3))) (tNil))) (tC (.int 2147483647))) (gName 2))) (tSeq (tAsg (tC (.int 0)) (gName 4)) (tSeq (tIfS (tAnd (tTest (tOp rLtA (tVar 1) (tCB (rLenA K) (tCons (tVar 0) (tNil))))) (tTest (tOp rGeA (tCB rAbsA (tCons (tOp (rIx K) (tVar 0) (tVar 1)) (tNil))) (tOp rPowA (tC (.int 10)) (tC (.int 18)))))) (tAsg (tCB rAbsA (tCons (tOp (rIx K) (tVar 0) (tVar 1)) (tNil))) (gName 4)) (tNext)) (tRet (tLst (tCons (tVar 4) (tCons (tVar 2) (tCons (tC (.int 0)) (tNil)))))))))
def t__law_refused (K : PySem.W.Frag) (E : XK) : TS :=
  tSeq ((fun D σ H => (fun (W : WX) => tDrop (tCl (sp_gap_state K) (WE W) (tCons (tVar 0) (tCons (tVar 1) (tNil))))) (wAs K (.ref (He.ga K "LinkError")) 2 (fun a cls d => tSeq (tIfS (tOr (tNot (tB (tCB (rIsX K cls d a) (tCons (tVar 2) (tCons (tC (.ref (He.ga K "BadGap"))) (tNil)))))) (tNot (tB (tCB (rIsX K cls d a) (tCons (tVar 2) (tCons (tC (.ty "ValueError")) (tNil))))))) (tRet (tC (.bl false))) (tNext)) (tSeq (tIfS (tOr (tB (tCB (rIsX K cls d a) (tCons (tVar 2) (tCons (tC (.ref (He.ga K "LogError"))) (tNil))))) (tOr (tB (tCB (rIsX K cls d a) (tCons (tVar 2) (tCons (tC (.ref (He.ga K "BadNode"))) (tNil))))) (tB (tCB (rIsX K cls d a) (tCons (tVar 2) (tCons (tC (.ref (He.ga K "BadSize"))) (tNil))))))) (tRet (tC (.bl false))) (tNext)) (tRet (tAndV (tCl (sp__law_whole_number K) (fun _ => E0) (tCons (tXat K a cls d "gap" (tVar 2)) (tNil))) (tOp (rEqA K) (tXat K a cls d "gap" (tVar 2)) (tVar 1)))))) (fun cls d _ H => E cls d H) D) D σ H)) (tRet (tC (.bl false)))
def t__law_bounds_kept (K : PySem.W.Frag) (E : XK) : TS :=
  tSeq (tFor (iList K (tLst (tCons (tUn rNegA (tC (.int 1))) (tCons (tOp rAddA (tVar 1) (tC (.int 1))) (tCons (tOp rSubA (tUn rNegA (tC (.int 2))) (tVar 2)) (tCons (tOp rAddA (tOp rAddA (tVar 1) (tC (.int 2))) (tVar 2)) (tNil))))))) (gName 3) (tIfS (tNot (tB (tCl (sp__law_refused K) (fun _ => E) (tCons (tVar 0) (tCons (tVar 3) (tNil)))))) (tRet (tC (.bl false))) (tNext))) (tRet (tC (.bl true)))
def t__law_size (K : PySem.W.Frag) (E : XK) : TS :=
  tSeq (tAsg (tCl (sp__law_draw K) (fun _ => E) (tCons (tVar 0) (tCons (tC (.int 8)) (tNil)))) (gName 1)) (tSeq (tIfS (tTest (tOp (rEqA K) (tVar 1) (tC (.int 0)))) (tRet (tCl (sp__law_draw K) (fun _ => E) (tCons (tVar 0) (tCons (tC (.int 61)) (tNil))))) (tNext)) (tSeq (tIfS (tTest (tOp rLtA (tVar 1) (tC (.int 3)))) (tRet (tCl (sp__law_draw K) (fun _ => E) (tCons (tVar 0) (tCons (tC (.int 13)) (tNil))))) (tNext)) (tRet (tCl (sp__law_draw K) (fun _ => E) (tCons (tVar 0) (tCons (tC (.int 7)) (tNil)))))))
def t__law_standing (K : PySem.W.Frag) (E : XK) : TS :=
  tSeq (tAsg (tCl (sp__law_draw K) (fun _ => E) (tCons (tVar 0) (tCons (tC (.int 8)) (tNil)))) (gName 2)) (tSeq (tAsg (tLc (iRng1 (tCons (tOp rAddA (tVar 1) (tC (.int 1))) (tNil))) (gName 6) (tYes) (tOp rAddA (tVar 6) (tC (.int 1))) [6]) (gName 3)) (tSeq (tAsg (tLc (iRng1 (tCons (tOp rAddA (tVar 1) (tC (.int 2))) (tNil))) (gName 6) (tYes) (tOp rSubA (tVar 6) (tC (.int 1))) [6]) (gName 4)) (tSeq (tAsg (tLc (iRng1 (tCons (tOp rAddA (tVar 1) (tC (.int 2))) (tNil))) (gName 6) (tYes) (tC (.bl false)) [6]) (gName 5)) (tSeq (tIfS (tTest (tOp (rEqA K) (tVar 2) (tC (.int 0)))) (tRet (tLst (tCons (tVar 1) (tCons (tVar 3) (tCons (tVar 4) (tCons (tVar 5) (tNil))))))) (tNext)) (tSeq (tFor (iRng1 (tCons (tOp rAddA (tVar 1) (tC (.int 1))) (tNil))) (gName 6) (tSeq (tAsg (tOp rSubA (tOp rAddA (tVar 1) (tC (.int 1))) (tVar 6)) (gName 7)) (tSeq (tAsg (tOp rAddA (tVar 6) (tC (.int 1))) (gName 8)) (tSeq (tIfS (tTest (tOp rLtA (tVar 2) (tC (.int 4)))) (tSeq (tAsg (tCB rMin2A (tCons (tC (.int 3)) (tCons (tVar 7) (tNil)))) (gName 7)) (tAsg (tCB rMin2A (tCons (tC (.int 3)) (tCons (tVar 8) (tNil)))) (gName 8))) (tNext)) (tSeq (tIfS (tTest (tOp (rEqA K) (tCl (sp__law_draw K) (fun _ => E) (tCons (tVar 0) (tCons (tC (.int 2)) (tNil)))) (tC (.int 1)))) (tAsg (tOp rAddA (tOp rAddA (tVar 6) (tC (.int 1))) (tCl (sp__law_draw K) (fun _ => E) (tCons (tVar 0) (tCons (tVar 7) (tNil))))) (gSub (tVar 3) (tVar 6) rSetL)) (tNext)) (tIfS (tTest (tOp (rEqA K) (tCl (sp__law_draw K) (fun _ => E) (tCons (tVar 0) (tCons (tC (.int 2)) (tNil)))) (tC (.int 1)))) (tAsg (tOp rSubA (tVar 6) (tCl (sp__law_draw K) (fun _ => E) (tCons (tVar 0) (tCons (tVar 8) (tNil))))) (gSub (tVar 4) (tOp rAddA (tVar 6) (tC (.int 1))) rSetL)) (tNext))))))) (tSeq (tFor (iRng2 (tCons (tC (.int 1)) (tCons (tOp rAddA (tVar 1) (tC (.int 1))) (tNil)))) (gName 6) (tAsg (tOp (rEqA K) (tCl (sp__law_draw K) (fun _ => E) (tCons (tVar 0) (tCons (tC (.int 2)) (tNil)))) (tC (.int 1))) (gSub (tVar 5) (tVar 6) rSetL))) (tRet (tLst (tCons (tVar 1) (tCons (tVar 3) (tCons (tVar 4) (tCons (tVar 5) (tNil)))))))))))))
def t_law (K : PySem.W.Frag) (E : XK) : TS :=
  tSeq (tAsg (tCl (sp__law_bag K) (fun _ => E) (tCons (tVar 0) (tCons (tC (.int 0)) (tNil)))) (gName 1)) (tSeq (tAsg (tCl (sp__law_bag K) (fun _ => E) (tCons (tVar 0) (tCons (tC (.int 1)) (tNil)))) (gName 2)) (tSeq (tAsg (tCl (sp__law_standing K) (fun _ => E) (tCons (tVar 1) (tCons (tCl (sp__law_size K) (fun _ => E) (tCons (tVar 1) (tNil))) (tNil)))) (gName 3)) (tSeq (tAsg (tCl (sp__law_standing K) (fun _ => E) (tCons (tVar 2) (tCons (tCl (sp__law_size K) (fun _ => E) (tCons (tVar 2) (tNil))) (tNil)))) (gName 4)) (tSeq (tAsg (tCl (sp__law_draw K) (fun _ => E) (tCons (tVar 2) (tCons (tC (.int 1000)) (tNil)))) (gName 5)) (tSeq (tAsg (tCl (sp_Links_read K) (fun _ => E) (tCons (tCl (sp__law_text K) (fun _ => E) (tCons (tVar 3) (tNil))) (tNil))) (gName 6)) (tSeq (tAsg (tCl (sp_Links_read K) (fun _ => E) (tCons (tCl (sp__law_text K) (fun _ => E) (tCons (tVar 4) (tNil))) (tNil))) (gName 7)) (tSeq (tIfS (tOr (tNot (tB (tCl (sp6__law_agrees K) (fun _ => E) (tCons (tVar 6) (tCons (tVar 3) (tNil)))))) (tNot (tB (tCl (sp6__law_agrees K) (fun _ => E) (tCons (tVar 7) (tCons (tVar 4) (tNil))))))) (tRet (tC (.bl false))) (tNext)) (tSeq (tIfS (tOr (tNot (tB (tCl (sp__law_bounds_kept K) (fun _ => E) (tCons (tVar 6) (tCons (tOp (rIx K) (tVar 3) (tC (.int 0))) (tCons (tVar 5) (tNil))))))) (tNot (tB (tCl (sp__law_bounds_kept K) (fun _ => E) (tCons (tVar 7) (tCons (tOp (rIx K) (tVar 4) (tC (.int 0))) (tCons (tVar 5) (tNil)))))))) (tRet (tC (.bl false))) (tNext)) (tSeq (tIfS (tTest (tOp rGtA (tOp (rIx K) (tVar 3) (tC (.int 0))) (tC (.int 0)))) (tSeq (tAsg (tLst (tCons (tOp (rIx K) (tVar 3) (tC (.int 0))) (tCons (tCB (rListA K) (tCons (tOp (rIx K) (tVar 3) (tC (.int 1))) (tNil))) (tCons (tCB (rListA K) (tCons (tOp (rIx K) (tVar 3) (tC (.int 2))) (tNil))) (tCons (tCB (rListA K) (tCons (tOp (rIx K) (tVar 3) (tC (.int 3))) (tNil))) (tNil)))))) (gName 8)) (tSeq (tAsg (tMt (He.ga K "Links") "copy" (sp_Links_copy K) (fun _ => E) (tVar 6) tNil) (gName 9)) (tSeq (tIfS (tNot (tB (tCl (sp__law_after K) (fun _ => E) (tCons (tVar 6) (tCons (tVar 3) (tCons (tVar 2) (tNil))))))) (tRet (tC (.bl false))) (tNext)) (tIfS (tNot (tB (tCl (sp6__law_agrees K) (fun _ => E) (tCons (tVar 9) (tCons (tVar 8) (tNil)))))) (tRet (tC (.bl false))) (tNext))))) (tNext)) (tSeq (tIfS (tNot (tB (tCl (sp__law_bounds_kept K) (fun _ => E) (tCons (tVar 6) (tCons (tOp (rIx K) (tVar 3) (tC (.int 0))) (tCons (tVar 5) (tNil))))))) (tRet (tC (.bl false))) (tNext)) (tRet (tAndV (tCl (sp6__law_agrees K) (fun _ => E) (tCons (tVar 7) (tCons (tVar 4) (tNil)))) (tCl (sp6__law_agrees K) (fun _ => E) (tCons (tVar 6) (tCons (tVar 3) (tNil))))))))))))))))
end G

set_option Elab.async false
set_option linter.all false
set_option maxRecDepth 100000
set_option maxHeartbeats 1000000
namespace G
--#FAM KF
open PySem PySem.Spec PyProof.Rows L2
local macro_rules
  | `(tactic| walk_at "1") => `(tactic| first
    | with_reducible refine w_seq ?_
    | with_reducible refine w_asg ?_
    | with_reducible refine w_asgS ?_
    | with_reducible refine w_asf ?_
    | with_reducible refine w_drop ?_
    | with_reducible refine w_ret ?_
    | with_reducible refine w_if ?_
    | with_reducible refine w_not ?_
    | with_reducible refine w_and ?_
    | with_reducible refine w_or ?_
    | with_reducible refine w_test ?_
    | with_reducible refine w_tb ?_
    | with_reducible refine w_chain ?_
    | with_reducible refine w_op ?_
    | with_reducible refine w_un ?_
    | with_reducible refine w_andV ?_
    | with_reducible refine w_orV ?_
    | with_reducible refine w_notV ?_
    | with_reducible refine w_ifE ?_
    | with_reducible refine w_cons ?_
    | with_reducible refine w_nil ?_
    | with_reducible refine w_cb ?_
    | with_reducible refine w_cl ?_
    | with_reducible refine w_mt ?_
    | with_reducible refine w_fld ?_
    | with_reducible refine w_tupN ?_
    | with_reducible refine w_lstN ?_
    | with_reducible refine w_bm ?_
    | with_reducible refine w_bm0 ?_
    | with_reducible refine w_for ?_
    | with_reducible refine w_lc ?_
    | with_reducible refine w_iR1 ?_
    | with_reducible refine w_iR2 ?_
    | with_reducible refine w_iL ?_
    | with_reducible refine w_iT ?_
    | with_reducible refine w_iE ?_
    | with_reducible refine w_iZ ?_
    | with_reducible refine w_var (by with_unfolding_all rfl) ?_
    | with_reducible refine w_c ?_
    | with_reducible refine w_next ?_
    | with_reducible refine w_i0 ?_
    | with_reducible refine w_u1 ?_
    | with_reducible refine w_addI ?_
    | with_reducible refine w_eqI ?_
    | with_reducible refine w_eqS ?_
    | with_reducible refine w_eqB ?_
    | with_reducible refine w_neI ?_
    | with_reducible refine w_neS ?_
    | with_reducible refine w_neB ?_
    | with_reducible refine w_abs ?_
    | with_reducible refine w_intI ?_
    | with_reducible refine w_min2 ?_
    | with_reducible refine w_max2 ?_
    | with_reducible refine w_isN0 ?_
    | with_reducible refine w_isN1 ref_ne ?_
    | with_reducible refine w_isN1 int_ne ?_
    | with_reducible refine w_notN0 ?_
    | with_reducible refine w_notN1 ref_ne ?_
    | with_reducible refine w_notN1 int_ne ?_
    | with_reducible refine w_ex1 ?_
    | with_reducible refine w_n1 ?_
    | with_reducible refine w_n2 ?_
    | with_reducible refine w_tT ?_
    | with_reducible refine w_tF ?_
    | with_reducible refine w_nT ?_
    | with_reducible refine w_nF ?_
    | with_reducible refine w_rz ?_
    | with_reducible refine w_mkN ?_
    | with_reducible refine w_lrgN ?_
    | with_reducible refine w_rg1 ?_
    | with_reducible refine w_rg2 ?_
    | with_reducible refine w_sl ?_
    | with_reducible refine w_np ?_
    | with_reducible refine w_pt ?_
    | with_reducible refine w_tr ?_
    | with_reducible refine w_gn ?_
    | with_reducible refine w_yes ?_
    | with_reducible refine w_m1 ?_
    | with_reducible refine w_asu ?_
    | with_reducible refine w_exS ?_
    | with_reducible refine w_iS ?_
    | with_reducible refine w_g1 ?_
    | with_reducible refine w_gc ?_
    | with_reducible refine w_gt (SqT.of upd_same) rfl ?_)
local macro_rules
  | `(tactic| walk_at "g") => `(tactic| repeat walk_at "1")
local macro_rules
  | `(tactic| walk_at "j1") => `(tactic| first
    | with_reducible refine w_seqI ?_
    | walk_at "1")
local macro_rules
  | `(tactic| walk_at "j") => `(tactic| repeat walk_at "j1")
section
variable {K : PySem.W.Frag} {mg : Str → Option Value}
theorem len_check_size (K : PySem.W.Frag) : ∀ vs H Q E, sp_check_size K vs H Q E → vs.length = (["size"] : List Str).length := by
  rintro vs H Q E ⟨_, rfl, _⟩
  rfl
theorem rd_check_size (T : Txt K mg) (vs : List V) (H : Hp) (Q : VK) (E : XK) (h : sp_check_size K vs H Q E) : t_check_size K E { nx := fun _ H' => Q .non H', rt := Q } (start ["size"] vs) H := by
  obtain ⟨size, rfl, h1, h2⟩ := h
  unfold t_check_size
  walk_at "g"
  refine w_iteD (fun c1 => ?_) (fun c1 => ?_)
  · walk_at "g"
    refine w_iteN (fun c2 => ?_) (fun c2 => ?_)
    · walk_at "g"
      exact ⟨rfl, Nat.le_of_ble_eq_true rfl, h2 fun z => c2 z.2⟩
    · walk_at "g"
      exact h1 ⟨c1, c2⟩
  · walk_at "g"
    exact ⟨rfl, Nat.le_of_ble_eq_true rfl, h2 fun z => c1 z.1⟩
theorem len_check_operation (K : PySem.W.Frag) : ∀ vs H Q E, sp_check_operation K vs H Q E → vs.length = (["size", "operation", "index"] : List Str).length := by
  rintro vs H Q E ⟨_, _, _, rfl, _⟩
  rfl
theorem rd_check_operation (T : Txt K mg) (vs : List V) (H : Hp) (Q : VK) (E : XK) (h : sp_check_operation K vs H Q E) : t_check_operation K E { nx := fun _ H' => Q .non H', rt := Q } (start ["size", "operation", "index"] vs) H := by
  obtain ⟨n, op, i, rfl, h1, h2⟩ := h
  unfold t_check_operation
  walk_at "g"
  rw [natAbs_if]
  refine w_iteD (fun c1 => ?_) (fun c1 => ?_)
  · walk_at "g"
    refine w_iteN (fun c2 => ?_) (fun c2 => ?_)
    · walk_at "g"
      exact ⟨rfl, Nat.le_of_ble_eq_true rfl, h2 fun z => c2 (by have := z.2; omega)⟩
    · walk_at "g"
      exact h1 ⟨by omega, by omega⟩
  · walk_at "g"
    exact ⟨rfl, Nat.le_of_ble_eq_true rfl, h2 fun z => c1 (by have := z.1; omega)⟩
theorem len_check_gap (K : PySem.W.Frag) : ∀ vs H Q E, sp_check_gap K vs H Q E → vs.length = (["size", "gap"] : List Str).length := by
  rintro vs H Q E ⟨_, _, rfl, _⟩
  rfl
theorem rd_check_gap (T : Txt K mg) (vs : List V) (H : Hp) (Q : VK) (E : XK) (h : sp_check_gap K vs H Q E) : t_check_gap K E { nx := fun _ H' => Q .non H', rt := Q } (start ["size", "gap"] vs) H := by
  obtain ⟨n, g, rfl, h1, h2⟩ := h
  unfold t_check_gap
  walk_at "g"
  refine w_iteD (fun c1 => ?_) (fun c1 => ?_)
  · walk_at "g"
    refine w_iteN (fun c2 => ?_) (fun c2 => ?_)
    · walk_at "g"
      exact ⟨rfl, Nat.le_of_ble_eq_true rfl, h2 fun z => c2 z.2⟩
    · walk_at "g"
      exact h1 ⟨c1, c2⟩
  · walk_at "g"
    exact ⟨rfl, Nat.le_of_ble_eq_true rfl, h2 fun z => c1 z.1⟩
theorem len_Links_is_legal (K : PySem.W.Frag) : ∀ vs H Q E, sp_Links_is_legal K vs H Q E → vs.length = (["self", "operation"] : List Str).length := by
  rintro vs H Q E ⟨_, _, _, _, _, _, rfl, _⟩
  rfl
theorem rd_Links_is_legal (T : Txt K mg) (vs : List V) (H : Hp) (Q : VK) (E : XK) (h : sp_Links_is_legal K vs H Q E) : t_Links_is_legal K E { nx := fun _ H' => Q .non H', rt := Q } (start ["self", "operation"] vs) H := by
  obtain ⟨p, r, l, o, s, op, rfl, a, hi, k⟩ := h
  unfold t_Links_is_legal
  walk_at "g"
  refine w_fO T.cl_Links T.na_Links__out a ?_
  walk_at "g"
  rw [natAbs_if]
  have hlt : (op.natAbs : Int) < (s.O.length : Int) := by
    rw [a.wf.lO]
    have := hi.2
    omega
  refine w_ixL (SqL.of a.ho) (at_B (by omega) hlt) ?_
  walk_at "g"
  exact k
theorem len_Links_check (K : PySem.W.Frag) : ∀ vs H Q E, sp_Links_check K vs H Q E → vs.length = (["self", "operation", "index"] : List Str).length := by
  rintro vs H Q E ⟨_, _, _, _, _, _, _, rfl, _⟩
  rfl
theorem rd_Links_check (T : Txt K mg) (vs : List V) (H : Hp) (Q : VK) (E : XK) (h : sp_Links_check K vs H Q E) : t_Links_check K E { nx := fun _ H' => Q .non H', rt := Q } (start ["self", "operation", "index"] vs) H := by
  obtain ⟨p, r, l, o, s, op, i, rfl, a, h1, h2⟩ := h
  unfold t_Links_check
  walk_at "g"
  refine w_fS T.cl_Links T.na_Links_size a ?_
  walk_at "g"
  refine ⟨s.n, op, i, rfl, fun hi => ?_, fun hi => ?_⟩
  · walk_at "g"
    refine w_me a no_m ?_
    walk_at "g"
    refine ⟨p, r, l, o, s, op, rfl, a, hi, ?_⟩
    walk_at "g"
    refine w_iteN (fun c => ?_) (fun c => ?_)
    · walk_at "g"
      refine ⟨rfl, Nat.le_of_ble_eq_true rfl, ?_⟩
      have e := h2 fun z => c z.2
      unfold OpE at e
      rw [if_pos hi] at e
      exact e
    · walk_at "g"
      exact h1 ⟨hi, c⟩
  · have e := h2 fun z => hi z.1
    unfold OpE at e
    rw [if_neg hi] at e
    exact e
end
end G

set_option Elab.async false
set_option linter.all false
set_option maxRecDepth 100000
set_option maxHeartbeats 1000000
namespace G
--#FAM KF
open PySem PySem.Spec PyProof.Rows L2
local macro_rules
  | `(tactic| walk_at "1") => `(tactic| first
    | with_reducible refine w_seq ?_
    | with_reducible refine w_asg ?_
    | with_reducible refine w_asgS ?_
    | with_reducible refine w_asf ?_
    | with_reducible refine w_drop ?_
    | with_reducible refine w_ret ?_
    | with_reducible refine w_if ?_
    | with_reducible refine w_not ?_
    | with_reducible refine w_and ?_
    | with_reducible refine w_or ?_
    | with_reducible refine w_test ?_
    | with_reducible refine w_tb ?_
    | with_reducible refine w_chain ?_
    | with_reducible refine w_op ?_
    | with_reducible refine w_un ?_
    | with_reducible refine w_andV ?_
    | with_reducible refine w_orV ?_
    | with_reducible refine w_notV ?_
    | with_reducible refine w_ifE ?_
    | with_reducible refine w_cons ?_
    | with_reducible refine w_nil ?_
    | with_reducible refine w_cb ?_
    | with_reducible refine w_cl ?_
    | with_reducible refine w_mt ?_
    | with_reducible refine w_fld ?_
    | with_reducible refine w_tupN ?_
    | with_reducible refine w_lstN ?_
    | with_reducible refine w_bm ?_
    | with_reducible refine w_bm0 ?_
    | with_reducible refine w_for ?_
    | with_reducible refine w_lc ?_
    | with_reducible refine w_iR1 ?_
    | with_reducible refine w_iR2 ?_
    | with_reducible refine w_iL ?_
    | with_reducible refine w_iT ?_
    | with_reducible refine w_iE ?_
    | with_reducible refine w_iZ ?_
    | with_reducible refine w_var (by with_unfolding_all rfl) ?_
    | with_reducible refine w_c ?_
    | with_reducible refine w_next ?_
    | with_reducible refine w_i0 ?_
    | with_reducible refine w_u1 ?_
    | with_reducible refine w_addI ?_
    | with_reducible refine w_eqI ?_
    | with_reducible refine w_eqS ?_
    | with_reducible refine w_eqB ?_
    | with_reducible refine w_neI ?_
    | with_reducible refine w_neS ?_
    | with_reducible refine w_neB ?_
    | with_reducible refine w_abs ?_
    | with_reducible refine w_intI ?_
    | with_reducible refine w_min2 ?_
    | with_reducible refine w_max2 ?_
    | with_reducible refine w_isN0 ?_
    | with_reducible refine w_isN1 ref_ne ?_
    | with_reducible refine w_isN1 int_ne ?_
    | with_reducible refine w_notN0 ?_
    | with_reducible refine w_notN1 ref_ne ?_
    | with_reducible refine w_notN1 int_ne ?_
    | with_reducible refine w_ex1 ?_
    | with_reducible refine w_n1 ?_
    | with_reducible refine w_n2 ?_
    | with_reducible refine w_tT ?_
    | with_reducible refine w_tF ?_
    | with_reducible refine w_nT ?_
    | with_reducible refine w_nF ?_
    | with_reducible refine w_rz ?_
    | with_reducible refine w_mkN ?_
    | with_reducible refine w_lrgN ?_
    | with_reducible refine w_rg1 ?_
    | with_reducible refine w_rg2 ?_
    | with_reducible refine w_sl ?_
    | with_reducible refine w_np ?_
    | with_reducible refine w_pt ?_
    | with_reducible refine w_tr ?_
    | with_reducible refine w_gn ?_
    | with_reducible refine w_yes ?_
    | with_reducible refine w_m1 ?_
    | with_reducible refine w_asu ?_
    | with_reducible refine w_exS ?_
    | with_reducible refine w_iS ?_
    | with_reducible refine w_g1 ?_
    | with_reducible refine w_gc ?_
    | with_reducible refine w_gt (SqT.of upd_same) rfl ?_)
local macro_rules
  | `(tactic| walk_at "g") => `(tactic| repeat walk_at "1")
local macro_rules
  | `(tactic| walk_at "j1") => `(tactic| first
    | with_reducible refine w_seqI ?_
    | walk_at "1")
local macro_rules
  | `(tactic| walk_at "j") => `(tactic| repeat walk_at "j1")
section
variable {K : PySem.W.Frag} {mg : Str → Option Value}
theorem len_Links_apply_at (K : PySem.W.Frag) : ∀ vs H Q E, sp_Links_apply_at K vs H Q E → vs.length = (["self", "operation", "index"] : List Str).length := by
  rintro vs H Q E ⟨_, _, _, _, _, _, _, rfl, _⟩
  rfl
theorem rd_Links_apply_at (T : Txt K mg) (vs : List V) (H : Hp) (Q : VK) (E : XK) (h : sp_Links_apply_at K vs H Q E) : t_Links_apply_at K E { nx := fun _ H' => Q .non H', rt := Q } (start ["self", "operation", "index", "node", "low", "high", "is_unlink"] vs) H := by
  obtain ⟨p, r, l, o, s, op, i, rfl, a, h1, h2⟩ := h
  unfold t_Links_apply_at
  walk_at "g"
  refine w_me a no_m ?_
  walk_at "g"
  refine ⟨p, r, l, o, s, op, i, rfl, a, fun ok => ?_, h2⟩
  have hi := ok.1
  obtain ⟨i1, i2⟩ := hi
  have w := a.wf
  obtain ⟨r1, r2⟩ := w.rb op.natAbs (by omega)
  obtain ⟨l1, l2⟩ := w.lb op.natAbs i1 (by omega)
  obtain ⟨pr, pl, po⟩ := a.pr
  walk_at "g"
  rw [natAbs_if]
  refine w_fL T.cl_Links T.na_Links__lefts a ?_
  walk_at "g"
  refine w_ixL (SqL.of a.hl) (at_I (by omega) (by rw [w.lL]; omega)) ?_
  walk_at "g"
  refine w_fR T.cl_Links T.na_Links__rights a ?_
  walk_at "g"
  refine w_ixL (SqL.of a.hr) (at_I (by omega) (by rw [w.lR]; omega)) ?_
  walk_at "g"
  have fin : ∀ x y : Int, x = (if op < 0 then gI s.R op.natAbs else (op.natAbs : Int)) → y = (if op < 0 then gI s.L op.natAbs else (op.natAbs : Int)) →
      Q .non (upd (upd (upd H r (.lst ((s.R.map V.int).set (gI s.L op.natAbs).toNat (.int x)))) l (.lst ((s.L.map V.int).set (gI s.R op.natAbs).toNat (.int y)))) o (.lst ((s.O.map V.bl).set op.natAbs (.bl (decide (op < 0)))))) := by
    intro x y ex ey
    refine h1 ok _ ((((Kp.refl _ H).trans (Kp.put (by simp))).trans (Kp.put (by simp))).trans (Kp.put (by simp))) ?_
    obtain ⟨dx, ob⟩ := a.ob
    rw [set_I, set_I, set_B]
    refine ⟨⟨dx, ?_⟩, ?_, ?_, ?_, a.rl, a.ro, a.lo, w.step ok.1⟩
    · rw [upd_ne po, upd_ne pl, upd_ne pr]
      exact ob
    · rw [upd_ne a.ro, upd_ne a.rl, upd_same, ex] <;> rfl
    · rw [upd_ne a.lo, upd_same, ey] <;> rfl
    · rw [upd_same] <;> rfl
  obtain ⟨dx, ob⟩ := a.ob
  have e1 : (op.natAbs : Int).toNat = op.natAbs := Int.toNat_natCast _
  have il : ixN (List.map V.int s.R).length (gI s.L op.natAbs) = some (gI s.L op.natAbs).toNat := ixN_pos (by omega) (by rw [List.length_map, w.lR]; omega)
  have ir : ixN (List.map V.int s.L).length (gI s.R op.natAbs) = some (gI s.R op.natAbs).toNat := ixN_pos (by omega) (by rw [List.length_map, w.lL]; omega)
  have io : ixN (List.map V.bl s.O).length (op.natAbs : Int) = some op.natAbs := by
    rw [ixN_pos (by omega) (by rw [List.length_map, w.lO]; omega), e1]
  rw [e1]
  refine w_iteD (fun c => ?_) (fun c => ?_)
  all_goals
    walk_at "g"
    refine w_oR T.cl_Links T.na_Links__rights ob ?_
    walk_at "g"
    refine w_setL a.hr il ?_
    walk_at "g"
    first
      | refine w_iteD (fun _ => ?_) (fun z => absurd c z)
      | refine w_iteD (fun z => absurd z c) (fun _ => ?_)
    walk_at "g"
    refine w_oL T.cl_Links T.na_Links__lefts (H := upd H r _) (by rw [upd_ne pr]; exact ob) ?_
    walk_at "g"
    refine w_setL (H := upd H r _) (by rw [upd_ne (Ne.symm a.rl)]; exact a.hl) ir ?_
    walk_at "g"
    refine w_oO T.cl_Links T.na_Links__out (H := upd (upd H r _) l _) (by rw [upd_ne pl, upd_ne pr]; exact ob) ?_
    walk_at "g"
    refine w_setL (H := upd (upd H r _) l _) (by rw [upd_ne (Ne.symm a.lo), upd_ne (Ne.symm a.ro)]; exact a.ho) io ?_
    walk_at "g"
  · exact fin _ _ (if_pos c).symm (if_pos c).symm
  · exact fin _ _ (if_neg c).symm (if_neg c).symm
theorem len_Links_apply (K : PySem.W.Frag) : ∀ vs H Q E, sp_Links_apply K vs H Q E → vs.length = (["self", "operation"] : List Str).length := by
  rintro vs H Q E ⟨_, _, _, _, _, _, rfl, _⟩
  rfl
theorem rd_Links_apply (T : Txt K mg) (vs : List V) (H : Hp) (Q : VK) (E : XK) (h : sp_Links_apply K vs H Q E) : t_Links_apply K E { nx := fun _ H' => Q .non H', rt := Q } (start ["self", "operation"] vs) H := by
  obtain ⟨p, r, l, o, s, op, rfl, a, h1, h2⟩ := h
  unfold t_Links_apply
  walk_at "g"
  refine w_me a no_m ?_
  walk_at "g"
  exact ⟨p, r, l, o, s, op, 0, rfl, a, h1, h2⟩
theorem len_Links_left (K : PySem.W.Frag) : ∀ vs H Q E, sp_Links_left K vs H Q E → vs.length = (["self", "node"] : List Str).length := by
  rintro vs H Q E ⟨_, _, _, _, _, _, rfl, _⟩
  rfl
theorem rd_Links_left (T : Txt K mg) (vs : List V) (H : Hp) (Q : VK) (E : XK) (h : sp_Links_left K vs H Q E) : t_Links_left K E { nx := fun _ H' => Q .non H', rt := Q } (start ["self", "node"] vs) H := by
  obtain ⟨p, r, l, o, s, v, rfl, a, h1, h2, h3⟩ := h
  unfold t_Links_left
  walk_at "g"
  refine w_iteD (fun c1 => ?_) (fun c1 => absurd (by omega) c1)
  walk_at "g"
  refine w_fS T.cl_Links T.na_Links_size a ?_
  walk_at "g"
  refine w_iteN (fun c1 => absurd (by omega) c1) (fun c1 => ?_)
  walk_at "g"
  refine w_fL T.cl_Links T.na_Links__lefts a ?_
  walk_at "g"
  refine w_ixL (SqL.of a.hl) (at_I (by omega) (by rw [a.wf.lL]; omega)) ?_
  exact h3
theorem len_Links_right (K : PySem.W.Frag) : ∀ vs H Q E, sp_Links_right K vs H Q E → vs.length = (["self", "node"] : List Str).length := by
  rintro vs H Q E ⟨_, _, _, _, _, _, rfl, _⟩
  rfl
theorem rd_Links_right (T : Txt K mg) (vs : List V) (H : Hp) (Q : VK) (E : XK) (h : sp_Links_right K vs H Q E) : t_Links_right K E { nx := fun _ H' => Q .non H', rt := Q } (start ["self", "node"] vs) H := by
  obtain ⟨p, r, l, o, s, v, rfl, a, h2, h3⟩ := h
  unfold t_Links_right
  walk_at "g"
  refine w_iteD (fun c1 => ?_) (fun c1 => absurd (by omega) c1)
  walk_at "g"
  refine w_fS T.cl_Links T.na_Links_size a ?_
  walk_at "g"
  refine w_iteN (fun c1 => absurd (by omega) c1) (fun c1 => ?_)
  walk_at "g"
  refine w_fR T.cl_Links T.na_Links__rights a ?_
  walk_at "g"
  refine w_ixL (SqL.of a.hr) (at_I (by omega) (by rw [a.wf.lR]; omega)) ?_
  exact h3
theorem len_gap_state (K : PySem.W.Frag) : ∀ vs H Q E, sp_gap_state K vs H Q E → vs.length = (["links", "gap"] : List Str).length := by
  rintro vs H Q E ⟨_, _, _, _, _, _, rfl, _⟩
  rfl
theorem rd_gap_state (T : Txt K mg) (vs : List V) (H : Hp) (Q : VK) (E : XK) (h : sp_gap_state K vs H Q E) : t_gap_state K E { nx := fun _ H' => Q .non H', rt := Q } (start ["links", "gap", "is_held_left", "is_held_right"] vs) H := by
  obtain ⟨p, r, l, o, s, g, rfl, a, h1, h2⟩ := h
  unfold t_gap_state
  walk_at "g"
  refine w_fS T.cl_Links T.na_Links_size a ?_
  walk_at "g"
  refine ⟨s.n, g, rfl, fun c => ?_, h2⟩
  obtain ⟨v, rfl⟩ : ∃ v : Nat, g = (v : Int) := ⟨g.toNat, by omega⟩
  walk_at "g"
  refine w_me a no_m ?_
  walk_at "g"
  refine ⟨p, r, l, o, s, v, rfl, a, by omega, ?_⟩
  walk_at "g"
  refine w_me a no_m ?_
  walk_at "g"
  refine ⟨p, r, l, o, s, v + 1, rfl, a, by omega, by omega, ?_⟩
  walk_at "g"
  have k := h1 c
  rw [Int.toNat_natCast] at k
  unfold stT at k
  refine w_iteD (fun c1 => ?_) (fun c1 => ?_)
  · rw [if_pos c1] at k
    walk_at "g"
    refine w_iteD (fun c2 => ?_) (fun c2 => ?_)
    · rw [if_pos c2] at k
      walk_at "g"
      exact k
    · rw [if_neg c2] at k
      walk_at "g"
      exact k
  · rw [if_neg c1] at k
    walk_at "g"
    refine w_iteD (fun c2 => ?_) (fun c2 => ?_)
    · rw [if_pos c2] at k
      walk_at "g"
      exact k
    · rw [if_neg c2] at k
      walk_at "g"
      exact k
end
end G

set_option Elab.async false
set_option linter.all false
set_option maxRecDepth 100000
set_option maxHeartbeats 1000000
namespace G
--#FAM KF
open PySem PySem.Spec PyProof.Rows L2
local macro_rules
  | `(tactic| walk_at "1") => `(tactic| first
    | with_reducible refine w_seq ?_
    | with_reducible refine w_asg ?_
    | with_reducible refine w_asgS ?_
    | with_reducible refine w_asf ?_
    | with_reducible refine w_drop ?_
    | with_reducible refine w_ret ?_
    | with_reducible refine w_if ?_
    | with_reducible refine w_not ?_
    | with_reducible refine w_and ?_
    | with_reducible refine w_or ?_
    | with_reducible refine w_test ?_
    | with_reducible refine w_tb ?_
    | with_reducible refine w_chain ?_
    | with_reducible refine w_op ?_
    | with_reducible refine w_un ?_
    | with_reducible refine w_andV ?_
    | with_reducible refine w_orV ?_
    | with_reducible refine w_notV ?_
    | with_reducible refine w_ifE ?_
    | with_reducible refine w_cons ?_
    | with_reducible refine w_nil ?_
    | with_reducible refine w_cb ?_
    | with_reducible refine w_cl ?_
    | with_reducible refine w_mt ?_
    | with_reducible refine w_fld ?_
    | with_reducible refine w_tupN ?_
    | with_reducible refine w_lstN ?_
    | with_reducible refine w_bm ?_
    | with_reducible refine w_bm0 ?_
    | with_reducible refine w_for ?_
    | with_reducible refine w_lc ?_
    | with_reducible refine w_iR1 ?_
    | with_reducible refine w_iR2 ?_
    | with_reducible refine w_iL ?_
    | with_reducible refine w_iT ?_
    | with_reducible refine w_iE ?_
    | with_reducible refine w_iZ ?_
    | with_reducible refine w_var (by with_unfolding_all rfl) ?_
    | with_reducible refine w_c ?_
    | with_reducible refine w_next ?_
    | with_reducible refine w_i0 ?_
    | with_reducible refine w_u1 ?_
    | with_reducible refine w_addI ?_
    | with_reducible refine w_eqI ?_
    | with_reducible refine w_eqS ?_
    | with_reducible refine w_eqB ?_
    | with_reducible refine w_neI ?_
    | with_reducible refine w_neS ?_
    | with_reducible refine w_neB ?_
    | with_reducible refine w_abs ?_
    | with_reducible refine w_intI ?_
    | with_reducible refine w_min2 ?_
    | with_reducible refine w_max2 ?_
    | with_reducible refine w_isN0 ?_
    | with_reducible refine w_isN1 ref_ne ?_
    | with_reducible refine w_isN1 int_ne ?_
    | with_reducible refine w_notN0 ?_
    | with_reducible refine w_notN1 ref_ne ?_
    | with_reducible refine w_notN1 int_ne ?_
    | with_reducible refine w_ex1 ?_
    | with_reducible refine w_n1 ?_
    | with_reducible refine w_n2 ?_
    | with_reducible refine w_tT ?_
    | with_reducible refine w_tF ?_
    | with_reducible refine w_nT ?_
    | with_reducible refine w_nF ?_
    | with_reducible refine w_rz ?_
    | with_reducible refine w_mkN ?_
    | with_reducible refine w_lrgN ?_
    | with_reducible refine w_rg1 ?_
    | with_reducible refine w_rg2 ?_
    | with_reducible refine w_sl ?_
    | with_reducible refine w_np ?_
    | with_reducible refine w_pt ?_
    | with_reducible refine w_tr ?_
    | with_reducible refine w_gn ?_
    | with_reducible refine w_yes ?_
    | with_reducible refine w_m1 ?_
    | with_reducible refine w_asu ?_
    | with_reducible refine w_exS ?_
    | with_reducible refine w_iS ?_
    | with_reducible refine w_g1 ?_
    | with_reducible refine w_gc ?_
    | with_reducible refine w_gt (SqT.of upd_same) rfl ?_)
local macro_rules
  | `(tactic| walk_at "g") => `(tactic| repeat walk_at "1")
local macro_rules
  | `(tactic| walk_at "j1") => `(tactic| first
    | with_reducible refine w_seqI ?_
    | walk_at "1")
local macro_rules
  | `(tactic| walk_at "j") => `(tactic| repeat walk_at "j1")
section
variable {K : PySem.W.Frag} {mg : Str → Option Value}
theorem rg_nat (n : Nat) : rgV 0 (n : Int) = (rgI 0 n).map V.int := by
  unfold rgV rgI
  rw [show ((n : Int) - 0).toNat = n by omega, List.map_map] <;> rfl
theorem rg_one (n : Nat) : rgV 1 ((n : Int) + 1) = (rgI 1 n).map V.int := by
  unfold rgV rgI
  rw [show ((n : Int) + 1 - 1).toNat = n by omega, List.map_map] <;> rfl
theorem rg_one' (n : Nat) : rgV 1 ((n : Int) + 2) = (rgI 1 (n + 1)).map V.int := by
  rw [← rg_one (n + 1)]
  congr 1
theorem rg_nat' (n : Nat) : rgV 0 ((n : Int) + 1) = (rgI 0 (n + 1)).map V.int := by
  rw [← rg_nat (n + 1)] <;> rfl
theorem rep_flat {α : Type} (n : Nat) (x : α) : (List.replicate n [x]).flatten = List.replicate n x := by
  induction n with
  | zero => rfl
  | succ n ih => rw [List.replicate_succ, List.flatten_cons, ih, List.replicate_succ] <;> rfl
theorem rep_mapB (n : Nat) (x : Bool) : (List.replicate n x).map V.bl = List.replicate n (V.bl x) := by rw [List.map_replicate]
theorem putF_len (f : Str) (v : V) : ∀ fs : List (Str × V), (putF f v fs).length ≤ fs.length + 1
  | [] => Nat.le_refl _
  | (g, w) :: fs => by
    have ih := putF_len f v fs
    unfold putF
    split
    · exact Nat.le_succ _
    · exact Nat.succ_le_succ ih
theorem pl1 (a : Str) (x : V) : (putF a x []).length < 1000 := Nat.lt_of_le_of_lt (putF_len _ _ _) (Nat.le_of_ble_eq_true rfl)
theorem pl2 (a b : Str) (x y : V) : (putF b y (putF a x [])).length < 1000 := Nat.lt_of_le_of_lt (putF_len _ _ _) (by
  have := putF_len a x []
  show (putF a x []).length + 1 < 1000
  have e : ([] : List (Str × V)).length = 0 := rfl
  omega)
theorem pl3 (a b c : Str) (x y z : V) : (putF c z (putF b y (putF a x []))).length < 1000 := Nat.lt_of_le_of_lt (putF_len _ _ _) (by
  have h1 := putF_len b y (putF a x [])
  have h2 := putF_len a x []
  have e : ([] : List (Str × V)).length = 0 := rfl
  omega)
theorem len_Links___init__ (K : PySem.W.Frag) : ∀ vs H Q E, sp_Links___init__ K vs H Q E → vs.length = (["self", "size"] : List Str).length := by
  rintro vs H Q E ⟨_, _, _, rfl, _⟩
  rfl
theorem rd_Links___init__ (T : Txt K mg) (vs : List V) (H : Hp) (Q : VK) (E : XK) (h : sp_Links___init__ K vs H Q E) : t_Links___init__ K E { nx := fun _ H' => Q .non H', rt := Q } (start ["self", "size"] vs) H := by
  obtain ⟨p, dx, size, rfl, hp, h1, h2⟩ := h
  unfold t_Links___init__
  walk_at "g"
  refine ⟨size, rfl, fun ok => ?_, h2⟩
  have h1 := h1 ok
  obtain ⟨ok1, ok2⟩ := ok
  obtain ⟨n, rfl⟩ : ∃ n : Nat, size = (n : Int) := ⟨size.toNat, by omega⟩
  rw [Int.toNat_natCast] at h1
  walk_at "g"
  refine w_sT T.cl_Links T.na_Links_size hp (by decide) fun H1 k1 p1 => ?_
  walk_at "g"
  refine ⟨.of_le (by omega) (by omega) (by omega) (by omega), nw fun r H2 nr k2 hr => ?_⟩
  walk_at "g"
  have pr : p ≠ r := ne_of_none p1 nr
  refine w_sT T.cl_Links T.na_Links__rights (k2.at0 p1) (pl1 _ _) fun H3 k3 p3 => ?_
  have hr3 := k3.at1 (Ne.symm pr) hr
  walk_at "g"
  refine ⟨sz_ok (by show 1 ≤ 1000000; omega), nw fun z H4 nz k4 hz => ?_⟩
  walk_at "g"
  refine ⟨.of_le (by omega) (by omega) (by omega) (by omega), nw fun l0 H5 nl0 k5 hl0 => ?_⟩
  walk_at "g"
  refine w_addLN (k5.at0 hz) hl0 (by rw [rgV_length]; exact sz_ok (by show 1 + _ ≤ _; omega)) fun l H6 nl k6 hl => ?_
  have k46 := (k4.trans k5).trans k6
  walk_at "g"
  have pl : p ≠ l := ne_of_none (k5.at0 (k4.at0 p3)) nl
  have rl : r ≠ l := ne_of_none (k5.at0 (k4.at0 hr3)) nl
  refine w_sT T.cl_Links T.na_Links__lefts (k46.at0 p3) (pl2 _ _ _ _) fun H7 k7 p7 => ?_
  have hr7 := k7.at1 (Ne.symm pr) (k46.at0 hr3)
  have hl7 := k7.at1 (Ne.symm pl) hl
  walk_at "g"
  refine ⟨sz_ok (by show 1 ≤ 1000000; omega), nw fun z2 H8 nz2 k8 hz2 => ?_⟩
  walk_at "g"
  refine w_mulLN hz2 (by omega) (by omega) (sz_ok (by show 1 * _ ≤ _; omega)) fun o H9 no k9 ho => ?_
  walk_at "g"
  have po : p ≠ o := ne_of_none (k8.at0 p7) no
  have ro : r ≠ o := ne_of_none (k8.at0 hr7) no
  have lo : l ≠ o := ne_of_none (k8.at0 hl7) no
  have k89 := k8.trans k9
  refine w_sT T.cl_Links T.na_Links__out (k89.at0 p7) (pl3 _ _ _ _ _ _) fun Hx kx px => ?_
  have k03 : Kp [p] H H3 := k1.trans (k2.all.trans k3)
  have k07 : Kp [p] H H7 := k03.trans (k46.all.trans k7)
  have k0x : Kp [p] H Hx := k07.trans (k89.all.trans kx)
  have mp : ∀ b, H b = none → H3 b = none → True := fun _ _ _ => trivial
  refine h1 r l o Hx (k1.free (by simpa using Ne.symm pr) nr) ?_ ?_ k0x ⟨⟨dx, px⟩, ?_, ?_, ?_, rl, ro, lo, .whole (by omega)⟩
  · exact (k03.trans (k4.trans k5).all).free (by simpa using Ne.symm pl) nl
  · exact (k07.trans k8.all).free (by simpa using Ne.symm po) no
  · rw [kx.at1 (Ne.symm pr) (k89.at0 hr7), rg_one'] <;> rfl
  · rw [kx.at1 (Ne.symm pl) (k89.at0 hl7), rg_nat'] <;> rfl
  · rw [kx.at1 (Ne.symm po) ho, show ((n : Int) + 2).toNat = n + 2 by omega, rep_flat, ← rep_mapB] <;> rfl
end
end G

set_option Elab.async false
set_option linter.all false
set_option maxRecDepth 100000
set_option maxHeartbeats 1000000
namespace G
--#FAM KF
open PySem PySem.Spec PyProof.Rows L2
local macro_rules
  | `(tactic| walk_at "1") => `(tactic| first
    | with_reducible refine w_seq ?_
    | with_reducible refine w_asg ?_
    | with_reducible refine w_asgS ?_
    | with_reducible refine w_asf ?_
    | with_reducible refine w_drop ?_
    | with_reducible refine w_ret ?_
    | with_reducible refine w_if ?_
    | with_reducible refine w_not ?_
    | with_reducible refine w_and ?_
    | with_reducible refine w_or ?_
    | with_reducible refine w_test ?_
    | with_reducible refine w_tb ?_
    | with_reducible refine w_chain ?_
    | with_reducible refine w_op ?_
    | with_reducible refine w_un ?_
    | with_reducible refine w_andV ?_
    | with_reducible refine w_orV ?_
    | with_reducible refine w_notV ?_
    | with_reducible refine w_ifE ?_
    | with_reducible refine w_cons ?_
    | with_reducible refine w_nil ?_
    | with_reducible refine w_cb ?_
    | with_reducible refine w_cl ?_
    | with_reducible refine w_mt ?_
    | with_reducible refine w_fld ?_
    | with_reducible refine w_tupN ?_
    | with_reducible refine w_lstN ?_
    | with_reducible refine w_bm ?_
    | with_reducible refine w_bm0 ?_
    | with_reducible refine w_for ?_
    | with_reducible refine w_lc ?_
    | with_reducible refine w_iR1 ?_
    | with_reducible refine w_iR2 ?_
    | with_reducible refine w_iL ?_
    | with_reducible refine w_iT ?_
    | with_reducible refine w_iE ?_
    | with_reducible refine w_iZ ?_
    | with_reducible refine w_var (by with_unfolding_all rfl) ?_
    | with_reducible refine w_c ?_
    | with_reducible refine w_next ?_
    | with_reducible refine w_i0 ?_
    | with_reducible refine w_u1 ?_
    | with_reducible refine w_addI ?_
    | with_reducible refine w_eqI ?_
    | with_reducible refine w_eqS ?_
    | with_reducible refine w_eqB ?_
    | with_reducible refine w_neI ?_
    | with_reducible refine w_neS ?_
    | with_reducible refine w_neB ?_
    | with_reducible refine w_abs ?_
    | with_reducible refine w_intI ?_
    | with_reducible refine w_min2 ?_
    | with_reducible refine w_max2 ?_
    | with_reducible refine w_isN0 ?_
    | with_reducible refine w_isN1 ref_ne ?_
    | with_reducible refine w_isN1 int_ne ?_
    | with_reducible refine w_notN0 ?_
    | with_reducible refine w_notN1 ref_ne ?_
    | with_reducible refine w_notN1 int_ne ?_
    | with_reducible refine w_ex1 ?_
    | with_reducible refine w_n1 ?_
    | with_reducible refine w_n2 ?_
    | with_reducible refine w_tT ?_
    | with_reducible refine w_tF ?_
    | with_reducible refine w_nT ?_
    | with_reducible refine w_nF ?_
    | with_reducible refine w_rz ?_
    | with_reducible refine w_mkN ?_
    | with_reducible refine w_lrgN ?_
    | with_reducible refine w_rg1 ?_
    | with_reducible refine w_rg2 ?_
    | with_reducible refine w_sl ?_
    | with_reducible refine w_np ?_
    | with_reducible refine w_pt ?_
    | with_reducible refine w_tr ?_
    | with_reducible refine w_gn ?_
    | with_reducible refine w_yes ?_
    | with_reducible refine w_m1 ?_
    | with_reducible refine w_asu ?_
    | with_reducible refine w_exS ?_
    | with_reducible refine w_iS ?_
    | with_reducible refine w_g1 ?_
    | with_reducible refine w_gc ?_
    | with_reducible refine w_gt (SqT.of upd_same) rfl ?_)
local macro_rules
  | `(tactic| walk_at "g") => `(tactic| repeat walk_at "1")
local macro_rules
  | `(tactic| walk_at "j1") => `(tactic| first
    | with_reducible refine w_seqI ?_
    | walk_at "1")
local macro_rules
  | `(tactic| walk_at "j") => `(tactic| repeat walk_at "j1")
section
variable {K : PySem.W.Frag} {mg : Str → Option Value}
theorem Kp.cut {S S' : List Addr} {H H' : Hp} (k : Kp S H H') (h : ∀ b ∈ S, b ∈ S' ∨ H b = none) : Kp S' H H' := fun b o n e => k b o (fun z => by
  rcases h b z with q | q
  · exact n q
  · rw [q] at e
    cases e) e
theorem Kp.cut1 {H H' : Hp} {p : Addr} (k : Kp [p] H H') (h : H p = none) : Kp [] H H' := k.cut (by simp [h])
theorem at_map {α : Type} {f : α → V} {l : List α} {i : Nat} {x : V} (h : (l.map f)[i]? = some x) : ∃ y, l[i]? = some y ∧ f y = x := by
  rw [List.getElem?_map] at h
  cases e : l[i]? with
  | none => rw [e] at h; cases h
  | some y => rw [e] at h; exact ⟨y, rfl, by injection h⟩
theorem take_snoc {α : Type} {l : List α} {i : Nat} {x : α} (h : l[i]? = some x) : l.take (i + 1) = l.take i ++ [x] := by
  rw [List.take_succ, h] <;> rfl
theorem len_Links_copy (K : PySem.W.Frag) : ∀ vs H Q E, sp_Links_copy K vs H Q E → vs.length = (["self"] : List Str).length := by
  rintro vs H Q E ⟨_, _, _, _, _, rfl, _⟩
  rfl
theorem rd_Links_copy (T : Txt K mg) (vs : List V) (H : Hp) (Q : VK) (E : XK) (h : sp_Links_copy K vs H Q E) : t_Links_copy K E { nx := fun _ H' => Q .non H', rt := Q } (start ["self", "twin"] vs) H := by
  obtain ⟨p, r, l, o, s, rfl, a, g⟩ := h
  unfold t_Links_copy
  walk_at "g"
  refine w_fS T.cl_Links T.na_Links_size a ?_
  walk_at "g"
  refine mk fun q dx H1 nq hq k1 => ?_
  refine ⟨q, dx, s.n, rfl, hq, fun ok r1 l1 o1 H2 nr1 nl1 no1 k2 b => ⟨rfl, ?_⟩, fun z => absurd ⟨by omega, by have := a.wf.n60; omega⟩ z⟩
  have a1 := a.k0 k1
  obtain ⟨dx1, ob1⟩ := a1.ob
  have qp : p ≠ q := by
    obtain ⟨dx0, ob⟩ := a.ob
    exact ne_of_none ob nq
  have qr : r ≠ q := ne_of_none a.hr nq
  have ql : l ≠ q := ne_of_none a.hl nq
  have qo : o ≠ q := ne_of_none a.ho nq
  have a2 := a1.kp k2 (by simpa using qp) (by simpa using qr) (by simpa using ql) (by simpa using qo)
  walk_at "g"
  refine w_fR T.cl_Links T.na_Links__rights a2 ?_
  walk_at "g"
  refine w_listLN (SqL.of a2.hr) fun r3 H3 nr3 k3 hr3 => ?_
  walk_at "g"
  have b3 := b.k0 k3
  obtain ⟨dx3, ob3⟩ := b3.ob
  refine w_sT T.cl_Links T.na_Links__rights ob3 (fl_len _ _ _ _) fun H4 k4 p4 => ?_
  rw [fl_putR] at p4
  have a4 := (a2.k0 k3).kp k4 (by simpa using qp) (by simpa using qr) (by simpa using ql) (by simpa using qo)
  walk_at "g"
  refine w_fL T.cl_Links T.na_Links__lefts a4 ?_
  walk_at "g"
  refine w_listLN (SqL.of a4.hl) fun l5 H5 nl5 k5 hl5 => ?_
  walk_at "g"
  refine w_sT T.cl_Links T.na_Links__lefts (k5.at0 p4) (fl_len _ _ _ _) fun H6 k6 p6 => ?_
  rw [fl_putL] at p6
  have a6 := (a4.k0 k5).kp k6 (by simpa using qp) (by simpa using qr) (by simpa using ql) (by simpa using qo)
  walk_at "g"
  refine w_fO T.cl_Links T.na_Links__out a6 ?_
  walk_at "g"
  refine w_listLN (SqL.of a6.ho) fun o7 H7 no7 k7 ho7 => ?_
  walk_at "g"
  refine w_sT T.cl_Links T.na_Links__out (k7.at0 p6) (fl_len _ _ _ _) fun H8 k8 p8 => ?_
  rw [fl_putO] at p8
  walk_at "g"
  have rq : r3 ≠ q := (ne_of_none b.ob.choose_spec nr3).symm
  have lq : l5 ≠ q := (ne_of_none p4 nl5).symm
  have oq : o7 ≠ q := (ne_of_none p6 no7).symm
  have hr4 := k4.at1 rq hr3
  have hr6 := k6.at1 rq (k5.at0 hr4)
  have hl6 := k6.at1 lq hl5
  have k02 : Kp [q] H H2 := k1.all.trans k2
  have k04 : Kp [q] H H4 := k02.trans (k3.all.trans k4)
  have k06 : Kp [q] H H6 := k04.trans (k5.all.trans k6)
  have k08 : Kp [q] H H8 := k06.trans (k7.all.trans k8)
  refine g q r3 l5 o7 H8 nq (k02.free (by simpa using rq) nr3) (k04.free (by simpa using lq) nl5) (k06.free (by simpa using oq) no7) (k08.cut1 nq) ⟨⟨dx3, p8⟩, k8.at1 rq (k7.at0 hr6), k8.at1 lq (k7.at0 hl6), k8.at1 oq ho7, ?_, ?_, ?_, a.wf⟩
  · exact ne_of_none hr4 nl5
  · exact ne_of_none hr6 no7
  · exact ne_of_none hl6 no7
theorem len_gap_states (K : PySem.W.Frag) : ∀ vs H Q E, sp_gap_states K vs H Q E → vs.length = (["links"] : List Str).length := by
  rintro vs H Q E ⟨_, _, _, _, _, rfl, _⟩
  rfl
theorem rd_gap_states (T : Txt K mg) (vs : List V) (H : Hp) (Q : VK) (E : XK) (h : sp_gap_states K vs H Q E) : t_gap_states K E { nx := fun _ H' => Q .non H', rt := Q } (start ["links", "gap"] vs) H := by
  obtain ⟨p, r, l, o, s, rfl, a, g⟩ := h
  unfold t_gap_states
  walk_at "g"
  refine w_fS T.cl_Links T.na_Links_size a ?_
  walk_at "g"
  have n60 := a.wf.n60
  refine w_r1 (by omega) ?_
  rw [show ((s.n : Int) + 1).toNat = s.n + 1 by omega]
  refine cp_rng (fun i => (List.range i).map fun (v : Nat) => V.str (stT s v)) (fun i hi => sz_lt (by rw [List.length_map, List.length_range]; omega)) rfl ?_ (fun D H' n k h => g D H' n k h)
  intro i H' S N hi k y nn
  walk_at "g"
  refine ⟨rfl, ?_⟩
  walk_at "g"
  rw [Int.zero_add]
  refine ⟨p, r, l, o, s, (i : Int), rfl, a.k0 k, fun _ => ?_, fun bad => absurd ⟨by omega, by omega⟩ bad⟩
  refine y _ _ (Kp.refl _ _) ?_
  rw [List.range_succ, List.map_append, Int.toNat_natCast] <;> rfl
theorem len_lost_gaps (K : PySem.W.Frag) : ∀ vs H Q E, sp_lost_gaps K vs H Q E → vs.length = (["links"] : List Str).length := by
  rintro vs H Q E ⟨_, _, _, _, _, rfl, _⟩
  rfl
theorem rd_lost_gaps (T : Txt K mg) (vs : List V) (H : Hp) (Q : VK) (E : XK) (h : sp_lost_gaps K vs H Q E) : t_lost_gaps K E { nx := fun _ H' => Q .non H', rt := Q } (start ["links", "gap", "state"] vs) H := by
  obtain ⟨p, r, l, o, s, rfl, a, g⟩ := h
  unfold t_lost_gaps
  walk_at "g"
  refine ⟨p, r, l, o, s, rfl, a, fun q H1 nq k1 hq => ?_⟩
  walk_at "g"
  have n60 := a.wf.n60
  have lenq : ((List.range (s.n + 1)).map fun (v : Nat) => V.str (stT s v)).length = s.n + 1 := by rw [List.length_map, List.length_range]
  refine ⟨q, _, rfl, SqL.of hq, cp_enum (SqL.of hq) (fun i => ((List.range i).filter fun v => decide (stT s v = "lost")).map fun (v : Nat) => V.int (v : Int)) (fun i hi => ?_) rfl ?_ ?_⟩
  · rw [lenq] at hi
    refine sz_lt ?_
    rw [List.length_map]
    have := List.length_filter_le (fun v => decide (stT s v = "lost")) (List.range i)
    rw [List.length_range] at this
    omega
  · intro i x Tq H' S N hx k nT yes no
    obtain ⟨v, hv, rfl⟩ := at_map hx
    have hv' : i = v := by
      have := (List.getElem?_eq_some_iff.mp hv).2
      simpa using this
    subst hv'
    have kT : Kp [] H' (upd H' Tq (.tup [.int (i : Int), .str (stT s i)])) := Kp.new nT
    walk_at "g"
    refine ⟨rfl, ?_⟩
    walk_at "g"
    refine w_iteD (fun c => ?_) (fun c => ?_)
    · walk_at "g"
      refine yes _ _ kT ?_
      rw [List.range_succ, List.filter_append, List.map_append, List.filter_cons_of_pos (by rw [decide_eq_true c])] <;> rfl
    · refine no _ kT ?_
      rw [List.range_succ, List.filter_append, List.map_append, List.filter_cons_of_neg (by rw [decide_eq_false c]; exact Bool.false_ne_true), List.filter_nil, List.map_nil, List.append_nil]
  · intro D H' nD k hD
    rw [lenq] at hD
    exact g D H' (k1.free0 nD) (k1.trans k) hD
end
end G

set_option Elab.async false
set_option linter.all false
set_option maxRecDepth 100000
set_option maxHeartbeats 1000000
namespace G
--#FAM KF
open PySem PySem.Spec PyProof.Rows L2
local macro_rules
  | `(tactic| walk_at "1") => `(tactic| first
    | with_reducible refine w_seq ?_
    | with_reducible refine w_asg ?_
    | with_reducible refine w_asgS ?_
    | with_reducible refine w_asf ?_
    | with_reducible refine w_drop ?_
    | with_reducible refine w_ret ?_
    | with_reducible refine w_if ?_
    | with_reducible refine w_not ?_
    | with_reducible refine w_and ?_
    | with_reducible refine w_or ?_
    | with_reducible refine w_test ?_
    | with_reducible refine w_tb ?_
    | with_reducible refine w_chain ?_
    | with_reducible refine w_op ?_
    | with_reducible refine w_un ?_
    | with_reducible refine w_andV ?_
    | with_reducible refine w_orV ?_
    | with_reducible refine w_notV ?_
    | with_reducible refine w_ifE ?_
    | with_reducible refine w_cons ?_
    | with_reducible refine w_nil ?_
    | with_reducible refine w_cb ?_
    | with_reducible refine w_cl ?_
    | with_reducible refine w_mt ?_
    | with_reducible refine w_fld ?_
    | with_reducible refine w_tupN ?_
    | with_reducible refine w_lstN ?_
    | with_reducible refine w_bm ?_
    | with_reducible refine w_bm0 ?_
    | with_reducible refine w_for ?_
    | with_reducible refine w_lc ?_
    | with_reducible refine w_iR1 ?_
    | with_reducible refine w_iR2 ?_
    | with_reducible refine w_iL ?_
    | with_reducible refine w_iT ?_
    | with_reducible refine w_iE ?_
    | with_reducible refine w_iZ ?_
    | with_reducible refine w_var (by with_unfolding_all rfl) ?_
    | with_reducible refine w_c ?_
    | with_reducible refine w_next ?_
    | with_reducible refine w_i0 ?_
    | with_reducible refine w_u1 ?_
    | with_reducible refine w_addI ?_
    | with_reducible refine w_eqI ?_
    | with_reducible refine w_eqS ?_
    | with_reducible refine w_eqB ?_
    | with_reducible refine w_neI ?_
    | with_reducible refine w_neS ?_
    | with_reducible refine w_neB ?_
    | with_reducible refine w_abs ?_
    | with_reducible refine w_intI ?_
    | with_reducible refine w_min2 ?_
    | with_reducible refine w_max2 ?_
    | with_reducible refine w_isN0 ?_
    | with_reducible refine w_isN1 ref_ne ?_
    | with_reducible refine w_isN1 int_ne ?_
    | with_reducible refine w_notN0 ?_
    | with_reducible refine w_notN1 ref_ne ?_
    | with_reducible refine w_notN1 int_ne ?_
    | with_reducible refine w_ex1 ?_
    | with_reducible refine w_n1 ?_
    | with_reducible refine w_n2 ?_
    | with_reducible refine w_tT ?_
    | with_reducible refine w_tF ?_
    | with_reducible refine w_nT ?_
    | with_reducible refine w_nF ?_
    | with_reducible refine w_rz ?_
    | with_reducible refine w_mkN ?_
    | with_reducible refine w_lrgN ?_
    | with_reducible refine w_rg1 ?_
    | with_reducible refine w_rg2 ?_
    | with_reducible refine w_sl ?_
    | with_reducible refine w_np ?_
    | with_reducible refine w_pt ?_
    | with_reducible refine w_tr ?_
    | with_reducible refine w_gn ?_
    | with_reducible refine w_yes ?_
    | with_reducible refine w_m1 ?_
    | with_reducible refine w_asu ?_
    | with_reducible refine w_exS ?_
    | with_reducible refine w_iS ?_
    | with_reducible refine w_g1 ?_
    | with_reducible refine w_gc ?_
    | with_reducible refine w_gt (SqT.of upd_same) rfl ?_)
local macro_rules
  | `(tactic| walk_at "g") => `(tactic| repeat walk_at "1")
local macro_rules
  | `(tactic| walk_at "j1") => `(tactic| first
    | with_reducible refine w_seqI ?_
    | walk_at "1")
local macro_rules
  | `(tactic| walk_at "j") => `(tactic| repeat walk_at "j1")
section
variable {K : PySem.W.Frag} {mg : Str → Option Value}
theorem w_isiI {H : Hp} {Q : VK} {i : Int} {t : String} {r : Bool} (h : kitB "int" t = some r) (g : Q (.bl r) H) : rIsi K [.int i, .ty t] H Q := ⟨_, _, _, _, r, rfl, .ty t, .base (.int i), kit_ty h, g⟩
theorem w_isiL {H : Hp} {Q : VK} {a : Addr} {xs : List V} {t : String} {r : Bool} (e : H a = some (.lst xs)) (h : kitB "list" t = some r) (g : Q (.bl r) H) : rIsi K [.ref a, .ty t] H Q := ⟨_, _, _, _, r, rfl, .ty t, .base (.lst e), kit_ty h, g⟩
theorem w_isiT {H : Hp} {Q : VK} {a : Addr} {xs : List V} {t : String} {r : Bool} (e : H a = some (.tup xs)) (h : kitB "tuple" t = some r) (g : Q (.bl r) H) : rIsi K [.ref a, .ty t] H Q := ⟨_, _, _, _, r, rfl, .ty t, .base (.tup e), kit_ty h, g⟩
theorem len__law_whole_number (K : PySem.W.Frag) : ∀ vs H Q E, sp__law_whole_number K vs H Q E → vs.length = (["told"] : List Str).length := by
  rintro vs H Q E ⟨_, rfl, _⟩
  rfl
theorem rd__law_whole_number (T : Txt K mg) (vs : List V) (H : Hp) (Q : VK) (E : XK) (h : sp__law_whole_number K vs H Q E) : t__law_whole_number K E { nx := fun _ H' => Q .non H', rt := Q } (start ["told"] vs) H := by
  obtain ⟨i, rfl, g⟩ := h
  unfold t__law_whole_number
  walk_at "g"
  refine w_isiI (r := true) (by decide +kernel) ?_
  walk_at "g"
  refine w_isiI (r := false) (by decide +kernel) ?_
  walk_at "g"
  exact g
theorem len__law_numbers (K : PySem.W.Frag) : ∀ vs H Q E, sp__law_numbers K vs H Q E → vs.length = (["told", "due"] : List Str).length := by
  rintro vs H Q E ⟨_, _, _, rfl, _⟩
  rfl
theorem rd__law_numbers (T : Txt K mg) (vs : List V) (H : Hp) (Q : VK) (E : XK) (h : sp__law_numbers K vs H Q E) : t__law_numbers K E { nx := fun _ H' => Q .non H', rt := Q } (start ["told", "due", "k"] vs) H := by
  obtain ⟨a, b, xs, rfl, hl, ha, hb, g⟩ := h
  unfold t__law_numbers
  walk_at "g"
  refine w_isiL (r := true) ha (by decide +kernel) ?_
  walk_at "g"
  refine w_lenL (SqL.of ha) ?_
  walk_at "g"
  refine w_lenL (SqL.of hb) ?_
  walk_at "g"
  rw [decide_eq_true rfl]
  walk_at "g"
  refine w_lenL (SqL.of hb) ?_
  walk_at "g"
  refine w_r1 (by rw [List.length_map]; omega) ?_
  refine lp_rng0 (fun i σ H' => H' = H ∧ ∃ v, σ = [some (.ref a), some (.ref b), v]) ⟨rfl, _, rfl⟩ ?_ ?_
  · rintro i σ' H' hi ⟨rfl, v, rfl⟩
    rw [List.length_map] at hi
    have li : i < xs.length := by omega
    have e1 := at_I (l := xs) (i := (i : Int)) (by omega) (by omega)
    walk_at "g"
    refine w_ixL (SqL.of ha) e1 ?_
    walk_at "g"
    refine ⟨_, rfl, ?_⟩
    walk_at "g"
    refine w_ixL (SqL.of ha) e1 ?_
    walk_at "g"
    refine w_ixL (SqL.of hb) e1 ?_
    walk_at "g"
    rw [decide_eq_true rfl]
    walk_at "g"
    exact ⟨rfl, _, rfl⟩
  · rintro σ' H' ⟨rfl, v, rfl⟩
    walk_at "g"
    exact g
theorem len__law_state (K : PySem.W.Frag) : ∀ vs H Q E, sp__law_state K vs H Q E → vs.length = (["world", "place"] : List Str).length := by
  rintro vs H Q E ⟨_, _, _, _, _, _, rfl, _⟩
  rfl
theorem rd__law_state (T : Txt K mg) (vs : List V) (H : Hp) (Q : VK) (E : XK) (h : sp__law_state K vs H Q E) : t__law_state K E { nx := fun _ H' => Q .non H', rt := Q } (start ["world", "place", "from_left", "from_right"] vs) H := by
  obtain ⟨w, r, l, o, s, v, rfl, a, gs, g⟩ := h
  unfold t__law_state
  obtain ⟨L', hL, lL, eL⟩ := a.hl
  have wf := a.wf
  walk_at "g"
  refine w_ixL (SqL.of a.ob) (i := 1) (v := .ref r) rfl ?_
  walk_at "g"
  refine w_ixL (SqL.of a.hr) (at_I (by omega) (by rw [wf.lR]; omega)) ?_
  walk_at "g"
  refine w_ixL (SqL.of a.ob) (i := 2) (v := .ref l) rfl ?_
  walk_at "g"
  refine w_ixL (SqL.of hL) (at_I (by omega) (by rw [lL]; omega)) ?_
  rw [show ((v : Int) + 1).toNat = v + 1 by omega, Int.toNat_natCast, eL (v + 1) (by omega)]
  unfold stT at g
  walk_at "g"
  refine w_iteD (fun c1 => ?_) (fun c1 => ?_)
  · rw [if_pos c1] at g
    walk_at "g"
    refine w_iteD (fun c2 => ?_) (fun c2 => ?_)
    · rw [if_pos c2] at g
      walk_at "g"
      exact g
    · rw [if_neg c2] at g
      walk_at "g"
      rw [decide_eq_true c1]
      walk_at "g"
      exact g
  · rw [if_neg c1] at g
    walk_at "g"
    rw [decide_eq_false c1]
    walk_at "g"
    refine w_iteD (fun c2 => ?_) (fun c2 => ?_)
    · rw [if_pos c2] at g
      walk_at "g"
      exact g
    · rw [if_neg c2] at g
      walk_at "g"
      exact g
end
end G

set_option Elab.async false
set_option linter.all false
set_option maxRecDepth 100000
set_option maxHeartbeats 1000000
namespace G
--#FAM KF
open PySem PySem.Spec PyProof.Rows L2
local macro_rules
  | `(tactic| walk_at "1") => `(tactic| first
    | with_reducible refine w_seq ?_
    | with_reducible refine w_asg ?_
    | with_reducible refine w_asgS ?_
    | with_reducible refine w_asf ?_
    | with_reducible refine w_drop ?_
    | with_reducible refine w_ret ?_
    | with_reducible refine w_if ?_
    | with_reducible refine w_not ?_
    | with_reducible refine w_and ?_
    | with_reducible refine w_or ?_
    | with_reducible refine w_test ?_
    | with_reducible refine w_tb ?_
    | with_reducible refine w_chain ?_
    | with_reducible refine w_op ?_
    | with_reducible refine w_un ?_
    | with_reducible refine w_andV ?_
    | with_reducible refine w_orV ?_
    | with_reducible refine w_notV ?_
    | with_reducible refine w_ifE ?_
    | with_reducible refine w_cons ?_
    | with_reducible refine w_nil ?_
    | with_reducible refine w_cb ?_
    | with_reducible refine w_cl ?_
    | with_reducible refine w_mt ?_
    | with_reducible refine w_fld ?_
    | with_reducible refine w_tupN ?_
    | with_reducible refine w_lstN ?_
    | with_reducible refine w_bm ?_
    | with_reducible refine w_bm0 ?_
    | with_reducible refine w_for ?_
    | with_reducible refine w_lc ?_
    | with_reducible refine w_iR1 ?_
    | with_reducible refine w_iR2 ?_
    | with_reducible refine w_iL ?_
    | with_reducible refine w_iT ?_
    | with_reducible refine w_iE ?_
    | with_reducible refine w_iZ ?_
    | with_reducible refine w_var (by with_unfolding_all rfl) ?_
    | with_reducible refine w_c ?_
    | with_reducible refine w_next ?_
    | with_reducible refine w_i0 ?_
    | with_reducible refine w_u1 ?_
    | with_reducible refine w_addI ?_
    | with_reducible refine w_eqI ?_
    | with_reducible refine w_eqS ?_
    | with_reducible refine w_eqB ?_
    | with_reducible refine w_neI ?_
    | with_reducible refine w_neS ?_
    | with_reducible refine w_neB ?_
    | with_reducible refine w_abs ?_
    | with_reducible refine w_intI ?_
    | with_reducible refine w_min2 ?_
    | with_reducible refine w_max2 ?_
    | with_reducible refine w_isN0 ?_
    | with_reducible refine w_isN1 ref_ne ?_
    | with_reducible refine w_isN1 int_ne ?_
    | with_reducible refine w_notN0 ?_
    | with_reducible refine w_notN1 ref_ne ?_
    | with_reducible refine w_notN1 int_ne ?_
    | with_reducible refine w_ex1 ?_
    | with_reducible refine w_n1 ?_
    | with_reducible refine w_n2 ?_
    | with_reducible refine w_tT ?_
    | with_reducible refine w_tF ?_
    | with_reducible refine w_nT ?_
    | with_reducible refine w_nF ?_
    | with_reducible refine w_rz ?_
    | with_reducible refine w_mkN ?_
    | with_reducible refine w_lrgN ?_
    | with_reducible refine w_rg1 ?_
    | with_reducible refine w_rg2 ?_
    | with_reducible refine w_sl ?_
    | with_reducible refine w_np ?_
    | with_reducible refine w_pt ?_
    | with_reducible refine w_tr ?_
    | with_reducible refine w_gn ?_
    | with_reducible refine w_yes ?_
    | with_reducible refine w_m1 ?_
    | with_reducible refine w_asu ?_
    | with_reducible refine w_exS ?_
    | with_reducible refine w_iS ?_
    | with_reducible refine w_g1 ?_
    | with_reducible refine w_gc ?_
    | with_reducible refine w_gt (SqT.of upd_same) rfl ?_)
local macro_rules
  | `(tactic| walk_at "g") => `(tactic| repeat walk_at "1")
local macro_rules
  | `(tactic| walk_at "j1") => `(tactic| first
    | with_reducible refine w_seqI ?_
    | walk_at "1")
local macro_rules
  | `(tactic| walk_at "j") => `(tactic| repeat walk_at "j1")
section
variable {K : PySem.W.Frag} {mg : Str → Option Value}
theorem len__law_step (K : PySem.W.Frag) : ∀ vs H Q E, sp__law_step K vs H Q E → vs.length = (["world", "deed"] : List Str).length := by
  rintro vs H Q E ⟨_, _, _, _, _, _, rfl, _⟩
  rfl
theorem rd__law_step (T : Txt K mg) (vs : List V) (H : Hp) (Q : VK) (E : XK) (h : sp__law_step K vs H Q E) : t__law_step K E { nx := fun _ H' => Q .non H', rt := Q } (start ["world", "deed", "node", "low", "high", "rights", "lefts", "flags"] vs) H := by
  obtain ⟨w, r, l, o, s, op, rfl, a, hi, g⟩ := h
  unfold t__law_step
  obtain ⟨L', hL, lL, eL⟩ := a.hl
  have wf := a.wf
  obtain ⟨i1, i2⟩ := hi
  obtain ⟨t1, t2, t3, t4, t5⟩ := touch_bd wf ⟨i1, i2⟩
  obtain ⟨n1, n2, n3, n4, n5, n6⟩ := a.ne
  have io : ixN (List.map V.bl s.O).length (op.natAbs : Int) = some op.natAbs := by
    rw [ixN_pos (by omega) (by rw [List.length_map, wf.lO]; omega), Int.toNat_natCast]
  have ir : ixN (List.map V.int s.R).length (gI s.L op.natAbs) = some (gI s.L op.natAbs).toNat := ixN_pos (by omega) (by rw [List.length_map, wf.lR]; omega)
  have il : ixN (List.map V.int L').length (gI s.R op.natAbs) = some (gI s.R op.natAbs).toNat := ixN_pos (by omega) (by rw [List.length_map, lL]; omega)
  walk_at "g"
  rw [natAbs_if]
  refine w_ixL (SqL.of a.ob) (i := 2) (v := .ref l) rfl ?_
  walk_at "g"
  refine w_ixL (SqL.of hL) (at_I (by omega) (by rw [lL]; omega)) ?_
  rw [Int.toNat_natCast, eL _ i1]
  walk_at "g"
  refine w_ixL (SqL.of a.ob) (i := 1) (v := .ref r) rfl ?_
  walk_at "g"
  refine w_ixL (SqL.of a.hr) (at_I (by omega) (by rw [wf.lR]; omega)) ?_
  rw [Int.toNat_natCast]
  walk_at "g"
  refine w_ixL (SqL.of a.ob) (i := 1) (v := .ref r) rfl ?_
  walk_at "g"
  refine w_ixL (SqL.of a.ob) (i := 2) (v := .ref l) rfl ?_
  walk_at "g"
  refine w_ixL (SqL.of a.ob) (i := 3) (v := .ref o) rfl ?_
  walk_at "g"
  have fin : ∀ (x y : Int) H1 H2 H3, x = (if op < 0 then gI s.R op.natAbs else (op.natAbs : Int)) → y = (if op < 0 then gI s.L op.natAbs else (op.natAbs : Int)) →
      Kp [r] H H1 → H1 r = some (.lst ((s.R.map V.int).set (gI s.L op.natAbs).toNat (.int x))) → Kp [l] H1 H2 → H2 l = some (.lst ((L'.map V.int).set (gI s.R op.natAbs).toNat (.int y))) →
      Kp [o] H2 H3 → H3 o = some (.lst ((s.O.map V.bl).set op.natAbs (.bl (decide (op < 0))))) → Q .non H3 := by
    intro x y H1 H2 H3 ex ey k1 h1 k2 h2 k3 h3
    have kk : Kp [r, l, o] H H3 := ((k1.mono (by simp)).trans (k2.mono (by simp))).trans (k3.mono (by simp))
    refine g H3 kk ⟨kk _ _ (by simp [n4, n5, n6]) a.ob, ?_, ⟨L'.set (gI s.R op.natAbs).toNat y, ?_, by rw [List.length_set, lL] <;> rfl, fun v hv => ?_⟩, ?_, a.ne, wf.step ⟨i1, i2⟩⟩
    · rw [k3.at1 n2 (k2.at1 n1 h1), set_I, ex] <;> rfl
    · rw [k3.at1 n3 h2, set_I]
    · show _ = gI (s.L.set _ _) v
      rw [gI_set (by rw [lL]; omega), gI_set (by rw [wf.lL]; omega), eL v hv, ey]
    · rw [h3, set_B] <;> rfl
  refine w_iteD (fun c => ?_) (fun c => ?_)
  all_goals
    walk_at "g"
    refine w_seT a.hr ir fun H1 k1 h1 => ?_
    walk_at "g"
    refine w_seT (k1.at1 (Ne.symm n1) hL) il fun H2 k2 h2 => ?_
    walk_at "g"
    refine w_seT (k2.at1 (Ne.symm n3) (k1.at1 (Ne.symm n2) a.ho)) io fun H3 k3 h3 => ?_
    walk_at "g"
  · exact fin _ _ H1 H2 H3 (if_pos c).symm (if_pos c).symm k1 h1 k2 h2 k3 h3
  · exact fin _ _ H1 H2 H3 (if_neg c).symm (if_neg c).symm k1 h1 k2 h2 k3 h3
end
end G

set_option Elab.async false
set_option linter.all false
set_option maxRecDepth 100000
set_option maxHeartbeats 1000000
namespace G
--#FAM KF
open PySem PySem.Spec PyProof.Rows L2
local macro_rules
  | `(tactic| walk_at "1") => `(tactic| first
    | with_reducible refine w_seq ?_
    | with_reducible refine w_asg ?_
    | with_reducible refine w_asgS ?_
    | with_reducible refine w_asf ?_
    | with_reducible refine w_drop ?_
    | with_reducible refine w_ret ?_
    | with_reducible refine w_if ?_
    | with_reducible refine w_not ?_
    | with_reducible refine w_and ?_
    | with_reducible refine w_or ?_
    | with_reducible refine w_test ?_
    | with_reducible refine w_tb ?_
    | with_reducible refine w_chain ?_
    | with_reducible refine w_op ?_
    | with_reducible refine w_un ?_
    | with_reducible refine w_andV ?_
    | with_reducible refine w_orV ?_
    | with_reducible refine w_notV ?_
    | with_reducible refine w_ifE ?_
    | with_reducible refine w_cons ?_
    | with_reducible refine w_nil ?_
    | with_reducible refine w_cb ?_
    | with_reducible refine w_cl ?_
    | with_reducible refine w_mt ?_
    | with_reducible refine w_fld ?_
    | with_reducible refine w_tupN ?_
    | with_reducible refine w_lstN ?_
    | with_reducible refine w_bm ?_
    | with_reducible refine w_bm0 ?_
    | with_reducible refine w_for ?_
    | with_reducible refine w_lc ?_
    | with_reducible refine w_iR1 ?_
    | with_reducible refine w_iR2 ?_
    | with_reducible refine w_iL ?_
    | with_reducible refine w_iT ?_
    | with_reducible refine w_iE ?_
    | with_reducible refine w_iZ ?_
    | with_reducible refine w_var (by with_unfolding_all rfl) ?_
    | with_reducible refine w_c ?_
    | with_reducible refine w_next ?_
    | with_reducible refine w_i0 ?_
    | with_reducible refine w_u1 ?_
    | with_reducible refine w_addI ?_
    | with_reducible refine w_eqI ?_
    | with_reducible refine w_eqS ?_
    | with_reducible refine w_eqB ?_
    | with_reducible refine w_neI ?_
    | with_reducible refine w_neS ?_
    | with_reducible refine w_neB ?_
    | with_reducible refine w_abs ?_
    | with_reducible refine w_intI ?_
    | with_reducible refine w_min2 ?_
    | with_reducible refine w_max2 ?_
    | with_reducible refine w_isN0 ?_
    | with_reducible refine w_isN1 ref_ne ?_
    | with_reducible refine w_isN1 int_ne ?_
    | with_reducible refine w_notN0 ?_
    | with_reducible refine w_notN1 ref_ne ?_
    | with_reducible refine w_notN1 int_ne ?_
    | with_reducible refine w_ex1 ?_
    | with_reducible refine w_n1 ?_
    | with_reducible refine w_n2 ?_
    | with_reducible refine w_tT ?_
    | with_reducible refine w_tF ?_
    | with_reducible refine w_nT ?_
    | with_reducible refine w_nF ?_
    | with_reducible refine w_rz ?_
    | with_reducible refine w_mkN ?_
    | with_reducible refine w_lrgN ?_
    | with_reducible refine w_rg1 ?_
    | with_reducible refine w_rg2 ?_
    | with_reducible refine w_sl ?_
    | with_reducible refine w_np ?_
    | with_reducible refine w_pt ?_
    | with_reducible refine w_tr ?_
    | with_reducible refine w_gn ?_
    | with_reducible refine w_yes ?_
    | with_reducible refine w_m1 ?_
    | with_reducible refine w_asu ?_
    | with_reducible refine w_exS ?_
    | with_reducible refine w_iS ?_
    | with_reducible refine w_g1 ?_
    | with_reducible refine w_gc ?_
    | with_reducible refine w_gt (SqT.of upd_same) rfl ?_)
local macro_rules
  | `(tactic| walk_at "g") => `(tactic| repeat walk_at "1")
local macro_rules
  | `(tactic| walk_at "j1") => `(tactic| first
    | with_reducible refine w_seqI ?_
    | walk_at "1")
local macro_rules
  | `(tactic| walk_at "j") => `(tactic| repeat walk_at "j1")
section
variable {K : PySem.W.Frag} {mg : Str → Option Value}
theorem cmulR {i j : Int} (h1 : -(2 ^ 64) < j) (h2 : j < 2 ^ 64) : CMul i j := .inr ⟨h1, h2⟩
theorem cmulL {i j : Int} (h1 : -(2 ^ 64) < i) (h2 : i < 2 ^ 64) : CMul i j := .inl ⟨h1, h2⟩
theorem len__law_draw (K : PySem.W.Frag) : ∀ vs H Q E, sp__law_draw K vs H Q E → vs.length = (["bag", "many"] : List Str).length := by
  rintro vs H Q E ⟨_, _, rfl, _⟩
  rfl
theorem rd__law_draw (T : Txt K mg) (vs : List V) (H : Hp) (Q : VK) (E : XK) (h : sp__law_draw K vs H Q E) : t__law_draw K E { nx := fun _ H' => Q .non H', rt := Q } (start ["bag", "many", "digit"] vs) H := by
  obtain ⟨b, many, rfl, hm, hm2, ⟨c, m, t, hb⟩, g⟩ := h
  unfold t__law_draw
  walk_at "g"
  refine w_ixL (SqL.of hb) at_0 ?_
  walk_at "g"
  refine w_iteD (fun cc => ?_) (fun cc => ?_)
  · walk_at "g"
    refine w_ixL (SqL.of hb) at_0 ?_
    walk_at "g"
    refine w_ic hm ?_
    walk_at "g"
    refine w_ixL (SqL.of hb) at_0 ?_
    walk_at "g"
    refine w_ic ⟨hm, by omega⟩ ?_
    walk_at "g"
    refine w_seT hb (n := 0) rfl fun H1 k1 h1 => ?_
    walk_at "g"
    exact g _ H1 (Int.emod_nonneg _ (by omega)) (Int.emod_lt_of_pos _ hm) k1 ⟨_, _, _, h1⟩
  · walk_at "g"
    refine w_ixL (SqL.of hb) (i := 2) (v := .int t) rfl ?_
    walk_at "g"
    refine w_seT hb (n := 2) rfl fun H1 k1 h1 => ?_
    walk_at "g"
    refine w_ixL (SqL.of h1) (i := 1) (v := .int m) rfl ?_
    walk_at "g"
    refine w_mulI (cmulR (by omega) (by omega)) ?_
    walk_at "g"
    refine w_ixL (SqL.of h1) (i := 2) (v := .int (t + 1)) rfl ?_
    walk_at "g"
    refine w_mulI (cmulR (by omega) (by omega)) ?_
    walk_at "g"
    refine w_ic (by omega) ?_
    walk_at "g"
    refine w_seT h1 (n := 1) rfl fun H2 k2 h2 => ?_
    generalize (m * 69621 + (t + 1) * 40692 + 11) % 2147483647 = m2 at h2
    walk_at "g"
    refine w_ixL (SqL.of h2) (i := 1) (v := .int m2) rfl ?_
    walk_at "g"
    refine w_mulI (cmulR (by omega) (by omega)) ?_
    walk_at "g"
    refine w_ixL (SqL.of h2) (i := 2) (v := .int (t + 1)) rfl ?_
    walk_at "g"
    refine w_mulI (cmulR (by omega) (by omega)) ?_
    walk_at "g"
    refine w_ic (by omega) ?_
    walk_at "g"
    refine w_ic ⟨by omega, by omega⟩ ?_
    walk_at "g"
    refine w_ic hm ?_
    exact g _ H2 (Int.emod_nonneg _ (by omega)) (Int.emod_lt_of_pos _ hm) (k1.trans k2) ⟨_, _, _, h2⟩
theorem len__law_size (K : PySem.W.Frag) : ∀ vs H Q E, sp__law_size K vs H Q E → vs.length = (["bag"] : List Str).length := by
  rintro vs H Q E ⟨_, rfl, _⟩
  rfl
theorem rd__law_size (T : Txt K mg) (vs : List V) (H : Hp) (Q : VK) (E : XK) (h : sp__law_size K vs H Q E) : t__law_size K E { nx := fun _ H' => Q .non H', rt := Q } (start ["bag", "way"] vs) H := by
  obtain ⟨b, rfl, hb, g⟩ := h
  unfold t__law_size
  walk_at "g"
  refine ⟨b, 8, rfl, by omega, by omega, hb, fun d H1 d1 d2 k1 b1 => ?_⟩
  walk_at "g"
  refine w_iteD (fun cc => ?_) (fun cc => ?_)
  · walk_at "g"
    refine ⟨b, 61, rfl, by omega, by omega, b1, fun d H2 d1 d2 k2 b2 => ?_⟩
    obtain ⟨v, rfl⟩ : ∃ v : Nat, d = (v : Int) := ⟨d.toNat, by omega⟩
    exact g v H2 (by omega) (k1.trans k2) b2
  · walk_at "g"
    refine w_iteD (fun cc => ?_) (fun cc => ?_)
    · walk_at "g"
      refine ⟨b, 13, rfl, by omega, by omega, b1, fun d H2 d1 d2 k2 b2 => ?_⟩
      obtain ⟨v, rfl⟩ : ∃ v : Nat, d = (v : Int) := ⟨d.toNat, by omega⟩
      exact g v H2 (by omega) (k1.trans k2) b2
    · walk_at "g"
      refine ⟨b, 7, rfl, by omega, by omega, b1, fun d H2 d1 d2 k2 b2 => ?_⟩
      obtain ⟨v, rfl⟩ : ∃ v : Nat, d = (v : Int) := ⟨d.toNat, by omega⟩
      exact g v H2 (by omega) (k1.trans k2) b2
theorem len__law_bag (K : PySem.W.Frag) : ∀ vs H Q E, sp__law_bag K vs H Q E → vs.length = (["script", "lane"] : List Str).length := by
  rintro vs H Q E ⟨_, _, _, rfl, _⟩
  rfl
theorem rd__law_bag (T : Txt K mg) (vs : List V) (H : Hp) (Q : VK) (E : XK) (h : sp__law_bag K vs H Q E) : t__law_bag K E { nx := fun _ H' => Q .non H', rt := Q } (start ["script", "lane", "mixed", "k", "cell"] vs) H := by
  obtain ⟨c, lane, ns, rfl, l1, l2, hs, hlen, g⟩ := h
  unfold t__law_bag
  walk_at "g"
  refine w_mulI (cmulL (by omega) (by omega)) ?_
  walk_at "g"
  refine w_lenL hs ?_
  walk_at "g"
  rw [List.length_map]
  have em : (if (ns.length : Int) < 63 then (ns.length : Int) else 63) = ns.length := by
    split <;> omega
  rw [em]
  refine w_r1 (by omega) ?_
  refine lp_rng0 (fun i σ H' => H' = H ∧ ∃ m x3 x4, σ = [some (.ref c), some (.int lane), some (.int m), x3, x4]) ⟨rfl, _, _, _, rfl⟩ ?_ ?_
  · rintro i σ' H' hi ⟨rfl, m, x3, x4, rfl⟩
    have li : i < ns.length := by omega
    walk_at "g"
    refine w_mulI (cmulR (by omega) (by omega)) ?_
    walk_at "g"
    refine w_ixL hs (at_I (by omega) (by omega)) ?_
    walk_at "g"
    refine w_ic (by omega) ?_
    walk_at "g"
    refine w_mulI (cmulL (by omega) (by omega)) ?_
    walk_at "g"
    refine w_ic (by omega) ?_
    walk_at "g"
    exact ⟨rfl, _, _, _, rfl⟩
  · rintro σ' H' ⟨rfl, m, x3, x4, rfl⟩
    walk_at "g"
    refine w_lenL hs ?_
    walk_at "g"
    rw [List.length_map]
    have fin : ∀ (x y z : Int) q H', H' q = some (.lst [.int x, .int y, .int z]) → Bag H' q := fun x y z q H' h => ⟨x, y, z, h⟩
    refine w_iteD (fun c1 => ?_) (fun c1 => ?_)
    · walk_at "g"
      refine w_ixL hs (at_I (by omega) (by omega)) ?_
      walk_at "g"
      refine w_ic ⟨by omega, by omega, by decide⟩ ?_
      walk_at "g"
      refine w_iteD (fun c2 => ?_) (fun c2 => ?_)
      · walk_at "g"
        refine w_ixL hs (at_I (by omega) (by omega)) ?_
        walk_at "g"
        refine ⟨sz_ok (by show 3 ≤ 1000000; omega), nw fun q H1 nq k1 hq => ?_⟩
        exact g q H1 nq k1 (fin _ _ _ _ _ hq)
      · walk_at "g"
        refine ⟨sz_ok (by show 3 ≤ 1000000; omega), nw fun q H1 nq k1 hq => ?_⟩
        exact g q H1 nq k1 (fin _ _ _ _ _ hq)
    · walk_at "g"
      refine ⟨sz_ok (by show 3 ≤ 1000000; omega), nw fun q H1 nq k1 hq => ?_⟩
      exact g q H1 nq k1 (fin _ _ _ _ _ hq)
end
end G

set_option Elab.async false
set_option linter.all false
set_option maxRecDepth 100000
set_option maxHeartbeats 1000000
namespace G
--#FAM KF
--#FAM KA
open PySem PySem.Spec PyProof.Rows L2
local macro_rules
  | `(tactic| walk_at "1") => `(tactic| first
    | with_reducible refine w_seq ?_
    | with_reducible refine w_asg ?_
    | with_reducible refine w_asgS ?_
    | with_reducible refine w_asf ?_
    | with_reducible refine w_drop ?_
    | with_reducible refine w_ret ?_
    | with_reducible refine w_if ?_
    | with_reducible refine w_not ?_
    | with_reducible refine w_and ?_
    | with_reducible refine w_or ?_
    | with_reducible refine w_test ?_
    | with_reducible refine w_tb ?_
    | with_reducible refine w_chain ?_
    | with_reducible refine w_op ?_
    | with_reducible refine w_un ?_
    | with_reducible refine w_andV ?_
    | with_reducible refine w_orV ?_
    | with_reducible refine w_notV ?_
    | with_reducible refine w_ifE ?_
    | with_reducible refine w_cons ?_
    | with_reducible refine w_nil ?_
    | with_reducible refine w_cb ?_
    | with_reducible refine w_cl ?_
    | with_reducible refine w_mt ?_
    | with_reducible refine w_fld ?_
    | with_reducible refine w_tupN ?_
    | with_reducible refine w_lstN ?_
    | with_reducible refine w_bm ?_
    | with_reducible refine w_bm0 ?_
    | with_reducible refine w_for ?_
    | with_reducible refine w_lc ?_
    | with_reducible refine w_iR1 ?_
    | with_reducible refine w_iR2 ?_
    | with_reducible refine w_iL ?_
    | with_reducible refine w_iT ?_
    | with_reducible refine w_iE ?_
    | with_reducible refine w_iZ ?_
    | with_reducible refine w_var (by with_unfolding_all rfl) ?_
    | with_reducible refine w_c ?_
    | with_reducible refine w_next ?_
    | with_reducible refine w_i0 ?_
    | with_reducible refine w_u1 ?_
    | with_reducible refine w_addI ?_
    | with_reducible refine w_eqI ?_
    | with_reducible refine w_eqS ?_
    | with_reducible refine w_eqB ?_
    | with_reducible refine w_neI ?_
    | with_reducible refine w_neS ?_
    | with_reducible refine w_neB ?_
    | with_reducible refine w_abs ?_
    | with_reducible refine w_intI ?_
    | with_reducible refine w_min2 ?_
    | with_reducible refine w_max2 ?_
    | with_reducible refine w_isN0 ?_
    | with_reducible refine w_isN1 ref_ne ?_
    | with_reducible refine w_isN1 int_ne ?_
    | with_reducible refine w_notN0 ?_
    | with_reducible refine w_notN1 ref_ne ?_
    | with_reducible refine w_notN1 int_ne ?_
    | with_reducible refine w_ex1 ?_
    | with_reducible refine w_n1 ?_
    | with_reducible refine w_n2 ?_
    | with_reducible refine w_tT ?_
    | with_reducible refine w_tF ?_
    | with_reducible refine w_nT ?_
    | with_reducible refine w_nF ?_
    | with_reducible refine w_rz ?_
    | with_reducible refine w_mkN ?_
    | with_reducible refine w_lrgN ?_
    | with_reducible refine w_rg1 ?_
    | with_reducible refine w_rg2 ?_
    | with_reducible refine w_sl ?_
    | with_reducible refine w_np ?_
    | with_reducible refine w_pt ?_
    | with_reducible refine w_tr ?_
    | with_reducible refine w_gn ?_
    | with_reducible refine w_yes ?_
    | with_reducible refine w_m1 ?_
    | with_reducible refine w_asu ?_
    | with_reducible refine w_exS ?_
    | with_reducible refine w_iS ?_
    | with_reducible refine w_g1 ?_
    | with_reducible refine w_gc ?_
    | with_reducible refine w_gt (SqT.of upd_same) rfl ?_)
local macro_rules
  | `(tactic| walk_at "g") => `(tactic| repeat walk_at "1")
local macro_rules
  | `(tactic| walk_at "j1") => `(tactic| first
    | with_reducible refine w_seqI ?_
    | walk_at "1")
local macro_rules
  | `(tactic| walk_at "j") => `(tactic| repeat walk_at "j1")
section
variable {K : PySem.W.Frag} {mg : Str → Option Value}
theorem len_Links_outs (K : PySem.W.Frag) : ∀ vs H Q E, sp_Links_outs K vs H Q E → vs.length = (["self"] : List Str).length := by
  rintro vs H Q E ⟨_, _, _, _, _, rfl, _⟩
  rfl
theorem rd_Links_outs (T : Txt K mg) (vs : List V) (H : Hp) (Q : VK) (E : XK) (h : sp_Links_outs K vs H Q E) : t_Links_outs K E { nx := fun _ H' => Q .non H', rt := Q } (start ["self", "node"] vs) H := by
  obtain ⟨p, r, l, o, s, rfl, a, g⟩ := h
  unfold t_Links_outs
  have n60 := a.wf.n60
  walk_at "g"
  refine w_fS T.cl_Links T.na_Links_size a ?_
  walk_at "g"
  refine w_r2 (by omega) ?_
  rw [show ((s.n : Int) + 1 - 1).toNat = s.n by omega]
  refine cp_rng (fun i => (outN i s.O).map V.int) (fun i hi => sz_lt (by
    rw [List.length_map]
    have := outN_len i s.O
    omega)) rfl (fun i H' S N hi k y no => ?_) (fun D H' nD k hD => g D H' nD k hD)
  walk_at "g"
  refine ⟨rfl, ?_⟩
  walk_at "g"
  refine w_fO T.cl_Links T.na_Links__out (a.k0 k) ?_
  walk_at "g"
  refine w_ixL (SqL.of (k.at0 a.ho)) (at_B (by omega) (by rw [a.wf.lO]; omega)) ?_
  walk_at "g"
  rw [show ((1 : Int) + (i : Int)).toNat = i + 1 by omega]
  refine w_iteB (fun c1 => ?_) (fun c1 => ?_)
  · walk_at "g"
    refine y _ _ (Kp.refl _ _) ?_
    unfold outN
    rw [List.range_succ, List.map_append, List.filter_append, List.map_append, List.map_append]
    congr 1
    show (([i + 1].filter fun v => gB s.O v).map _).map _ = _
    rw [List.filter_cons_of_pos c1]
    show [V.int ((i + 1 : Nat) : Int)] = [V.int (1 + (i : Int))]
    rw [Int.add_comm] <;> rfl
  · refine no _ (Kp.refl _ _) ?_
    unfold outN
    rw [List.range_succ, List.map_append, List.filter_append, List.map_append, List.map_append]
    show _ ++ (([i + 1].filter fun v => gB s.O v).map _).map _ = _
    rw [List.filter_cons_of_neg (by rw [c1]; exact Bool.false_ne_true)]
    exact List.append_nil _
theorem w_isN {x : V} {H : Hp} {Q : VK} (g : Q (.bl (decide (x = .non))) H) : rIsNA x .non H Q := ⟨rfl, g⟩
end
end G

set_option Elab.async false
set_option linter.all false
set_option maxRecDepth 100000
set_option maxHeartbeats 1000000
namespace G
--#FAM KF
--#FAM KC
open PySem PySem.Spec PyProof.Rows L2
local macro_rules
  | `(tactic| walk_at "1") => `(tactic| first
    | with_reducible refine w_seq ?_
    | with_reducible refine w_asg ?_
    | with_reducible refine w_asgS ?_
    | with_reducible refine w_asf ?_
    | with_reducible refine w_drop ?_
    | with_reducible refine w_ret ?_
    | with_reducible refine w_if ?_
    | with_reducible refine w_not ?_
    | with_reducible refine w_and ?_
    | with_reducible refine w_or ?_
    | with_reducible refine w_test ?_
    | with_reducible refine w_tb ?_
    | with_reducible refine w_chain ?_
    | with_reducible refine w_op ?_
    | with_reducible refine w_un ?_
    | with_reducible refine w_andV ?_
    | with_reducible refine w_orV ?_
    | with_reducible refine w_notV ?_
    | with_reducible refine w_ifE ?_
    | with_reducible refine w_cons ?_
    | with_reducible refine w_nil ?_
    | with_reducible refine w_cb ?_
    | with_reducible refine w_cl ?_
    | with_reducible refine w_mt ?_
    | with_reducible refine w_fld ?_
    | with_reducible refine w_tupN ?_
    | with_reducible refine w_lstN ?_
    | with_reducible refine w_bm ?_
    | with_reducible refine w_bm0 ?_
    | with_reducible refine w_for ?_
    | with_reducible refine w_lc ?_
    | with_reducible refine w_iR1 ?_
    | with_reducible refine w_iR2 ?_
    | with_reducible refine w_iL ?_
    | with_reducible refine w_iT ?_
    | with_reducible refine w_iE ?_
    | with_reducible refine w_iZ ?_
    | with_reducible refine w_var (by with_unfolding_all rfl) ?_
    | with_reducible refine w_c ?_
    | with_reducible refine w_next ?_
    | with_reducible refine w_i0 ?_
    | with_reducible refine w_u1 ?_
    | with_reducible refine w_addI ?_
    | with_reducible refine w_eqI ?_
    | with_reducible refine w_eqS ?_
    | with_reducible refine w_eqB ?_
    | with_reducible refine w_neI ?_
    | with_reducible refine w_neS ?_
    | with_reducible refine w_neB ?_
    | with_reducible refine w_abs ?_
    | with_reducible refine w_intI ?_
    | with_reducible refine w_min2 ?_
    | with_reducible refine w_max2 ?_
    | with_reducible refine w_isN0 ?_
    | with_reducible refine w_isN1 ref_ne ?_
    | with_reducible refine w_isN1 int_ne ?_
    | with_reducible refine w_notN0 ?_
    | with_reducible refine w_notN1 ref_ne ?_
    | with_reducible refine w_notN1 int_ne ?_
    | with_reducible refine w_ex1 ?_
    | with_reducible refine w_n1 ?_
    | with_reducible refine w_n2 ?_
    | with_reducible refine w_tT ?_
    | with_reducible refine w_tF ?_
    | with_reducible refine w_nT ?_
    | with_reducible refine w_nF ?_
    | with_reducible refine w_rz ?_
    | with_reducible refine w_mkN ?_
    | with_reducible refine w_lrgN ?_
    | with_reducible refine w_rg1 ?_
    | with_reducible refine w_rg2 ?_
    | with_reducible refine w_sl ?_
    | with_reducible refine w_np ?_
    | with_reducible refine w_pt ?_
    | with_reducible refine w_tr ?_
    | with_reducible refine w_gn ?_
    | with_reducible refine w_yes ?_
    | with_reducible refine w_m1 ?_
    | with_reducible refine w_asu ?_
    | with_reducible refine w_exS ?_
    | with_reducible refine w_iS ?_
    | with_reducible refine w_g1 ?_
    | with_reducible refine w_gc ?_
    | with_reducible refine w_gt (SqT.of upd_same) rfl ?_)
local macro_rules
  | `(tactic| walk_at "g") => `(tactic| repeat walk_at "1")
local macro_rules
  | `(tactic| walk_at "j1") => `(tactic| first
    | with_reducible refine w_seqI ?_
    | walk_at "1")
local macro_rules
  | `(tactic| walk_at "j") => `(tactic| repeat walk_at "j1")
section
variable {K : PySem.W.Frag} {mg : Str → Option Value}
theorem cps_len (x : Str) : x.cps.size = x.length := rfl
theorem len_is_positive (K : PySem.W.Frag) : ∀ vs H Q E, sp_is_positive K vs H Q E → vs.length = (["word"] : List Str).length := by
  rintro vs H Q E ⟨_, rfl, _⟩
  rfl
theorem rd_is_positive (T : Txt K mg) (vs : List V) (H : Hp) (Q : VK) (E : XK) (h : sp_is_positive K vs H Q E) : t_is_positive K E { nx := fun _ H' => Q .non H', rt := Q } (start ["word", "letter"] vs) H := by
  obtain ⟨i, rfl, h1, h2, g⟩ := h
  unfold t_is_positive
  have l1 := numI_pos (i := i) (by omega)
  have l9 := numI_len (i := i) (by omega) h2
  have lz : (numI i).length ≤ sizeLine := sz_ok (by omega)
  walk_at "g"
  refine w_lenS lz ?_
  walk_at "g"
  refine w_iteD (fun _ => ?_) (fun c => absurd (by omega) c)
  walk_at "g"
  refine w_iteD (fun _ => ?_) (fun c => absurd (by omega) c)
  walk_at "g"
  have e : (numI i).cps.toList = TL.numL i.toNat := tl_numI (by omega)
  obtain ⟨c, r, ec⟩ : ∃ c r, TL.numL i.toNat = c :: r := by
    cases q : TL.numL i.toNat with
    | nil => exact absurd q (TL.numL_ne _)
    | cons c r => exact ⟨c, r, rfl⟩
  have hc := numL_head i.toNat (by omega) c r ec
  refine w_ixS (c := c) lz (by rw [e, ec, atI_pos (by omega) (by simp)] <;> rfl) ?_
  walk_at "g"
  refine w_iteN (fun _ => ?_) (fun z => ?_)
  · walk_at "g"
    refine ⟨_, rfl, cp_str (x := numI i) (fun j => List.replicate j (V.bl true)) (fun j hj => sz_lt (by rw [List.length_replicate]; have : (numI i).cps.size = (numI i).length := rfl; omega)) rfl (fun j c H' S N hc k y _ => ?_) (fun D H' nD k hD => ?_)⟩
    · walk_at "g"
      refine ⟨rfl, ?_⟩
      walk_at "g"
      refine w_inS ?_
      have m : c ∈ (numI i).cps.toList := by
        rw [Array.getElem?_eq_some_iff] at hc
        obtain ⟨hj, rfl⟩ := hc
        exact Array.getElem_mem_toList hj
      have m2 : c ∈ ("0123456789" : Str).cps.toList := numI_digits (by omega) m
      refine y _ _ (Kp.refl _ _) ?_
      rw [rep_snoc, decide_eq_true m2]
    · walk_at "g"
      exact w_allT (SqL.of hD) (g H' k)
  · exfalso
    have z2 : (⟨#[c]⟩ : Str).cps.toList = ("0" : Str).cps.toList := by rw [z]
    have z3 : ("0" : Str).cps.toList = [48] := by decide +kernel
    rw [z3] at z2
    have : c = 48 := by simpa using z2
    exact hc this
theorem len__read_numbers (K : PySem.W.Frag) : ∀ vs H Q E, sp__read_numbers K vs H Q E → vs.length = (["text", "part"] : List Str).length := by
  rintro vs H Q E ⟨_, _, rfl, _⟩
  rfl
theorem rd__read_numbers (T : Txt K mg) (vs : List V) (H : Hp) (Q : VK) (E : XK) (h : sp__read_numbers K vs H Q E) : t__read_numbers K E { nx := fun _ H' => Q .non H', rt := Q } (start ["text", "part", "words", "word"] vs) H := by
  obtain ⟨l, part, rfl, hne, h9, hl, g⟩ := h
  unfold t__read_numbers
  have h0 : ∀ i ∈ l, 0 ≤ i := fun i hi => (h9 i hi).1
  walk_at "g"
  have e1 : (" " : Str) = spS := rfl
  rw [e1]
  refine w_split (by decide +kernel) (by
    have := joinI_len h9
    exact sz_ok (by omega)) fun q H1 nq k1 hq => ?_
  rw [split_joinI hne h0] at hq
  walk_at "g"
  refine w_l1 (SqL.of hq) ?_
  have lq : ((l.map numI).map V.str).length = l.length := by rw [List.length_map, List.length_map]
  refine cp_lst (SqL.of hq) (fun j => List.replicate j (V.bl true)) (fun j hj => sz_lt (by rw [List.length_replicate]; omega)) rfl (fun j x H' S N hx k y _ => ?_) (fun D H2 nD k2 hD => ?_)
  · obtain ⟨w, hw, rfl⟩ := at_map hx
    rw [List.getElem?_map] at hw
    obtain ⟨i, hi, rfl⟩ : ∃ i, l[j]? = some i ∧ numI i = w := by
      cases e : l[j]? with
      | none => rw [e] at hw; cases hw
      | some i => rw [e] at hw; exact ⟨i, rfl, by injection hw⟩
    have hb := h9 i (List.mem_of_getElem? hi)
    walk_at "g"
    refine ⟨rfl, ?_⟩
    walk_at "g"
    refine w_iteD (fun _ => ?_) (fun c => ?_)
    · refine y _ _ (Kp.refl _ _) ?_
      rw [rep_snoc]
    · walk_at "g"
      refine ⟨i, rfl, ?_, hb.2, fun H3 k3 => y _ _ k3 (by rw [rep_snoc])⟩
      apply Classical.byContradiction
      intro z
      have : i = 0 := by omega
      subst this
      exact c zeroS
  · rw [lq] at hD
    walk_at "g"
    refine w_allT (SqL.of hD) ?_
    walk_at "g"
    have hq2 := k2.at0 hq
    refine w_l1 (SqL.of hq2) ?_
    refine cp_lst (SqL.of hq2) (fun j => (l.take j).map V.int) (fun j hj => sz_lt (by rw [List.length_map, List.length_take]; omega)) rfl (fun j x H' S N hx k y _ => ?_) (fun D3 H3 nD3 k3 hD3 => ?_)
    · obtain ⟨w, hw, rfl⟩ := at_map hx
      rw [List.getElem?_map] at hw
      obtain ⟨i, hi, rfl⟩ : ∃ i, l[j]? = some i ∧ numI i = w := by
        cases e : l[j]? with
        | none => rw [e] at hw; cases hw
        | some i => rw [e] at hw; exact ⟨i, rfl, by injection hw⟩
      have hb := h9 i (List.mem_of_getElem? hi)
      walk_at "g"
      refine ⟨rfl, ?_⟩
      walk_at "g"
      refine w_intS (intText_num hb.1 hb.2) (by have := numI_len hb.1 hb.2; omega) ?_
      exact y _ _ (Kp.refl _ _) (map_snoc hi)
    · rw [lq, List.take_length] at hD3
      exact g D3 H3 ((k1.trans k2).free0 nD3) ((k1.trans k2).trans k3) hD3
end
end G

set_option Elab.async false
set_option linter.all false
set_option maxRecDepth 100000
set_option maxHeartbeats 1000000
namespace G
--#FAM KF
--#FAM KC
open PySem PySem.Spec PyProof.Rows L2
local macro_rules
  | `(tactic| walk_at "1") => `(tactic| first
    | with_reducible refine w_seq ?_
    | with_reducible refine w_asg ?_
    | with_reducible refine w_asgS ?_
    | with_reducible refine w_asf ?_
    | with_reducible refine w_drop ?_
    | with_reducible refine w_ret ?_
    | with_reducible refine w_if ?_
    | with_reducible refine w_not ?_
    | with_reducible refine w_and ?_
    | with_reducible refine w_or ?_
    | with_reducible refine w_test ?_
    | with_reducible refine w_tb ?_
    | with_reducible refine w_chain ?_
    | with_reducible refine w_op ?_
    | with_reducible refine w_un ?_
    | with_reducible refine w_andV ?_
    | with_reducible refine w_orV ?_
    | with_reducible refine w_notV ?_
    | with_reducible refine w_ifE ?_
    | with_reducible refine w_cons ?_
    | with_reducible refine w_nil ?_
    | with_reducible refine w_cb ?_
    | with_reducible refine w_cl ?_
    | with_reducible refine w_mt ?_
    | with_reducible refine w_fld ?_
    | with_reducible refine w_tupN ?_
    | with_reducible refine w_lstN ?_
    | with_reducible refine w_bm ?_
    | with_reducible refine w_bm0 ?_
    | with_reducible refine w_for ?_
    | with_reducible refine w_lc ?_
    | with_reducible refine w_iR1 ?_
    | with_reducible refine w_iR2 ?_
    | with_reducible refine w_iL ?_
    | with_reducible refine w_iT ?_
    | with_reducible refine w_iE ?_
    | with_reducible refine w_iZ ?_
    | with_reducible refine w_var (by with_unfolding_all rfl) ?_
    | with_reducible refine w_c ?_
    | with_reducible refine w_next ?_
    | with_reducible refine w_i0 ?_
    | with_reducible refine w_u1 ?_
    | with_reducible refine w_addI ?_
    | with_reducible refine w_eqI ?_
    | with_reducible refine w_eqS ?_
    | with_reducible refine w_eqB ?_
    | with_reducible refine w_neI ?_
    | with_reducible refine w_neS ?_
    | with_reducible refine w_neB ?_
    | with_reducible refine w_abs ?_
    | with_reducible refine w_intI ?_
    | with_reducible refine w_min2 ?_
    | with_reducible refine w_max2 ?_
    | with_reducible refine w_isN0 ?_
    | with_reducible refine w_isN1 ref_ne ?_
    | with_reducible refine w_isN1 int_ne ?_
    | with_reducible refine w_notN0 ?_
    | with_reducible refine w_notN1 ref_ne ?_
    | with_reducible refine w_notN1 int_ne ?_
    | with_reducible refine w_ex1 ?_
    | with_reducible refine w_n1 ?_
    | with_reducible refine w_n2 ?_
    | with_reducible refine w_tT ?_
    | with_reducible refine w_tF ?_
    | with_reducible refine w_nT ?_
    | with_reducible refine w_nF ?_
    | with_reducible refine w_rz ?_
    | with_reducible refine w_mkN ?_
    | with_reducible refine w_lrgN ?_
    | with_reducible refine w_rg1 ?_
    | with_reducible refine w_rg2 ?_
    | with_reducible refine w_sl ?_
    | with_reducible refine w_np ?_
    | with_reducible refine w_pt ?_
    | with_reducible refine w_tr ?_
    | with_reducible refine w_gn ?_
    | with_reducible refine w_yes ?_
    | with_reducible refine w_m1 ?_
    | with_reducible refine w_asu ?_
    | with_reducible refine w_exS ?_
    | with_reducible refine w_iS ?_
    | with_reducible refine w_g1 ?_
    | with_reducible refine w_gc ?_
    | with_reducible refine w_gt (SqT.of upd_same) rfl ?_)
local macro_rules
  | `(tactic| walk_at "g") => `(tactic| repeat walk_at "1")
local macro_rules
  | `(tactic| walk_at "j1") => `(tactic| first
    | with_reducible refine w_seqI ?_
    | walk_at "1")
local macro_rules
  | `(tactic| walk_at "j") => `(tactic| repeat walk_at "j1")
section
variable {K : PySem.W.Frag} {mg : Str → Option Value}
theorem num9_of {l : List Int} (h : ∀ v, v < l.length → 0 ≤ gI l v ∧ gI l v ≤ 100) : Num9 l := by
  intro i hi
  obtain ⟨j, hj⟩ := List.getElem?_of_mem hi
  have := h j (List.getElem?_eq_some_iff.mp hj).1
  rw [gI_of hj] at this
  omega
theorem gI_at' {l : List Int} {j : Nat} {v : Int} (h : l[j]? = some v) : gI l j = v ∧ j < l.length := ⟨gI_of h, (List.getElem?_eq_some_iff.mp h).1⟩
theorem len__read_rights (K : PySem.W.Frag) : ∀ vs H Q E, sp__read_rights K vs H Q E → vs.length = (["text"] : List Str).length := by
  rintro vs H Q E ⟨_, _, rfl, _⟩
  rfl
theorem rd__read_rights (T : Txt K mg) (vs : List V) (H : Hp) (Q : VK) (E : XK) (h : sp__read_rights K vs H Q E) : t__read_rights K E { nx := fun _ H' => Q .non H', rt := Q } (start ["text", "rights", "size", "node", "link"] vs) H := by
  obtain ⟨n, l, rfl, hn, hl, hb, g⟩ := h
  unfold t__read_rights
  have h9 : Num9 l := num9_of fun v hv => by have := hb v (by omega); omega
  walk_at "g"
  refine ⟨l, 0, rfl, (fun z => by rw [z] at hl; simp at hl), h9, by omega, fun a H1 na k1 ha => ?_⟩
  walk_at "g"
  refine w_lenL (SqL.of ha) ?_
  walk_at "g"
  have lm : (l.map V.int).length = n + 1 := by rw [List.length_map, hl]
  rw [lm, show (((n + 1 : Nat) : Int) - 1) = (n : Int) by omega]
  walk_at "g"
  refine w_iteD (fun c => absurd c (by omega)) (fun _ => ?_)
  walk_at "g"
  refine ⟨a, _, rfl, SqL.of ha, cp_enum (SqL.of ha) (fun j => List.replicate j (V.bl true)) (fun j hj => sz_lt (by rw [List.length_replicate]; omega)) rfl (fun i x Tq H' S N hx k nT yes _ => ?_) (fun D H2 nD k2 hD => ?_)⟩
  · obtain ⟨v, hv, rfl⟩ := at_map hx
    obtain ⟨ev, lt⟩ := gI_at' hv
    have b := hb i (by omega)
    rw [ev] at b
    have kT : Kp [] H' (upd H' Tq (.tup [.int (i : Int), .int v])) := Kp.new nT
    walk_at "g"
    refine ⟨rfl, ?_⟩
    walk_at "g"
    refine w_iteD (fun _ => ?_) (fun c => absurd b.1 c)
    walk_at "g"
    refine yes _ _ kT ?_
    rw [rep_snoc, decide_eq_true b.2]
  · rw [lm] at hD
    walk_at "g"
    refine w_allT (SqL.of hD) ?_
    walk_at "g"
    exact g a H2 na (k1.trans k2) (k2.at0 ha)
theorem len__read_lefts (K : PySem.W.Frag) : ∀ vs H Q E, sp__read_lefts K vs H Q E → vs.length = (["text", "size"] : List Str).length := by
  rintro vs H Q E ⟨_, _, rfl, _⟩
  rfl
theorem rd__read_lefts (T : Txt K mg) (vs : List V) (H : Hp) (Q : VK) (E : XK) (h : sp__read_lefts K vs H Q E) : t__read_lefts K E { nx := fun _ H' => Q .non H', rt := Q } (start ["text", "size", "lefts", "place", "link"] vs) H := by
  obtain ⟨n, l, rfl, hn, hl, hb, g⟩ := h
  unfold t__read_lefts
  have h9 : Num9 l := num9_of fun v hv => by have := hb v (by omega); omega
  walk_at "g"
  refine ⟨l, 1, rfl, (fun z => by rw [z] at hl; simp at hl), h9, by omega, fun a H1 na k1 ha => ?_⟩
  walk_at "g"
  refine w_lenL (SqL.of ha) ?_
  walk_at "g"
  have lm : (l.map V.int).length = n + 1 := by rw [List.length_map, hl]
  rw [lm]
  refine w_iteN (fun c => absurd (by omega) c) (fun _ => ?_)
  walk_at "g"
  refine ⟨a, _, rfl, SqL.of ha, cp_enum (SqL.of ha) (fun j => List.replicate j (V.bl true)) (fun j hj => sz_lt (by rw [List.length_replicate]; omega)) rfl (fun i x Tq H' S N hx k nT yes _ => ?_) (fun D H2 nD k2 hD => ?_)⟩
  · obtain ⟨v, hv, rfl⟩ := at_map hx
    obtain ⟨ev, lt⟩ := gI_at' hv
    have b := hb i (by omega)
    rw [ev] at b
    have kT : Kp [] H' (upd H' Tq (.tup [.int (i : Int), .int v])) := Kp.new nT
    walk_at "g"
    refine ⟨rfl, ?_⟩
    walk_at "g"
    refine yes _ _ kT ?_
    rw [rep_snoc, decide_eq_true b.2]
  · rw [lm] at hD
    walk_at "g"
    refine w_allT (SqL.of hD) ?_
    walk_at "g"
    exact g a H2 na (k1.trans k2) (k2.at0 ha)
theorem outN_sorted (n : Nat) (O : List Bool) : (outN n O).Pairwise (· < ·) := by
  unfold outN
  refine List.Pairwise.map (R := fun a b : Nat => a < b) _ (fun a b h => ?_) (List.Pairwise.filter (R := fun a b : Nat => a < b) _ (List.Pairwise.map (R := fun a b : Nat => a < b) (S := fun a b : Nat => a < b) _ (fun a b h => ?_) (List.pairwise_lt_range (n := n))))
  · exact Int.ofNat_lt.mpr h
  · exact Nat.succ_lt_succ h
theorem bounds_sorted (n : Nat) (O : List Bool) : ([0] ++ outN n O ++ [(n : Int) + 1]).Pairwise (· < ·) := by
  refine List.pairwise_append.mpr ⟨List.pairwise_append.mpr ⟨List.pairwise_singleton _ _, outN_sorted n O, fun a ha b hb => ?_⟩, List.pairwise_singleton _ _, fun a ha b hb => ?_⟩
  · have := outN_bd hb
    rw [List.mem_singleton] at ha
    omega
  · rw [List.mem_singleton] at hb
    rcases List.mem_append.mp ha with ha | ha
    · rw [List.mem_singleton] at ha
      omega
    · have := outN_bd ha
      omega
theorem outN_9 {n : Nat} (h : n ≤ 60) (O : List Bool) : Num9 (outN n O) := fun i hi => by
  have := outN_bd hi
  omega
theorem len__read_outs (K : PySem.W.Frag) : ∀ vs H Q E, sp__read_outs K vs H Q E → vs.length = (["text", "size"] : List Str).length := by
  rintro vs H Q E ⟨_, _, rfl, _⟩
  rfl
theorem rd__read_outs (T : Txt K mg) (vs : List V) (H : Hp) (Q : VK) (E : XK) (h : sp__read_outs K vs H Q E) : t__read_outs K E { nx := fun _ H' => Q .non H', rt := Q } (start ["text", "size", "outs", "bounds", "low", "high"] vs) H := by
  obtain ⟨n, O, rfl, hn, g⟩ := h
  unfold t__read_outs
  by_cases e : outN n O = []
  · rw [e] at g ⊢
    have eo : outsT [] = ("none" : Str) := if_pos rfl
    rw [eo]
    walk_at "g"
    refine w_iteD (fun _ => ?_) (fun c => absurd rfl c)
    walk_at "g"
    refine ⟨sz_ok (Nat.zero_le _), nw fun q H1 nq k1 hq => ?_⟩
    exact g q H1 nq k1 hq
  · have eo : outsT (outN n O) = joinI (outN n O) := if_neg e
    have h9 := outN_9 hn O
    have ol := outN_len n O
    rw [eo]
    walk_at "g"
    refine w_iteD (fun c => absurd c (joinI_ne_none e fun i hi => (h9 i hi).1)) (fun _ => ?_)
    walk_at "g"
    refine ⟨outN n O, 2, rfl, e, h9, by omega, fun a H1 na k1 ha => ?_⟩
    walk_at "g"
    refine ⟨sz_ok (by show 1 ≤ 1000000; omega), nw fun z H2 nz k2 hz => ?_⟩
    walk_at "g"
    refine w_addLN hz (k2.at0 ha) (sz_ok (by rw [List.length_map]; show 1 + _ ≤ _; omega)) fun b H3 nb k3 hb => ?_
    walk_at "g"
    refine ⟨sz_ok (by show 1 ≤ 1000000; omega), nw fun z2 H4 nz2 k4 hz2 => ?_⟩
    walk_at "g"
    refine w_addLN (k4.at0 hb) hz2 (sz_ok (by rw [List.length_append, List.length_map]; show 1 + _ + 1 ≤ _; omega)) fun c H5 nc k5 hc => ?_
    have hc' : H5 c = some (.lst (([0] ++ outN n O ++ [(n : Int) + 1]).map V.int)) := by
      rw [hc, List.map_append, List.map_append] <;> rfl
    have so := bounds_sorted n O
    generalize eB : ([0] ++ outN n O ++ [(n : Int) + 1]) = B at hc' so
    have lB : B.length = (outN n O).length + 2 := by
      rw [← eB, List.length_append, List.length_append]
      show 1 + _ + 1 = _
      omega
    have a5 := ((k2.trans k3).trans (k4.trans k5)).at0 ha
    have k15 := (k1.trans ((k2.trans k3).trans (k4.trans k5)))
    walk_at "g"
    refine w_slL (SqL.of hc') fun d H6 nd k6 hd => ?_
    have e1 : cutV (B.map V.int) (some 1) none = (B.map V.int).drop 1 := cut_drop _ 1 (by rw [List.length_map]; omega)
    rw [e1, ← List.map_drop] at hd
    walk_at "g"
    refine ⟨c, d, _, _, rfl, SqL.of (k6.at0 hc'), SqL.of hd, cp_zip (SqL.of (k6.at0 hc')) (SqL.of hd) (by rw [List.length_map, List.length_map, List.length_drop]; omega) (fun j => List.replicate j (V.bl true)) (fun j hj => sz_lt (by rw [List.length_map, List.length_drop] at hj; rw [List.length_replicate]; omega)) rfl (fun i x y Tq H' S N hx hy k nT yes _ => ?_) (fun D H7 nD k7 hD => ?_)⟩
    · obtain ⟨v, hv, rfl⟩ := at_map hx
      obtain ⟨u, hu, rfl⟩ := at_map hy
      rw [List.getElem?_drop] at hu
      have lt : v < u := by
        obtain ⟨h1, e1⟩ := List.getElem?_eq_some_iff.mp hv
        obtain ⟨h2, e2⟩ := List.getElem?_eq_some_iff.mp hu
        have := List.pairwise_iff_getElem.mp so i (1 + i) h1 h2 (by omega)
        rw [e1, e2] at this
        exact this
      have kT : Kp [] H' (upd H' Tq (.tup [.int v, .int u])) := Kp.new nT
      walk_at "g"
      refine ⟨rfl, ?_⟩
      walk_at "g"
      refine yes _ _ kT ?_
      rw [rep_snoc, decide_eq_true lt]
    · walk_at "g"
      refine w_allT (SqL.of hD) ?_
      walk_at "g"
      exact g a H7 na ((k15.trans k6).trans k7) (k7.at0 (k6.at0 a5))
theorem log_ok {i : Int} (h : 0 ≤ i) (h2 : i < 1000000000) : i.natAbs.log2 < 1920 := by
  by_cases z : i.natAbs = 0
  · rw [z]
    decide
  · rw [Nat.log2_lt z]
    exact Nat.lt_of_lt_of_le (show i.natAbs < 2 ^ 30 by omega) (Nat.pow_le_pow_right (by decide) (by decide))
theorem len__joined (K : PySem.W.Frag) : ∀ vs H Q E, sp__joined K vs H Q E → vs.length = (["numbers"] : List Str).length := by
  rintro vs H Q E ⟨_, _, rfl, _⟩
  rfl
theorem rd__joined (T : Txt K mg) (vs : List V) (H : Hp) (Q : VK) (E : XK) (h : sp__joined K vs H Q E) : t__joined K E { nx := fun _ H' => Q .non H', rt := Q } (start ["numbers", "number"] vs) H := by
  obtain ⟨a, l, rfl, ha, h9, hl, g⟩ := h
  unfold t__joined
  walk_at "g"
  refine w_l1 ha ?_
  refine cp_lst ha (fun j => (l.take j).map fun i => V.str (numI i)) (fun j hj => sz_lt (by rw [List.length_map, List.length_take]; omega)) rfl (fun j x H' S N hx k y _ => ?_) (fun D H1 nD k1 hD => ?_)
  · obtain ⟨v, hv, rfl⟩ := at_map hx
    have b := h9 v (List.mem_of_getElem? hv)
    walk_at "g"
    refine ⟨rfl, ?_⟩
    walk_at "g"
    refine w_str (log_ok b.1 b.2) ?_
    exact y _ _ (Kp.refl _ _) (map_snoc (f := fun i => V.str (numI i)) hv)
  · rw [List.length_map, List.take_length] at hD
    have e : (l.map fun i => V.str (numI i)) = (l.map numI).map V.str := by rw [List.map_map] <;> rfl
    rw [e] at hD
    exact w_joinL (SqL.of hD) (join_cost h9 (by omega)) (g H1 k1)
theorem outsT_len {l : List Int} (h : Num9 l) : (outsT l).length ≤ 10 * l.length + 4 := by
  unfold outsT
  split
  · have : noneS.length = 4 := by decide +kernel
    omega
  · have := joinI_len h
    omega
theorem len_dump_of (K : PySem.W.Frag) : ∀ vs H Q E, sp_dump_of K vs H Q E → vs.length = (["rights", "lefts", "outs"] : List Str).length := by
  rintro vs H Q E ⟨_, _, _, _, _, _, rfl, _⟩
  rfl
theorem rd_dump_of (T : Txt K mg) (vs : List V) (H : Hp) (Q : VK) (E : XK) (h : sp_dump_of K vs H Q E) : t_dump_of K E { nx := fun _ H' => Q .non H', rt := Q } (start ["rights", "lefts", "outs"] vs) H := by
  obtain ⟨r, l, o, R, L, O, rfl, hr, hl, ho, ⟨R9, Rl⟩, ⟨L9, Ll⟩, ⟨O9, Ol⟩, g⟩ := h
  unfold t_dump_of
  walk_at "g"
  refine ⟨r, R, rfl, hr, R9, Rl, fun H1 k1 => ?_⟩
  walk_at "g"
  refine ⟨l, L, rfl, k1.sql (by simp) hl, L9, Ll, fun H2 k2 => ?_⟩
  walk_at "g"
  have ho2 := (k1.trans k2).sql (by simp) ho
  refine w_truL ho2 ?_
  have R10 := joinI_len R9
  have L10 := joinI_len L9
  have O10 := outsT_len O9
  have cost : ([joinI R, joinI L, outsT O].map (·.length)).sum + [joinI R, joinI L, outsT O].length * (" | " : Str).length ≤ 16777216 := by
    have e : (" | " : Str).length = 3 := by decide +kernel
    rw [e]
    show (joinI R).length + ((joinI L).length + ((outsT O).length + 0)) + 3 * 3 ≤ _
    omega
  cases O with
  | nil =>
    have eo : outsT [] = ("none" : Str) := if_pos rfl
    refine w_tF (A := _) ?_
    walk_at "g"
    refine ⟨sz_ok (by show 3 ≤ 1000000; omega), nw fun q H4 nq k4 hq => ?_⟩
    rw [eo] at g cost
    exact w_joinL (ss := [joinI R, joinI L, ("none" : Str)]) (SqL.of hq) cost (g H4 ((k1.trans k2).trans k4))
  | cons a t =>
    have eo : outsT (a :: t) = joinI (a :: t) := if_neg (by simp)
    refine w_tT (B := _) ?_
    walk_at "g"
    refine ⟨o, a :: t, rfl, ho2, O9, Ol, fun H3 k3 => ?_⟩
    walk_at "g"
    refine ⟨sz_ok (by show 3 ≤ 1000000; omega), nw fun q H4 nq k4 hq => ?_⟩
    rw [eo] at g cost
    exact w_joinL (ss := [joinI R, joinI L, joinI (a :: t)]) (SqL.of hq) cost (g H4 (((k1.trans k2).trans k3).trans k4))
theorem Wf.R9 {s : Sd} (w : Wf s) : Num9 s.R ∧ s.R.length ≤ 100 := by
  have n60 := w.n60
  have lR := w.lR
  refine ⟨num9_of fun v hv => ?_, by omega⟩
  have := w.rb v (by omega)
  omega
theorem Wf.L9 {s : Sd} (w : Wf s) : Num9 (s.L.drop 1) ∧ (s.L.drop 1).length ≤ 100 := by
  have n60 := w.n60
  have lL := w.lL
  have ll : (s.L.drop 1).length = s.n + 1 := by rw [List.length_drop]; omega
  refine ⟨num9_of fun v hv => ?_, by omega⟩
  have e : gI (s.L.drop 1) v = gI s.L (v + 1) := by
    unfold gI
    rw [List.getD_eq_getElem?_getD, List.getD_eq_getElem?_getD, List.getElem?_drop, Nat.add_comm]
  have := w.lb (v + 1) (by omega) (by omega)
  rw [e]
  omega
theorem len_Links_dump (K : PySem.W.Frag) : ∀ vs H Q E, sp_Links_dump K vs H Q E → vs.length = (["self"] : List Str).length := by
  rintro vs H Q E ⟨_, _, _, _, _, rfl, _⟩
  rfl
theorem rd_Links_dump (T : Txt K mg) (vs : List V) (H : Hp) (Q : VK) (E : XK) (h : sp_Links_dump K vs H Q E) : t_Links_dump K E { nx := fun _ H' => Q .non H', rt := Q } (start ["self"] vs) H := by
  obtain ⟨p, r, l, o, s, rfl, a, g⟩ := h
  unfold t_Links_dump
  have n60 := a.wf.n60
  have lL := a.wf.lL
  walk_at "g"
  refine w_fR T.cl_Links T.na_Links__rights a ?_
  walk_at "g"
  refine w_fL T.cl_Links T.na_Links__lefts a ?_
  walk_at "g"
  refine w_slL (SqL.of a.hl) fun q H1 nq k1 hq => ?_
  have e1 : cutV (s.L.map V.int) (some 1) none = (s.L.map V.int).drop 1 := cut_drop _ 1 (by rw [List.length_map]; omega)
  rw [e1, ← List.map_drop] at hq
  walk_at "g"
  have a1 := a.k0 k1
  refine w_me a1 no_m ?_
  walk_at "g"
  refine ⟨p, r, l, o, s, rfl, a1, fun u H2 nu k2 hu => ?_⟩
  walk_at "g"
  exact ⟨r, q, u, s.R, _, _, rfl, SqL.of (k2.at0 a1.hr), SqL.of (k2.at0 hq), SqL.of hu, a.wf.R9, a.wf.L9, ⟨outN_9 n60 s.O, by have := outN_len s.n s.O; omega⟩, fun H3 k3 => g H3 ((k1.trans k2).trans k3)⟩
theorem split_dump {s : Sd} (w : Wf s) : Txt.split (dumpS s) barS = [joinI s.R, joinI (s.L.drop 1), outsT (outN s.n s.O)] := by
  refine split_bar (good_joinI ?_ fun i hi => (w.R9.1 i hi).1) (good_joinI ?_ fun i hi => (w.L9.1 i hi).1) ?_
  · intro z
    have := w.lR
    rw [z] at this
    simp at this
  · intro z
    have := w.lL
    have := congrArg List.length z
    rw [List.length_drop] at this
    simp at this
    omega
  · unfold outsT
    split
    · exact good_none
    · rename_i h
      exact good_joinI h fun i hi => (outN_9 w.n60 s.O i hi).1
theorem dump_len {s : Sd} (w : Wf s) : (dumpS s).length + 2 ≤ sizeLine := by
  have h1 := joinI_len w.R9.1
  have h2 := joinI_len w.L9.1
  have h3 := outsT_len (outN_9 w.n60 s.O)
  have h4 := w.R9.2
  have h5 := w.L9.2
  have h6 := outN_len s.n s.O
  have h7 := w.n60
  unfold dumpS
  rw [TL.len_tl, TL.join_eq, TL.tl_join, tl_barS]
  refine sz_ok ?_
  have := joinL_len [32, 124, 32] [TL.tl (joinI s.R), TL.tl (joinI (s.L.drop 1)), TL.tl (outsT (outN s.n s.O))]
  rw [TL.len_tl] at h1 h2 h3
  simp only [List.map_cons, List.map_nil, List.sum_cons, List.sum_nil, List.length_cons, List.length_nil] at this ⊢
  omega
theorem gB_ext {a b : List Bool} (hl : a.length = b.length) (h : ∀ v, v < a.length → gB a v = gB b v) : a = b := by
  refine List.ext_getElem hl fun i h1 h2 => ?_
  have := h i h1
  unfold gB at this
  rw [List.getD_eq_getElem?_getD, List.getD_eq_getElem?_getD, List.getElem?_eq_getElem h1, List.getElem?_eq_getElem h2] at this
  exact this
theorem mem_outN {n : Nat} {O : List Bool} {v : Nat} (h1 : 1 ≤ v) (h2 : v ≤ n) : ((v : Int) ∈ outN n O) ↔ gB O v = true := by
  constructor
  · intro h
    have := (outN_bd h).2.2
    rwa [Int.toNat_natCast] at this
  · intro h
    unfold outN
    refine List.mem_map.mpr ⟨v, List.mem_filter.mpr ⟨List.mem_map.mpr ⟨v - 1, List.mem_range.mpr (by omega), by omega⟩, h⟩, rfl⟩
theorem len_Links_read (K : PySem.W.Frag) : ∀ vs H Q E, sp_Links_read K vs H Q E → vs.length = (["text"] : List Str).length := by
  rintro vs H Q E ⟨_, rfl, _⟩
  rfl
theorem rd_Links_read (T : Txt K mg) (vs : List V) (H : Hp) (Q : VK) (E : XK) (h : sp_Links_read K vs H Q E) : t_Links_read K E { nx := fun _ H' => Q .non H', rt := Q } (start ["text", "parts", "rights", "lefts", "outs", "right_links", "links", "node"] vs) H := by
  obtain ⟨s, rfl, w, d, g⟩ := h
  unfold t_Links_read
  have n60 := w.n60
  have lR := w.lR
  have lL := w.lL
  have lO := w.lO
  have e1 : (" | " : Str) = barS := rfl
  rw [e1]
  walk_at "g"
  refine w_split (by decide +kernel) (dump_len w) fun q H1 nq k1 hq => ?_
  rw [split_dump w] at hq
  walk_at "g"
  refine ⟨sz_ok (by show 2 ≤ 1000000; omega), nw fun z H2 nz k2 hz => ?_⟩
  walk_at "g"
  refine w_addLN (k2.at0 hq) hz (sz_ok (by show 3 + 2 ≤ 1000000; omega)) fun z3 H3 nz3 k3 hz3 => ?_
  walk_at "g"
  refine w_slL (SqL.of hz3) fun z4 H4 nz4 k4 hz4 => ?_
  have hz4' : H4 z4 = some (.lst [.str (joinI s.R), .str (joinI (s.L.drop 1)), .str (outsT (outN s.n s.O))]) := hz4
  walk_at "g"
  refine w_gu (SqL.of hz4') rfl ?_
  walk_at "g"
  have k14 := (k1.trans k2).trans (k3.trans k4)
  refine ⟨s.n, s.R, rfl, n60, lR, w.rb, fun rr H5 nrr k5 hrr => ?_⟩
  walk_at "g"
  refine w_lenL (SqL.of hrr) ?_
  walk_at "g"
  rw [show (s.R.map V.int).length = s.n + 1 by rw [List.length_map, lR], show (((s.n + 1 : Nat) : Int) - 1) = (s.n : Int) by omega]
  refine mk fun x dx H6 nx hx k6 => ?_
  refine ⟨x, dx, s.n, rfl, hx, fun ok r0 l0 o H7 nr0 nl0 no k7 b => ⟨rfl, ?_⟩, fun zz => absurd ⟨by omega, by omega⟩ zz⟩
  rw [Int.toNat_natCast] at b
  have k57 : Kp [] H5 H7 := (k6.all.trans k7).cut1 nx
  have hrr7 := k57.at0 hrr
  obtain ⟨dx7, ob7⟩ := b.ob
  have xrr : x ≠ rr := (ne_of_none hrr nx).symm
  walk_at "g"
  refine w_sT T.cl_Links T.na_Links__rights ob7 (fl_len _ _ _ _) fun H8 k8 p8 => ?_
  rw [fl_putR] at p8
  walk_at "g"
  refine ⟨sz_ok (by show 1 ≤ 1000000; omega), nw fun z9 H9 nz9 k9 hz9 => ?_⟩
  walk_at "g"
  refine ⟨x, _, dx7, _, _, rfl, k9.at0 p8, T.cl_Links, T.na_Links_size, fl_size _ _ _ _, ?_⟩
  walk_at "g"
  have p9 := k9.at0 p8
  refine ⟨s.n, s.L.drop 1, rfl, n60, by rw [List.length_drop]; omega, fun v hv => ?_, fun la Ha nla ka hla => ?_⟩
  · have e : gI (s.L.drop 1) v = gI s.L (v + 1) := by
      unfold gI
      rw [List.getD_eq_getElem?_getD, List.getD_eq_getElem?_getD, List.getElem?_drop, Nat.add_comm]
    have := w.lb (v + 1) (by omega) (by omega)
    rw [e]
    omega
  walk_at "g"
  refine w_addLN (ka.at0 hz9) hla (sz_ok (by rw [List.length_map, List.length_drop]; show 1 + _ ≤ _; omega)) fun lb Hb nlb kb hlb => ?_
  obtain ⟨t, eL⟩ := d.l0
  have hlb' : Hb lb = some (.lst (s.L.map V.int)) := by
    rw [hlb, eL] <;> rfl
  walk_at "g"
  have pb := kb.at0 (ka.at0 p9)
  have xlb : x ≠ lb := ne_of_none (ka.at0 p9) nlb
  refine w_sT T.cl_Links T.na_Links__lefts pb (fl_len _ _ _ _) fun Hc kc pc => ?_
  rw [fl_putL] at pc
  have k7b : Kp [x] H7 Hb := k8.trans ((k9.trans (ka.trans kb)).all)
  have k7c : Kp [x] H7 Hc := k7b.trans kc
  obtain ⟨bpr, bpl, bpo⟩ := b.pr
  have hrc : Hc rr = some (.lst (s.R.map V.int)) := k7c.at1 (Ne.symm xrr) hrr7
  have hlc : Hc lb = some (.lst (s.L.map V.int)) := kc.at1 (Ne.symm xlb) hlb'
  have hoc : Hc o = some (.lst ((List.replicate (s.n + 2) false).map V.bl)) := k7c.at1 (Ne.symm bpo) b.ho
  have hqc : Hc q = some (.lst ([joinI s.R, joinI (s.L.drop 1), outsT (outN s.n s.O)].map V.str)) := by
    have h5 : H5 q = _ := k5.at0 ((k2.trans (k3.trans k4)).at0 hq)
    exact k7c.at1 (ne_of_none h5 nx) (k57.at0 h5)
  walk_at "g"
  refine ⟨x, _, dx7, _, _, rfl, pc, T.cl_Links, T.na_Links_size, fl_size _ _ _ _, ?_⟩
  walk_at "g"
  refine ⟨s.n, s.O, rfl, n60, fun u Hd nu kd hu => ?_⟩
  walk_at "g"
  have k1c : Kp [] H Hc := ((k14.trans k5).trans k57).all.trans k7c |>.cut1 ((k14.trans k5).free0 nx)
  have fo : Hc o ≠ none := by rw [hoc]; simp
  have ou : o ≠ u := ne_of_none hoc nu
  have xu : x ≠ u := ne_of_none pc nu
  have nol : lb ≠ o := by
    intro z
    rw [z] at nlb
    have h8 : H8 o = _ := k8.at1 (Ne.symm bpo) b.ho
    rw [ka.at0 (k9.at0 h8)] at nlb
    cases nlb
  have nor : rr ≠ o := by
    intro z
    rw [z] at hrr
    rw [k6.at0 hrr] at no
    cases no
  have noq : q ≠ o := by
    intro z
    have h5 : H5 q = _ := k5.at0 ((k2.trans (k3.trans k4)).at0 hq)
    rw [z] at h5
    rw [k6.at0 h5] at no
    cases no
  refine w_l1 (SqL.of hu) ?_
  refine lp_lst (xs := (outN s.n s.O).map V.int) (fun i σ H' => (∃ y, σ = [some (.str (dumpS s)), some (.ref q), some (.str (joinI s.R)), some (.str (joinI (s.L.drop 1))), some (.str (outsT (outN s.n s.O))), some (.ref rr), some (.ref x), y]) ∧ Kp [o] Hd H' ∧
    ∃ fl : List Bool, H' o = some (.lst (fl.map V.bl)) ∧ fl.length = s.n + 2 ∧ ∀ v : Nat, gB fl v = decide ((v : Int) ∈ (outN s.n s.O).take i)) ⟨⟨_, rfl⟩, Kp.refl _ _, _, kd.at0 hoc, List.length_replicate, fun v => ?_⟩ ?_ ?_ ?_
  · rw [List.take_zero, decide_eq_false (by simp)]
    unfold gB
    rw [List.getD_eq_getElem?_getD]
    by_cases h : v < s.n + 2
    · rw [List.getElem?_replicate_of_lt h] <;> rfl
    · rw [List.getElem?_eq_none (by rw [List.length_replicate]; omega)] <;> rfl
  · rintro i σ' H' hi ⟨_, k, _⟩
    exact SqL.of (k.at1 (Ne.symm ou) hu)
  · rintro i v σ' H' hv ⟨⟨y, rfl⟩, k, fl, hf, hl, hfl⟩
    obtain ⟨nd, hnd, rfl⟩ := at_map hv
    have bd := outN_bd (List.mem_of_getElem? hnd)
    walk_at "g"
    refine ⟨x, _, dx7, _, _, rfl, k.at1 (by rintro rfl; exact bpo rfl) (kd.at0 pc), T.cl_Links, T.na_Links__out, fl_O _ _ _ _, ?_⟩
    walk_at "g"
    refine w_seT hf (ixN_pos (by omega) (by rw [List.length_map, hl]; omega)) fun He ke he => ?_
    rw [set_B] at he
    refine ⟨⟨_, rfl⟩, k.trans ke, _, he, by rw [List.length_set, hl], fun u => ?_⟩
    rw [gB_set (by rw [hl]; omega), take_snoc hnd]
    by_cases c : u = nd.toNat
    · rw [if_pos c]
      symm
      refine decide_eq_true (List.mem_append.mpr (.inr (List.mem_singleton.mpr (by omega))))
    · rw [if_neg c, hfl u]
      refine decide_eq_decide.mpr ⟨fun h => List.mem_append.mpr (.inl h), fun h => ?_⟩
      rcases List.mem_append.mp h with h | h
      · exact h
      · rw [List.mem_singleton] at h
        omega
  · rintro σ' H' ⟨⟨y, rfl⟩, k, fl, hf, hl, hfl⟩
    rw [List.length_map, List.take_length] at hfl
    have eO : fl = s.O := by
      refine gB_ext (by rw [hl, lO]) fun v hv => ?_
      rw [hfl v]
      by_cases v0 : v = 0
      · subst v0
        rw [d.o0]
        exact decide_eq_false fun z => by have := outN_bd z; omega
      by_cases v1 : v = s.n + 1
      · subst v1
        rw [d.o1]
        exact decide_eq_false fun z => by have := outN_bd z; omega
      have := mem_outN (n := s.n) (O := s.O) (v := v) (by omega) (by omega)
      by_cases c : gB s.O v = true
      · rw [c]
        exact decide_eq_true (this.mpr c)
      · rw [Bool.not_eq_true] at c
        rw [c]
        exact decide_eq_false fun z => by rw [this.mp z] at c; cases c
    subst eO
    walk_at "g"
    refine w_lenL (SqL.of (k.at1 noq (kd.at0 hqc))) ?_
    walk_at "g"
    refine w_iteD (fun c => absurd c (by rw [List.length_map]; show ¬ (3 : Int) < ((3 : Nat) : Int); omega)) (fun _ => ?_)
    walk_at "g"
    have fo' : H o = none := ((k14.trans k5).trans k6).free0 no
    have kH : Kp [] H H' := ((k1c.trans kd).all.trans k).cut1 fo'
    have hra : Ha rr = some (.lst (s.R.map V.int)) := ka.at0 (k9.at0 (k8.at1 (Ne.symm xrr) hrr7))
    have k7a : Kp [x] H Ha := (((k14.trans k5).trans k57).all.trans k8).trans (k9.trans ka).all
    refine g x rr lb o H' ((k14.trans k5).free0 nx) (k14.free0 nrr) (k7a.free (by simpa using Ne.symm xlb) nlb) fo' kH ⟨⟨dx7, k.at1 (by rintro rfl; exact bpo rfl) (kd.at0 pc)⟩, k.at1 nor (kd.at0 hrc), k.at1 nol (kd.at0 hlc), hf, ne_of_none hra nlb, nor, nol, w⟩
end
end G

set_option Elab.async false
set_option linter.all false
set_option maxRecDepth 100000
set_option maxHeartbeats 1000000
namespace G
--#FAM KF
--#FAM KC
open PySem PySem.Spec PyProof.Rows L2
local macro_rules
  | `(tactic| walk_at "1") => `(tactic| first
    | with_reducible refine w_seq ?_
    | with_reducible refine w_asg ?_
    | with_reducible refine w_asgS ?_
    | with_reducible refine w_asf ?_
    | with_reducible refine w_drop ?_
    | with_reducible refine w_ret ?_
    | with_reducible refine w_if ?_
    | with_reducible refine w_not ?_
    | with_reducible refine w_and ?_
    | with_reducible refine w_or ?_
    | with_reducible refine w_test ?_
    | with_reducible refine w_tb ?_
    | with_reducible refine w_chain ?_
    | with_reducible refine w_op ?_
    | with_reducible refine w_un ?_
    | with_reducible refine w_andV ?_
    | with_reducible refine w_orV ?_
    | with_reducible refine w_notV ?_
    | with_reducible refine w_ifE ?_
    | with_reducible refine w_cons ?_
    | with_reducible refine w_nil ?_
    | with_reducible refine w_cb ?_
    | with_reducible refine w_cl ?_
    | with_reducible refine w_mt ?_
    | with_reducible refine w_fld ?_
    | with_reducible refine w_tupN ?_
    | with_reducible refine w_lstN ?_
    | with_reducible refine w_bm ?_
    | with_reducible refine w_bm0 ?_
    | with_reducible refine w_for ?_
    | with_reducible refine w_lc ?_
    | with_reducible refine w_iR1 ?_
    | with_reducible refine w_iR2 ?_
    | with_reducible refine w_iL ?_
    | with_reducible refine w_iT ?_
    | with_reducible refine w_iE ?_
    | with_reducible refine w_iZ ?_
    | with_reducible refine w_var (by with_unfolding_all rfl) ?_
    | with_reducible refine w_c ?_
    | with_reducible refine w_next ?_
    | with_reducible refine w_i0 ?_
    | with_reducible refine w_u1 ?_
    | with_reducible refine w_addI ?_
    | with_reducible refine w_eqI ?_
    | with_reducible refine w_eqS ?_
    | with_reducible refine w_eqB ?_
    | with_reducible refine w_neI ?_
    | with_reducible refine w_neS ?_
    | with_reducible refine w_neB ?_
    | with_reducible refine w_abs ?_
    | with_reducible refine w_intI ?_
    | with_reducible refine w_min2 ?_
    | with_reducible refine w_max2 ?_
    | with_reducible refine w_isN0 ?_
    | with_reducible refine w_isN1 ref_ne ?_
    | with_reducible refine w_isN1 int_ne ?_
    | with_reducible refine w_notN0 ?_
    | with_reducible refine w_notN1 ref_ne ?_
    | with_reducible refine w_notN1 int_ne ?_
    | with_reducible refine w_ex1 ?_
    | with_reducible refine w_n1 ?_
    | with_reducible refine w_n2 ?_
    | with_reducible refine w_tT ?_
    | with_reducible refine w_tF ?_
    | with_reducible refine w_nT ?_
    | with_reducible refine w_nF ?_
    | with_reducible refine w_rz ?_
    | with_reducible refine w_mkN ?_
    | with_reducible refine w_lrgN ?_
    | with_reducible refine w_rg1 ?_
    | with_reducible refine w_rg2 ?_
    | with_reducible refine w_sl ?_
    | with_reducible refine w_np ?_
    | with_reducible refine w_pt ?_
    | with_reducible refine w_tr ?_
    | with_reducible refine w_gn ?_
    | with_reducible refine w_yes ?_
    | with_reducible refine w_m1 ?_
    | with_reducible refine w_asu ?_
    | with_reducible refine w_exS ?_
    | with_reducible refine w_iS ?_
    | with_reducible refine w_g1 ?_
    | with_reducible refine w_gc ?_
    | with_reducible refine w_gt (SqT.of upd_same) rfl ?_)
local macro_rules
  | `(tactic| walk_at "g") => `(tactic| repeat walk_at "1")
local macro_rules
  | `(tactic| walk_at "j1") => `(tactic| first
    | with_reducible refine w_seqI ?_
    | walk_at "1")
local macro_rules
  | `(tactic| walk_at "j") => `(tactic| repeat walk_at "j1")
section
variable {K : PySem.W.Frag} {mg : Str → Option Value}
theorem len__law_words (K : PySem.W.Frag) : ∀ vs H Q E, sp__law_words K vs H Q E → vs.length = (["told", "due"] : List Str).length := by
  rintro vs H Q E ⟨_, _, _, rfl, _⟩
  rfl
theorem rd__law_words (T : Txt K mg) (vs : List V) (H : Hp) (Q : VK) (E : XK) (h : sp__law_words K vs H Q E) : t__law_words K E { nx := fun _ H' => Q .non H', rt := Q } (start ["told", "due", "k"] vs) H := by
  obtain ⟨a, b, xs, rfl, hl, ha, hb, g⟩ := h
  unfold t__law_words
  walk_at "g"
  refine w_isiL (r := true) ha (by decide +kernel) ?_
  walk_at "g"
  refine w_lenL (SqL.of ha) ?_
  walk_at "g"
  refine w_lenL (SqL.of hb) ?_
  walk_at "g"
  rw [decide_eq_true rfl]
  walk_at "g"
  refine w_lenL (SqL.of hb) ?_
  walk_at "g"
  refine w_r1 (by rw [List.length_map]; omega) ?_
  refine lp_rng0 (fun i σ H' => H' = H ∧ ∃ v, σ = [some (.ref a), some (.ref b), v]) ⟨rfl, _, rfl⟩ ?_ ?_
  · rintro i σ' H' hi ⟨rfl, v, rfl⟩
    rw [List.length_map] at hi
    have li : i < xs.length := by omega
    have e1 : atI (xs.map V.str) (i : Int) = some (.str xs[i]) := by
      rw [atI_pos (by omega) (by rw [List.length_map]; omega), Int.toNat_natCast, List.getElem?_map, List.getElem?_eq_getElem li] <;> rfl
    walk_at "g"
    refine w_ixL (SqL.of ha) e1 ?_
    walk_at "g"
    refine w_isiS (r := true) (by decide +kernel) ?_
    walk_at "g"
    refine w_ixL (SqL.of ha) e1 ?_
    walk_at "g"
    refine w_ixL (SqL.of hb) e1 ?_
    walk_at "g"
    rw [decide_eq_true rfl]
    walk_at "g"
    exact ⟨rfl, _, rfl⟩
  · rintro σ' H' ⟨rfl, v, rfl⟩
    walk_at "g"
    exact g
theorem dpTr {H : Hp} (t : Tr) (h1 : PyData.strOk t.2.1 = true) (h2 : PyData.strOk t.2.2 = true) : ∃ ds, DpAll K H (trV t) ds ∧ SeqAt.shaped (.tuple ds) = true :=
  ⟨_, .cons (.int _) (.cons (.str _) (.cons (.str _) .nil)), by simp [h1, h2, SeqAt.shaped, PyData.canLay0, PyData.canLayAll0, PyData.depth, PyData.depthAll]⟩
end
end G

set_option Elab.async false
set_option linter.all false
set_option maxRecDepth 100000
set_option maxHeartbeats 1000000
namespace G
--#FAM KF
--#FAM KC
open PySem PySem.Spec PyProof.Rows L2
local macro_rules
  | `(tactic| walk_at "1") => `(tactic| first
    | with_reducible refine w_seq ?_
    | with_reducible refine w_asg ?_
    | with_reducible refine w_asgS ?_
    | with_reducible refine w_asf ?_
    | with_reducible refine w_drop ?_
    | with_reducible refine w_ret ?_
    | with_reducible refine w_if ?_
    | with_reducible refine w_not ?_
    | with_reducible refine w_and ?_
    | with_reducible refine w_or ?_
    | with_reducible refine w_test ?_
    | with_reducible refine w_tb ?_
    | with_reducible refine w_chain ?_
    | with_reducible refine w_op ?_
    | with_reducible refine w_un ?_
    | with_reducible refine w_andV ?_
    | with_reducible refine w_orV ?_
    | with_reducible refine w_notV ?_
    | with_reducible refine w_ifE ?_
    | with_reducible refine w_cons ?_
    | with_reducible refine w_nil ?_
    | with_reducible refine w_cb ?_
    | with_reducible refine w_cl ?_
    | with_reducible refine w_mt ?_
    | with_reducible refine w_fld ?_
    | with_reducible refine w_tupN ?_
    | with_reducible refine w_lstN ?_
    | with_reducible refine w_bm ?_
    | with_reducible refine w_bm0 ?_
    | with_reducible refine w_for ?_
    | with_reducible refine w_lc ?_
    | with_reducible refine w_iR1 ?_
    | with_reducible refine w_iR2 ?_
    | with_reducible refine w_iL ?_
    | with_reducible refine w_iT ?_
    | with_reducible refine w_iE ?_
    | with_reducible refine w_iZ ?_
    | with_reducible refine w_var (by with_unfolding_all rfl) ?_
    | with_reducible refine w_c ?_
    | with_reducible refine w_next ?_
    | with_reducible refine w_i0 ?_
    | with_reducible refine w_u1 ?_
    | with_reducible refine w_addI ?_
    | with_reducible refine w_eqI ?_
    | with_reducible refine w_eqS ?_
    | with_reducible refine w_eqB ?_
    | with_reducible refine w_neI ?_
    | with_reducible refine w_neS ?_
    | with_reducible refine w_neB ?_
    | with_reducible refine w_abs ?_
    | with_reducible refine w_intI ?_
    | with_reducible refine w_min2 ?_
    | with_reducible refine w_max2 ?_
    | with_reducible refine w_isN0 ?_
    | with_reducible refine w_isN1 ref_ne ?_
    | with_reducible refine w_isN1 int_ne ?_
    | with_reducible refine w_notN0 ?_
    | with_reducible refine w_notN1 ref_ne ?_
    | with_reducible refine w_notN1 int_ne ?_
    | with_reducible refine w_ex1 ?_
    | with_reducible refine w_n1 ?_
    | with_reducible refine w_n2 ?_
    | with_reducible refine w_tT ?_
    | with_reducible refine w_tF ?_
    | with_reducible refine w_nT ?_
    | with_reducible refine w_nF ?_
    | with_reducible refine w_rz ?_
    | with_reducible refine w_mkN ?_
    | with_reducible refine w_lrgN ?_
    | with_reducible refine w_rg1 ?_
    | with_reducible refine w_rg2 ?_
    | with_reducible refine w_sl ?_
    | with_reducible refine w_np ?_
    | with_reducible refine w_pt ?_
    | with_reducible refine w_tr ?_
    | with_reducible refine w_gn ?_
    | with_reducible refine w_yes ?_
    | with_reducible refine w_m1 ?_
    | with_reducible refine w_asu ?_
    | with_reducible refine w_exS ?_
    | with_reducible refine w_iS ?_
    | with_reducible refine w_g1 ?_
    | with_reducible refine w_gc ?_
    | with_reducible refine w_gt (SqT.of upd_same) rfl ?_)
local macro_rules
  | `(tactic| walk_at "g") => `(tactic| repeat walk_at "1")
local macro_rules
  | `(tactic| walk_at "j1") => `(tactic| first
    | with_reducible refine w_seqI ?_
    | walk_at "1")
local macro_rules
  | `(tactic| walk_at "j") => `(tactic| repeat walk_at "j1")
section
variable {K : PySem.W.Frag} {mg : Str → Option Value}
theorem outN_snoc (O : List Bool) (i : Nat) : outN (i + 1) O = outN i O ++ (if gB O (i + 1) then [((i + 1 : Nat) : Int)] else []) := by
  unfold outN
  rw [List.range_succ, List.map_append, List.filter_append, List.map_append]
  congr 1
  show (([i + 1].filter fun v => gB O v).map _) = _
  by_cases c : gB O (i + 1) = true
  · rw [List.filter_cons_of_pos c, if_pos c] <;> rfl
  · rw [List.filter_cons_of_neg c, if_neg c] <;> rfl
theorem drop_eq {s : Sd} {L' : List Int} (h1 : L'.length = s.n + 2) (h2 : s.L.length = s.n + 2) (h3 : ∀ v, 1 ≤ v → gI L' v = gI s.L v) : L'.drop 1 = s.L.drop 1 := by
  refine List.ext_getElem? fun i => ?_
  rw [List.getElem?_drop, List.getElem?_drop]
  by_cases c : 1 + i < s.n + 2
  · rw [gI_at (by omega), gI_at (by omega), h3 _ (by omega)]
  · rw [List.getElem?_eq_none (by omega), List.getElem?_eq_none (by omega)]
theorem str_glue (a b c : Str) : a ++ (" | " : Str) ++ b ++ (" | " : Str) ++ c = Txt.join barS [a, b, c] := by
  rw [TL.join_eq]
  refine TL.ext_tl ?_
  rw [TL.tl_join]
  show TL.tl (a ++ barS ++ b ++ barS ++ c) = TL.tl a ++ (TL.tl barS ++ (TL.tl b ++ (TL.tl barS ++ TL.tl c)))
  simp only [TL.tl_append, List.append_assoc]
theorem len__law_text (K : PySem.W.Frag) : ∀ vs H Q E, sp__law_text K vs H Q E → vs.length = (["world"] : List Str).length := by
  rintro vs H Q E ⟨_, _, _, _, _, rfl, _⟩
  rfl
theorem rd__law_text (T : Txt K mg) (vs : List V) (H : Hp) (Q : VK) (E : XK) (h : sp__law_text K vs H Q E) : t__law_text K E { nx := fun _ H' => Q .non H', rt := Q } (start ["world", "gone", "rights", "lefts", "node"] vs) H := by
  obtain ⟨w, r, l, o, s, rfl, a, g⟩ := h
  unfold t__law_text
  obtain ⟨L', hL, lL, eL⟩ := a.hl
  have wf := a.wf
  have n60 := wf.n60
  walk_at "j"
  refine w_ixL (SqL.of a.ob) at_0 ?_
  walk_at "j"
  refine w_r2 (by omega) ?_
  rw [show ((s.n : Int) + 1 - 1).toNat = s.n by omega]
  refine cp_rng (fun i => (outN i s.O).map fun i => V.str (numI i)) (fun i hi => sz_lt (by
    rw [List.length_map]
    have := outN_len i s.O
    omega)) rfl (fun i H' S N hi k y no => ?_) (fun D H1 nD k1 hD => ?_)
  · walk_at "g"
    refine ⟨rfl, ?_⟩
    walk_at "g"
    refine w_ixL (SqL.of (k.at0 a.ob)) (i := 3) (v := .ref o) rfl ?_
    walk_at "g"
    refine w_ixL (SqL.of (k.at0 a.ho)) (at_B (by omega) (by rw [wf.lO]; omega)) ?_
    walk_at "g"
    rw [show ((1 : Int) + (i : Int)).toNat = i + 1 by omega]
    refine w_iteB (fun c1 => ?_) (fun c1 => ?_)
    · walk_at "g"
      refine w_str (log_ok (by omega) (by omega)) ?_
      refine y _ _ (Kp.refl _ _) ?_
      rw [outN_snoc, if_pos c1, List.map_append]
      congr 1
      rw [show ((1 : Int) + (i : Int)) = ((i + 1 : Nat) : Int) by omega] <;> rfl
    · refine no _ (Kp.refl _ _) ?_
      rw [outN_snoc, if_neg (by rw [c1]; exact Bool.false_ne_true), List.append_nil]
  walk_at "j"
  have o9 := outN_9 n60 s.O
  have ol := outN_len s.n s.O
  have gone : ∃ ws : List Str, ((outN s.n s.O = [] ∧ ws = [noneS]) ∨ (outN s.n s.O ≠ [] ∧ ws = (outN s.n s.O).map numI)) := by
    by_cases e : outN s.n s.O = []
    · exact ⟨_, .inl ⟨e, rfl⟩⟩
    · exact ⟨_, .inr ⟨e, rfl⟩⟩
  obtain ⟨ws, hws⟩ := gone
  have jw : Txt.join spS ws = outsT (outN s.n s.O) := by
    rcases hws with ⟨e, rfl⟩ | ⟨e, rfl⟩
    · rw [e]
      unfold outsT
      rw [if_pos rfl, TL.join_eq] <;> rfl
    · unfold outsT
      rw [if_neg e] <;> rfl
  have cw : (ws.map (·.length)).sum + ws.length * (" " : Str).length ≤ 16777216 := by
    rcases hws with ⟨e, rfl⟩ | ⟨e, rfl⟩
    · decide +kernel
    · exact join_cost o9 (by omega)
  refine w_ifJ (fun σ' H' => Kp [] H H' ∧ ∃ u, σ' = [some (.ref w), some (.ref u), none, none, none] ∧ H' u = some (.lst (ws.map V.str))) (fun N hN => ?_) (fun σ' H2 ⟨k2, u, es, hu⟩ => ?_)
  · walk_at "g"
    refine w_lenL (SqL.of hD) ?_
    walk_at "g"
    rw [List.length_map]
    refine w_iteD (fun c => ?_) (fun c => ?_)
    · walk_at "g"
      refine ⟨sz_ok (by show 1 ≤ 1000000; omega), nw fun u H2 nu k2 hu => ?_⟩
      walk_at "g"
      rcases hws with ⟨e, rfl⟩ | ⟨e, rfl⟩
      · exact hN _ _ ⟨k1.trans k2, u, rfl, hu⟩
      · exact absurd (List.length_eq_zero_iff.mp (by omega)) e
    · walk_at "g"
      rcases hws with ⟨e, rfl⟩ | ⟨e, rfl⟩
      · exact absurd (by rw [e] <;> rfl) c
      · refine hN _ _ ⟨k1, D, rfl, ?_⟩
        rw [hD, List.map_map] <;> rfl
  subst es
  walk_at "g"
  refine w_ixL (SqL.of (k2.at0 a.ob)) (i := 1) (v := .ref r) rfl ?_
  walk_at "g"
  refine w_l1 (SqL.of (k2.at0 a.hr)) ?_
  obtain ⟨R9, Rl⟩ := wf.R9
  obtain ⟨L9, Ll⟩ := wf.L9
  refine cp_lst (SqL.of (k2.at0 a.hr)) (fun j => (s.R.take j).map fun i => V.str (numI i)) (fun j hj => sz_lt (by rw [List.length_map, List.length_take]; omega)) rfl (fun j x H' S N hx k y _ => ?_) (fun D3 H3 nD3 k3 hD3 => ?_)
  · obtain ⟨v, hv, rfl⟩ := at_map hx
    have b := R9 v (List.mem_of_getElem? hv)
    walk_at "g"
    refine ⟨rfl, ?_⟩
    walk_at "g"
    refine w_str (log_ok b.1 b.2) ?_
    exact y _ _ (Kp.refl _ _) (map_snoc (f := fun i => V.str (numI i)) hv)
  rw [List.length_map, List.take_length] at hD3
  have e3 : (s.R.map fun i => V.str (numI i)) = (s.R.map numI).map V.str := by rw [List.map_map] <;> rfl
  rw [e3] at hD3
  refine w_joinL (SqL.of hD3) (join_cost R9 (by omega)) ?_
  walk_at "g"
  have k23 := k2.trans k3
  refine w_ixL (SqL.of (k23.at0 a.ob)) (i := 2) (v := .ref l) rfl ?_
  walk_at "g"
  refine w_slL (SqL.of (k23.at0 hL)) fun q H4 nq k4 hq => ?_
  have ec : cutV (L'.map V.int) (some 1) none = (L'.map V.int).drop 1 := cut_drop _ 1 (by rw [List.length_map]; omega)
  rw [ec, ← List.map_drop, drop_eq lL wf.lL eL] at hq
  walk_at "g"
  refine w_l1 (SqL.of hq) ?_
  refine cp_lst (SqL.of hq) (fun j => ((s.L.drop 1).take j).map fun i => V.str (numI i)) (fun j hj => sz_lt (by rw [List.length_map, List.length_take]; omega)) rfl (fun j x H' S N hx k y _ => ?_) (fun D5 H5 nD5 k5 hD5 => ?_)
  · obtain ⟨v, hv, rfl⟩ := at_map hx
    have b := L9 v (List.mem_of_getElem? hv)
    walk_at "g"
    refine ⟨rfl, ?_⟩
    walk_at "g"
    refine w_str (log_ok b.1 b.2) ?_
    exact y _ _ (Kp.refl _ _) (map_snoc (f := fun i => V.str (numI i)) hv)
  rw [List.length_map, List.take_length] at hD5
  have e5 : ((s.L.drop 1).map fun i => V.str (numI i)) = ((s.L.drop 1).map numI).map V.str := by rw [List.map_map] <;> rfl
  rw [e5] at hD5
  refine w_joinL (SqL.of hD5) (join_cost L9 (by omega)) ?_
  have lr := joinI_len R9
  have ll := joinI_len L9
  have lo := outsT_len o9
  have lb : (" | " : Str).length = 3 := by decide +kernel
  have la : ∀ a b : Str, (a ++ b).length = a.length + b.length := fun a b => by
    rw [TL.len_tl, TL.tl_append, List.length_append, ← TL.len_tl, ← TL.len_tl]
  walk_at "g"
  refine w_addS (sz_ok (by show (joinI s.R).length + _ ≤ _; omega)) ?_
  walk_at "g"
  refine w_addS (sz_ok (by show ((joinI s.R) ++ _).length + (joinI (s.L.drop 1)).length ≤ _; rw [la]; omega)) ?_
  walk_at "g"
  refine w_addS (sz_ok (by show ((joinI s.R) ++ _ ++ (joinI (s.L.drop 1))).length + _ ≤ _; rw [la, la]; omega)) ?_
  walk_at "g"
  have k25 := k4.trans k5
  refine w_joinL (SqL.of (k25.at0 (k3.at0 hu))) cw ?_
  have ej : Txt.join (" " : Str) ws = outsT (outN s.n s.O) := jw
  rw [ej]
  refine w_addS (sz_ok (by show ((joinI s.R) ++ _ ++ (joinI (s.L.drop 1)) ++ _).length + (outsT (outN s.n s.O)).length ≤ _; rw [la, la, la]; omega)) ?_
  have fin := str_glue (joinI s.R) (joinI (s.L.drop 1)) (outsT (outN s.n s.O))
  have gg := g H5 (k23.trans k25)
  unfold dumpS at gg
  rw [← fin] at gg
  exact gg
end
end G

set_option Elab.async false
set_option linter.all false
set_option maxRecDepth 100000
set_option maxHeartbeats 1000000
namespace G
--#FAM KF
--#FAM KC
open PySem PySem.Spec PyProof.Rows L2
local macro_rules
  | `(tactic| walk_at "1") => `(tactic| first
    | with_reducible refine w_seq ?_
    | with_reducible refine w_asg ?_
    | with_reducible refine w_asgS ?_
    | with_reducible refine w_asf ?_
    | with_reducible refine w_drop ?_
    | with_reducible refine w_ret ?_
    | with_reducible refine w_if ?_
    | with_reducible refine w_not ?_
    | with_reducible refine w_and ?_
    | with_reducible refine w_or ?_
    | with_reducible refine w_test ?_
    | with_reducible refine w_tb ?_
    | with_reducible refine w_chain ?_
    | with_reducible refine w_op ?_
    | with_reducible refine w_un ?_
    | with_reducible refine w_andV ?_
    | with_reducible refine w_orV ?_
    | with_reducible refine w_notV ?_
    | with_reducible refine w_ifE ?_
    | with_reducible refine w_cons ?_
    | with_reducible refine w_nil ?_
    | with_reducible refine w_cb ?_
    | with_reducible refine w_cl ?_
    | with_reducible refine w_mt ?_
    | with_reducible refine w_fld ?_
    | with_reducible refine w_tupN ?_
    | with_reducible refine w_lstN ?_
    | with_reducible refine w_bm ?_
    | with_reducible refine w_bm0 ?_
    | with_reducible refine w_for ?_
    | with_reducible refine w_lc ?_
    | with_reducible refine w_iR1 ?_
    | with_reducible refine w_iR2 ?_
    | with_reducible refine w_iL ?_
    | with_reducible refine w_iT ?_
    | with_reducible refine w_iE ?_
    | with_reducible refine w_iZ ?_
    | with_reducible refine w_var (by with_unfolding_all rfl) ?_
    | with_reducible refine w_c ?_
    | with_reducible refine w_next ?_
    | with_reducible refine w_i0 ?_
    | with_reducible refine w_u1 ?_
    | with_reducible refine w_addI ?_
    | with_reducible refine w_eqI ?_
    | with_reducible refine w_eqS ?_
    | with_reducible refine w_eqB ?_
    | with_reducible refine w_neI ?_
    | with_reducible refine w_neS ?_
    | with_reducible refine w_neB ?_
    | with_reducible refine w_abs ?_
    | with_reducible refine w_intI ?_
    | with_reducible refine w_min2 ?_
    | with_reducible refine w_max2 ?_
    | with_reducible refine w_isN0 ?_
    | with_reducible refine w_isN1 ref_ne ?_
    | with_reducible refine w_isN1 int_ne ?_
    | with_reducible refine w_notN0 ?_
    | with_reducible refine w_notN1 ref_ne ?_
    | with_reducible refine w_notN1 int_ne ?_
    | with_reducible refine w_ex1 ?_
    | with_reducible refine w_n1 ?_
    | with_reducible refine w_n2 ?_
    | with_reducible refine w_tT ?_
    | with_reducible refine w_tF ?_
    | with_reducible refine w_nT ?_
    | with_reducible refine w_nF ?_
    | with_reducible refine w_rz ?_
    | with_reducible refine w_mkN ?_
    | with_reducible refine w_lrgN ?_
    | with_reducible refine w_rg1 ?_
    | with_reducible refine w_rg2 ?_
    | with_reducible refine w_sl ?_
    | with_reducible refine w_np ?_
    | with_reducible refine w_pt ?_
    | with_reducible refine w_tr ?_
    | with_reducible refine w_gn ?_
    | with_reducible refine w_yes ?_
    | with_reducible refine w_m1 ?_
    | with_reducible refine w_asu ?_
    | with_reducible refine w_exS ?_
    | with_reducible refine w_iS ?_
    | with_reducible refine w_g1 ?_
    | with_reducible refine w_gc ?_
    | with_reducible refine w_gt (SqT.of upd_same) rfl ?_)
local macro_rules
  | `(tactic| walk_at "g") => `(tactic| repeat walk_at "1")
local macro_rules
  | `(tactic| walk_at "j1") => `(tactic| first
    | with_reducible refine w_seqI ?_
    | walk_at "1")
local macro_rules
  | `(tactic| walk_at "j") => `(tactic| repeat walk_at "j1")
section
variable {K : PySem.W.Frag} {mg : Str → Option Value}
theorem Bag.k0' {H H' : Hp} {b : Addr} (h : Bag H b) (k : Kp [] H H') : Bag H' b := by
  obtain ⟨c, m, t, h⟩ := h
  exact ⟨c, m, t, k.at0 h⟩
theorem Bag.k1' {H H' : Hp} {b a : Addr} (h : Bag H b) (ne : b ≠ a) (k : Kp [a] H H') : Bag H' b := by
  obtain ⟨c, m, t, h⟩ := h
  exact ⟨c, m, t, k.at1 ne h⟩
theorem Bag.ne' {H : Hp} {b a : Addr} (h : Bag H b) (n : H a = none) : b ≠ a := by
  obtain ⟨c, m, t, h⟩ := h
  exact ne_of_none h n
/-- the lists of a standing that is drawn -/
structure DrS (n : Nat) (R L : List Int) : Prop where
  lR : R.length = n + 1
  lL : L.length = n + 2
  rb : ∀ v : Nat, v ≤ n → (v : Int) < gI R v ∧ gI R v ≤ (n : Int) + 1
  lb : ∀ v : Nat, 1 ≤ v → v ≤ n + 1 → 0 ≤ gI L v ∧ gI L v < (v : Int)
theorem DrS.setR {n : Nat} {R L : List Int} (d : DrS n R L) {v : Nat} {x : Int} (hv : v ≤ n) (h1 : (v : Int) < x) (h2 : x ≤ (n : Int) + 1) : DrS n (R.set v x) L := by
  refine ⟨by rw [List.length_set, d.lR], d.lL, fun u hu => ?_, d.lb⟩
  rw [gI_set (by rw [d.lR]; omega)]
  split
  · rename_i e
    subst e
    exact ⟨h1, h2⟩
  · exact d.rb u hu
theorem DrS.setL {n : Nat} {R L : List Int} (d : DrS n R L) {v : Nat} {x : Int} (hv : v ≤ n) (h1 : 0 ≤ x) (h2 : x ≤ (v : Int)) : DrS n R (L.set (v + 1) x) := by
  refine ⟨d.lR, by rw [List.length_set, d.lL], d.rb, fun u h3 h4 => ?_⟩
  rw [gI_set (by rw [d.lL]; omega)]
  split
  · rename_i e
    subst e
    omega
  · exact d.lb u h3 h4
/-- .. with flags: a standing -/
theorem DrS.sd {n : Nat} {R L : List Int} {O : List Bool} (d : DrS n R L) (hn : n ≤ 60) (lO : O.length = n + 2) (o0 : gB O 0 = false) (o1 : gB O (n + 1) = false) : ∃ s : Sd, s.n = n ∧ s.R = R ∧ s.O = O ∧ Snd s ∧ Wf s ∧ ∀ v, 1 ≤ v → gI L v = gI s.L v := by
  have e : ∀ v, 1 ≤ v → gI L v = gI (0 :: L.drop 1) v := by
    intro v hv
    obtain ⟨u, rfl⟩ : ∃ u, v = u + 1 := ⟨v - 1, by omega⟩
    unfold gI
    rw [List.getD_eq_getElem?_getD, List.getD_eq_getElem?_getD, List.getElem?_cons_succ, List.getElem?_drop, Nat.add_comm]
  refine ⟨⟨n, R, 0 :: L.drop 1, O⟩, rfl, rfl, rfl, ⟨⟨_, rfl⟩, o0, o1⟩, ⟨hn, d.lR, ?_, lO, d.rb, fun v h1 h2 => ?_⟩, e⟩
  · show (L.drop 1).length + 1 = n + 2
    rw [List.length_drop, d.lL]
    omega
  · rw [← e v h1]
    exact d.lb v h1 h2
theorem rg_snoc (a : Int) (i : Nat) : (rgI a (i + 1)).map V.int = (rgI a i).map V.int ++ [V.int (a + (i : Int))] := by
  unfold rgI
  rw [List.range_succ, List.map_append, List.map_append] <;> rfl
theorem drS_whole (n : Nat) : DrS n (rgI 1 (n + 1)) (rgI (-1) (n + 2)) := by
  refine ⟨rgI_len _ _, rgI_len _ _, fun v hv => ?_, fun v h1 h2 => ?_⟩
  · rw [gI_range (by omega)]
    omega
  · rw [gI_range (by omega)]
    omega
theorem len__law_standing (K : PySem.W.Frag) : ∀ vs H Q E, sp__law_standing K vs H Q E → vs.length = (["bag", "size"] : List Str).length := by
  rintro vs H Q E ⟨_, _, rfl, _⟩
  rfl
theorem rd__law_standing (T : Txt K mg) (vs : List V) (H : Hp) (Q : VK) (E : XK) (h : sp__law_standing K vs H Q E) : t__law_standing K E { nx := fun _ H' => Q .non H', rt := Q } (start ["bag", "size", "way", "rights", "lefts", "flags", "node", "far_right", "far_left"] vs) H := by
  obtain ⟨b, n, rfl, hn, hb, g⟩ := h
  unfold t__law_standing
  walk_at "j"
  refine ⟨b, 8, rfl, by omega, by omega, hb, fun way H1 w1 w2 k1 b1 => ?_⟩
  walk_at "j"
  refine w_r1 (by omega) ?_
  refine cp_rng (fun i => (rgI 1 i).map V.int) (fun i hi => sz_lt (by rw [List.length_map, rgI_len]; omega)) rfl (fun i H' S N hi k y _ => ?_) (fun r H2 nr k2 hr => ?_)
  · walk_at "g"
    refine ⟨rfl, ?_⟩
    walk_at "g"
    refine y _ _ (Kp.refl _ _) ?_
    rw [rg_snoc, show (0 : Int) + (i : Int) + 1 = 1 + (i : Int) by omega]
  rw [show ((n : Int) + 1).toNat = n + 1 by omega] at hr
  walk_at "j"
  refine w_r1 (by omega) ?_
  refine cp_rng (fun i => (rgI (-1) i).map V.int) (fun i hi => sz_lt (by rw [List.length_map, rgI_len]; omega)) rfl (fun i H' S N hi k y _ => ?_) (fun l H3 nl k3 hl => ?_)
  · walk_at "g"
    refine ⟨rfl, ?_⟩
    walk_at "g"
    refine y _ _ (Kp.refl _ _) ?_
    rw [rg_snoc, show (0 : Int) + (i : Int) - 1 = -1 + (i : Int) by omega]
  rw [show ((n : Int) + 2).toNat = n + 2 by omega] at hl
  walk_at "j"
  refine w_r1 (by omega) ?_
  refine cp_rng (fun i => (List.replicate i false).map V.bl) (fun i hi => sz_lt (by rw [List.length_map, List.length_replicate]; omega)) rfl (fun i H' S N hi k y _ => ?_) (fun o H4 no k4 ho => ?_)
  · walk_at "g"
    refine ⟨rfl, ?_⟩
    walk_at "g"
    refine y _ _ (Kp.refl _ _) ?_
    rw [List.replicate_succ', List.map_append] <;> rfl
  rw [show ((n : Int) + 2).toNat = n + 2 by omega] at ho
  have hr4 := k4.at0 (k3.at0 hr)
  have hl4 := k4.at0 hl
  have rl : r ≠ l := ne_of_none hr nl
  have ro : r ≠ o := ne_of_none (k3.at0 hr) no
  have lo : l ≠ o := ne_of_none hl no
  have k14 : Kp [] H1 H4 := (k2.trans k3).trans k4
  have b4 := b1.k0' k14
  have br : b ≠ r := b1.ne' nr
  have bl : b ≠ l := (b1.k0' k2).ne' nl
  have bo : b ≠ o := (b1.k0' (k2.trans k3)).ne' no
  have fr : H r = none := k1.free (by simpa using Ne.symm br) nr
  have fl : H l = none := k1.free (by simpa using Ne.symm bl) (k2.free0 nl)
  have fo : H o = none := k1.free (by simpa using Ne.symm bo) ((k2.trans k3).free0 no)
  have k04 : Kp [b] H H4 := k1.trans k14.all
  -- the end
  have fin : ∀ (R L : List Int) (O : List Bool) (H5 : Hp), DrS n R L → O.length = n + 2 → gB O 0 = false → gB O (n + 1) = false → Kp [b, r, l, o] H4 H5 → Bag H5 b → H5 r = some (.lst (R.map V.int)) → H5 l = some (.lst (L.map V.int)) → H5 o = some (.lst (O.map V.bl)) →
      ∀ w H6, H5 w = none → Kp [] H5 H6 → H6 w = some (.lst [.int (n : Int), .ref r, .ref l, .ref o]) → Q (.ref w) H6 := by
    intro R L O H5 d lO o0 o1 k5 b5 h1 h2 h3 w H6 nw k6 hw
    obtain ⟨s, e1, e2, e3, sn, wf, e4⟩ := d.sd hn lO o0 o1
    have kk : Kp [b] H H5 := ((k04.mono (S' := [b, r, l, o]) (by simp)).trans k5).cut (by simp [fr, fl, fo])
    have bw : b ≠ w := b5.ne' nw
    refine g s w r l o H6 e1 sn (kk.free (by simpa using Ne.symm bw) nw) fr fl fo (kk.trans k6.all) (b5.k0' k6) ⟨by rw [e1]; exact hw, by rw [e2]; exact k6.at0 h1, ⟨L, k6.at0 h2, by rw [e1]; exact d.lL, e4⟩, by rw [e3]; exact k6.at0 h3, ⟨rl, ro, lo, (ne_of_none h1 nw).symm, (ne_of_none h2 nw).symm, (ne_of_none h3 nw).symm⟩, wf⟩
  have rep0 : ∀ v, gB (List.replicate (n + 2) false) v = false := by
    intro v
    unfold gB
    rw [List.getD_eq_getElem?_getD]
    by_cases h : v < n + 2
    · rw [List.getElem?_replicate_of_lt h] <;> rfl
    · rw [List.getElem?_eq_none (by rw [List.length_replicate]; omega)] <;> rfl
  walk_at "g"
  refine w_iteD (fun c => ?_) (fun c => ?_)
  · walk_at "g"
    refine ⟨sz_ok (by show 4 ≤ 1000000; omega), nw fun w H5 nw k5 hw => ?_⟩
    exact fin _ _ _ H4 (drS_whole n) List.length_replicate (rep0 0) (rep0 _) (Kp.refl _ _) b4 hr4 hl4 ho w H5 nw k5 hw
  walk_at "g"
  refine w_r1 (by omega) ?_
  rw [show ((n : Int) + 1).toNat = n + 1 by omega]
  refine lp_rng0 (fun i σ H' => (∃ x6 x7 x8, σ = [some (.ref b), some (.int (n : Int)), some (.int way), some (.ref r), some (.ref l), some (.ref o), x6, x7, x8]) ∧ Kp [b, r, l] H4 H' ∧ Bag H' b ∧ ∃ R L, H' r = some (.lst (R.map V.int)) ∧ H' l = some (.lst (L.map V.int)) ∧ DrS n R L)
    ⟨⟨_, _, _, rfl⟩, Kp.refl _ _, b4, _, _, hr4, hl4, drS_whole n⟩ ?_ ?_
  · rintro i σ' H5 hi ⟨⟨x6, x7, x8, rfl⟩, k5, b5, R, L, h1, h2, d⟩
    walk_at "j"
    refine w_ifJ (fun σ' H' => H' = H5 ∧ ∃ fr fl : Nat, σ' = [some (.ref b), some (.int (n : Int)), some (.int way), some (.ref r), some (.ref l), some (.ref o), some (.int (i : Int)), some (.int (fr : Int)), some (.int (fl : Int))] ∧ 1 ≤ fr ∧ fr + i ≤ n + 1 ∧ 1 ≤ fl ∧ fl ≤ i + 1) (fun N hN => ?_) (fun σ' H6 ⟨eh, fr, fl, es, f1, f2, f3, f4⟩ => ?_)
    · walk_at "g"
      refine w_iteD (fun c => ?_) (fun c => ?_)
      · walk_at "g"
        have e1 : ∃ f : Nat, (if (n : Int) + 1 - (i : Int) < 3 then (n : Int) + 1 - (i : Int) else 3) = (f : Int) ∧ 1 ≤ f ∧ f + i ≤ n + 1 := by
          by_cases c : (n : Int) + 1 - (i : Int) < 3
          · rw [if_pos c]
            exact ⟨n + 1 - i, by omega, by omega, by omega⟩
          · rw [if_neg c]
            exact ⟨3, rfl, by omega, by omega⟩
        have e2 : ∃ f : Nat, (if (i : Int) + 1 < 3 then (i : Int) + 1 else 3) = (f : Int) ∧ 1 ≤ f ∧ f ≤ i + 1 := by
          by_cases c : (i : Int) + 1 < 3
          · rw [if_pos c]
            exact ⟨i + 1, by omega, by omega, by omega⟩
          · rw [if_neg c]
            exact ⟨3, rfl, by omega, by omega⟩
        obtain ⟨f, ef, z1, z2⟩ := e1
        obtain ⟨f', ef', z3, z4⟩ := e2
        rw [ef, ef']
        exact hN _ _ ⟨rfl, f, f', rfl, z1, z2, z3, z4⟩
      · walk_at "g"
        have e1 : (n : Int) + 1 - (i : Int) = ((n + 1 - i : Nat) : Int) := by omega
        have e2 : (i : Int) + 1 = ((i + 1 : Nat) : Int) := by omega
        rw [e1, e2]
        exact hN _ _ ⟨rfl, n + 1 - i, i + 1, rfl, by omega, by omega, by omega, by omega⟩
    subst eh es
    walk_at "j"
    refine w_ifK (fun H' => Kp [b, r, l] H4 H' ∧ Bag H' b ∧ ∃ R L, H' r = some (.lst (R.map V.int)) ∧ H' l = some (.lst (L.map V.int)) ∧ DrS n R L) (fun N hN => ?_) (fun H7 ⟨k7, b7, R7, L7, h17, h27, d7⟩ => ?_)
    · walk_at "g"
      refine ⟨b, 2, rfl, by omega, by omega, b5, fun dd H7 d1 d2 k7 b7 => ?_⟩
      have h17 := k7.at1 (Ne.symm br) h1
      have h27 := k7.at1 (Ne.symm bl) h2
      have k47 := k5.trans (k7.mono (S' := [b, r, l]) (by simp))
      walk_at "g"
      refine w_iteD (fun c => ?_) (fun c => ?_)
      · walk_at "g"
        refine ⟨b, fr, rfl, by omega, by omega, b7, fun e H8 e1 e2 k8 b8 => ?_⟩
        walk_at "g"
        refine w_seT (k8.at1 (Ne.symm br) h17) (ixN_pos (by omega) (by rw [List.length_map, d.lR]; omega)) fun H9 k9 h9 => ?_
        rw [Int.toNat_natCast, set_I] at h9
        exact hN _ ⟨(k47.trans (k8.mono (by simp))).trans (k9.mono (by simp)), b8.k1' br k9, _, _, h9, k9.at1 (Ne.symm rl) (k8.at1 (Ne.symm bl) h27), d.setR (by omega) (by omega) (by omega)⟩
      · walk_at "g"
        exact hN _ ⟨k47, b7, R, L, h17, h27, d⟩
    walk_at "g"
    refine ⟨b, 2, rfl, by omega, by omega, b7, fun dd H8 d1 d2 k8 b8 => ?_⟩
    have h18 := k8.at1 (Ne.symm br) h17
    have h28 := k8.at1 (Ne.symm bl) h27
    have k48 := k7.trans (k8.mono (S' := [b, r, l]) (by simp))
    walk_at "g"
    refine w_iteD (fun c => ?_) (fun c => ?_)
    · walk_at "g"
      refine ⟨b, fl, rfl, by omega, by omega, b8, fun e H9 e1 e2 k9 b9 => ?_⟩
      walk_at "g"
      refine w_seT (k9.at1 (Ne.symm bl) h28) (n := i + 1) (by rw [ixN_pos (by omega) (by rw [List.length_map, d7.lL]; omega), show ((i : Int) + 1).toNat = i + 1 by omega]) fun Ha ka ha => ?_
      rw [set_I] at ha
      exact ⟨⟨_, _, _, rfl⟩, (k48.trans (k9.mono (by simp))).trans (ka.mono (by simp)), b9.k1' bl ka, _, _, ka.at1 rl (k9.at1 (Ne.symm br) h18), ha, d7.setL (by omega) (by omega) (by omega)⟩
    · walk_at "g"
      exact ⟨⟨_, _, _, rfl⟩, k48, b8, _, _, h18, h28, d7⟩
  · rintro σ' H5 ⟨⟨x6, x7, x8, rfl⟩, k5, b5, R, L, h1, h2, d⟩
    have ho5 : H5 o = _ := k5 _ _ (by simp [Ne.symm bo, Ne.symm ro, Ne.symm lo]) ho
    walk_at "g"
    refine w_r2 (by omega) ?_
    rw [show ((n : Int) + 1 - 1).toNat = n by omega]
    refine lp_rng (fun i σ H' => (∃ x6 x7 x8, σ = [some (.ref b), some (.int (n : Int)), some (.int way), some (.ref r), some (.ref l), some (.ref o), x6, x7, x8]) ∧ Kp [b, o] H5 H' ∧ Bag H' b ∧ ∃ O, H' o = some (.lst (O.map V.bl)) ∧ O.length = n + 2 ∧ gB O 0 = false ∧ gB O (n + 1) = false)
      ⟨⟨_, _, _, rfl⟩, Kp.refl _ _, b5, _, ho5, List.length_replicate, rep0 0, rep0 _⟩ ?_ ?_
    · rintro i σ' H6 hi ⟨⟨x6, x7, x8, rfl⟩, k6, b6, O, h6, lO, o0, o1⟩
      walk_at "g"
      refine ⟨b, 2, rfl, by omega, by omega, b6, fun dd H7 d1 d2 k7 b7 => ?_⟩
      walk_at "g"
      refine w_seT (k7.at1 (Ne.symm bo) h6) (n := i + 1) (by rw [ixN_pos (by omega) (by rw [List.length_map, lO]; omega), show ((1 : Int) + (i : Int)).toNat = i + 1 by omega]) fun H8 k8 h8 => ?_
      rw [set_B] at h8
      refine ⟨⟨_, _, _, rfl⟩, (k6.trans (k7.mono (by simp))).trans (k8.mono (by simp)), b7.k1' bo k8, _, h8, by rw [List.length_set, lO], ?_, ?_⟩
      · rw [gB_set (by rw [lO]; omega), if_neg (by omega)]
        exact o0
      · rw [gB_set (by rw [lO]; omega), if_neg (by omega)]
        exact o1
    · rintro σ' H6 ⟨⟨x6, x7, x8, rfl⟩, k6, b6, O, h6, lO, o0, o1⟩
      walk_at "g"
      refine ⟨sz_ok (by show 4 ≤ 1000000; omega), nw fun w H7 nw k7 hw => ?_⟩
      exact fin R L O H6 d lO o0 o1 ((k5.mono (by simp)).trans (k6.mono (by simp))) b6 (k6 _ _ (by simp [Ne.symm br, ro]) h1) (k6 _ _ (by simp [Ne.symm bl, lo]) h2) h6 w H7 nw k7 hw
end
end G

set_option Elab.async false
set_option linter.all false
set_option maxRecDepth 100000
set_option maxHeartbeats 1000000
namespace G
--#FAM KF
open PySem PySem.Spec PyProof.Rows L2
local macro_rules
  | `(tactic| walk_at "1") => `(tactic| first
    | with_reducible refine w_seq ?_
    | with_reducible refine w_asg ?_
    | with_reducible refine w_asgS ?_
    | with_reducible refine w_asf ?_
    | with_reducible refine w_drop ?_
    | with_reducible refine w_ret ?_
    | with_reducible refine w_if ?_
    | with_reducible refine w_not ?_
    | with_reducible refine w_and ?_
    | with_reducible refine w_or ?_
    | with_reducible refine w_test ?_
    | with_reducible refine w_tb ?_
    | with_reducible refine w_chain ?_
    | with_reducible refine w_op ?_
    | with_reducible refine w_un ?_
    | with_reducible refine w_andV ?_
    | with_reducible refine w_orV ?_
    | with_reducible refine w_notV ?_
    | with_reducible refine w_ifE ?_
    | with_reducible refine w_cons ?_
    | with_reducible refine w_nil ?_
    | with_reducible refine w_cb ?_
    | with_reducible refine w_cl ?_
    | with_reducible refine w_mt ?_
    | with_reducible refine w_fld ?_
    | with_reducible refine w_tupN ?_
    | with_reducible refine w_lstN ?_
    | with_reducible refine w_bm ?_
    | with_reducible refine w_bm0 ?_
    | with_reducible refine w_for ?_
    | with_reducible refine w_lc ?_
    | with_reducible refine w_iR1 ?_
    | with_reducible refine w_iR2 ?_
    | with_reducible refine w_iL ?_
    | with_reducible refine w_iT ?_
    | with_reducible refine w_iE ?_
    | with_reducible refine w_iZ ?_
    | with_reducible refine w_var (by with_unfolding_all rfl) ?_
    | with_reducible refine w_c ?_
    | with_reducible refine w_next ?_
    | with_reducible refine w_i0 ?_
    | with_reducible refine w_u1 ?_
    | with_reducible refine w_addI ?_
    | with_reducible refine w_eqI ?_
    | with_reducible refine w_eqS ?_
    | with_reducible refine w_eqB ?_
    | with_reducible refine w_neI ?_
    | with_reducible refine w_neS ?_
    | with_reducible refine w_neB ?_
    | with_reducible refine w_abs ?_
    | with_reducible refine w_intI ?_
    | with_reducible refine w_min2 ?_
    | with_reducible refine w_max2 ?_
    | with_reducible refine w_isN0 ?_
    | with_reducible refine w_isN1 ref_ne ?_
    | with_reducible refine w_isN1 int_ne ?_
    | with_reducible refine w_notN0 ?_
    | with_reducible refine w_notN1 ref_ne ?_
    | with_reducible refine w_notN1 int_ne ?_
    | with_reducible refine w_ex1 ?_
    | with_reducible refine w_n1 ?_
    | with_reducible refine w_n2 ?_
    | with_reducible refine w_tT ?_
    | with_reducible refine w_tF ?_
    | with_reducible refine w_nT ?_
    | with_reducible refine w_nF ?_
    | with_reducible refine w_rz ?_
    | with_reducible refine w_mkN ?_
    | with_reducible refine w_lrgN ?_
    | with_reducible refine w_rg1 ?_
    | with_reducible refine w_rg2 ?_
    | with_reducible refine w_sl ?_
    | with_reducible refine w_np ?_
    | with_reducible refine w_pt ?_
    | with_reducible refine w_tr ?_
    | with_reducible refine w_gn ?_
    | with_reducible refine w_yes ?_
    | with_reducible refine w_m1 ?_
    | with_reducible refine w_asu ?_
    | with_reducible refine w_exS ?_
    | with_reducible refine w_iS ?_
    | with_reducible refine w_g1 ?_
    | with_reducible refine w_gc ?_
    | with_reducible refine w_gt (SqT.of upd_same) rfl ?_)
local macro_rules
  | `(tactic| walk_at "g") => `(tactic| repeat walk_at "1")
local macro_rules
  | `(tactic| walk_at "j1") => `(tactic| first
    | with_reducible refine w_seqI ?_
    | walk_at "1")
local macro_rules
  | `(tactic| walk_at "j") => `(tactic| repeat walk_at "j1")
section
variable {K : PySem.W.Frag} {mg : Str → Option Value}
/-- the law's handler -/
abbrev hndT (K : PySem.W.Frag) : Addr → Value → Option Addr → TS := fun a cls d => tSeq (tIfS (tOr (tNot (tB (tCB (rIsX K cls d a) (tCons (tVar 2) (tCons (tC (.ref (He.ga K "BadGap"))) (tNil)))))) (tNot (tB (tCB (rIsX K cls d a) (tCons (tVar 2) (tCons (tC (.ty "ValueError")) (tNil))))))) (tRet (tC (.bl false))) (tNext)) (tSeq (tIfS (tOr (tB (tCB (rIsX K cls d a) (tCons (tVar 2) (tCons (tC (.ref (He.ga K "LogError"))) (tNil))))) (tOr (tB (tCB (rIsX K cls d a) (tCons (tVar 2) (tCons (tC (.ref (He.ga K "BadNode"))) (tNil))))) (tB (tCB (rIsX K cls d a) (tCons (tVar 2) (tCons (tC (.ref (He.ga K "BadSize"))) (tNil))))))) (tRet (tC (.bl false))) (tNext)) (tRet (tAndV (tCl (sp__law_whole_number K) (fun _ => E0) (tCons (tXat K a cls d "gap" (tVar 2)) (tNil))) (tOp (rEqA K) (tXat K a cls d "gap" (tVar 2)) (tVar 1)))))
theorem w_isx {H : Hp} {Q : VK} {D dd a : Addr} {fs : List (Str × V)} {c : V} {u : Value} {r : Bool} (hd : H dd = some (.xd fs)) (ex : ExK K D) (k : ClsV c u) (q : PySem.W.kitOne K (.ref D) u = some r) (g : Q (.bl r) H) : rIsX K (.ref D) (some dd) a [.ref a, c] H Q := ⟨D, dd, fs, c, u, r, rfl, rfl, hd, ex, rfl, k, q, g⟩
theorem w_xat {σ : L2.St} {H : Hp} {Q : VK} {D dd a : Addr} {fs : List (Str × V)} {v : V} {f : Str} {te : TE} (hv : ∀ Q, Q (.ref a) H → te σ H Q) (hd : H dd = some (.xd fs)) (ex : ExK K D) (hf : PySem.W.findIn K (.ref D) f = some none) (hl : fs.lookup f = some v) (g : Q v H) : tXat K a (.ref D) (some dd) f te σ H Q := hv _ ⟨D, dd, fs, v, rfl, rfl, hd, ex, rfl, hf, hl, g⟩
theorem lk1 (f : Str) (v : V) (r : List (Str × V)) : ((f, v) :: r).lookup f = some v := by
  simp [List.lookup]
theorem lk_op (i o : V) : ([(("index" : Str), i), ("operation", o)] : List (Str × V)).lookup ("operation" : Str) = some o := by
  have : (("operation" : Str) == ("index" : Str)) = false := by decide +kernel
  simp [List.lookup, this]
theorem w_sadd {w : World} {to : TE} {t : TA} {σ : L2.St} {H : Hp} {Q : VK} (g : to σ H fun x H1 => (∃ a S n, x = V.ref a ∧ H1 a = some (SetO w a S n)) ∧ t σ H1 fun xs H2 => rSAdd w x xs H2 Q) : tSAdd w to t σ H Q := g
theorem inS2 (x a b : Str) : inV (.str x) [.str a, .str b] = (decide (x = a) || decide (x = b)) := by
  show ((eqV (.str a) (.str x)) || ((eqV (.str b) (.str x)) || false)) = _
  have e : ∀ a b : Str, eqV (.str a) (.str b) = decide (b = a) := fun a b => by
    show (a == b) = _
    rw [Bool.eq_iff_iff, beq_iff_eq, decide_eq_true_iff]
    exact eq_comm
  rw [e, e, Bool.or_false]
theorem scan_ok {m : Nat} (h : m ≤ 100) : m + 1 < scanBound := Nat.lt_of_le_of_lt (Nat.succ_le_succ h) (by decide)
theorem len_sole_holders (K : PySem.W.Frag) : ∀ vs H Q E, sp_sole_holders K vs H Q E → vs.length = (["links"] : List Str).length := by
  rintro vs H Q E ⟨_, _, _, _, _, rfl, _⟩
  rfl
theorem rd_sole_holders (w : World) (T : Txt K mg) (vs : List V) (H : Hp) (Q : VK) (E : XK) (h : sp_sole_holders K vs H Q E) : t_sole_holders K w E { nx := fun _ H' => Q .non H', rt := Q } (start ["links", "holders", "gap", "state"] vs) H := by
  obtain ⟨p, r, l, o, s, rfl, a, g⟩ := h
  unfold t_sole_holders
  have wf := a.wf
  have n60 := wf.n60
  walk_at "g"
  refine ⟨rfl, fun q nq => ?_⟩
  have k1 : Kp [] H (upd H q (SetO w q (fun _ => false) 0)) := Kp.new nq
  have hq : (upd H q (SetO w q (fun _ => false) 0)) q = some (SetO w q (fun _ => false) 0) := upd_same
  generalize upd H q (SetO w q (fun _ => false) 0) = H1 at k1 hq ⊢
  walk_at "g"
  refine ⟨p, r, l, o, s, rfl, a.k0 k1, fun u H2 nu k2 hu => ?_⟩
  walk_at "g"
  have qu : q ≠ u := ne_of_none hq nu
  have lenu : ((List.range (s.n + 1)).map fun (v : Nat) => V.str (stT s v)).length = s.n + 1 := by rw [List.length_map, List.length_range]
  have S0 : holdB s 0 = fun _ => false := rfl
  rw [← S0] at hq
  refine ⟨u, _, rfl, SqL.of hu, lp_enum (xs := (List.range (s.n + 1)).map fun (v : Nat) => V.str (stT s v)) (fun i σ H' => (∃ x2 x3, σ = [some (.ref p), some (.ref q), x2, x3]) ∧ Kp [q] H2 H' ∧ ∃ m, H' q = some (SetO w q (holdB s i) m) ∧ m ≤ i) ⟨⟨_, _, rfl⟩, Kp.refl _ _, 0, k2.at0 hq, Nat.le_refl _⟩ ?_ ?_ ?_⟩
  · rintro i σ' H' hi ⟨_, k, _⟩
    exact SqL.of (k.at1 (Ne.symm qu) hu)
  · rintro i x T1 σ' H' hx ⟨⟨x2, x3, rfl⟩, k, m, hm, mi⟩ nT
    obtain ⟨v, hv, rfl⟩ := at_map hx
    have hv' : i = v := by
      have := (List.getElem?_eq_some_iff.mp hv).2
      simpa using this
    have hlt : i < s.n + 1 := by
      have := (List.getElem?_eq_some_iff.mp hv).1
      simpa using this
    subst hv'
    have kT : Kp [] H' (upd H' T1 (.tup [.int (i : Int), .str (stT s i)])) := Kp.new nT
    walk_at "g"
    refine ⟨sz_ok (by show 2 ≤ 1000000; omega), nw fun t H3 nt k3 ht => ?_⟩
    refine w_inT (SqT.of ht) rfl rfl ?_
    rw [if_neg Bool.false_ne_true, inS2]
    have hm3 : H3 q = some (SetO w q (holdB s i) m) := k3.at0 (kT.at0 hm)
    have kk : Kp [q] H2 H3 := k.trans (kT.trans k3).all
    have done : ∀ (z : Int) (H4 : Hp), H4 = upd H3 q (SetO w q (fun j => holdB s i j || decide (j = z)) (if holdB s i z = true then m else m + 1)) → (∀ j : Int, holdB s (i + 1) j = (holdB s i j || decide (j = z))) → Kp [q] H2 H4 ∧ ∃ m', H4 q = some (SetO w q (holdB s (i + 1)) m') ∧ m' ≤ i + 1 := by
      intro z H4 e4 eS
      subst e4
      refine ⟨kk.trans (Kp.put (by simp)), (if holdB s i z = true then m else m + 1), ?_, ?_⟩
      · rw [upd_same]
        congr 2
        funext j
        exact (eS j).symm
      · split <;> omega
    walk_at "g"
    rcases st_cases s i with ⟨y1, y2, y3⟩ | ⟨y1, y2, y3⟩ | ⟨y1, y2, y3⟩ | ⟨y1, y2, y3⟩
    · rw [y3]
      refine w_tF (A := _) ?_
      walk_at "g"
      refine ⟨⟨_, _, rfl⟩, kk, m, ?_, by omega⟩
      rw [hm3]
      congr 2
      funext j
      rw [holdB_snoc, y3]
      simp [ne_w]
    · rw [y3]
      refine w_tT (B := _) ?_
      walk_at "g"
      refine w_sadd ?_
      walk_at "g"
      refine ⟨⟨q, _, _, rfl, hm3⟩, ?_⟩
      walk_at "g"
      refine w_iteD (fun _ => ?_) (fun z => absurd rfl z)
      walk_at "g"
      refine ⟨q, (i : Int), _, m, rfl, rfl, hm3, scan_ok (by omega), ?_⟩
      obtain ⟨z1, z2⟩ := done i _ rfl fun j => by
        rw [holdB_snoc, y3]
        simp [ne_w]
      exact ⟨⟨_, _, rfl⟩, z1, z2⟩
    · rw [y3]
      refine w_tT (B := _) ?_
      walk_at "g"
      refine w_sadd ?_
      walk_at "g"
      refine ⟨⟨q, _, _, rfl, hm3⟩, ?_⟩
      walk_at "g"
      refine w_iteD (fun z => absurd z (by decide +kernel)) (fun _ => ?_)
      walk_at "g"
      refine ⟨q, (i : Int) + 1, _, m, rfl, rfl, hm3, scan_ok (by omega), ?_⟩
      obtain ⟨z1, z2⟩ := done ((i : Int) + 1) _ rfl fun j => by
        rw [holdB_snoc, y3]
        simp [ne_w]
      exact ⟨⟨_, _, rfl⟩, z1, z2⟩
    · rw [y3]
      refine w_tF (A := _) ?_
      walk_at "g"
      refine ⟨⟨_, _, rfl⟩, kk, m, ?_, by omega⟩
      rw [hm3]
      congr 2
      funext j
      rw [holdB_snoc, y3]
      simp [ne_w]
  · rintro σ' H' ⟨⟨x2, x3, rfl⟩, k, m, hm, mi⟩
    rw [lenu] at hm mi
    walk_at "g"
    refine ⟨q, _, m, rfl, hm, by omega, fun ns d so mem ln nd => ?_⟩
    have e : ns = aloneL s := sorted_ext so (alone_sorted s) fun x => by rw [mem, holdB_all wf]
    subst e
    have kH : Kp [] H H' := ((k1.trans k2).all.trans k).cut1 nq
    exact g d _ (kH.free0 nd) (kH.trans (Kp.new nd)) upd_same
theorem soleB_iff {s : Sd} {v : Nat} (h1 : 1 ≤ v) : soleB s v = true ↔ (gI s.R v = (v : Int) + 1 ∧ gI s.L (v + 1) ≠ (v : Int)) ∨ (gI s.L v = (v : Int) - 1 ∧ gI s.R (v - 1) ≠ (v : Int)) := by
  unfold soleB
  rw [Bool.or_eq_true, decide_eq_true_iff, decide_eq_true_iff, stT_left, stT_right]
  obtain ⟨u, rfl⟩ : ∃ u, v = u + 1 := ⟨v - 1, by omega⟩
  rw [Nat.add_sub_cancel]
  constructor
  · rintro (h | ⟨a, b⟩)
    · exact .inl h
    · exact .inr ⟨by omega, by omega⟩
  · rintro (h | ⟨a, b⟩)
    · exact .inl h
    · exact .inr ⟨by omega, by omega⟩
theorem aloneN_snoc (s : Sd) (i : Nat) : ((((List.range (i + 1)).map fun (v : Nat) => v + 1).filter fun v => soleB s v).map fun (v : Nat) => (v : Int)) = ((((List.range i).map fun (v : Nat) => v + 1).filter fun v => soleB s v).map fun (v : Nat) => (v : Int)) ++ (if soleB s (i + 1) then [((i + 1 : Nat) : Int)] else []) := by
  rw [List.range_succ, List.map_append, List.filter_append, List.map_append]
  congr 1
  show (([i + 1].filter fun v => soleB s v).map _) = _
  by_cases c : soleB s (i + 1) = true
  · rw [List.filter_cons_of_pos c, if_pos c] <;> rfl
  · rw [List.filter_cons_of_neg c, if_neg c] <;> rfl
theorem len__law_alone (K : PySem.W.Frag) : ∀ vs H Q E, sp__law_alone K vs H Q E → vs.length = (["world"] : List Str).length := by
  rintro vs H Q E ⟨_, _, _, _, _, rfl, _⟩
  rfl
theorem rd__law_alone (T : Txt K mg) (vs : List V) (H : Hp) (Q : VK) (E : XK) (h : sp__law_alone K vs H Q E) : t__law_alone K E { nx := fun _ H' => Q .non H', rt := Q } (start ["world", "found", "node", "holds_right", "holds_left"] vs) H := by
  obtain ⟨w, r, l, o, s, rfl, a, g⟩ := h
  unfold t__law_alone
  obtain ⟨L', hL, lL, eL⟩ := a.hl
  have wf := a.wf
  have n60 := wf.n60
  walk_at "g"
  refine ⟨sz_ok (Nat.zero_le _), nw fun q H1 nq k1 hq => ?_⟩
  walk_at "g"
  refine w_ixL (SqL.of (k1.at0 a.ob)) at_0 ?_
  walk_at "g"
  refine w_r2 (by omega) ?_
  rw [show ((s.n : Int) + 1 - 1).toNat = s.n by omega]
  have wq : w ≠ q := ne_of_none a.ob nq
  have rq : r ≠ q := ne_of_none a.hr nq
  have lq : l ≠ q := ne_of_none hL nq
  refine lp_rng (fun i σ H' => (∃ x2 x3 x4, σ = [some (.ref w), some (.ref q), x2, x3, x4]) ∧ Kp [q] H1 H' ∧ H' q = some (.lst (((((List.range i).map fun (v : Nat) => v + 1).filter fun v => soleB s v).map fun (v : Nat) => (v : Int)).map V.int))) ⟨⟨_, _, _, rfl⟩, Kp.refl _ _, hq⟩ ?_ ?_
  · rintro i σ' H' hi ⟨⟨x2, x3, x4, rfl⟩, k, h⟩
    have ob := k.at1 wq (k1.at0 a.ob)
    have hr := k.at1 rq (k1.at0 a.hr)
    have hl := k.at1 lq (k1.at0 hL)
    have ll : ((((List.range i).map fun (v : Nat) => v + 1).filter fun v => soleB s v).map fun (v : Nat) => (v : Int)).length ≤ i := by
      rw [List.length_map]
      refine Nat.le_trans (List.length_filter_le _ _) ?_
      rw [List.length_map, List.length_range]
      exact Nat.le_refl _
    have sz : (((((List.range i).map fun (v : Nat) => v + 1).filter fun v => soleB s v).map fun (v : Nat) => (v : Int)).map V.int).length < sizeLine := sz_lt (by rw [List.length_map]; omega)
    have si := soleB_iff (s := s) (v := i + 1) (by omega)
    have ei : (1 : Int) + (i : Int) = ((i + 1 : Nat) : Int) := by omega
    have yes : soleB s (i + 1) = true → ∀ H2, Kp [q] H' H2 → H2 q = some (.lst ((((((List.range i).map fun (v : Nat) => v + 1).filter fun v => soleB s v).map fun (v : Nat) => (v : Int)).map V.int) ++ [.int ((i + 1 : Nat) : Int)])) →
        H2 q = some (.lst (((((List.range (i + 1)).map fun (v : Nat) => v + 1).filter fun v => soleB s v).map fun (v : Nat) => (v : Int)).map V.int)) := by
      intro c H2 _ h2
      rw [h2, aloneN_snoc, if_pos c, List.map_append] <;> rfl
    have no : ¬ soleB s (i + 1) = true → H' q = some (.lst (((((List.range (i + 1)).map fun (v : Nat) => v + 1).filter fun v => soleB s v).map fun (v : Nat) => (v : Int)).map V.int)) := by
      intro c
      rw [h, aloneN_snoc, if_neg c, List.append_nil]
    have eLi : gI L' (i + 1) = gI s.L (i + 1) := eL _ (by omega)
    have eLj : gI L' (i + 2) = gI s.L (i + 1 + 1) := eL _ (by omega)
    rw [ei]
    walk_at "g"
    refine w_ixL (SqL.of ob) (i := 1) (v := .ref r) rfl ?_
    walk_at "g"
    refine w_ixL (SqL.of hr) (at_I (by omega) (by rw [wf.lR]; omega)) ?_
    rw [Int.toNat_natCast]
    walk_at "g"
    refine w_ixL (SqL.of ob) (i := 2) (v := .ref l) rfl ?_
    walk_at "g"
    refine w_ixL (SqL.of hl) (at_I (by omega) (by rw [lL]; omega)) ?_
    rw [Int.toNat_natCast, eLi]
    walk_at "g"
    have second : ¬ (gI s.R (i + 1) = ((i + 1 : Nat) : Int) + 1 ∧ gI s.L (i + 1 + 1) ≠ ((i + 1 : Nat) : Int)) → ∀ D : Ends, (∀ H2, Kp [q] H' H2 → H2 q = some (.lst (((((List.range (i + 1)).map fun (v : Nat) => v + 1).filter fun v => soleB s v).map fun (v : Nat) => (v : Int)).map V.int)) → D.nx [some (.ref w), some (.ref q), some (.int ((i + 1 : Nat) : Int)), some (.bl (decide (gI s.R (i + 1) = ((i + 1 : Nat) : Int) + 1))), some (.bl (decide (gI s.L (i + 1) = ((i + 1 : Nat) : Int) - 1)))] H2) →
        tIfS (tAnd (tB (tVar 4)) (tTest (tOp (rNeA K) (tOp (rIx K) (tOp (rIx K) (tVar 0) (tC (.int 1))) (tOp rSubA (tVar 2) (tC (.int 1)))) (tVar 2)))) (tDrop (tBM K "list" rAppend (tVar 1) (tCons (tVar 2) (tNil)))) (tNext) D [some (.ref w), some (.ref q), some (.int ((i + 1 : Nat) : Int)), some (.bl (decide (gI s.R (i + 1) = ((i + 1 : Nat) : Int) + 1))), some (.bl (decide (gI s.L (i + 1) = ((i + 1 : Nat) : Int) - 1)))] H' := by
      intro n1 D hN
      walk_at "g"
      refine w_iteD (fun c2 => ?_) (fun c2 => ?_)
      · walk_at "g"
        refine w_ixL (SqL.of ob) (i := 1) (v := .ref r) rfl ?_
        walk_at "g"
        refine w_ixL (SqL.of hr) (at_I (by omega) (by rw [wf.lR]; omega)) ?_
        rw [show (((i + 1 : Nat) : Int) - 1).toNat = i by omega]
        walk_at "g"
        refine w_iteN (fun c3 => ?_) (fun c3 => ?_)
        · walk_at "g"
          refine ⟨w_ty (SqL.of h), ?_⟩
          walk_at "g"
          refine w_apT h sz fun H2 k2 h2 => ?_
          exact hN H2 k2 (yes (si.mpr (.inr ⟨c2, c3⟩)) H2 k2 h2)
        · walk_at "g"
          refine hN H' (Kp.refl _ _) (no fun z => ?_)
          rcases si.mp z with z | z
          · exact n1 z
          · exact z.2 c3
      · walk_at "g"
        refine hN H' (Kp.refl _ _) (no fun z => ?_)
        rcases si.mp z with z | z
        · exact n1 z
        · exact c2 z.1
    refine w_iteD (fun c1 => ?_) (fun c1 => ?_)
    · walk_at "g"
      refine w_ixL (SqL.of ob) (i := 2) (v := .ref l) rfl ?_
      walk_at "g"
      refine w_ixL (SqL.of hl) (at_I (by omega) (by rw [lL]; omega)) ?_
      rw [show (((i + 1 : Nat) : Int) + 1).toNat = i + 2 by omega, eLj]
      walk_at "g"
      refine w_iteN (fun c2 => ?_) (fun c2 => ?_)
      · walk_at "g"
        refine ⟨w_ty (SqL.of h), ?_⟩
        walk_at "g"
        refine w_apT h sz fun H2 k2 h2 => ?_
        exact ⟨⟨_, _, _, rfl⟩, k.trans k2, yes (si.mpr (.inl ⟨c1, c2⟩)) H2 k2 h2⟩
      · refine second (fun z => z.2 c2) _ ?_
        intro H2 k2 h2
        exact ⟨⟨_, _, _, rfl⟩, k.trans k2, h2⟩
    · refine second (fun z => c1 z.1) _ ?_
      intro H2 k2 h2
      exact ⟨⟨_, _, _, rfl⟩, k.trans k2, h2⟩
  · rintro σ' H' ⟨⟨x2, x3, x4, rfl⟩, k, h⟩
    walk_at "g"
    exact g q H' nq (k1.all.trans k |>.cut1 nq) h
end
end G

set_option Elab.async false
set_option linter.all false
set_option maxRecDepth 100000
set_option maxHeartbeats 1000000
namespace G
--#FAM KF
open PySem PySem.Spec PyProof.Rows L2
local macro_rules
  | `(tactic| walk_at "1") => `(tactic| first
    | with_reducible refine w_seq ?_
    | with_reducible refine w_asg ?_
    | with_reducible refine w_asgS ?_
    | with_reducible refine w_asf ?_
    | with_reducible refine w_drop ?_
    | with_reducible refine w_ret ?_
    | with_reducible refine w_if ?_
    | with_reducible refine w_not ?_
    | with_reducible refine w_and ?_
    | with_reducible refine w_or ?_
    | with_reducible refine w_test ?_
    | with_reducible refine w_tb ?_
    | with_reducible refine w_chain ?_
    | with_reducible refine w_op ?_
    | with_reducible refine w_un ?_
    | with_reducible refine w_andV ?_
    | with_reducible refine w_orV ?_
    | with_reducible refine w_notV ?_
    | with_reducible refine w_ifE ?_
    | with_reducible refine w_cons ?_
    | with_reducible refine w_nil ?_
    | with_reducible refine w_cb ?_
    | with_reducible refine w_cl ?_
    | with_reducible refine w_mt ?_
    | with_reducible refine w_fld ?_
    | with_reducible refine w_tupN ?_
    | with_reducible refine w_lstN ?_
    | with_reducible refine w_bm ?_
    | with_reducible refine w_bm0 ?_
    | with_reducible refine w_for ?_
    | with_reducible refine w_lc ?_
    | with_reducible refine w_iR1 ?_
    | with_reducible refine w_iR2 ?_
    | with_reducible refine w_iL ?_
    | with_reducible refine w_iT ?_
    | with_reducible refine w_iE ?_
    | with_reducible refine w_iZ ?_
    | with_reducible refine w_var (by with_unfolding_all rfl) ?_
    | with_reducible refine w_c ?_
    | with_reducible refine w_next ?_
    | with_reducible refine w_i0 ?_
    | with_reducible refine w_u1 ?_
    | with_reducible refine w_addI ?_
    | with_reducible refine w_eqI ?_
    | with_reducible refine w_eqS ?_
    | with_reducible refine w_eqB ?_
    | with_reducible refine w_neI ?_
    | with_reducible refine w_neS ?_
    | with_reducible refine w_neB ?_
    | with_reducible refine w_abs ?_
    | with_reducible refine w_intI ?_
    | with_reducible refine w_min2 ?_
    | with_reducible refine w_max2 ?_
    | with_reducible refine w_isN0 ?_
    | with_reducible refine w_isN1 ref_ne ?_
    | with_reducible refine w_isN1 int_ne ?_
    | with_reducible refine w_notN0 ?_
    | with_reducible refine w_notN1 ref_ne ?_
    | with_reducible refine w_notN1 int_ne ?_
    | with_reducible refine w_ex1 ?_
    | with_reducible refine w_n1 ?_
    | with_reducible refine w_n2 ?_
    | with_reducible refine w_tT ?_
    | with_reducible refine w_tF ?_
    | with_reducible refine w_nT ?_
    | with_reducible refine w_nF ?_
    | with_reducible refine w_rz ?_
    | with_reducible refine w_mkN ?_
    | with_reducible refine w_lrgN ?_
    | with_reducible refine w_rg1 ?_
    | with_reducible refine w_rg2 ?_
    | with_reducible refine w_sl ?_
    | with_reducible refine w_np ?_
    | with_reducible refine w_pt ?_
    | with_reducible refine w_tr ?_
    | with_reducible refine w_gn ?_
    | with_reducible refine w_yes ?_
    | with_reducible refine w_m1 ?_
    | with_reducible refine w_asu ?_
    | with_reducible refine w_exS ?_
    | with_reducible refine w_iS ?_
    | with_reducible refine w_g1 ?_
    | with_reducible refine w_gc ?_
    | with_reducible refine w_gt (SqT.of upd_same) rfl ?_)
local macro_rules
  | `(tactic| walk_at "g") => `(tactic| repeat walk_at "1")
local macro_rules
  | `(tactic| walk_at "j1") => `(tactic| first
    | with_reducible refine w_seqI ?_
    | walk_at "1")
local macro_rules
  | `(tactic| walk_at "j") => `(tactic| repeat walk_at "j1")
section
variable {K : PySem.W.Frag} {mg : Str → Option Value}
theorem mapSt (s s' : Sd) : (List.range (s.n + 1)).map (fun (v : Nat) => V.str (stT s' v)) = ((List.range (s.n + 1)).map fun v => stT s' v).map V.str := by rw [List.map_map] <;> rfl
theorem lostM (s : Sd) : ((lostL s).map fun (v : Nat) => V.int (v : Int)) = ((lostL s).map fun (v : Nat) => (v : Int)).map V.int := by rw [List.map_map] <;> rfl
theorem lostF (s : Sd) (i : Nat) : (((List.range (i + 1)).filter fun v => decide (stT s v = "lost")).map fun (v : Nat) => (v : Int)) = (((List.range i).filter fun v => decide (stT s v = "lost")).map fun (v : Nat) => (v : Int)) ++ (if stT s i = "lost" then [(i : Int)] else []) := by
  rw [List.range_succ, List.filter_append, List.map_append]
  congr 1
  by_cases c : stT s i = "lost"
  · rw [if_pos c, List.filter_cons_of_pos (by rw [decide_eq_true c])] <;> rfl
  · rw [if_neg c, List.filter_cons_of_neg (by rw [decide_eq_false c]; exact Bool.false_ne_true)] <;> rfl
theorem lost_len (s : Sd) : ((lostL s).map fun (v : Nat) => (v : Int)).length ≤ s.n + 1 := by
  rw [List.length_map]
  unfold lostL
  have := List.length_filter_le (fun v => decide (stT s v = "lost")) (List.range (s.n + 1))
  rw [List.length_range] at this
  exact this
theorem len__law_agrees (K : PySem.W.Frag) : ∀ vs H Q E, sp6__law_agrees K vs H Q E → vs.length = (["links", "world"] : List Str).length := by
  rintro vs H Q E ⟨_, _, _, _, _, _, _, _, _, rfl, _⟩
  rfl
theorem rd__law_agrees (T : Txt K mg) (vs : List V) (H : Hp) (Q : VK) (E : XK) (h : sp6__law_agrees K vs H Q E) : t__law_agrees K E { nx := fun _ H' => Q .non H', rt := Q } (start ["links", "world", "states", "lost", "alone", "first", "second", "third", "place", "told"] vs) H := by
  obtain ⟨p, r, l, o, w, wr, wl, wo, s, rfl, la, lw, g⟩ := h
  unfold t__law_agrees
  have wf := la.wf
  have n60 := wf.n60
  have ll := lost_len s
  have al := alone_len s
  walk_at "g"
  refine w_ixL (SqL.of lw.ob) at_0 ?_
  walk_at "g"
  refine w_r1 (by omega) ?_
  rw [show ((s.n : Int) + 1).toNat = s.n + 1 by omega]
  refine cp_rng (fun i => (List.range i).map fun (v : Nat) => V.str (stT s v)) (fun i hi => sz_lt (by rw [List.length_map, List.length_range]; omega)) rfl (fun i H' S N hi k y nn => ?_) (fun a H1 na k1 ha => ?_)
  · walk_at "g"
    refine ⟨rfl, ?_⟩
    walk_at "g"
    rw [Int.zero_add]
    refine ⟨w, wr, wl, wo, s, i, rfl, lw.k0 k, by omega, ?_⟩
    refine y _ _ (Kp.refl _ _) ?_
    rw [List.range_succ, List.map_append] <;> rfl
  walk_at "g"
  refine w_ixL (SqL.of (k1.at0 lw.ob)) at_0 ?_
  walk_at "g"
  refine w_r1 (by omega) ?_
  rw [show ((s.n : Int) + 1).toNat = s.n + 1 by omega]
  refine cp_rng (fun i => (((List.range i).filter fun v => decide (stT s v = "lost")).map fun (v : Nat) => (v : Int)).map V.int) (fun i hi => sz_lt (by
    rw [List.length_map, List.length_map]
    have := List.length_filter_le (fun v => decide (stT s v = "lost")) (List.range i)
    rw [List.length_range] at this
    omega)) rfl (fun j H' S N hj k yes no => ?_) (fun b H2 nb k2 hb => ?_)
  · have e1 : atI ((List.range (s.n + 1)).map fun (v : Nat) => V.str (stT s v)) (j : Int) = some (.str (stT s j)) := by
      rw [atI_pos (by omega) (by rw [List.length_map, List.length_range]; omega), Int.toNat_natCast, List.getElem?_map, List.getElem?_range hj] <;> rfl
    walk_at "g"
    refine ⟨rfl, ?_⟩
    walk_at "g"
    rw [Int.zero_add]
    refine w_ixL (SqL.of (k.at0 ha)) e1 ?_
    walk_at "g"
    refine w_iteD (fun cc => ?_) (fun cc => ?_)
    · walk_at "g"
      refine yes _ _ (Kp.refl _ _) ?_
      rw [lostF, if_pos cc, List.map_append] <;> rfl
    · refine no _ (Kp.refl _ _) ?_
      rw [lostF, if_neg cc, List.append_nil]
  have hb' : H2 b = some (.lst (((lostL s).map fun (v : Nat) => (v : Int)).map V.int)) := hb
  clear hb
  rw [mapSt] at ha
  walk_at "g"
  have k02 := k1.trans k2
  refine ⟨w, wr, wl, wo, s, rfl, lw.k0 k02, fun c H3 nc k3 hc => ?_⟩
  walk_at "g"
  have k03 := k02.trans k3
  refine ⟨p, r, l, o, s, rfl, la.k0 k03, fun d H4 nd k4 hd => ?_⟩
  rw [mapSt] at hd
  walk_at "g"
  have k04 := k03.trans k4
  refine ⟨p, r, l, o, s, rfl, la.k0 k04, fun e H5 ne k5 he => ?_⟩
  rw [lostM] at he
  walk_at "g"
  have k05 := k04.trans k5
  refine ⟨p, r, l, o, s, rfl, la.k0 k05, fun f H6 nf k6 hf => ?_⟩
  walk_at "g"
  have k06 := k05.trans k6
  have ha6 := ((k2.trans k3).trans ((k4.trans k5).trans k6)).at0 ha
  have hb6 := (k3.trans ((k4.trans k5).trans k6)).at0 hb'
  have hc6 := ((k4.trans k5).trans k6).at0 hc
  have hd6 := (k5.trans k6).at0 hd
  have he6 := k6.at0 he
  have L1 : ((List.range (s.n + 1)).map fun v => stT s v).length ≤ 1000 := by rw [List.length_map, List.length_range]; omega
  refine ⟨d, a, _, rfl, L1, hd6, ha6, ?_⟩
  walk_at "g"
  refine ⟨e, b, _, rfl, by omega, he6, hb6, ?_⟩
  walk_at "g"
  refine ⟨f, c, _, rfl, by omega, hf, hc6, ?_⟩
  walk_at "g"
  have da : d ≠ a := (ne_of_none ((k2.trans k3).at0 ha) nd).symm
  have db : d ≠ b := (ne_of_none (k3.at0 hb') nd).symm
  have dc : d ≠ c := (ne_of_none hc nd).symm
  have de : d ≠ e := ne_of_none hd ne
  have df : d ≠ f := ne_of_none (k5.at0 hd) nf
  have ea : e ≠ a := (ne_of_none ((k2.trans (k3.trans k4)).at0 ha) ne).symm
  have eb : e ≠ b := (ne_of_none ((k3.trans k4).at0 hb') ne).symm
  have ec : e ≠ c := (ne_of_none (k4.at0 hc) ne).symm
  have ef : e ≠ f := ne_of_none he nf
  have fa : f ≠ a := (ne_of_none ((k2.trans ((k3.trans k4).trans k5)).at0 ha) nf).symm
  have fb : f ≠ b := (ne_of_none (((k3.trans k4).trans k5).at0 hb') nf).symm
  have fc : f ≠ c := (ne_of_none ((k4.trans k5).at0 hc) nf).symm
  refine w_seT hd6 (n := 0) (by rw [List.length_map, List.length_map, List.length_range]; exact ixN_pos (by omega) (by omega)) fun H7 k7 h7 => ?_
  walk_at "g"
  refine ⟨w_ty (SqL.of h7), ?_⟩
  walk_at "g"
  refine w_apT h7 (sz_lt (by rw [List.length_set, List.length_map, List.length_map, List.length_range]; omega)) fun H8 k8 h8 => ?_
  walk_at "g"
  have he8 : H8 e = _ := k8.at1 (Ne.symm de) (k7.at1 (Ne.symm de) he6)
  refine ⟨w_ty (SqL.of he8), ?_⟩
  walk_at "g"
  refine w_apT he8 (sz_lt (by rw [List.length_map]; omega)) fun H9 k9 h9 => ?_
  walk_at "g"
  have hf9 : H9 f = _ := k9.at1 (Ne.symm ef) (k8.at1 (Ne.symm df) (k7.at1 (Ne.symm df) hf))
  refine ⟨w_ty (SqL.of hf9), ?_⟩
  walk_at "g"
  refine w_apT hf9 (sz_lt (by rw [List.length_map]; omega)) fun Ha ka hha => ?_
  walk_at "g"
  have k3a : Kp [] H3 Ha := ((((k4.trans (k5.trans k6)).all.trans (k7.mono (S' := [d, e, f]) (by simp))).trans (k8.mono (by simp))).trans (k9.mono (by simp))).trans (ka.mono (by simp)) |>.cut (by simp [nd, k4.free0 ne, (k4.trans k5).free0 nf])
  have k0a := k03.trans k3a
  have haa : Ha a = _ := k3a.at0 ((k2.trans k3).at0 ha)
  have hba : Ha b = _ := k3a.at0 (k3.at0 hb')
  have hca : Ha c = _ := k3a.at0 hc
  refine ⟨p, r, l, o, s, rfl, la.k0 k0a, fun d2 Hb nd2 kb hd2 => ?_⟩
  rw [mapSt] at hd2
  walk_at "g"
  refine ⟨d2, a, _, rfl, L1, hd2, kb.at0 haa, ?_⟩
  walk_at "g"
  have k0b := k0a.trans kb
  refine ⟨p, r, l, o, s, rfl, la.k0 k0b, fun e2 Hc ne2 kc he2 => ?_⟩
  rw [lostM] at he2
  walk_at "g"
  refine ⟨e2, b, _, rfl, by omega, he2, (kb.trans kc).at0 hba, ?_⟩
  walk_at "g"
  have k0c := k0b.trans kc
  refine ⟨p, r, l, o, s, rfl, la.k0 k0c, fun f2 Hd nf2 kd hf2 => ?_⟩
  walk_at "g"
  refine ⟨f2, c, _, rfl, by omega, hf2, ((kb.trans kc).trans kd).at0 hca, ?_⟩
  walk_at "g"
  have k0d := k0c.trans kd
  have had : Hd a = _ := ((kb.trans kc).trans kd).at0 haa
  refine w_ixL (SqL.of (k0d.at0 lw.ob)) at_0 ?_
  walk_at "g"
  refine w_r1 (by omega) ?_
  rw [show ((s.n : Int) + 1).toNat = s.n + 1 by omega]
  refine lp_rng0 (fun i σ H' => H' = Hd ∧ ∃ y8 y9, σ = [some (.ref p), some (.ref w), some (.ref a), some (.ref b), some (.ref c), some (.ref d), some (.ref e), some (.ref f), y8, y9]) ⟨rfl, _, _, rfl⟩ ?_ ?_
  · rintro i σ' H' hi ⟨rfl, y8, y9, rfl⟩
    have e1 : atI (((List.range (s.n + 1)).map fun v => stT s v).map V.str) (i : Int) = some (.str (stT s i)) := by
      rw [atI_pos (by omega) (by rw [List.length_map, List.length_map, List.length_range]; omega), Int.toNat_natCast, List.getElem?_map, List.getElem?_map, List.getElem?_range hi] <;> rfl
    walk_at "g"
    refine ⟨p, r, l, o, s, (i : Int), rfl, la.k0 k0d, fun _ => ?_, fun z => absurd ⟨by omega, by omega⟩ z⟩
    rw [Int.toNat_natCast]
    walk_at "g"
    refine w_isiS (r := true) (by decide +kernel) ?_
    walk_at "g"
    refine w_ixL (SqL.of had) e1 ?_
    walk_at "g"
    rw [decide_eq_true rfl]
    walk_at "g"
    exact ⟨rfl, _, _, rfl⟩
  · rintro σ' H' ⟨rfl, y8, y9, rfl⟩
    walk_at "g"
    have la4 := la.k0 k0d
    refine w_me la4 no_m ?_
    walk_at "g"
    refine ⟨p, r, l, o, s, rfl, la4, fun He ke => ?_⟩
    walk_at "g"
    refine ⟨w, wr, wl, wo, s, rfl, (lw.k0 k0d).k0 ke, fun Hf kf => ?_⟩
    walk_at "g"
    rw [decide_eq_true rfl]
    exact g Hf ((k0d.trans ke).trans kf)
section
variable {W0 : WX} {D : Ends} {y0 y2 : Option V} {H : Hp}
theorem hnd_gap (T : Txt K mg) {gp : Int} (g : ∀ H', Kp [] H H' → D.rt (.bl true) H') : Ex K "BadGap" [("gap", .int gp)] (WE (wAs K (.ref (He.ga K "LinkError")) 2 (hndT K) W0 D) [y0, some (.int gp), y2]) H := by
  intro d nd
  refine ⟨true, T.exm_BadGap_LinkError, fun _ a na => ?_, fun z => by cases z⟩
  have hd : upd H d (.xd [("gap", .int gp)]) d = some (.xd [("gap", .int gp)]) := upd_same
  have kd : Kp [] H (upd H d (.xd [("gap", .int gp)])) := Kp.new nd
  unfold hndT
  generalize upd H d (.xd [("gap", .int gp)]) = H1 at hd kd na ⊢
  walk_at "g"
  refine w_isx hd T.ex_BadGap (.own _) T.kit_BadGap_BadGap ?_
  walk_at "g"
  refine w_isx hd T.ex_BadGap (.ty _) T.kit_BadGap_ValueError ?_
  walk_at "g"
  refine w_isx hd T.ex_BadGap (.own _) T.kit_BadGap_LogError ?_
  walk_at "g"
  refine w_isx hd T.ex_BadGap (.own _) T.kit_BadGap_BadNode ?_
  walk_at "g"
  refine w_isx hd T.ex_BadGap (.own _) T.kit_BadGap_BadSize ?_
  walk_at "g"
  refine w_xat (fun Q q => w_var (by with_unfolding_all rfl) q) hd T.ex_BadGap (T.oe_BadGap.2 _ (by simp)) (lk1 _ _ _) ?_
  walk_at "g"
  refine ⟨_, rfl, ?_⟩
  walk_at "g"
  refine w_xat (fun Q q => w_var (by with_unfolding_all rfl) q) hd T.ex_BadGap (T.oe_BadGap.2 _ (by simp)) (lk1 _ _ _) ?_
  walk_at "g"
  rw [decide_eq_true rfl]
  exact g H1 kd
end
theorem len__law_refused (K : PySem.W.Frag) : ∀ vs H Q E, sp__law_refused K vs H Q E → vs.length = (["links", "place"] : List Str).length := by
  rintro vs H Q E ⟨_, _, _, _, _, _, rfl, _⟩
  rfl
theorem rd__law_refused (T : Txt K mg) (vs : List V) (H : Hp) (Q : VK) (E : XK) (h : sp__law_refused K vs H Q E) : t__law_refused K E { nx := fun _ H' => Q .non H', rt := Q } (start ["links", "place", "raised"] vs) H := by
  obtain ⟨p, r, l, o, s, gp, rfl, la, bad, g⟩ := h
  unfold t__law_refused
  walk_at "g"
  refine ⟨p, r, l, o, s, gp, rfl, la, fun z => absurd z bad, fun _ => ?_⟩
  exact hnd_gap T fun H' k => g H' k
theorem len__law_bounds_kept (K : PySem.W.Frag) : ∀ vs H Q E, sp__law_bounds_kept K vs H Q E → vs.length = (["links", "size", "far"] : List Str).length := by
  rintro vs H Q E ⟨_, _, _, _, _, _, rfl, _⟩
  rfl
theorem rd__law_bounds_kept (T : Txt K mg) (vs : List V) (H : Hp) (Q : VK) (E : XK) (h : sp__law_bounds_kept K vs H Q E) : t__law_bounds_kept K E { nx := fun _ H' => Q .non H', rt := Q } (start ["links", "size", "far", "place"] vs) H := by
  obtain ⟨p, r, l, o, s, far, rfl, la, f0, g⟩ := h
  unfold t__law_bounds_kept
  walk_at "g"
  refine ⟨sz_ok (by show 4 ≤ 1000000; omega), nw fun q H3 nq k3 hq => ?_⟩
  have hq' : H3 q = some (.lst ([-1, (s.n : Int) + 1, -2 - far, (s.n : Int) + 2 + far].map V.int)) := hq
  have bad : ∀ x ∈ [-1, (s.n : Int) + 1, -2 - far, (s.n : Int) + 2 + far], ¬ (0 ≤ x ∧ x ≤ s.n) := by
    intro x hx
    simp only [List.mem_cons, List.not_mem_nil, or_false] at hx
    rintro ⟨z1, z2⟩
    rcases hx with rfl | rfl | rfl | rfl <;> omega
  generalize [-1, (s.n : Int) + 1, -2 - far, (s.n : Int) + 2 + far] = fs at hq' bad
  clear hq
  walk_at "g"
  refine w_l1 (SqL.of hq') ?_
  refine lp_lst (xs := fs.map V.int) (fun i σ H' => (∃ y3, σ = [some (.ref p), some (.int (s.n : Int)), some (.int far), y3]) ∧ Kp [] H3 H') ⟨⟨_, rfl⟩, Kp.refl _ _⟩ ?_ ?_ ?_
  · rintro i σ' H' hi ⟨_, k⟩
    exact SqL.of (k.at0 hq')
  · rintro i x σ' H4 hx ⟨⟨y3, rfl⟩, k4⟩
    obtain ⟨op, hop, rfl⟩ := at_map hx
    walk_at "g"
    refine ⟨p, r, l, o, s, op, rfl, la.k0 (k3.trans k4), bad op (List.mem_of_getElem? hop), fun H5 k5 => ?_⟩
    walk_at "g"
    exact ⟨⟨_, rfl⟩, k4.trans k5⟩
  · rintro σ' H4 ⟨⟨y3, rfl⟩, k4⟩
    walk_at "g"
    exact g H4 (k3.trans k4)
end
end G

set_option Elab.async false
set_option linter.all false
set_option maxRecDepth 100000
set_option maxHeartbeats 1000000
namespace G
--#FAM KF
open PySem PySem.Spec PyProof.Rows L2
local macro_rules
  | `(tactic| walk_at "1") => `(tactic| first
    | with_reducible refine w_seq ?_
    | with_reducible refine w_asg ?_
    | with_reducible refine w_asgS ?_
    | with_reducible refine w_asf ?_
    | with_reducible refine w_drop ?_
    | with_reducible refine w_ret ?_
    | with_reducible refine w_if ?_
    | with_reducible refine w_not ?_
    | with_reducible refine w_and ?_
    | with_reducible refine w_or ?_
    | with_reducible refine w_test ?_
    | with_reducible refine w_tb ?_
    | with_reducible refine w_chain ?_
    | with_reducible refine w_op ?_
    | with_reducible refine w_un ?_
    | with_reducible refine w_andV ?_
    | with_reducible refine w_orV ?_
    | with_reducible refine w_notV ?_
    | with_reducible refine w_ifE ?_
    | with_reducible refine w_cons ?_
    | with_reducible refine w_nil ?_
    | with_reducible refine w_cb ?_
    | with_reducible refine w_cl ?_
    | with_reducible refine w_mt ?_
    | with_reducible refine w_fld ?_
    | with_reducible refine w_tupN ?_
    | with_reducible refine w_lstN ?_
    | with_reducible refine w_bm ?_
    | with_reducible refine w_bm0 ?_
    | with_reducible refine w_for ?_
    | with_reducible refine w_lc ?_
    | with_reducible refine w_iR1 ?_
    | with_reducible refine w_iR2 ?_
    | with_reducible refine w_iL ?_
    | with_reducible refine w_iT ?_
    | with_reducible refine w_iE ?_
    | with_reducible refine w_iZ ?_
    | with_reducible refine w_var (by with_unfolding_all rfl) ?_
    | with_reducible refine w_c ?_
    | with_reducible refine w_next ?_
    | with_reducible refine w_i0 ?_
    | with_reducible refine w_u1 ?_
    | with_reducible refine w_addI ?_
    | with_reducible refine w_eqI ?_
    | with_reducible refine w_eqS ?_
    | with_reducible refine w_eqB ?_
    | with_reducible refine w_neI ?_
    | with_reducible refine w_neS ?_
    | with_reducible refine w_neB ?_
    | with_reducible refine w_abs ?_
    | with_reducible refine w_intI ?_
    | with_reducible refine w_min2 ?_
    | with_reducible refine w_max2 ?_
    | with_reducible refine w_isN0 ?_
    | with_reducible refine w_isN1 ref_ne ?_
    | with_reducible refine w_isN1 int_ne ?_
    | with_reducible refine w_notN0 ?_
    | with_reducible refine w_notN1 ref_ne ?_
    | with_reducible refine w_notN1 int_ne ?_
    | with_reducible refine w_ex1 ?_
    | with_reducible refine w_n1 ?_
    | with_reducible refine w_n2 ?_
    | with_reducible refine w_tT ?_
    | with_reducible refine w_tF ?_
    | with_reducible refine w_nT ?_
    | with_reducible refine w_nF ?_
    | with_reducible refine w_rz ?_
    | with_reducible refine w_mkN ?_
    | with_reducible refine w_lrgN ?_
    | with_reducible refine w_rg1 ?_
    | with_reducible refine w_rg2 ?_
    | with_reducible refine w_sl ?_
    | with_reducible refine w_np ?_
    | with_reducible refine w_pt ?_
    | with_reducible refine w_tr ?_
    | with_reducible refine w_gn ?_
    | with_reducible refine w_yes ?_
    | with_reducible refine w_m1 ?_
    | with_reducible refine w_asu ?_
    | with_reducible refine w_exS ?_
    | with_reducible refine w_iS ?_
    | with_reducible refine w_g1 ?_
    | with_reducible refine w_gc ?_
    | with_reducible refine w_gt (SqT.of upd_same) rfl ?_)
local macro_rules
  | `(tactic| walk_at "g") => `(tactic| repeat walk_at "1")
local macro_rules
  | `(tactic| walk_at "j1") => `(tactic| first
    | with_reducible refine w_seqI ?_
    | walk_at "1")
local macro_rules
  | `(tactic| walk_at "j") => `(tactic| repeat walk_at "j1")
section
variable {K : PySem.W.Frag} {mg : Str → Option Value}
/-- what a run keeps -/
structure RunI (K : PySem.W.Frag) (H : Hp) (n : Nat) (p r l o w wr wl wo b : Addr) (s : Sd) : Prop where
  la : LinksAt K H p r l o s
  lw : LW H w wr wl wo s
  bg : Bag H b
  sn : s.n = n
theorem RunI.k0 {K : PySem.W.Frag} {H H' : Hp} {n : Nat} {p r l o w wr wl wo b : Addr} {s : Sd} (a : RunI K H n p r l o w wr wl wo b s) (k : Kp [] H H') : RunI K H' n p r l o w wr wl wo b s := ⟨a.la.k0 k, a.lw.k0 k, a.bg.k0' k, a.sn⟩
theorem RunI.kb {K : PySem.W.Frag} {H H' : Hp} {n : Nat} {p r l o w wr wl wo b : Addr} {s : Sd} (a : RunI K H n p r l o w wr wl wo b s) (ap : Apart p r l o w wr wl wo b) (k : Kp [b] H H') (hb : Bag H' b) : RunI K H' n p r l o w wr wl wo b s := by
  obtain ⟨x1, x2, x3, x4, x5, x6, x7, x8⟩ := ap.a3
  exact ⟨a.la.kp k (by simpa using Ne.symm x1) (by simpa using Ne.symm x2) (by simpa using Ne.symm x3) (by simpa using Ne.symm x4), a.lw.kp k (by simpa using Ne.symm x5) (by simpa using Ne.symm x6) (by simpa using Ne.symm x7) (by simpa using Ne.symm x8), hb, a.sn⟩
theorem legO_ok {s : Sd} {v : Nat} (h1 : 1 ≤ v) (h2 : v ≤ s.n) : OkOp s (legO s v) ∧ (legO s v).natAbs = v := by
  unfold legO
  by_cases c : gB s.O v = true
  · rw [if_pos c]
    refine ⟨⟨⟨by omega, by omega⟩, ?_⟩, by omega⟩
    rw [Int.natAbs_natCast, c]
    symm
    exact decide_eq_true (by omega)
  · rw [if_neg c]
    refine ⟨⟨⟨by omega, by omega⟩, ?_⟩, by omega⟩
    rw [Int.natAbs_neg, Int.natAbs_natCast, Bool.not_eq_true] at *
    rw [c]
    symm
    exact decide_eq_false (by omega)
theorem len__law_after (K : PySem.W.Frag) : ∀ vs H Q E, sp__law_after K vs H Q E → vs.length = (["links", "world", "bag"] : List Str).length := by
  rintro vs H Q E ⟨_, _, _, _, _, _, _, _, _, _, rfl, _⟩
  rfl
theorem rd__law_after (T : Txt K mg) (vs : List V) (H : Hp) (Q : VK) (E : XK) (h : sp__law_after K vs H Q E) : t__law_after K E { nx := fun _ H' => Q .non H', rt := Q } (start ["links", "world", "bag", "turn", "asked", "node", "deed"] vs) H := by
  obtain ⟨p, r, l, o, w, wr, wl, wo, b, s, rfl, la, lw, bg, ap, n1, g⟩ := h
  unfold t__law_after
  have n60 := la.wf.n60
  obtain ⟨x1, x2, x3, x4, x5, x6, x7, x8⟩ := ap.a3
  obtain ⟨u1, u2, u3, u4, u5, u6, u7, u8, u9⟩ := ap.a1
  obtain ⟨z1, z2, z3, z4, z5, z6⟩ := ap.a2
  walk_at "g"
  refine ⟨b, 7, rfl, by omega, by omega, bg, fun d H2 d1 d2 k2 b2 => ?_⟩
  walk_at "g"
  refine w_r1 (by omega) ?_
  have R0 : RunI K H2 s.n p r l o w wr wl wo b s := RunI.kb ⟨la, lw, bg, rfl⟩ ap k2 b2
  refine lp_rng0 (fun i σ H' => (∃ (s' : Sd) (y3 y4 y5 y6 : Option V), σ = [some (.ref p), some (.ref w), some (.ref b), y3, y4, y5, y6] ∧ RunI K H' s.n p r l o w wr wl wo b s') ∧ Kp [b, r, l, o, wr, wl, wo] H H')
    ⟨⟨s, _, _, _, _, rfl, R0⟩, k2.mono (by simp)⟩ ?_ ?_
  · rintro i σ' H3 hi ⟨⟨s', y3, y4, y5, y6, rfl, R⟩, k3⟩
    walk_at "j"
    refine ⟨b, 2, rfl, by omega, by omega, R.bg, fun as H4 as1 as2 k4 b4 => ?_⟩
    have R4 := R.kb ap k4 b4
    walk_at "j"
    have ob4 : H4 w = some (.lst [.int s.n, .ref wr, .ref wl, .ref wo]) := by have := R4.lw.ob; rw [R4.sn] at this; exact this
    refine w_ixL (SqL.of ob4) at_0 ?_
    walk_at "j"
    refine ⟨b, s.n, rfl, by omega, by omega, b4, fun nd H5 nd1 nd2 k5 b5 => ?_⟩
    have R5 := R4.kb ap k5 b5
    obtain ⟨nv, env⟩ : ∃ nv : Nat, 1 + nd = (nv : Int) := ⟨(1 + nd).toNat, by omega⟩
    have nv1 : 1 ≤ nv := by omega
    have nv2 : nv ≤ s'.n := by rw [R.sn]; omega
    walk_at "j"
    rw [env]
    refine w_ifJ (fun σ' H' => H' = H5 ∧ σ' = [some (.ref p), some (.ref w), some (.ref b), some (.int (0 + (i : Int))), some (.bl (decide (as = 1))), some (.int (nv : Int)), some (.int (legO s' nv))]) (fun N hN => ?_) (fun σ' H6 ⟨eh, es⟩ => ?_)
    · have ob5 : H5 w = some (.lst [.int s.n, .ref wr, .ref wl, .ref wo]) := by have := R5.lw.ob; rw [R5.sn] at this; exact this
      walk_at "g"
      refine w_ixL (SqL.of ob5) (i := 3) (v := .ref wo) rfl ?_
      walk_at "g"
      refine w_ixL (SqL.of R5.lw.ho) (at_B (by omega) (by rw [R5.la.wf.lO]; omega)) ?_
      walk_at "g"
      rw [Int.toNat_natCast]
      refine w_iteB (fun c1 => ?_) (fun c1 => ?_)
      · walk_at "g"
        refine hN _ _ ⟨rfl, ?_⟩
        unfold legO
        rw [if_pos c1, Int.zero_add] <;> rfl
      · walk_at "g"
        refine hN _ _ ⟨rfl, ?_⟩
        unfold legO
        rw [if_neg (by rw [c1]; exact Bool.false_ne_true), Int.zero_add] <;> rfl
    subst eh es
    obtain ⟨ok, en⟩ := legO_ok (s := s') nv1 nv2
    walk_at "g"
    refine w_me R5.la no_m ?_
    walk_at "g"
    refine ⟨p, r, l, o, s', _, rfl, R5.la, fun _ Ha ka laa => ?_, fun z => absurd ok z⟩
    have lwa : LW Ha w wr wl wo s' := R5.lw.kp ka (by simp [z1, z2, z3]) (by simp [Ne.symm u1, Ne.symm u4, Ne.symm u7]) (by simp [Ne.symm u2, Ne.symm u5, Ne.symm u8]) (by simp [Ne.symm u3, Ne.symm u6, Ne.symm u9])
    walk_at "g"
    refine ⟨w, wr, wl, wo, s', _, rfl, lwa, ok.1, fun Hb kb lwb => ?_⟩
    have lab : LinksAt K Hb p r l o (stepS s' (legO s' nv)) := laa.kp kb (by simp [z4, z5, z6]) (by simp [u1, u2, u3]) (by simp [u4, u5, u6]) (by simp [u7, u8, u9])
    have bgb : Bag Hb b := by
      obtain ⟨cc, mm, tt, h⟩ := R5.bg
      exact ⟨cc, mm, tt, kb _ _ (by simp [x6, x7, x8]) (ka _ _ (by simp [x2, x3, x4]) h)⟩
    have k3b : Kp [b, r, l, o, wr, wl, wo] H3 Hb := ((k4.trans k5).mono (by simp)).trans ((ka.mono (by simp)).trans (kb.mono (by simp)))
    have Rb : RunI K Hb s.n p r l o w wr wl wo b (stepS s' (legO s' nv)) := ⟨lab, lwb, bgb, by rw [stepS_n, R.sn]⟩
    walk_at "g"
    refine w_iteD (fun cc => ?_) (fun cc => ?_)
    · walk_at "g"
      refine ⟨p, r, l, o, w, wr, wl, wo, _, rfl, lab, lwb, fun Hc kc => ?_⟩
      walk_at "g"
      exact ⟨⟨_, _, _, _, _, rfl, Rb.k0 kc⟩, k3.trans (k3b.trans kc.all)⟩
    · exact ⟨⟨_, _, _, _, _, rfl, Rb⟩, k3.trans k3b⟩
  · rintro σ' H3 ⟨⟨s', y3, y4, y5, y6, rfl, R⟩, k3⟩
    walk_at "g"
    refine ⟨p, r, l, o, w, wr, wl, wo, s', rfl, R.la, R.lw, fun H4 k4 => ?_⟩
    exact g s' H4 R.sn (R.la.k0 k4) (R.lw.k0 k4) (k3.trans k4.all)
theorem len_law (K : PySem.W.Frag) : ∀ vs H Q E, sp_law K vs H Q E → vs.length = (["script"] : List Str).length := by
  rintro vs H Q E ⟨_, _, rfl, _⟩
  rfl
theorem rd_law (T : Txt K mg) (vs : List V) (H : Hp) (Q : VK) (E : XK) (h : sp_law K vs H Q E) : t_law K E { nx := fun _ H' => Q .non H', rt := Q } (start ["script", "bag", "more", "world", "other", "far", "links", "beside", "old", "kept_links"] vs) H := by
  obtain ⟨c, ns, rfl, hs, hl, g⟩ := h
  unfold t_law
  walk_at "g"
  refine ⟨c, 0, ns, rfl, by omega, by omega, hs, hl, fun b H1 nb k1 b1 => ?_⟩
  walk_at "g"
  refine ⟨c, 1, ns, rfl, by omega, by omega, k1.sql (by simp) hs, hl, fun e H2 ne k2 e2 => ?_⟩
  have b2 := b1.k0' k2
  have be : b ≠ e := b1.ne' ne
  walk_at "g"
  refine ⟨b, rfl, b2, fun n H3 n60 k3 b3 => ?_⟩
  have e3 := e2.k1' (Ne.symm be) k3
  walk_at "g"
  refine ⟨b, n, rfl, n60, b3, fun s w wr wl wo H4 sn snd nw nwr nwl nwo k4 b4 lw4 => ?_⟩
  have e4 := e3.k1' (Ne.symm be) k4
  have ew : e ≠ w := e3.ne' nw
  have ewr : e ≠ wr := e3.ne' nwr
  have ewl : e ≠ wl := e3.ne' nwl
  have ewo : e ≠ wo := e3.ne' nwo
  walk_at "g"
  refine ⟨e, rfl, e4, fun n2 H5 n260 k5 e5 => ?_⟩
  have lw5 : LW H5 w wr wl wo s := lw4.kp k5 (by simpa using Ne.symm ew) (by simpa using Ne.symm ewr) (by simpa using Ne.symm ewl) (by simpa using Ne.symm ewo)
  walk_at "g"
  refine ⟨e, n2, rfl, n260, e5, fun t v vr vl vo H6 tn tsnd nv nvr nvl nvo k6 e6 lv6 => ?_⟩
  have lw6 : LW H6 w wr wl wo s := lw5.kp k6 (by simpa using Ne.symm ew) (by simpa using Ne.symm ewr) (by simpa using Ne.symm ewl) (by simpa using Ne.symm ewo)
  have ev : e ≠ v := e5.ne' nv
  have evr : e ≠ vr := e5.ne' nvr
  have evl : e ≠ vl := e5.ne' nvl
  have evo : e ≠ vo := e5.ne' nvo
  -- what is new stands apart from s's lists
  obtain ⟨Lw, hLw, _⟩ := lw5.hl
  have apv : ∀ x, H5 x = none → x ≠ w ∧ x ≠ wr ∧ x ≠ wl ∧ x ≠ wo := fun x nx => ⟨(ne_of_none lw5.ob nx).symm, (ne_of_none lw5.hr nx).symm, (ne_of_none hLw nx).symm, (ne_of_none lw5.ho nx).symm⟩
  obtain ⟨v1, v2, v3, v4⟩ := apv v nv
  obtain ⟨vr1, vr2, vr3, vr4⟩ := apv vr nvr
  obtain ⟨vl1, vl2, vl3, vl4⟩ := apv vl nvl
  obtain ⟨vo1, vo2, vo3, vo4⟩ := apv vo nvo
  walk_at "g"
  refine ⟨e, 1000, rfl, by omega, by omega, e6, fun far H7 f1 f2 k7 e7 => ?_⟩
  have lw7 : LW H7 w wr wl wo s := lw6.kp k7 (by simpa using Ne.symm ew) (by simpa using Ne.symm ewr) (by simpa using Ne.symm ewl) (by simpa using Ne.symm ewo)
  have lv7 : LW H7 v vr vl vo t := lv6.kp k7 (by simpa using Ne.symm ev) (by simpa using Ne.symm evr) (by simpa using Ne.symm evl) (by simpa using Ne.symm evo)
  walk_at "g"
  refine ⟨w, wr, wl, wo, s, rfl, lw7, fun H8 k8 => ?_⟩
  have lw8 := lw7.k0 k8
  have lv8 := lv7.k0 k8
  have e8 := e7.k0' k8
  walk_at "g"
  refine ⟨s, rfl, lw8.wf, snd, fun p r l o H9 np nr nl no k9 la9 => ?_⟩
  have lw9 := lw8.k0 k9
  have lv9 := lv8.k0 k9
  have e9 := e8.k0' k9
  have ap : Apart p r l o w wr wl wo e := by
    obtain ⟨L8, hL8, _⟩ := lw8.hl
    refine ⟨⟨(ne_of_none lw8.hr nr).symm, (ne_of_none hL8 nr).symm, (ne_of_none lw8.ho nr).symm, (ne_of_none lw8.hr nl).symm, (ne_of_none hL8 nl).symm, (ne_of_none lw8.ho nl).symm, (ne_of_none lw8.hr no).symm, (ne_of_none hL8 no).symm, (ne_of_none lw8.ho no).symm⟩,
      ⟨ne_of_none lw8.ob nr, ne_of_none lw8.ob nl, ne_of_none lw8.ob no, (ne_of_none lw8.hr np).symm, (ne_of_none hL8 np).symm, (ne_of_none lw8.ho np).symm⟩, ⟨e8.ne' np, e8.ne' nr, e8.ne' nl, e8.ne' no, ew, ewr, ewl, ewo⟩⟩
  obtain ⟨x1, x2, x3, x4, x5, x6, x7, x8⟩ := ap.a3
  -- .. and from the other one's
  have avr : ∀ x, H8 x = none → x ≠ v ∧ x ≠ vr ∧ x ≠ vl ∧ x ≠ vo := by
    obtain ⟨L8, hL8, _⟩ := lv8.hl
    exact fun x nx => ⟨(ne_of_none lv8.ob nx).symm, (ne_of_none lv8.hr nx).symm, (ne_of_none hL8 nx).symm, (ne_of_none lv8.ho nx).symm⟩
  obtain ⟨r1, r2, r3, r4⟩ := avr r nr
  obtain ⟨l1, l2, l3, l4⟩ := avr l nl
  obtain ⟨o1, o2, o3, o4⟩ := avr o no
  walk_at "g"
  refine ⟨v, vr, vl, vo, t, rfl, lv9, fun Ha ka => ?_⟩
  have lwa := lw9.k0 ka
  have lva := lv9.k0 ka
  have laa := la9.k0 ka
  have ea := e9.k0' ka
  walk_at "g"
  refine ⟨t, rfl, lva.wf, tsnd, fun p2 q2 m2 t2 Hb np2 nq2 nm2 nt2 kb lb => ?_⟩
  have lwb := lwa.k0 kb
  have lvb := lva.k0 kb
  have lab := laa.k0 kb
  have eb := ea.k0' kb
  -- the second object from the first one's lists
  have a2 : ∀ x, Ha x = none → x ≠ e ∧ x ≠ r ∧ x ≠ l ∧ x ≠ o ∧ x ≠ wr ∧ x ≠ wl ∧ x ≠ wo := by
    obtain ⟨La, hLa, _⟩ := lwa.hl
    exact fun x nx => ⟨(ea.ne' nx).symm, (ne_of_none laa.hr nx).symm, (ne_of_none laa.hl nx).symm, (ne_of_none laa.ho nx).symm, (ne_of_none lwa.hr nx).symm, (ne_of_none hLa nx).symm, (ne_of_none lwa.ho nx).symm⟩
  have S7 : ∀ x, Ha x = none → x ∉ [e, r, l, o, wr, wl, wo] := fun x nx => by
    obtain ⟨h1, h2, h3, h4, h5, h6, h7⟩ := a2 x nx
    simp [h1, h2, h3, h4, h5, h6, h7]
  have Sv : v ∉ [e, r, l, o, wr, wl, wo] ∧ vr ∉ [e, r, l, o, wr, wl, wo] ∧ vl ∉ [e, r, l, o, wr, wl, wo] ∧ vo ∉ [e, r, l, o, wr, wl, wo] := by
    refine ⟨?_, ?_, ?_, ?_⟩
    · simp [Ne.symm ev, Ne.symm r1, Ne.symm l1, Ne.symm o1, v2, v3, v4]
    · simp [Ne.symm evr, Ne.symm r2, Ne.symm l2, Ne.symm o2, vr2, vr3, vr4]
    · simp [Ne.symm evl, Ne.symm r3, Ne.symm l3, Ne.symm o3, vl2, vl3, vl4]
    · simp [Ne.symm evo, Ne.symm r4, Ne.symm l4, Ne.symm o4, vo2, vo3, vo4]
  walk_at "g"
  refine ⟨p, r, l, o, w, wr, wl, wo, s, rfl, lab, lwb, fun Hc kc => ?_⟩
  walk_at "g"
  refine ⟨p2, q2, m2, t2, v, vr, vl, vo, t, rfl, lb.k0 kc, lvb.k0 kc, fun Hd kd => ?_⟩
  walk_at "g"
  have kbd := kc.trans kd
  have lwd := lwb.k0 kbd
  have lvd := lvb.k0 kbd
  refine w_ixL (SqL.of lwd.ob) at_0 ?_
  walk_at "g"
  refine ⟨p, r, l, o, s, far, rfl, lab.k0 kbd, f1, fun He ke => ?_⟩
  walk_at "g"
  refine w_ixL (SqL.of (lvd.k0 ke).ob) at_0 ?_
  walk_at "g"
  refine ⟨p2, q2, m2, t2, t, far, rfl, (lb.k0 kbd).k0 ke, f1, fun Hf kf => ?_⟩
  walk_at "j"
  have kbf := kbd.trans (ke.trans kf)
  have lwf := lwb.k0 kbf
  have lvf := lvb.k0 kbf
  have laf := lab.k0 kbf
  have lbf := lb.k0 kbf
  have ef := eb.k0' kbf
  refine w_ifJ (fun σ' H' => (∃ y8 y9, σ' = [some (.ref c), some (.ref b), some (.ref e), some (.ref w), some (.ref v), some (.int far), some (.ref p), some (.ref p2), y8, y9]) ∧ ∃ s', s'.n = s.n ∧ LinksAt K H' p r l o s' ∧ LW H' w wr wl wo s' ∧ LinksAt K H' p2 q2 m2 t2 t ∧ LW H' v vr vl vo t) (fun N hN => ?_) (fun σ' Hg ⟨⟨y8, y9, es⟩, s', sn', lag, lwg, lbg, lvg⟩ => ?_)
  · walk_at "g"
    refine w_ixL (SqL.of lwf.ob) at_0 ?_
    walk_at "g"
    refine w_iteD (fun c1 => ?_) (fun c1 => ?_)
    · obtain ⟨L', hL, lL, eL⟩ := lwf.hl
      walk_at "g"
      refine w_ixL (SqL.of lwf.ob) at_0 ?_
      walk_at "g"
      refine w_ixL (SqL.of lwf.ob) (i := 1) (v := .ref wr) rfl ?_
      walk_at "g"
      refine w_listLN (SqL.of lwf.hr) fun or H1 nor j1 hor => ?_
      walk_at "g"
      refine w_ixL (SqL.of (j1.at0 lwf.ob)) (i := 2) (v := .ref wl) rfl ?_
      walk_at "g"
      refine w_listLN (SqL.of (j1.at0 hL)) fun ol H2 nol j2 hol => ?_
      walk_at "g"
      refine w_ixL (SqL.of (j2.at0 (j1.at0 lwf.ob))) (i := 3) (v := .ref wo) rfl ?_
      walk_at "g"
      refine w_listLN (SqL.of (j2.at0 (j1.at0 lwf.ho))) fun oo H3 noo j3 hoo => ?_
      walk_at "g"
      refine ⟨sz_ok (by show 4 ≤ 1000000; omega), G.nw fun ow H4 now j4 how => ?_⟩
      have hor3 := j3.at0 (j2.at0 hor)
      have hol3 := j3.at0 hol
      have lold : LW H4 ow or ol oo s := ⟨how, j4.at0 hor3, ⟨L', j4.at0 hol3, lL, eL⟩, j4.at0 hoo, ⟨ne_of_none hor nol, ne_of_none (j2.at0 hor) noo, ne_of_none hol noo, (ne_of_none hor3 now).symm, (ne_of_none hol3 now).symm, (ne_of_none hoo now).symm⟩, lwf.wf⟩
      have j14 := (j1.trans j2).trans (j3.trans j4)
      have f1' := kb.trans kbf
      have g1 : Ha or = none := f1'.free0 nor
      have g2 : Ha ol = none := f1'.free0 (j1.free0 nol)
      have g3 : Ha oo = none := f1'.free0 ((j1.trans j2).free0 noo)
      have g4 : Ha ow = none := f1'.free0 (((j1.trans j2).trans j3).free0 now)
      walk_at "g"
      refine w_me (laf.k0 j14) no_m ?_
      walk_at "g"
      refine ⟨p, r, l, o, s, rfl, laf.k0 j14, fun kp kr kl ko H5 nkp nkr nkl nko j5 lk => ?_⟩
      have f2' := f1'.trans j14
      have j15 := j14.trans j5
      walk_at "g"
      refine ⟨p, r, l, o, w, wr, wl, wo, e, s, rfl, laf.k0 j15, lwf.k0 j15, ef.k0' j15, ap, by omega, fun s' H6 sn' la6 lw6 j6 => ?_⟩
      walk_at "g"
      have lk6 : LinksAt K H6 kp kr kl ko s := lk.kp j6 (S7 _ (f2'.free0 nkp)) (S7 _ (f2'.free0 nkr)) (S7 _ (f2'.free0 nkl)) (S7 _ (f2'.free0 nko))
      have lo6 : LW H6 ow or ol oo s := (lold.k0 j5).kp j6 (S7 _ g4) (S7 _ g1) (S7 _ g2) (S7 _ g3)
      have lb6 : LinksAt K H6 p2 q2 m2 t2 t := (lbf.k0 j15).kp j6 (S7 _ np2) (S7 _ nq2) (S7 _ nm2) (S7 _ nt2)
      have lv6' : LW H6 v vr vl vo t := (lvf.k0 j15).kp j6 Sv.1 Sv.2.1 Sv.2.2.1 Sv.2.2.2
      refine ⟨kp, kr, kl, ko, ow, or, ol, oo, s, rfl, lk6, lo6, fun H7 j7 => ?_⟩
      walk_at "g"
      exact hN _ _ ⟨⟨_, _, rfl⟩, s', sn', la6.k0 j7, lw6.k0 j7, lb6.k0 j7, lv6'.k0 j7⟩
    · walk_at "g"
      exact hN _ _ ⟨⟨_, _, rfl⟩, s, rfl, laf, lwf, lbf, lvf⟩
  subst es
  walk_at "g"
  refine w_ixL (SqL.of lwg.ob) at_0 ?_
  walk_at "g"
  refine ⟨p, r, l, o, s', far, rfl, lag, f1, fun Hh kh => ?_⟩
  walk_at "g"
  refine ⟨p2, q2, m2, t2, v, vr, vl, vo, t, rfl, lbg.k0 kh, lvg.k0 kh, fun Hi ki => ?_⟩
  walk_at "g"
  refine ⟨p, r, l, o, w, wr, wl, wo, s', rfl, lag.k0 (kh.trans ki), lwg.k0 (kh.trans ki), fun Hj kj => ?_⟩
  exact g Hj
end
end G

set_option Elab.async false
set_option linter.all false
set_option maxRecDepth 100000
set_option maxHeartbeats 4000000

namespace G
open PySem PySem.Spec PyProof.Rows L2
section
variable {P : Program} {w : World} {K : PySem.W.Frag} {mg : Str → Option Value} {base : Heap}
theorem ok_check_size {f : Addr} {fd : FuncData} (T : Txt K mg) (F : FunD K "check_size" "check_size" (defArgs s_check_size) (defBody s_check_size) (defScope s_check_size) [] [] f fd) (x_BadSize : ExM P w K mg base 1 "BadSize" (He.ga K "BadSize") ["size"]) : FnOk P w K mg base (L2N.CX P w) 3 f fd ["size"] (sp_check_size K) :=
  F.ok sc_check_size (len_check_size K) fun cdv A outer s H vs Q E hr h => ⟨t_check_size K E, pss_one (ps_if (pt_not (pt_chain op_le op_le (pe_int) (pv 0) (pe_cc T.cc_Links_MOST (pe_own T.g_Links)))) (pss_one (ps_rz x_BadSize rfl (L2N.takes_of rfl rfl rfl rfl) hr (by decide) (pa_cons (pv 0) (pa_nil)))) (pss_nil)), rd_check_size T vs H Q E h⟩
theorem ok_Links___init__ {f : Addr} {fd : FuncData} (T : Txt K mg) (F : FunD K "__init__" "Links.__init__" (defArgs s_Links___init__) (defBody s_Links___init__) (defScope s_Links___init__) [] [] f fd) (c_check_size : Cal P w K mg base 3 "check_size" ["size"] (sp_check_size K)) : FnOk P w K mg base (L2N.CX P w) 4 f fd ["self", "size"] (sp_Links___init__ K) :=
  F.ok sc_Links___init__ (len_Links___init__ K) fun cdv A outer s H vs Q E hr h => ⟨t_Links___init__ K E, pss_cons (ps_expr (pe_cl c_check_size hr (by decide) (pat_of (W := fun cls d _ H => E cls d H) (L2N.takes_of rfl rfl rfl rfl)) (pa_cons (pv 1) (pa_nil)))) (pss_cons (ps_fld (pv 0) (pv 1) rfl) (pss_cons (ps_fld (pv 0) (pe_listRg rfl rfl T.b_list (prg_2 rfl T.b_range (pe_int) (pe_op op_addA (pv 1) (pe_int)))) rfl) (pss_cons (ps_fld (pv 0) (pe_op op_addA (pe_lst (pa_cons (pe_int) (pa_nil))) (pe_listRg rfl rfl T.b_list (prg_1 rfl T.b_range (pe_op op_addA (pv 1) (pe_int))))) rfl) (pss_one (ps_fld (pv 0) (pe_op op_mulA (pe_lst (pa_cons (pe_bl) (pa_nil))) (pe_op op_addA (pv 1) (pe_int))) rfl))))), rd_Links___init__ T vs H Q E h⟩
theorem ok_Links_copy {f : Addr} {fd : FuncData} (T : Txt K mg) (F : FunD K "copy" "Links.copy" (defArgs s_Links_copy) (defBody s_Links_copy) (defScope s_Links_copy) [] [] f fd) (m_Links : Mak P w K mg base 4 "Links" (He.ga K "Links") ["self", "size"] (sp_Links___init__ K)) : FnOk P w K mg base (L2N.CX P w) 6 f fd ["self"] (sp_Links_copy K) :=
  F.ok sc_Links_copy (len_Links_copy K) fun cdv A outer s H vs Q E hr h => ⟨t_Links_copy K E, pss_cons (ps_set (i := 1) sc_Links_copy.nd rfl (by first | exact Or.inl rfl | exact Or.inr rfl) (pe_mk m_Links hr (by decide) (pat_of (W := fun cls d _ H => E cls d H) (L2N.takes_of rfl rfl rfl rfl)) (pa_cons (pe_fld (pv 0) rfl) (pa_nil)))) (pss_cons (ps_fld (pv 1) (pe_callTy call_listA (by rfl) T.b_list (by decide +kernel) (pa_cons (pe_fld (pv 0) rfl) (pa_nil))) rfl) (pss_cons (ps_fld (pv 1) (pe_callTy call_listA (by rfl) T.b_list (by decide +kernel) (pa_cons (pe_fld (pv 0) rfl) (pa_nil))) rfl) (pss_cons (ps_fld (pv 1) (pe_callTy call_listA (by rfl) T.b_list (by decide +kernel) (pa_cons (pe_fld (pv 0) rfl) (pa_nil))) rfl) (pss_one (ps_ret (pv 1)))))), rd_Links_copy T vs H Q E h⟩
theorem ok_is_positive {f : Addr} {fd : FuncData} (T : Txt K mg) (F : FunD K "is_positive" "is_positive" (defArgs s_is_positive) (defBody s_is_positive) (defScope s_is_positive) [] [] f fd)  : FnOk P w K mg base (L2N.CX P w) 1 f fd ["word"] (sp_is_positive K) :=
  F.ok sc_is_positive (len_is_positive K) fun cdv A outer s H vs Q E hr h => ⟨t_is_positive K E, pss_one (ps_ret (pe_and (pe_chain op_le op_le (pe_int) (pe_callB call_lenA (by rfl) T.b_len (by decide +kernel) (pa_cons (pv 0) (pa_nil))) (pe_glob rfl T.k_MOST_DIGITS.choose_spec ⟨_, rfl⟩)) (pe_and (pe_cmpR (op_neA hr) (pe_ix ix_seq (pv 0) (pe_int) (fun _ _ => rfl)) (pe_str) (nomark _)) (pe_one (pe_callB (cr_all rfl) (by rfl) T.b_all (by decide +kernel) (pa_cons (pe_lc (own := [("letter", 1)]) (g := gName 1) (tt := tYes) (te := tOp rInS (tVar 1) (tC (.str "0123456789"))) rfl sc_is_positive.nd (pi_str (pv 0)) (blkOk_by (own := [("letter", 1)]) (N := ["word", "letter"]) (sc := defScope s_is_positive) (by decide +kernel)) (fun _ _ _ _ _ => pg_name (i := 1) sc_is_positive.nd rfl (by first | exact Or.inl rfl | exact Or.inr rfl)) (fun _ _ _ _ _ => pts_nil) (fun _ _ _ _ _ => pe_cmpR op_inS (pv 1) (pe_glob rfl T.k_DIGITS.choose_spec ⟨_, rfl⟩) (rfl))) (pa_nil))))))), rd_is_positive T vs H Q E h⟩
theorem ok__read_numbers {f : Addr} {fd : FuncData} (T : Txt K mg) (F : FunD K "_read_numbers" "_read_numbers" (defArgs s__read_numbers) (defBody s__read_numbers) (defScope s__read_numbers) [] [] f fd) (c_is_positive : Cal P w K mg base 1 "is_positive" ["word"] (sp_is_positive K)) (x_BadDump : ExM P w K mg base 1 "BadDump" (He.ga K "BadDump") ["part"]) : FnOk P w K mg base (L2N.CX P w) 3 f fd ["text", "part"] (sp__read_numbers K) :=
  F.ok sc__read_numbers (len__read_numbers K) fun cdv A outer s H vs Q E hr h => ⟨t__read_numbers K E, pss_cons (ps_set (i := 2) sc__read_numbers.nd rfl (by first | exact Or.inl rfl | exact Or.inr rfl) (pe_splitA (pv 0) (pe_str))) (pss_cons (ps_if (pt_not (pt_val (pe_callB (cr_all rfl) (by rfl) T.b_all (by decide +kernel) (pa_cons (pe_lc (own := [("word", 3)]) (g := gName 3) (tt := tYes) (te := tOrV (tOp (rEqA K) (tVar 3) (tC (.str "0"))) (tCl (sp_is_positive K) (fun _ => E0) (tCons (tVar 3) (tNil)))) rfl sc__read_numbers.nd (pi_list (pv 2)) (blkOk_by (own := [("word", 3)]) (N := ["text", "part", "words", "word"]) (sc := defScope s__read_numbers) (by decide +kernel)) (fun _ _ _ _ _ => pg_name (i := 3) sc__read_numbers.nd rfl (by first | exact Or.inl rfl | exact Or.inr rfl)) (fun _ _ _ _ _ => pts_nil) (fun _ _ _ _ _ => pe_or (pe_cmpR (op_eqA hr) (pv 3) (pe_str) (nomark _)) (pe_one (pe_cl c_is_positive hr (by decide) (pat_no) (pa_cons (pv 3) (pa_nil)))))) (pa_nil))))) (pss_one (ps_rz x_BadDump rfl (L2N.takes_of rfl rfl rfl rfl) hr (by decide) (pa_cons (pv 1) (pa_nil)))) (pss_nil)) (pss_one (ps_ret (pe_lc (own := [("word", 3)]) (g := gName 3) (tt := tYes) (te := tCB rIntS (tCons (tVar 3) (tNil))) rfl sc__read_numbers.nd (pi_list (pv 2)) (blkOk_by (own := [("word", 3)]) (N := ["text", "part", "words", "word"]) (sc := defScope s__read_numbers) (by decide +kernel)) (fun _ _ _ _ _ => pg_name (i := 3) sc__read_numbers.nd rfl (by first | exact Or.inl rfl | exact Or.inr rfl)) (fun _ _ _ _ _ => pts_nil) (fun _ _ _ _ _ => pe_callTy call_intS (by rfl) T.b_int (by decide +kernel) (pa_cons (pv 3) (pa_nil))))))), rd__read_numbers T vs H Q E h⟩
theorem ok__read_lefts {f : Addr} {fd : FuncData} (T : Txt K mg) (F : FunD K "_read_lefts" "_read_lefts" (defArgs s__read_lefts) (defBody s__read_lefts) (defScope s__read_lefts) [] [] f fd) (c__read_numbers : Cal P w K mg base 3 "_read_numbers" ["text", "part"] (sp__read_numbers K)) (x_BadDump : ExM P w K mg base 1 "BadDump" (He.ga K "BadDump") ["part"]) : FnOk P w K mg base (L2N.CX P w) 4 f fd ["text", "size"] (sp__read_lefts K) :=
  F.ok sc__read_lefts (len__read_lefts K) fun cdv A outer s H vs Q E hr h => ⟨t__read_lefts K E, pss_cons (ps_set (i := 2) sc__read_lefts.nd rfl (by first | exact Or.inl rfl | exact Or.inr rfl) (pe_cl c__read_numbers hr (by decide) (pat_of (W := fun cls d _ H => E cls d H) (L2N.takes_of rfl rfl rfl rfl)) (pa_cons (pv 0) (pa_cons (pe_int) (pa_nil))))) (pss_cons (ps_if ((pw_or (pt_cmpR (op_neA hr) (pe_callB call_lenA (by rfl) T.b_len (by decide +kernel) (pa_cons (pv 2) (pa_nil))) (pe_op op_addA (pv 1) (pe_int)) (nomark _)) (pw_or1 (pt_not (pt_val (pe_callB (cr_all rfl) (by rfl) T.b_all (by decide +kernel) (pa_cons (pe_lc (own := [("place", 3), ("link", 4)]) (g := gTup K 2 (gCons (gName 3) (gCons (gName 4) (gNil)))) (tt := tYes) (te := tOp rLeA (tVar 4) (tVar 3)) rfl sc__read_lefts.nd (pi_enum (by rfl) T.b_enumerate (pa_cons (pv 2) (pa_nil))) (blkOk_by (own := [("place", 3), ("link", 4)]) (N := ["text", "size", "lefts", "place", "link"]) (sc := defScope s__read_lefts) (by decide +kernel)) (fun _ _ _ _ _ => pg_tup (by rfl) (pgs_cons (pg_name (i := 3) sc__read_lefts.nd rfl (by first | exact Or.inl rfl | exact Or.inr rfl)) (pgs_cons (pg_name (i := 4) sc__read_lefts.nd rfl (by first | exact Or.inl rfl | exact Or.inr rfl)) (pgs_nil)))) (fun _ _ _ _ _ => pts_nil) (fun _ _ _ _ _ => pe_cmpR op_le (pv 4) (pv 3) (nomark _))) (pa_nil))))))).pt) (pss_one (ps_rz x_BadDump rfl (L2N.takes_of rfl rfl rfl rfl) hr (by decide) (pa_cons (pe_int) (pa_nil)))) (pss_nil)) (pss_one (ps_ret (pv 2)))), rd__read_lefts T vs H Q E h⟩
theorem ok__read_outs {f : Addr} {fd : FuncData} (T : Txt K mg) (F : FunD K "_read_outs" "_read_outs" (defArgs s__read_outs) (defBody s__read_outs) (defScope s__read_outs) [] [] f fd) (c__read_numbers : Cal P w K mg base 3 "_read_numbers" ["text", "part"] (sp__read_numbers K)) (x_BadDump : ExM P w K mg base 1 "BadDump" (He.ga K "BadDump") ["part"]) : FnOk P w K mg base (L2N.CX P w) 4 f fd ["text", "size"] (sp__read_outs K) :=
  F.ok sc__read_outs (len__read_outs K) fun cdv A outer s H vs Q E hr h => ⟨t__read_outs K E, pss_cons (ps_if (pt_cmpR (op_eqA hr) (pv 0) (pe_str) (nomark _)) (pss_one (ps_ret (pe_lst (pa_nil)))) (pss_nil)) (pss_cons (ps_set (i := 2) sc__read_outs.nd rfl (by first | exact Or.inl rfl | exact Or.inr rfl) (pe_cl c__read_numbers hr (by decide) (pat_of (W := fun cls d _ H => E cls d H) (L2N.takes_of rfl rfl rfl rfl)) (pa_cons (pv 0) (pa_cons (pe_int) (pa_nil))))) (pss_cons (ps_set (i := 3) sc__read_outs.nd rfl (by first | exact Or.inl rfl | exact Or.inr rfl) (pe_op op_addA (pe_op op_addA (pe_lst (pa_cons (pe_int) (pa_nil))) (pv 2)) (pe_lst (pa_cons (pe_op op_addA (pv 1) (pe_int)) (pa_nil))))) (pss_cons (ps_if (pt_not (pt_val (pe_callB (cr_all rfl) (by rfl) T.b_all (by decide +kernel) (pa_cons (pe_lc (own := [("low", 4), ("high", 5)]) (g := gTup K 2 (gCons (gName 4) (gCons (gName 5) (gNil)))) (tt := tYes) (te := tOp rLtA (tVar 4) (tVar 5)) rfl sc__read_outs.nd (pi_zip (by rfl) T.b_zip (pa_cons (pv 3) (pa_cons (pe_slice sl_list (pv 3) (po_some (pe_int)) (po_none)) (pa_nil)))) (blkOk_by (own := [("low", 4), ("high", 5)]) (N := ["text", "size", "outs", "bounds", "low", "high"]) (sc := defScope s__read_outs) (by decide +kernel)) (fun _ _ _ _ _ => pg_tup (by rfl) (pgs_cons (pg_name (i := 4) sc__read_outs.nd rfl (by first | exact Or.inl rfl | exact Or.inr rfl)) (pgs_cons (pg_name (i := 5) sc__read_outs.nd rfl (by first | exact Or.inl rfl | exact Or.inr rfl)) (pgs_nil)))) (fun _ _ _ _ _ => pts_nil) (fun _ _ _ _ _ => pe_cmpR op_lt (pv 4) (pv 5) (nomark _))) (pa_nil))))) (pss_one (ps_rz x_BadDump rfl (L2N.takes_of rfl rfl rfl rfl) hr (by decide) (pa_cons (pe_int) (pa_nil)))) (pss_nil)) (pss_one (ps_ret (pv 2)))))), rd__read_outs T vs H Q E h⟩
theorem ok__read_rights {f : Addr} {fd : FuncData} (T : Txt K mg) (F : FunD K "_read_rights" "_read_rights" (defArgs s__read_rights) (defBody s__read_rights) (defScope s__read_rights) [] [] f fd) (c__read_numbers : Cal P w K mg base 3 "_read_numbers" ["text", "part"] (sp__read_numbers K)) (x_BadDump : ExM P w K mg base 1 "BadDump" (He.ga K "BadDump") ["part"]) : FnOk P w K mg base (L2N.CX P w) 4 f fd ["text"] (sp__read_rights K) :=
  F.ok sc__read_rights (len__read_rights K) fun cdv A outer s H vs Q E hr h => ⟨t__read_rights K E, pss_cons (ps_set (i := 1) sc__read_rights.nd rfl (by first | exact Or.inl rfl | exact Or.inr rfl) (pe_cl c__read_numbers hr (by decide) (pat_of (W := fun cls d _ H => E cls d H) (L2N.takes_of rfl rfl rfl rfl)) (pa_cons (pv 0) (pa_cons (pe_int) (pa_nil))))) (pss_cons (ps_set (i := 2) sc__read_rights.nd rfl (by first | exact Or.inl rfl | exact Or.inr rfl) (pe_op op_sub (pe_callB call_lenA (by rfl) T.b_len (by decide +kernel) (pa_cons (pv 1) (pa_nil))) (pe_int))) (pss_cons (ps_if ((pw_or (pt_cmpR op_gt (pv 2) (pe_cc T.cc_Links_MOST (pe_own T.g_Links)) (nomark _)) (pw_or1 (pt_not (pt_val (pe_callB (cr_all rfl) (by rfl) T.b_all (by decide +kernel) (pa_cons (pe_lc (own := [("node", 3), ("link", 4)]) (g := gTup K 2 (gCons (gName 3) (gCons (gName 4) (gNil)))) (tt := tYes) (te := tChain rLtA rLeA (tVar 3) (tVar 4) (tOp rAddA (tVar 2) (tC (.int 1)))) rfl sc__read_rights.nd (pi_enum (by rfl) T.b_enumerate (pa_cons (pv 1) (pa_nil))) (blkOk_by (own := [("node", 3), ("link", 4)]) (N := ["text", "rights", "size", "node", "link"]) (sc := defScope s__read_rights) (by decide +kernel)) (fun _ _ _ _ _ => pg_tup (by rfl) (pgs_cons (pg_name (i := 3) sc__read_rights.nd rfl (by first | exact Or.inl rfl | exact Or.inr rfl)) (pgs_cons (pg_name (i := 4) sc__read_rights.nd rfl (by first | exact Or.inl rfl | exact Or.inr rfl)) (pgs_nil)))) (fun _ _ _ _ _ => pts_nil) (fun _ _ _ _ _ => pe_chain op_lt op_le (pv 3) (pv 4) (pe_op op_addA (pv 2) (pe_int)))) (pa_nil))))))).pt) (pss_one (ps_rz x_BadDump rfl (L2N.takes_of rfl rfl rfl rfl) hr (by decide) (pa_cons (pe_int) (pa_nil)))) (pss_nil)) (pss_one (ps_ret (pv 1))))), rd__read_rights T vs H Q E h⟩
theorem ok_Links_read {f : Addr} {fd : FuncData} (T : Txt K mg) (F : FunD K "read" "Links.read" (defArgs s_Links_read) (defBody s_Links_read) (defScope s_Links_read) [] [] f fd) (m_Links : Mak P w K mg base 4 "Links" (He.ga K "Links") ["self", "size"] (sp_Links___init__ K)) (c__read_lefts : Cal P w K mg base 4 "_read_lefts" ["text", "size"] (sp__read_lefts K)) (c__read_outs : Cal P w K mg base 4 "_read_outs" ["text", "size"] (sp__read_outs K)) (c__read_rights : Cal P w K mg base 4 "_read_rights" ["text"] (sp__read_rights K)) (x_BadDump : ExM P w K mg base 1 "BadDump" (He.ga K "BadDump") ["part"]) : FnOk P w K mg base (L2N.CX P w) 6 f fd ["text"] (sp_Links_read K) :=
  F.ok sc_Links_read (len_Links_read K) fun cdv A outer s H vs Q E hr h => ⟨t_Links_read K E, pss_cons (ps_set (i := 1) sc_Links_read.nd rfl (by first | exact Or.inl rfl | exact Or.inr rfl) (pe_splitA (pv 0) (pe_str))) (pss_cons (ps_asg (pe_slice sl_list (pe_op op_addA (pv 1) (pe_lst (pa_cons (pe_str) (pa_cons (pe_str) (pa_nil))))) (po_none) (po_some (pe_int))) (pg_unl (by rfl) (pgs_cons (pg_name (i := 2) sc_Links_read.nd rfl (by first | exact Or.inl rfl | exact Or.inr rfl)) (pgs_cons (pg_name (i := 3) sc_Links_read.nd rfl (by first | exact Or.inl rfl | exact Or.inr rfl)) (pgs_cons (pg_name (i := 4) sc_Links_read.nd rfl (by first | exact Or.inl rfl | exact Or.inr rfl)) (pgs_nil)))))) (pss_cons (ps_set (i := 5) sc_Links_read.nd rfl (by first | exact Or.inl rfl | exact Or.inr rfl) (pe_cl c__read_rights hr (by decide) (pat_of (W := fun cls d _ H => E cls d H) (L2N.takes_of rfl rfl rfl rfl)) (pa_cons (pv 2) (pa_nil)))) (pss_cons (ps_set (i := 6) sc_Links_read.nd rfl (by first | exact Or.inl rfl | exact Or.inr rfl) (pe_mk m_Links hr (by decide) (pat_of (W := fun cls d _ H => E cls d H) (L2N.takes_of rfl rfl rfl rfl)) (pa_cons (pe_op op_sub (pe_callB call_lenA (by rfl) T.b_len (by decide +kernel) (pa_cons (pv 5) (pa_nil))) (pe_int)) (pa_nil)))) (pss_cons (ps_fld (pv 6) (pv 5) rfl) (pss_cons (ps_fld (pv 6) (pe_op op_addA (pe_lst (pa_cons (pe_int) (pa_nil))) (pe_cl c__read_lefts hr (by decide) (pat_of (W := fun cls d _ H => E cls d H) (L2N.takes_of rfl rfl rfl rfl)) (pa_cons (pv 3) (pa_cons (pe_fld (pv 6) rfl) (pa_nil))))) rfl) (pss_cons (ps_for (passes_of rfl) rfl (pi_list (pe_cl c__read_outs hr (by decide) (pat_of (W := fun cls d _ H => E cls d H) (L2N.takes_of rfl rfl rfl rfl)) (pa_cons (pv 4) (pa_cons (pe_fld (pv 6) rfl) (pa_nil))))) (pg_name (i := 7) sc_Links_read.nd rfl (by first | exact Or.inl rfl | exact Or.inr rfl)) (pss_one (ps_asg (pe_bl) (pg_sub (pe_fld (pv 6) rfl) (pv 7) set_list)))) (pss_cons (ps_if (pt_cmpR op_gt (pe_callB call_lenA (by rfl) T.b_len (by decide +kernel) (pa_cons (pv 1) (pa_nil))) (pe_int) (nomark _)) (pss_one (ps_rz x_BadDump rfl (L2N.takes_of rfl rfl rfl rfl) hr (by decide) (pa_cons (pe_int) (pa_nil)))) (pss_nil)) (pss_one (ps_ret (pv 6)))))))))), rd_Links_read T vs H Q E h⟩
theorem ok_Links_is_legal {f : Addr} {fd : FuncData} (T : Txt K mg) (F : FunD K "is_legal" "Links.is_legal" (defArgs s_Links_is_legal) (defBody s_Links_is_legal) (defScope s_Links_is_legal) [] [] f fd)  : FnOk P w K mg base (L2N.CX P w) 1 f fd ["self", "operation"] (sp_Links_is_legal K) :=
  F.ok sc_Links_is_legal (len_Links_is_legal K) fun cdv A outer s H vs Q E hr h => ⟨t_Links_is_legal K E, pss_one (ps_ret (pe_cmpR (op_eqA hr) (pe_ix ix_seq (pe_fld (pv 0) rfl) (pe_callB call_absA (by rfl) T.b_abs (by decide +kernel) (pa_cons (pv 1) (pa_nil))) (fun _ _ => rfl)) (pe_cmpR op_gt (pv 1) (pe_int) (nomark _)) (nomark _))), rd_Links_is_legal T vs H Q E h⟩
theorem ok_check_operation {f : Addr} {fd : FuncData} (T : Txt K mg) (F : FunD K "check_operation" "check_operation" (defArgs s_check_operation) (defBody s_check_operation) (defScope s_check_operation) [] [] f fd) (x_BadOperation : ExM P w K mg base 1 "BadOperation" (He.ga K "BadOperation") ["operation", "index"]) : FnOk P w K mg base (L2N.CX P w) 3 f fd ["size", "operation", "index"] (sp_check_operation K) :=
  F.ok sc_check_operation (len_check_operation K) fun cdv A outer s H vs Q E hr h => ⟨t_check_operation K E, pss_one (ps_if (pt_not (pt_chain op_le op_le (pe_int) (pe_callB call_absA (by rfl) T.b_abs (by decide +kernel) (pa_cons (pv 1) (pa_nil))) (pv 0))) (pss_one (ps_rz x_BadOperation rfl (L2N.takes_of rfl rfl rfl rfl) hr (by decide) (pa_cons (pv 1) (pa_cons (pv 2) (pa_nil))))) (pss_nil)), rd_check_operation T vs H Q E h⟩
theorem ok_Links_check {f : Addr} {fd : FuncData} (T : Txt K mg) (F : FunD K "check" "Links.check" (defArgs s_Links_check) (defBody s_Links_check) (defScope s_Links_check) [] [] f fd) (c_Links_is_legal : Met P w K mg base 1 (He.ga K "Links") "is_legal" ["self", "operation"] (sp_Links_is_legal K)) (c_check_operation : Cal P w K mg base 3 "check_operation" ["size", "operation", "index"] (sp_check_operation K)) (x_Illegal : ExM P w K mg base 1 "Illegal" (He.ga K "Illegal") ["operation", "index"]) : FnOk P w K mg base (L2N.CX P w) 4 f fd ["self", "operation", "index"] (sp_Links_check K) :=
  F.ok sc_Links_check (len_Links_check K) fun cdv A outer s H vs Q E hr h => ⟨t_Links_check K E, pss_cons (ps_expr (pe_cl c_check_operation hr (by decide) (pat_of (W := fun cls d _ H => E cls d H) (L2N.takes_of rfl rfl rfl rfl)) (pa_cons (pe_fld (pv 0) rfl) (pa_cons (pv 1) (pa_cons (pv 2) (pa_nil)))))) (pss_one (ps_if (pt_not (pt_val (pe_mt c_Links_is_legal T.cl_Links hr (by decide) (pat_of (W := fun cls d _ H => E cls d H) (L2N.takes_of rfl rfl rfl rfl)) (pv 0) (pa_cons (pv 1) (pa_nil))))) (pss_one (ps_rz x_Illegal rfl (L2N.takes_of rfl rfl rfl rfl) hr (by decide) (pa_cons (pv 1) (pa_cons (pv 2) (pa_nil))))) (pss_nil))), rd_Links_check T vs H Q E h⟩
theorem ok_Links_apply_at {f : Addr} {fd : FuncData} (T : Txt K mg) (F : FunD K "apply_at" "Links.apply_at" (defArgs s_Links_apply_at) (defBody s_Links_apply_at) (defScope s_Links_apply_at) [] [] f fd) (c_Links_check : Met P w K mg base 4 (He.ga K "Links") "check" ["self", "operation", "index"] (sp_Links_check K)) : FnOk P w K mg base (L2N.CX P w) 5 f fd ["self", "operation", "index"] (sp_Links_apply_at K) :=
  F.ok sc_Links_apply_at (len_Links_apply_at K) fun cdv A outer s H vs Q E hr h => ⟨t_Links_apply_at K E, pss_cons (ps_expr (pe_mt c_Links_check T.cl_Links hr (by decide) (pat_of (W := fun cls d _ H => E cls d H) (L2N.takes_of rfl rfl rfl rfl)) (pv 0) (pa_cons (pv 1) (pa_cons (pv 2) (pa_nil))))) (pss_cons (ps_set (i := 3) sc_Links_apply_at.nd rfl (by first | exact Or.inl rfl | exact Or.inr rfl) (pe_callB call_absA (by rfl) T.b_abs (by decide +kernel) (pa_cons (pv 1) (pa_nil)))) (pss_cons (ps_set (i := 4) sc_Links_apply_at.nd rfl (by first | exact Or.inl rfl | exact Or.inr rfl) (pe_ix ix_seq (pe_fld (pv 0) rfl) (pv 3) (fun _ _ => rfl))) (pss_cons (ps_set (i := 5) sc_Links_apply_at.nd rfl (by first | exact Or.inl rfl | exact Or.inr rfl) (pe_ix ix_seq (pe_fld (pv 0) rfl) (pv 3) (fun _ _ => rfl))) (pss_cons (ps_set (i := 6) sc_Links_apply_at.nd rfl (by first | exact Or.inl rfl | exact Or.inr rfl) (pe_cmpR op_lt (pv 1) (pe_int) (nomark _))) (pss_cons (ps_asg (pe_ifExp (pt_val (pv 6)) (pv 5) (pv 3)) (pg_sub (pe_fld (pv 0) rfl) (pv 4) set_list)) (pss_cons (ps_asg (pe_ifExp (pt_val (pv 6)) (pv 4) (pv 3)) (pg_sub (pe_fld (pv 0) rfl) (pv 5) set_list)) (pss_one (ps_asg (pv 6) (pg_sub (pe_fld (pv 0) rfl) (pv 3) set_list))))))))), rd_Links_apply_at T vs H Q E h⟩
theorem ok_Links_apply {f : Addr} {fd : FuncData} (T : Txt K mg) (F : FunD K "apply" "Links.apply" (defArgs s_Links_apply) (defBody s_Links_apply) (defScope s_Links_apply) [] [] f fd) (c_Links_apply_at : Met P w K mg base 5 (He.ga K "Links") "apply_at" ["self", "operation", "index"] (sp_Links_apply_at K)) : FnOk P w K mg base (L2N.CX P w) 6 f fd ["self", "operation"] (sp_Links_apply K) :=
  F.ok sc_Links_apply (len_Links_apply K) fun cdv A outer s H vs Q E hr h => ⟨t_Links_apply K E, pss_one (ps_expr (pe_mt c_Links_apply_at T.cl_Links hr (by decide) (pat_of (W := fun cls d _ H => E cls d H) (L2N.takes_of rfl rfl rfl rfl)) (pv 0) (pa_cons (pv 1) (pa_cons (pe_int) (pa_nil))))), rd_Links_apply T vs H Q E h⟩
theorem ok_Links_outs {f : Addr} {fd : FuncData} (T : Txt K mg) (F : FunD K "outs" "Links.outs" (defArgs s_Links_outs) (defBody s_Links_outs) (defScope s_Links_outs) [] [] f fd)  : FnOk P w K mg base (L2N.CX P w) 1 f fd ["self"] (sp_Links_outs K) :=
  F.ok sc_Links_outs (len_Links_outs K) fun cdv A outer s H vs Q E hr h => ⟨t_Links_outs K E, pss_one (ps_ret (pe_lc (own := [("node", 1)]) (g := gName 1) (tt := tB (tOp (rIx K) (tFld K (tVar 0) "_out") (tVar 1))) (te := tVar 1) rfl sc_Links_outs.nd (pi_range2 rfl T.b_range (pa_cons (pe_int) (pa_cons (pe_op op_addA (pe_fld (pv 0) rfl) (pe_int)) (pa_nil)))) (blkOk_by (own := [("node", 1)]) (N := ["self", "node"]) (sc := defScope s_Links_outs) (by decide +kernel)) (fun _ _ _ _ _ => pg_name (i := 1) sc_Links_outs.nd rfl (by first | exact Or.inl rfl | exact Or.inr rfl)) (fun _ _ _ _ _ => pts_one (pt_val (pe_ix ix_seq (pe_fld (pv 0) rfl) (pv 1) (fun _ _ => rfl)))) (fun _ _ _ _ _ => pv 1))), rd_Links_outs T vs H Q E h⟩
theorem ok__joined {f : Addr} {fd : FuncData} (T : Txt K mg) (F : FunD K "_joined" "_joined" (defArgs s__joined) (defBody s__joined) (defScope s__joined) [] [] f fd)  : FnOk P w K mg base (L2N.CX P w) 1 f fd ["numbers"] (sp__joined K) :=
  F.ok sc__joined (len__joined K) fun cdv A outer s H vs Q E hr h => ⟨t__joined K E, pss_one (ps_ret (pe_joinA (pe_str) (pe_lc (own := [("number", 1)]) (g := gName 1) (tt := tYes) (te := tCB rStrA (tCons (tVar 1) (tNil))) rfl sc__joined.nd (pi_list (pv 0)) (blkOk_by (own := [("number", 1)]) (N := ["numbers", "number"]) (sc := defScope s__joined) (by decide +kernel)) (fun _ _ _ _ _ => pg_name (i := 1) sc__joined.nd rfl (by first | exact Or.inl rfl | exact Or.inr rfl)) (fun _ _ _ _ _ => pts_nil) (fun _ _ _ _ _ => pe_callTy call_strA (by rfl) T.b_str (by decide +kernel) (pa_cons (pv 1) (pa_nil)))))), rd__joined T vs H Q E h⟩
theorem ok_dump_of {f : Addr} {fd : FuncData} (T : Txt K mg) (F : FunD K "dump_of" "dump_of" (defArgs s_dump_of) (defBody s_dump_of) (defScope s_dump_of) [] [] f fd) (c__joined : Cal P w K mg base 1 "_joined" ["numbers"] (sp__joined K)) : FnOk P w K mg base (L2N.CX P w) 2 f fd ["rights", "lefts", "outs"] (sp_dump_of K) :=
  F.ok sc_dump_of (len_dump_of K) fun cdv A outer s H vs Q E hr h => ⟨t_dump_of K E, pss_one (ps_ret (pe_joinA (pe_str) (pe_lst (pa_cons (pe_cl c__joined hr (by decide) (pat_of (W := fun cls d _ H => E cls d H) (L2N.takes_of rfl rfl rfl rfl)) (pa_cons (pv 0) (pa_nil))) (pa_cons (pe_cl c__joined hr (by decide) (pat_of (W := fun cls d _ H => E cls d H) (L2N.takes_of rfl rfl rfl rfl)) (pa_cons (pv 1) (pa_nil))) (pa_cons (pe_ifExp (pt_tr (pv 2) (by intro _; rfl)) (pe_cl c__joined hr (by decide) (pat_of (W := fun cls d _ H => E cls d H) (L2N.takes_of rfl rfl rfl rfl)) (pa_cons (pv 2) (pa_nil))) (pe_str)) (pa_nil))))))), rd_dump_of T vs H Q E h⟩
theorem ok_Links_dump {f : Addr} {fd : FuncData} (T : Txt K mg) (F : FunD K "dump" "Links.dump" (defArgs s_Links_dump) (defBody s_Links_dump) (defScope s_Links_dump) [] [] f fd) (c_Links_outs : Met P w K mg base 1 (He.ga K "Links") "outs" ["self"] (sp_Links_outs K)) (c_dump_of : Cal P w K mg base 2 "dump_of" ["rights", "lefts", "outs"] (sp_dump_of K)) : FnOk P w K mg base (L2N.CX P w) 3 f fd ["self"] (sp_Links_dump K) :=
  F.ok sc_Links_dump (len_Links_dump K) fun cdv A outer s H vs Q E hr h => ⟨t_Links_dump K E, pss_one (ps_ret (pe_cl c_dump_of hr (by decide) (pat_of (W := fun cls d _ H => E cls d H) (L2N.takes_of rfl rfl rfl rfl)) (pa_cons (pe_fld (pv 0) rfl) (pa_cons (pe_slice sl_list (pe_fld (pv 0) rfl) (po_some (pe_int)) (po_none)) (pa_cons (pe_mt0 c_Links_outs T.cl_Links hr (by decide) (pat_of (W := fun cls d _ H => E cls d H) (L2N.takes_of rfl rfl rfl rfl)) (pv 0)) (pa_nil)))))), rd_Links_dump T vs H Q E h⟩
theorem ok__law_alone {f : Addr} {fd : FuncData} (T : Txt K mg) (F : FunD K "_law_alone" "_law_alone" (defArgs s__law_alone) (defBody s__law_alone) (defScope s__law_alone) [] [] f fd)  : FnOk P w K mg base (L2N.CX P w) 1 f fd ["world"] (sp__law_alone K) :=
  F.ok sc__law_alone (len__law_alone K) fun cdv A outer s H vs Q E hr h => ⟨t__law_alone K E, pss_cons (ps_set (i := 1) sc__law_alone.nd rfl (by first | exact Or.inl rfl | exact Or.inr rfl) (pe_lst (pa_nil))) (pss_cons (ps_for (passes_of rfl) rfl (pi_range2 rfl T.b_range (pa_cons (pe_int) (pa_cons (pe_op op_addA (pe_ix ix_seq (pv 0) (pe_int) (fun _ _ => rfl)) (pe_int)) (pa_nil)))) (pg_name (i := 2) sc__law_alone.nd rfl (by first | exact Or.inl rfl | exact Or.inr rfl)) (pss_cons (ps_set (i := 3) sc__law_alone.nd rfl (by first | exact Or.inl rfl | exact Or.inr rfl) (pe_cmpR (op_eqA hr) (pe_ix ix_seq (pe_ix ix_seq (pv 0) (pe_int) (fun _ _ => rfl)) (pv 2) (fun _ _ => rfl)) (pe_op op_addA (pv 2) (pe_int)) (nomark _))) (pss_cons (ps_set (i := 4) sc__law_alone.nd rfl (by first | exact Or.inl rfl | exact Or.inr rfl) (pe_cmpR (op_eqA hr) (pe_ix ix_seq (pe_ix ix_seq (pv 0) (pe_int) (fun _ _ => rfl)) (pv 2) (fun _ _ => rfl)) (pe_op op_sub (pv 2) (pe_int)) (nomark _))) (pss_one (ps_if ((pw_and (pt_val (pv 3)) (pw_and1 (pt_cmpR (op_neA hr) (pe_ix ix_seq (pe_ix ix_seq (pv 0) (pe_int) (fun _ _ => rfl)) (pe_op op_addA (pv 2) (pe_int)) (fun _ _ => rfl)) (pv 2) (nomark _)))).pt) (pss_one (ps_expr (pe_bm PySem.F.plainAttrs_list PySem.F.slot_list_append PySem.F.type_list_append mt_append (pv 1) (pa_cons (pv 2) (pa_nil))))) (pss_one (ps_if ((pw_and (pt_val (pv 4)) (pw_and1 (pt_cmpR (op_neA hr) (pe_ix ix_seq (pe_ix ix_seq (pv 0) (pe_int) (fun _ _ => rfl)) (pe_op op_sub (pv 2) (pe_int)) (fun _ _ => rfl)) (pv 2) (nomark _)))).pt) (pss_one (ps_expr (pe_bm PySem.F.plainAttrs_list PySem.F.slot_list_append PySem.F.type_list_append mt_append (pv 1) (pa_cons (pv 2) (pa_nil))))) (pss_nil)))))))) (pss_one (ps_ret (pv 1)))), rd__law_alone T vs H Q E h⟩
theorem ok__law_whole_number {f : Addr} {fd : FuncData} (T : Txt K mg) (F : FunD K "_law_whole_number" "_law_whole_number" (defArgs s__law_whole_number) (defBody s__law_whole_number) (defScope s__law_whole_number) [] [] f fd)  : FnOk P w K mg base (L2N.CX P w) 1 f fd ["told"] (sp__law_whole_number K) :=
  F.ok sc__law_whole_number (len__law_whole_number K) fun cdv A outer s H vs Q E hr h => ⟨t__law_whole_number K E, pss_one (ps_ret (pe_and (pe_callB call_isi (by rfl) T.b_isinstance (by decide +kernel) (pa_cons (pv 0) (pa_cons (pe_ty "int" T.b_int (by decide +kernel)) (pa_nil)))) (pe_one (pe_not (pe_callB call_isi (by rfl) T.b_isinstance (by decide +kernel) (pa_cons (pv 0) (pa_cons (pe_ty "bool" T.b_bool (by decide +kernel)) (pa_nil)))))))), rd__law_whole_number T vs H Q E h⟩
theorem ok__law_numbers {f : Addr} {fd : FuncData} (T : Txt K mg) (F : FunD K "_law_numbers" "_law_numbers" (defArgs s__law_numbers) (defBody s__law_numbers) (defScope s__law_numbers) [] [] f fd) (c__law_whole_number : Cal P w K mg base 1 "_law_whole_number" ["told"] (sp__law_whole_number K)) : FnOk P w K mg base (L2N.CX P w) 2 f fd ["told", "due"] (sp__law_numbers K) :=
  F.ok sc__law_numbers (len__law_numbers K) fun cdv A outer s H vs Q E hr h => ⟨t__law_numbers K E, pss_cons (ps_if ((pw_or (pt_not (pt_val (pe_callB call_isi (by rfl) T.b_isinstance (by decide +kernel) (pa_cons (pv 0) (pa_cons (pe_ty "list" T.b_list (by decide +kernel)) (pa_nil)))))) (pw_or1 (pt_cmpR (op_neA hr) (pe_callB call_lenA (by rfl) T.b_len (by decide +kernel) (pa_cons (pv 0) (pa_nil))) (pe_callB call_lenA (by rfl) T.b_len (by decide +kernel) (pa_cons (pv 1) (pa_nil))) (nomark _)))).pt) (pss_one (ps_ret (pe_bl))) (pss_nil)) (pss_cons (ps_for (passes_of rfl) rfl (pi_range1 rfl T.b_range (pa_cons (pe_callB call_lenA (by rfl) T.b_len (by decide +kernel) (pa_cons (pv 1) (pa_nil))) (pa_nil))) (pg_name (i := 2) sc__law_numbers.nd rfl (by first | exact Or.inl rfl | exact Or.inr rfl)) (pss_one (ps_if ((pw_or (pt_not (pt_val (pe_cl c__law_whole_number hr (by decide) (pat_of (W := fun cls d _ H => E cls d H) (L2N.takes_of rfl rfl rfl rfl)) (pa_cons (pe_ix ix_seq (pv 0) (pv 2) (fun _ _ => rfl)) (pa_nil))))) (pw_or1 (pt_cmpR (op_neA hr) (pe_ix ix_seq (pv 0) (pv 2) (fun _ _ => rfl)) (pe_ix ix_seq (pv 1) (pv 2) (fun _ _ => rfl)) (nomark _)))).pt) (pss_one (ps_ret (pe_bl))) (pss_nil)))) (pss_one (ps_ret (pe_bl)))), rd__law_numbers T vs H Q E h⟩
theorem ok__law_state {f : Addr} {fd : FuncData} (T : Txt K mg) (F : FunD K "_law_state" "_law_state" (defArgs s__law_state) (defBody s__law_state) (defScope s__law_state) [] [] f fd)  : FnOk P w K mg base (L2N.CX P w) 1 f fd ["world", "place"] (sp__law_state K) :=
  F.ok sc__law_state (len__law_state K) fun cdv A outer s H vs Q E hr h => ⟨t__law_state K E, pss_cons (ps_set (i := 2) sc__law_state.nd rfl (by first | exact Or.inl rfl | exact Or.inr rfl) (pe_cmpR (op_eqA hr) (pe_ix ix_seq (pe_ix ix_seq (pv 0) (pe_int) (fun _ _ => rfl)) (pv 1) (fun _ _ => rfl)) (pe_op op_addA (pv 1) (pe_int)) (nomark _))) (pss_cons (ps_set (i := 3) sc__law_state.nd rfl (by first | exact Or.inl rfl | exact Or.inr rfl) (pe_cmpR (op_eqA hr) (pe_ix ix_seq (pe_ix ix_seq (pv 0) (pe_int) (fun _ _ => rfl)) (pe_op op_addA (pv 1) (pe_int)) (fun _ _ => rfl)) (pv 1) (nomark _))) (pss_cons (ps_if ((pw_and (pt_val (pv 2)) (pw_and1 (pt_val (pv 3)))).pt) (pss_one (ps_ret (pe_str))) (pss_nil)) (pss_cons (ps_if (pt_val (pv 2)) (pss_one (ps_ret (pe_str))) (pss_nil)) (pss_cons (ps_if (pt_val (pv 3)) (pss_one (ps_ret (pe_str))) (pss_nil)) (pss_one (ps_ret (pe_str))))))), rd__law_state T vs H Q E h⟩
theorem ok__law_text {f : Addr} {fd : FuncData} (T : Txt K mg) (F : FunD K "_law_text" "_law_text" (defArgs s__law_text) (defBody s__law_text) (defScope s__law_text) [] [] f fd)  : FnOk P w K mg base (L2N.CX P w) 1 f fd ["world"] (sp__law_text K) :=
  F.ok sc__law_text (len__law_text K) fun cdv A outer s H vs Q E hr h => ⟨t__law_text K E, pss_cons (ps_setLc (i := 1) (own := [("node", 4)]) (g := gName 4) (tt := tB (tOp (rIx K) (tOp (rIx K) (tVar 0) (tC (.int 3))) (tVar 4))) (te := tCB rStrA (tCons (tVar 4) (tNil))) rfl sc__law_text.nd rfl rfl (sw_true rfl rfl rfl (by decide +kernel)) (pi_range2 rfl T.b_range (pa_cons (pe_int) (pa_cons (pe_op op_addA (pe_ix ix_seq (pv 0) (pe_int) (fun _ _ => rfl)) (pe_int)) (pa_nil)))) (blkOk_by (own := [("node", 4)]) (N := ["world", "gone", "rights", "lefts", "node"]) (sc := defScope s__law_text) (by decide +kernel)) (fun _ _ _ _ _ => pg_name (i := 4) sc__law_text.nd rfl (by first | exact Or.inl rfl | exact Or.inr rfl)) (fun _ _ _ _ _ => pts_one (pt_val (pe_ix ix_seq (pe_ix ix_seq (pv 0) (pe_int) (fun _ _ => rfl)) (pv 4) (fun _ _ => rfl)))) (fun _ _ _ _ _ => pe_callTy call_strA (by rfl) T.b_str (by decide +kernel) (pa_cons (pv 4) (pa_nil)))) (pss_cons (ps_if (pt_cmpR (op_eqA hr) (pe_callB call_lenA (by rfl) T.b_len (by decide +kernel) (pa_cons (pv 1) (pa_nil))) (pe_int) (nomark _)) (pss_one (ps_set (i := 1) sc__law_text.nd rfl (by first | exact Or.inl rfl | exact Or.inr rfl) (pe_lst (pa_cons (pe_str) (pa_nil))))) (pss_nil)) (pss_cons (ps_set (i := 2) sc__law_text.nd rfl (by first | exact Or.inl rfl | exact Or.inr rfl) (pe_joinA (pe_str) (pe_lc (own := [("node", 4)]) (g := gName 4) (tt := tYes) (te := tCB rStrA (tCons (tVar 4) (tNil))) rfl sc__law_text.nd (pi_list (pe_ix ix_seq (pv 0) (pe_int) (fun _ _ => rfl))) (blkOk_by (own := [("node", 4)]) (N := ["world", "gone", "rights", "lefts", "node"]) (sc := defScope s__law_text) (by decide +kernel)) (fun _ _ _ _ _ => pg_name (i := 4) sc__law_text.nd rfl (by first | exact Or.inl rfl | exact Or.inr rfl)) (fun _ _ _ _ _ => pts_nil) (fun _ _ _ _ _ => pe_callTy call_strA (by rfl) T.b_str (by decide +kernel) (pa_cons (pv 4) (pa_nil)))))) (pss_cons (ps_set (i := 3) sc__law_text.nd rfl (by first | exact Or.inl rfl | exact Or.inr rfl) (pe_joinA (pe_str) (pe_lc (own := [("node", 4)]) (g := gName 4) (tt := tYes) (te := tCB rStrA (tCons (tVar 4) (tNil))) rfl sc__law_text.nd (pi_list (pe_slice sl_list (pe_ix ix_seq (pv 0) (pe_int) (fun _ _ => rfl)) (po_some (pe_int)) (po_none))) (blkOk_by (own := [("node", 4)]) (N := ["world", "gone", "rights", "lefts", "node"]) (sc := defScope s__law_text) (by decide +kernel)) (fun _ _ _ _ _ => pg_name (i := 4) sc__law_text.nd rfl (by first | exact Or.inl rfl | exact Or.inr rfl)) (fun _ _ _ _ _ => pts_nil) (fun _ _ _ _ _ => pe_callTy call_strA (by rfl) T.b_str (by decide +kernel) (pa_cons (pv 4) (pa_nil)))))) (pss_one (ps_ret (pe_op op_addA (pe_op op_addA (pe_op op_addA (pe_op op_addA (pv 2) (pe_str)) (pv 3)) (pe_str)) (pe_joinA (pe_str) (pv 1)))))))), rd__law_text T vs H Q E h⟩
theorem ok__law_words {f : Addr} {fd : FuncData} (T : Txt K mg) (F : FunD K "_law_words" "_law_words" (defArgs s__law_words) (defBody s__law_words) (defScope s__law_words) [] [] f fd)  : FnOk P w K mg base (L2N.CX P w) 1 f fd ["told", "due"] (sp__law_words K) :=
  F.ok sc__law_words (len__law_words K) fun cdv A outer s H vs Q E hr h => ⟨t__law_words K E, pss_cons (ps_if ((pw_or (pt_not (pt_val (pe_callB call_isi (by rfl) T.b_isinstance (by decide +kernel) (pa_cons (pv 0) (pa_cons (pe_ty "list" T.b_list (by decide +kernel)) (pa_nil)))))) (pw_or1 (pt_cmpR (op_neA hr) (pe_callB call_lenA (by rfl) T.b_len (by decide +kernel) (pa_cons (pv 0) (pa_nil))) (pe_callB call_lenA (by rfl) T.b_len (by decide +kernel) (pa_cons (pv 1) (pa_nil))) (nomark _)))).pt) (pss_one (ps_ret (pe_bl))) (pss_nil)) (pss_cons (ps_for (passes_of rfl) rfl (pi_range1 rfl T.b_range (pa_cons (pe_callB call_lenA (by rfl) T.b_len (by decide +kernel) (pa_cons (pv 1) (pa_nil))) (pa_nil))) (pg_name (i := 2) sc__law_words.nd rfl (by first | exact Or.inl rfl | exact Or.inr rfl)) (pss_one (ps_if ((pw_or (pt_not (pt_val (pe_callB call_isi (by rfl) T.b_isinstance (by decide +kernel) (pa_cons (pe_ix ix_seq (pv 0) (pv 2) (fun _ _ => rfl)) (pa_cons (pe_ty "str" T.b_str (by decide +kernel)) (pa_nil)))))) (pw_or1 (pt_cmpR (op_neA hr) (pe_ix ix_seq (pv 0) (pv 2) (fun _ _ => rfl)) (pe_ix ix_seq (pv 1) (pv 2) (fun _ _ => rfl)) (nomark _)))).pt) (pss_one (ps_ret (pe_bl))) (pss_nil)))) (pss_one (ps_ret (pe_bl)))), rd__law_words T vs H Q E h⟩
theorem ok_Links_left {f : Addr} {fd : FuncData} (T : Txt K mg) (F : FunD K "left" "Links.left" (defArgs s_Links_left) (defBody s_Links_left) (defScope s_Links_left) [] [] f fd) (x_BadNode : ExM P w K mg base 1 "BadNode" (He.ga K "BadNode") ["node"]) : FnOk P w K mg base (L2N.CX P w) 3 f fd ["self", "node"] (sp_Links_left K) :=
  F.ok sc_Links_left (len_Links_left K) fun cdv A outer s H vs Q E hr h => ⟨t_Links_left K E, pss_cons (ps_if (pt_not (pt_chain op_le op_le (pe_int) (pv 1) (pe_op op_addA (pe_fld (pv 0) rfl) (pe_int)))) (pss_one (ps_rz x_BadNode rfl (L2N.takes_of rfl rfl rfl rfl) hr (by decide) (pa_cons (pv 1) (pa_nil)))) (pss_nil)) (pss_one (ps_ret (pe_ix ix_seq (pe_fld (pv 0) rfl) (pv 1) (fun _ _ => rfl)))), rd_Links_left T vs H Q E h⟩
theorem ok_Links_right {f : Addr} {fd : FuncData} (T : Txt K mg) (F : FunD K "right" "Links.right" (defArgs s_Links_right) (defBody s_Links_right) (defScope s_Links_right) [] [] f fd) (x_BadNode : ExM P w K mg base 1 "BadNode" (He.ga K "BadNode") ["node"]) : FnOk P w K mg base (L2N.CX P w) 3 f fd ["self", "node"] (sp_Links_right K) :=
  F.ok sc_Links_right (len_Links_right K) fun cdv A outer s H vs Q E hr h => ⟨t_Links_right K E, pss_cons (ps_if (pt_not (pt_chain op_le op_le (pe_int) (pv 1) (pe_fld (pv 0) rfl))) (pss_one (ps_rz x_BadNode rfl (L2N.takes_of rfl rfl rfl rfl) hr (by decide) (pa_cons (pv 1) (pa_nil)))) (pss_nil)) (pss_one (ps_ret (pe_ix ix_seq (pe_fld (pv 0) rfl) (pv 1) (fun _ _ => rfl)))), rd_Links_right T vs H Q E h⟩
theorem ok_check_gap {f : Addr} {fd : FuncData} (T : Txt K mg) (F : FunD K "check_gap" "check_gap" (defArgs s_check_gap) (defBody s_check_gap) (defScope s_check_gap) [] [] f fd) (x_BadGap : ExM P w K mg base 1 "BadGap" (He.ga K "BadGap") ["gap"]) : FnOk P w K mg base (L2N.CX P w) 3 f fd ["size", "gap"] (sp_check_gap K) :=
  F.ok sc_check_gap (len_check_gap K) fun cdv A outer s H vs Q E hr h => ⟨t_check_gap K E, pss_one (ps_if (pt_not (pt_chain op_le op_le (pe_int) (pv 1) (pv 0))) (pss_one (ps_rz x_BadGap rfl (L2N.takes_of rfl rfl rfl rfl) hr (by decide) (pa_cons (pv 1) (pa_nil)))) (pss_nil)), rd_check_gap T vs H Q E h⟩
theorem ok_gap_state {f : Addr} {fd : FuncData} (T : Txt K mg) (F : FunD K "gap_state" "gap_state" (defArgs s_gap_state) (defBody s_gap_state) (defScope s_gap_state) [] [] f fd) (c_Links_left : Met P w K mg base 3 (He.ga K "Links") "left" ["self", "node"] (sp_Links_left K)) (c_Links_right : Met P w K mg base 3 (He.ga K "Links") "right" ["self", "node"] (sp_Links_right K)) (c_check_gap : Cal P w K mg base 3 "check_gap" ["size", "gap"] (sp_check_gap K)) : FnOk P w K mg base (L2N.CX P w) 4 f fd ["links", "gap"] (sp_gap_state K) :=
  F.ok sc_gap_state (len_gap_state K) fun cdv A outer s H vs Q E hr h => ⟨t_gap_state K E, pss_cons (ps_expr (pe_cl c_check_gap hr (by decide) (pat_of (W := fun cls d _ H => E cls d H) (L2N.takes_of rfl rfl rfl rfl)) (pa_cons (pe_fld (pv 0) rfl) (pa_cons (pv 1) (pa_nil))))) (pss_cons (ps_set (i := 2) sc_gap_state.nd rfl (by first | exact Or.inl rfl | exact Or.inr rfl) (pe_cmpR (op_eqA hr) (pe_mt c_Links_right T.cl_Links hr (by decide) (pat_of (W := fun cls d _ H => E cls d H) (L2N.takes_of rfl rfl rfl rfl)) (pv 0) (pa_cons (pv 1) (pa_nil))) (pe_op op_addA (pv 1) (pe_int)) (nomark _))) (pss_cons (ps_set (i := 3) sc_gap_state.nd rfl (by first | exact Or.inl rfl | exact Or.inr rfl) (pe_cmpR (op_eqA hr) (pe_mt c_Links_left T.cl_Links hr (by decide) (pat_of (W := fun cls d _ H => E cls d H) (L2N.takes_of rfl rfl rfl rfl)) (pv 0) (pa_cons (pe_op op_addA (pv 1) (pe_int)) (pa_nil))) (pv 1) (nomark _))) (pss_cons (ps_if (pt_val (pv 2)) (pss_one (ps_ret (pe_ifExp (pt_val (pv 3)) (pe_str) (pe_str)))) (pss_nil)) (pss_one (ps_ret (pe_ifExp (pt_val (pv 3)) (pe_str) (pe_str))))))), rd_gap_state T vs H Q E h⟩
theorem ok_gap_states {f : Addr} {fd : FuncData} (T : Txt K mg) (F : FunD K "gap_states" "gap_states" (defArgs s_gap_states) (defBody s_gap_states) (defScope s_gap_states) [] [] f fd) (c_gap_state : Cal P w K mg base 4 "gap_state" ["links", "gap"] (sp_gap_state K)) : FnOk P w K mg base (L2N.CX P w) 5 f fd ["links"] (sp_gap_states K) :=
  F.ok sc_gap_states (len_gap_states K) fun cdv A outer s H vs Q E hr h => ⟨t_gap_states K E, pss_one (ps_ret (pe_lc (own := [("gap", 1)]) (g := gName 1) (tt := tYes) (te := tCl (sp_gap_state K) (fun _ => E0) (tCons (tVar 0) (tCons (tVar 1) (tNil)))) rfl sc_gap_states.nd (pi_range1 rfl T.b_range (pa_cons (pe_op op_addA (pe_fld (pv 0) rfl) (pe_int)) (pa_nil))) (blkOk_by (own := [("gap", 1)]) (N := ["links", "gap"]) (sc := defScope s_gap_states) (by decide +kernel)) (fun _ _ _ _ _ => pg_name (i := 1) sc_gap_states.nd rfl (by first | exact Or.inl rfl | exact Or.inr rfl)) (fun _ _ _ _ _ => pts_nil) (fun _ _ _ _ _ => pe_cl c_gap_state hr (by decide) (pat_no) (pa_cons (pv 0) (pa_cons (pv 1) (pa_nil)))))), rd_gap_states T vs H Q E h⟩
theorem ok_lost_gaps {f : Addr} {fd : FuncData} (T : Txt K mg) (F : FunD K "lost_gaps" "lost_gaps" (defArgs s_lost_gaps) (defBody s_lost_gaps) (defScope s_lost_gaps) [] [] f fd) (c_gap_states : Cal P w K mg base 5 "gap_states" ["links"] (sp_gap_states K)) : FnOk P w K mg base (L2N.CX P w) 6 f fd ["links"] (sp_lost_gaps K) :=
  F.ok sc_lost_gaps (len_lost_gaps K) fun cdv A outer s H vs Q E hr h => ⟨t_lost_gaps K E, pss_one (ps_ret (pe_lc (own := [("gap", 1), ("state", 2)]) (g := gTup K 2 (gCons (gName 1) (gCons (gName 2) (gNil)))) (tt := tTest (tOp (rEqA K) (tVar 2) (tC (.str "lost")))) (te := tVar 1) rfl sc_lost_gaps.nd (pi_enum (by rfl) T.b_enumerate (pa_cons (pe_cl c_gap_states hr (by decide) (pat_of (W := fun cls d _ H => E cls d H) (L2N.takes_of rfl rfl rfl rfl)) (pa_cons (pv 0) (pa_nil))) (pa_nil))) (blkOk_by (own := [("gap", 1), ("state", 2)]) (N := ["links", "gap", "state"]) (sc := defScope s_lost_gaps) (by decide +kernel)) (fun _ _ _ _ _ => pg_tup (by rfl) (pgs_cons (pg_name (i := 1) sc_lost_gaps.nd rfl (by first | exact Or.inl rfl | exact Or.inr rfl)) (pgs_cons (pg_name (i := 2) sc_lost_gaps.nd rfl (by first | exact Or.inl rfl | exact Or.inr rfl)) (pgs_nil)))) (fun _ _ _ _ _ => pts_one (pt_cmpR (op_eqA hr) (pv 2) (pe_str) (nomark _))) (fun _ _ _ _ _ => pv 1))), rd_lost_gaps T vs H Q E h⟩
theorem ok_sole_holders {f : Addr} {fd : FuncData} (T : Txt K mg) (F : FunD K "sole_holders" "sole_holders" (defArgs s_sole_holders) (defBody s_sole_holders) (defScope s_sole_holders) [] [] f fd) (c_gap_states : Cal P w K mg base 5 "gap_states" ["links"] (sp_gap_states K)) : FnOk P w K mg base (L2N.CX P w) 6 f fd ["links"] (sp_sole_holders K) :=
  F.ok sc_sole_holders (len_sole_holders K) fun cdv A outer s H vs Q E hr h => ⟨t_sole_holders K w E, pss_cons (ps_set (i := 1) sc_sole_holders.nd rfl (by first | exact Or.inl rfl | exact Or.inr rfl) (pe_callTy0 cr_set0 (by rfl) T.b_set (by decide +kernel))) (pss_cons (ps_for (passes_of rfl) rfl (pi_enum (by rfl) T.b_enumerate (pa_cons (pe_cl c_gap_states hr (by decide) (pat_of (W := fun cls d _ H => E cls d H) (L2N.takes_of rfl rfl rfl rfl)) (pa_cons (pv 0) (pa_nil))) (pa_nil))) (pg_tup (by rfl) (pgs_cons (pg_name (i := 2) sc_sole_holders.nd rfl (by first | exact Or.inl rfl | exact Or.inr rfl)) (pgs_cons (pg_name (i := 3) sc_sole_holders.nd rfl (by first | exact Or.inl rfl | exact Or.inr rfl)) (pgs_nil)))) (pss_one (ps_if (pt_cmpR op_in_seq (pv 3) (pe_tup (pa_cons (pe_str) (pa_cons (pe_str) (pa_nil)))) (rfl)) (pss_one (ps_expr (pe_sadd (pv 1) (pa_cons (pe_ifExp (pt_cmpR (op_eqA hr) (pv 3) (pe_str) (nomark _)) (pv 2) (pe_op op_addA (pv 2) (pe_int))) (pa_nil))))) (pss_nil)))) (pss_one (ps_ret (pe_callB (cr_sortedSet rfl) (by rfl) T.b_sorted (by decide +kernel) (pa_cons (pv 1) (pa_nil)))))), rd_sole_holders w T vs H Q E h⟩
theorem ok__law_agrees {f : Addr} {fd : FuncData} (T : Txt K mg) (F : FunD K "_law_agrees" "_law_agrees" (defArgs s__law_agrees) (defBody s__law_agrees) (defScope s__law_agrees) [] [] f fd) (c_Links_dump : Met P w K mg base 3 (He.ga K "Links") "dump" ["self"] (sp_Links_dump K)) (c__law_alone : Cal P w K mg base 1 "_law_alone" ["world"] (sp__law_alone K)) (c__law_numbers : Cal P w K mg base 2 "_law_numbers" ["told", "due"] (sp__law_numbers K)) (c__law_state : Cal P w K mg base 1 "_law_state" ["world", "place"] (sp__law_state K)) (c__law_text : Cal P w K mg base 1 "_law_text" ["world"] (sp__law_text K)) (c__law_words : Cal P w K mg base 1 "_law_words" ["told", "due"] (sp__law_words K)) (c_gap_state : Cal P w K mg base 4 "gap_state" ["links", "gap"] (sp_gap_state K)) (c_gap_states : Cal P w K mg base 5 "gap_states" ["links"] (sp_gap_states K)) (c_lost_gaps : Cal P w K mg base 6 "lost_gaps" ["links"] (sp_lost_gaps K)) (c_sole_holders : Cal P w K mg base 6 "sole_holders" ["links"] (sp_sole_holders K)) : FnOk P w K mg base (L2N.CX P w) 7 f fd ["links", "world"] (sp6__law_agrees K) :=
  F.ok sc__law_agrees (len__law_agrees K) fun cdv A outer s H vs Q E hr h => ⟨t__law_agrees K E, pss_cons (ps_set (i := 2) sc__law_agrees.nd rfl (by first | exact Or.inl rfl | exact Or.inr rfl) (pe_lc (own := [("place", 8)]) (g := gName 8) (tt := tYes) (te := tCl (sp__law_state K) (fun _ => E0) (tCons (tVar 1) (tCons (tVar 8) (tNil)))) rfl sc__law_agrees.nd (pi_range1 rfl T.b_range (pa_cons (pe_op op_addA (pe_ix ix_seq (pv 1) (pe_int) (fun _ _ => rfl)) (pe_int)) (pa_nil))) (blkOk_by (own := [("place", 8)]) (N := ["links", "world", "states", "lost", "alone", "first", "second", "third", "place", "told"]) (sc := defScope s__law_agrees) (by decide +kernel)) (fun _ _ _ _ _ => pg_name (i := 8) sc__law_agrees.nd rfl (by first | exact Or.inl rfl | exact Or.inr rfl)) (fun _ _ _ _ _ => pts_nil) (fun _ _ _ _ _ => pe_cl c__law_state hr (by decide) (pat_no) (pa_cons (pv 1) (pa_cons (pv 8) (pa_nil)))))) (pss_cons (ps_setLc (i := 3) (own := [("place", 8)]) (g := gName 8) (tt := tTest (tOp (rEqA K) (tOp (rIx K) (tVar 2) (tVar 8)) (tC (.str "lost")))) (te := tVar 8) rfl sc__law_agrees.nd rfl rfl (sw_true rfl rfl rfl (by decide +kernel)) (pi_range1 rfl T.b_range (pa_cons (pe_op op_addA (pe_ix ix_seq (pv 1) (pe_int) (fun _ _ => rfl)) (pe_int)) (pa_nil))) (blkOk_by (own := [("place", 8)]) (N := ["links", "world", "states", "lost", "alone", "first", "second", "third", "place", "told"]) (sc := defScope s__law_agrees) (by decide +kernel)) (fun _ _ _ _ _ => pg_name (i := 8) sc__law_agrees.nd rfl (by first | exact Or.inl rfl | exact Or.inr rfl)) (fun _ _ _ _ _ => pts_one (pt_cmpR (op_eqA hr) (pe_ix ix_seq (pv 2) (pv 8) (fun _ _ => rfl)) (pe_str) (nomark _))) (fun _ _ _ _ _ => pv 8)) (pss_cons (ps_set (i := 4) sc__law_agrees.nd rfl (by first | exact Or.inl rfl | exact Or.inr rfl) (pe_cl c__law_alone hr (by decide) (pat_of (W := fun cls d _ H => E cls d H) (L2N.takes_of rfl rfl rfl rfl)) (pa_cons (pv 1) (pa_nil)))) (pss_cons (ps_set (i := 5) sc__law_agrees.nd rfl (by first | exact Or.inl rfl | exact Or.inr rfl) (pe_cl c_gap_states hr (by decide) (pat_of (W := fun cls d _ H => E cls d H) (L2N.takes_of rfl rfl rfl rfl)) (pa_cons (pv 0) (pa_nil)))) (pss_cons (ps_set (i := 6) sc__law_agrees.nd rfl (by first | exact Or.inl rfl | exact Or.inr rfl) (pe_cl c_lost_gaps hr (by decide) (pat_of (W := fun cls d _ H => E cls d H) (L2N.takes_of rfl rfl rfl rfl)) (pa_cons (pv 0) (pa_nil)))) (pss_cons (ps_set (i := 7) sc__law_agrees.nd rfl (by first | exact Or.inl rfl | exact Or.inr rfl) (pe_cl c_sole_holders hr (by decide) (pat_of (W := fun cls d _ H => E cls d H) (L2N.takes_of rfl rfl rfl rfl)) (pa_cons (pv 0) (pa_nil)))) (pss_cons (ps_if ((pw_or (pt_not (pt_val (pe_cl c__law_words hr (by decide) (pat_of (W := fun cls d _ H => E cls d H) (L2N.takes_of rfl rfl rfl rfl)) (pa_cons (pv 5) (pa_cons (pv 2) (pa_nil)))))) (pw_or (pt_not (pt_val (pe_cl c__law_numbers hr (by decide) (pat_of (W := fun cls d _ H => E cls d H) (L2N.takes_of rfl rfl rfl rfl)) (pa_cons (pv 6) (pa_cons (pv 3) (pa_nil)))))) (pw_or1 (pt_not (pt_val (pe_cl c__law_numbers hr (by decide) (pat_of (W := fun cls d _ H => E cls d H) (L2N.takes_of rfl rfl rfl rfl)) (pa_cons (pv 7) (pa_cons (pv 4) (pa_nil))))))))).pt) (pss_one (ps_ret (pe_bl))) (pss_nil)) (pss_cons (ps_asg (pe_str) (pg_sub (pv 5) (pe_int) set_list)) (pss_cons (ps_expr (pe_bm PySem.F.plainAttrs_list PySem.F.slot_list_append PySem.F.type_list_append mt_append (pv 5) (pa_cons (pe_str) (pa_nil)))) (pss_cons (ps_expr (pe_bm PySem.F.plainAttrs_list PySem.F.slot_list_append PySem.F.type_list_append mt_append (pv 6) (pa_cons (pe_int) (pa_nil)))) (pss_cons (ps_expr (pe_bm PySem.F.plainAttrs_list PySem.F.slot_list_append PySem.F.type_list_append mt_append (pv 7) (pa_cons (pe_int) (pa_nil)))) (pss_cons (ps_if ((pw_or (pt_not (pt_val (pe_cl c__law_words hr (by decide) (pat_of (W := fun cls d _ H => E cls d H) (L2N.takes_of rfl rfl rfl rfl)) (pa_cons (pe_cl c_gap_states hr (by decide) (pat_of (W := fun cls d _ H => E cls d H) (L2N.takes_of rfl rfl rfl rfl)) (pa_cons (pv 0) (pa_nil))) (pa_cons (pv 2) (pa_nil)))))) (pw_or1 (pt_not (pt_val (pe_cl c__law_numbers hr (by decide) (pat_of (W := fun cls d _ H => E cls d H) (L2N.takes_of rfl rfl rfl rfl)) (pa_cons (pe_cl c_lost_gaps hr (by decide) (pat_of (W := fun cls d _ H => E cls d H) (L2N.takes_of rfl rfl rfl rfl)) (pa_cons (pv 0) (pa_nil))) (pa_cons (pv 3) (pa_nil)))))))).pt) (pss_one (ps_ret (pe_bl))) (pss_nil)) (pss_cons (ps_if (pt_not (pt_val (pe_cl c__law_numbers hr (by decide) (pat_of (W := fun cls d _ H => E cls d H) (L2N.takes_of rfl rfl rfl rfl)) (pa_cons (pe_cl c_sole_holders hr (by decide) (pat_of (W := fun cls d _ H => E cls d H) (L2N.takes_of rfl rfl rfl rfl)) (pa_cons (pv 0) (pa_nil))) (pa_cons (pv 4) (pa_nil)))))) (pss_one (ps_ret (pe_bl))) (pss_nil)) (pss_cons (ps_for (passes_of rfl) rfl (pi_range1 rfl T.b_range (pa_cons (pe_op op_addA (pe_ix ix_seq (pv 1) (pe_int) (fun _ _ => rfl)) (pe_int)) (pa_nil))) (pg_name (i := 8) sc__law_agrees.nd rfl (by first | exact Or.inl rfl | exact Or.inr rfl)) (pss_cons (ps_set (i := 9) sc__law_agrees.nd rfl (by first | exact Or.inl rfl | exact Or.inr rfl) (pe_cl c_gap_state hr (by decide) (pat_of (W := fun cls d _ H => E cls d H) (L2N.takes_of rfl rfl rfl rfl)) (pa_cons (pv 0) (pa_cons (pv 8) (pa_nil))))) (pss_one (ps_if ((pw_or (pt_not (pt_val (pe_callB call_isi (by rfl) T.b_isinstance (by decide +kernel) (pa_cons (pv 9) (pa_cons (pe_ty "str" T.b_str (by decide +kernel)) (pa_nil)))))) (pw_or1 (pt_cmpR (op_neA hr) (pv 9) (pe_ix ix_seq (pv 2) (pv 8) (fun _ _ => rfl)) (nomark _)))).pt) (pss_one (ps_ret (pe_bl))) (pss_nil))))) (pss_one (ps_ret (pe_cmpR (op_eqA hr) (pe_mt0 c_Links_dump T.cl_Links hr (by decide) (pat_of (W := fun cls d _ H => E cls d H) (L2N.takes_of rfl rfl rfl rfl)) (pv 0)) (pe_cl c__law_text hr (by decide) (pat_of (W := fun cls d _ H => E cls d H) (L2N.takes_of rfl rfl rfl rfl)) (pa_cons (pv 1) (pa_nil))) (nomark _))))))))))))))))), rd__law_agrees T vs H Q E h⟩
theorem ok__law_draw {f : Addr} {fd : FuncData} (T : Txt K mg) (F : FunD K "_law_draw" "_law_draw" (defArgs s__law_draw) (defBody s__law_draw) (defScope s__law_draw) [] [] f fd)  : FnOk P w K mg base (L2N.CX P w) 1 f fd ["bag", "many"] (sp__law_draw K) :=
  F.ok sc__law_draw (len__law_draw K) fun cdv A outer s H vs Q E hr h => ⟨t__law_draw K E, pss_cons (ps_if (pt_cmpR op_gt (pe_ix ix_seq (pv 0) (pe_int) (fun _ _ => rfl)) (pe_int) (nomark _)) (pss_cons (ps_set (i := 2) sc__law_draw.nd rfl (by first | exact Or.inl rfl | exact Or.inr rfl) (pe_op op_mod (pe_callTy call_intA (by rfl) T.b_int (by decide +kernel) (pa_cons (pe_ix ix_seq (pv 0) (pe_int) (fun _ _ => rfl)) (pa_nil))) (pv 1))) (pss_cons (ps_asg (pe_op op_fdiv (pe_ix ix_seq (pv 0) (pe_int) (fun _ _ => rfl)) (pv 1)) (pg_sub (pv 0) (pe_int) set_list)) (pss_one (ps_ret (pv 2))))) (pss_nil)) (pss_cons (ps_asg (pe_op op_addA (pe_ix ix_seq (pv 0) (pe_int) (fun _ _ => rfl)) (pe_int)) (pg_sub (pv 0) (pe_int) set_list)) (pss_cons (ps_asg (pe_op op_mod (pe_callTy call_intA (by rfl) T.b_int (by decide +kernel) (pa_cons (pe_op op_addA (pe_op op_addA (pe_op op_mulA (pe_ix ix_seq (pv 0) (pe_int) (fun _ _ => rfl)) (pe_int)) (pe_op op_mulA (pe_ix ix_seq (pv 0) (pe_int) (fun _ _ => rfl)) (pe_int))) (pe_int)) (pa_nil))) (pe_int)) (pg_sub (pv 0) (pe_int) set_list)) (pss_one (ps_ret (pe_op op_mod (pe_callTy call_intA (by rfl) T.b_int (by decide +kernel) (pa_cons (pe_op op_fdiv (pe_op op_mod (pe_callTy call_intA (by rfl) T.b_int (by decide +kernel) (pa_cons (pe_op op_addA (pe_op op_mulA (pe_ix ix_seq (pv 0) (pe_int) (fun _ _ => rfl)) (pe_int)) (pe_op op_mulA (pe_ix ix_seq (pv 0) (pe_int) (fun _ _ => rfl)) (pe_int))) (pa_nil))) (pe_int)) (pe_int)) (pa_nil))) (pv 1)))))), rd__law_draw T vs H Q E h⟩
theorem ok__law_step {f : Addr} {fd : FuncData} (T : Txt K mg) (F : FunD K "_law_step" "_law_step" (defArgs s__law_step) (defBody s__law_step) (defScope s__law_step) [] [] f fd)  : FnOk P w K mg base (L2N.CX P w) 1 f fd ["world", "deed"] (sp__law_step K) :=
  F.ok sc__law_step (len__law_step K) fun cdv A outer s H vs Q E hr h => ⟨t__law_step K E, pss_cons (ps_set (i := 2) sc__law_step.nd rfl (by first | exact Or.inl rfl | exact Or.inr rfl) (pe_callB call_absA (by rfl) T.b_abs (by decide +kernel) (pa_cons (pv 1) (pa_nil)))) (pss_cons (ps_set (i := 3) sc__law_step.nd rfl (by first | exact Or.inl rfl | exact Or.inr rfl) (pe_ix ix_seq (pe_ix ix_seq (pv 0) (pe_int) (fun _ _ => rfl)) (pv 2) (fun _ _ => rfl))) (pss_cons (ps_set (i := 4) sc__law_step.nd rfl (by first | exact Or.inl rfl | exact Or.inr rfl) (pe_ix ix_seq (pe_ix ix_seq (pv 0) (pe_int) (fun _ _ => rfl)) (pv 2) (fun _ _ => rfl))) (pss_cons (ps_set (i := 5) sc__law_step.nd rfl (by first | exact Or.inl rfl | exact Or.inr rfl) (pe_ix ix_seq (pv 0) (pe_int) (fun _ _ => rfl))) (pss_cons (ps_set (i := 6) sc__law_step.nd rfl (by first | exact Or.inl rfl | exact Or.inr rfl) (pe_ix ix_seq (pv 0) (pe_int) (fun _ _ => rfl))) (pss_cons (ps_set (i := 7) sc__law_step.nd rfl (by first | exact Or.inl rfl | exact Or.inr rfl) (pe_ix ix_seq (pv 0) (pe_int) (fun _ _ => rfl))) (pss_cons (ps_if (pt_cmpR op_lt (pv 1) (pe_int) (nomark _)) (pss_cons (ps_asg (pv 4) (pg_sub (pv 5) (pv 3) set_list)) (pss_one (ps_asg (pv 3) (pg_sub (pv 6) (pv 4) set_list)))) (pss_cons (ps_asg (pv 2) (pg_sub (pv 5) (pv 3) set_list)) (pss_one (ps_asg (pv 2) (pg_sub (pv 6) (pv 4) set_list))))) (pss_one (ps_asg (pe_cmpR op_lt (pv 1) (pe_int) (nomark _)) (pg_sub (pv 7) (pv 2) set_list))))))))), rd__law_step T vs H Q E h⟩
theorem ok__law_after {f : Addr} {fd : FuncData} (T : Txt K mg) (F : FunD K "_law_after" "_law_after" (defArgs s__law_after) (defBody s__law_after) (defScope s__law_after) [] [] f fd) (c_Links_apply : Met P w K mg base 6 (He.ga K "Links") "apply" ["self", "operation"] (sp_Links_apply K)) (c__law_agrees : Cal P w K mg base 7 "_law_agrees" ["links", "world"] (sp6__law_agrees K)) (c__law_draw : Cal P w K mg base 1 "_law_draw" ["bag", "many"] (sp__law_draw K)) (c__law_step : Cal P w K mg base 1 "_law_step" ["world", "deed"] (sp__law_step K)) : FnOk P w K mg base (L2N.CX P w) 8 f fd ["links", "world", "bag"] (sp__law_after K) :=
  F.ok sc__law_after (len__law_after K) fun cdv A outer s H vs Q E hr h => ⟨t__law_after K E, pss_cons (ps_for (passes_of rfl) rfl (pi_range1 rfl T.b_range (pa_cons (pe_cl c__law_draw hr (by decide) (pat_of (W := fun cls d _ H => E cls d H) (L2N.takes_of rfl rfl rfl rfl)) (pa_cons (pv 2) (pa_cons (pe_int) (pa_nil)))) (pa_nil))) (pg_name (i := 3) sc__law_after.nd rfl (by first | exact Or.inl rfl | exact Or.inr rfl)) (pss_cons (ps_set (i := 4) sc__law_after.nd rfl (by first | exact Or.inl rfl | exact Or.inr rfl) (pe_cmpR (op_eqA hr) (pe_cl c__law_draw hr (by decide) (pat_of (W := fun cls d _ H => E cls d H) (L2N.takes_of rfl rfl rfl rfl)) (pa_cons (pv 2) (pa_cons (pe_int) (pa_nil)))) (pe_int) (nomark _))) (pss_cons (ps_set (i := 5) sc__law_after.nd rfl (by first | exact Or.inl rfl | exact Or.inr rfl) (pe_op op_addA (pe_int) (pe_cl c__law_draw hr (by decide) (pat_of (W := fun cls d _ H => E cls d H) (L2N.takes_of rfl rfl rfl rfl)) (pa_cons (pv 2) (pa_cons (pe_ix ix_seq (pv 1) (pe_int) (fun _ _ => rfl)) (pa_nil)))))) (pss_cons (ps_set (i := 6) sc__law_after.nd rfl (by first | exact Or.inl rfl | exact Or.inr rfl) (pe_un un_neg (pv 5))) (pss_cons (ps_if (pt_val (pe_ix ix_seq (pe_ix ix_seq (pv 1) (pe_int) (fun _ _ => rfl)) (pv 5) (fun _ _ => rfl))) (pss_one (ps_set (i := 6) sc__law_after.nd rfl (by first | exact Or.inl rfl | exact Or.inr rfl) (pv 5))) (pss_nil)) (pss_cons (ps_expr (pe_mt c_Links_apply T.cl_Links hr (by decide) (pat_of (W := fun cls d _ H => E cls d H) (L2N.takes_of rfl rfl rfl rfl)) (pv 0) (pa_cons (pv 6) (pa_nil)))) (pss_cons (ps_expr (pe_cl c__law_step hr (by decide) (pat_of (W := fun cls d _ H => E cls d H) (L2N.takes_of rfl rfl rfl rfl)) (pa_cons (pv 1) (pa_cons (pv 6) (pa_nil))))) (pss_one (ps_if ((pw_and (pt_val (pv 4)) (pw_and1 (pt_not (pt_val (pe_cl c__law_agrees hr (by decide) (pat_of (W := fun cls d _ H => E cls d H) (L2N.takes_of rfl rfl rfl rfl)) (pa_cons (pv 0) (pa_cons (pv 1) (pa_nil)))))))).pt) (pss_one (ps_ret (pe_bl))) (pss_nil)))))))))) (pss_one (ps_ret (pe_cl c__law_agrees hr (by decide) (pat_of (W := fun cls d _ H => E cls d H) (L2N.takes_of rfl rfl rfl rfl)) (pa_cons (pv 0) (pa_cons (pv 1) (pa_nil)))))), rd__law_after T vs H Q E h⟩
theorem ok__law_bag {f : Addr} {fd : FuncData} (T : Txt K mg) (F : FunD K "_law_bag" "_law_bag" (defArgs s__law_bag) (defBody s__law_bag) (defScope s__law_bag) [] [] f fd)  : FnOk P w K mg base (L2N.CX P w) 1 f fd ["script", "lane"] (sp__law_bag K) :=
  F.ok sc__law_bag (len__law_bag K) fun cdv A outer s H vs Q E hr h => ⟨t__law_bag K E, pss_cons (ps_set (i := 2) sc__law_bag.nd rfl (by first | exact Or.inl rfl | exact Or.inr rfl) (pe_op op_addA (pe_op op_mulA (pe_int) (pv 1)) (pe_int))) (pss_cons (ps_for (passes_of rfl) rfl (pi_range1 rfl T.b_range (pa_cons (pe_callB (call_min2A rfl) (by rfl) T.b_min (by decide +kernel) (pa_cons (pe_int) (pa_cons (pe_callB call_lenA (by rfl) T.b_len (by decide +kernel) (pa_cons (pv 0) (pa_nil))) (pa_nil)))) (pa_nil))) (pg_name (i := 3) sc__law_bag.nd rfl (by first | exact Or.inl rfl | exact Or.inr rfl)) (pss_one (ps_set (i := 2) sc__law_bag.nd rfl (by first | exact Or.inl rfl | exact Or.inr rfl) (pe_op op_mod (pe_callTy call_intA (by rfl) T.b_int (by decide +kernel) (pa_cons (pe_op op_addA (pe_op op_addA (pe_op op_mulA (pv 2) (pe_int)) (pe_op op_mod (pe_callTy call_intA (by rfl) T.b_int (by decide +kernel) (pa_cons (pe_ix ix_seq (pv 0) (pv 3) (fun _ _ => rfl)) (pa_nil))) (pe_int))) (pe_op op_mulA (pe_int) (pv 3))) (pa_nil))) (pe_int))))) (pss_cons (ps_set (i := 4) sc__law_bag.nd rfl (by first | exact Or.inl rfl | exact Or.inr rfl) (pe_int)) (pss_cons (ps_if ((pw_and (pt_cmpR op_lt (pv 1) (pe_callB call_lenA (by rfl) T.b_len (by decide +kernel) (pa_cons (pv 0) (pa_nil))) (nomark _)) (pw_and1 (pt_cmpR op_ge (pe_callB call_absA (by rfl) T.b_abs (by decide +kernel) (pa_cons (pe_ix ix_seq (pv 0) (pv 1) (fun _ _ => rfl)) (pa_nil))) (pe_op op_pow (pe_int) (pe_int)) (nomark _)))).pt) (pss_one (ps_set (i := 4) sc__law_bag.nd rfl (by first | exact Or.inl rfl | exact Or.inr rfl) (pe_callB call_absA (by rfl) T.b_abs (by decide +kernel) (pa_cons (pe_ix ix_seq (pv 0) (pv 1) (fun _ _ => rfl)) (pa_nil))))) (pss_nil)) (pss_one (ps_ret (pe_lst (pa_cons (pv 4) (pa_cons (pv 2) (pa_cons (pe_int) (pa_nil)))))))))), rd__law_bag T vs H Q E h⟩
theorem ok__law_refused {f : Addr} {fd : FuncData} (T : Txt K mg) (F : FunD K "_law_refused" "_law_refused" (defArgs s__law_refused) (defBody s__law_refused) (defScope s__law_refused) [] [] f fd) (c_gap_state : Cal P w K mg base 4 "gap_state" ["links", "gap"] (sp_gap_state K)) (h__law_whole_number : CalH P w K mg base 1 "_law_whole_number" ["told"] (sp__law_whole_number K)) : FnOk P w K mg base (L2N.CX P w) 5 f fd ["links", "place"] (sp__law_refused K) :=
  F.ok sc__law_refused (len__law_refused K) fun cdv A outer s H vs Q E hr h => ⟨t__law_refused K E, pss_cons (L2N.ps_try_as (i := 2) (tb := fun (W : WX) => tDrop (tCl (sp_gap_state K) (WE W) (tCons (tVar 0) (tCons (tVar 1) (tNil))))) (ts := fun a cls d => tSeq (tIfS (tOr (tNot (tB (tCB (rIsX K cls d a) (tCons (tVar 2) (tCons (tC (.ref (He.ga K "BadGap"))) (tNil)))))) (tNot (tB (tCB (rIsX K cls d a) (tCons (tVar 2) (tCons (tC (.ty "ValueError")) (tNil))))))) (tRet (tC (.bl false))) (tNext)) (tSeq (tIfS (tOr (tB (tCB (rIsX K cls d a) (tCons (tVar 2) (tCons (tC (.ref (He.ga K "LogError"))) (tNil))))) (tOr (tB (tCB (rIsX K cls d a) (tCons (tVar 2) (tCons (tC (.ref (He.ga K "BadNode"))) (tNil))))) (tB (tCB (rIsX K cls d a) (tCons (tVar 2) (tCons (tC (.ref (He.ga K "BadSize"))) (tNil))))))) (tRet (tC (.bl false))) (tNext)) (tRet (tAndV (tCl (sp__law_whole_number K) (fun _ => E0) (tCons (tXat K a cls d "gap" (tVar 2)) (tNil))) (tOp (rEqA K) (tXat K a cls d "gap" (tVar 2)) (tVar 1)))))) (Wout := fun cls d _ H => E cls d H) rfl rfl sc__law_refused.nd rfl rfl ⟨rfl, by decide, .inl T.g_LinkError⟩ (L2N.takes_of rfl rfl rfl rfl) (fun W pn xe tk2 po2 => pss_one (ps_expr (pe_cl c_gap_state hr (by decide) (pat_of tk2) (pa_cons (pv 0) (pa_cons (pv 1) (pa_nil)))))) (fun a oe cls d pn hz hf => pss_cons (ps_if ((pw_or (pt_not (pt_val (pe_callB (call_isX hz.zc hf) (by rfl) T.b_isinstance (by decide +kernel) (pa_cons (pv 2) (pa_cons (pe_own T.g_BadGap) (pa_nil)))))) (pw_or1 (pt_not (pt_val (pe_callB (call_isX hz.zc hf) (by rfl) T.b_isinstance (by decide +kernel) (pa_cons (pv 2) (pa_cons (pe_ty "ValueError" T.b_ValueError (by decide +kernel)) (pa_nil)))))))).pt) (pss_one (ps_ret (pe_bl))) (pss_nil)) (pss_cons (ps_if ((pw_or (pt_val (pe_callB (call_isX hz.zc hf) (by rfl) T.b_isinstance (by decide +kernel) (pa_cons (pv 2) (pa_cons (pe_own T.g_LogError) (pa_nil))))) (pw_or (pt_val (pe_callB (call_isX hz.zc hf) (by rfl) T.b_isinstance (by decide +kernel) (pa_cons (pv 2) (pa_cons (pe_own T.g_BadNode) (pa_nil))))) (pw_or1 (pt_val (pe_callB (call_isX hz.zc hf) (by rfl) T.b_isinstance (by decide +kernel) (pa_cons (pv 2) (pa_cons (pe_own T.g_BadSize) (pa_nil)))))))).pt) (pss_one (ps_ret (pe_bl))) (pss_nil)) (pss_one (ps_ret (pe_and (pe_clH h__law_whole_number (L2H.roomH_mark hr _) (by decide) (hot_suite hz hf) pat_no (pa_cons (pe_xat hz.zc hf (pv 2)) (pa_nil))) (pe_one (pe_cmpR (op_eqAH (L2H.roomH_mark hr _)) (pe_xat hz.zc hf (pv 2)) (pv 1) (nomark _))))))))) (pss_one (ps_ret (pe_bl))), rd__law_refused T vs H Q E h⟩
theorem ok__law_bounds_kept {f : Addr} {fd : FuncData} (T : Txt K mg) (F : FunD K "_law_bounds_kept" "_law_bounds_kept" (defArgs s__law_bounds_kept) (defBody s__law_bounds_kept) (defScope s__law_bounds_kept) [] [] f fd) (c__law_refused : Cal P w K mg base 5 "_law_refused" ["links", "place"] (sp__law_refused K)) : FnOk P w K mg base (L2N.CX P w) 6 f fd ["links", "size", "far"] (sp__law_bounds_kept K) :=
  F.ok sc__law_bounds_kept (len__law_bounds_kept K) fun cdv A outer s H vs Q E hr h => ⟨t__law_bounds_kept K E, pss_cons (ps_for (passes_of rfl) rfl (pi_list (pe_lst (pa_cons (pe_un un_neg (pe_int)) (pa_cons (pe_op op_addA (pv 1) (pe_int)) (pa_cons (pe_op op_sub (pe_un un_neg (pe_int)) (pv 2)) (pa_cons (pe_op op_addA (pe_op op_addA (pv 1) (pe_int)) (pv 2)) (pa_nil))))))) (pg_name (i := 3) sc__law_bounds_kept.nd rfl (by first | exact Or.inl rfl | exact Or.inr rfl)) (pss_one (ps_if (pt_not (pt_val (pe_cl c__law_refused hr (by decide) (pat_of (W := fun cls d _ H => E cls d H) (L2N.takes_of rfl rfl rfl rfl)) (pa_cons (pv 0) (pa_cons (pv 3) (pa_nil)))))) (pss_one (ps_ret (pe_bl))) (pss_nil)))) (pss_one (ps_ret (pe_bl))), rd__law_bounds_kept T vs H Q E h⟩
theorem ok__law_size {f : Addr} {fd : FuncData} (T : Txt K mg) (F : FunD K "_law_size" "_law_size" (defArgs s__law_size) (defBody s__law_size) (defScope s__law_size) [] [] f fd) (c__law_draw : Cal P w K mg base 1 "_law_draw" ["bag", "many"] (sp__law_draw K)) : FnOk P w K mg base (L2N.CX P w) 2 f fd ["bag"] (sp__law_size K) :=
  F.ok sc__law_size (len__law_size K) fun cdv A outer s H vs Q E hr h => ⟨t__law_size K E, pss_cons (ps_set (i := 1) sc__law_size.nd rfl (by first | exact Or.inl rfl | exact Or.inr rfl) (pe_cl c__law_draw hr (by decide) (pat_of (W := fun cls d _ H => E cls d H) (L2N.takes_of rfl rfl rfl rfl)) (pa_cons (pv 0) (pa_cons (pe_int) (pa_nil))))) (pss_cons (ps_if (pt_cmpR (op_eqA hr) (pv 1) (pe_int) (nomark _)) (pss_one (ps_ret (pe_cl c__law_draw hr (by decide) (pat_of (W := fun cls d _ H => E cls d H) (L2N.takes_of rfl rfl rfl rfl)) (pa_cons (pv 0) (pa_cons (pe_int) (pa_nil)))))) (pss_nil)) (pss_cons (ps_if (pt_cmpR op_lt (pv 1) (pe_int) (nomark _)) (pss_one (ps_ret (pe_cl c__law_draw hr (by decide) (pat_of (W := fun cls d _ H => E cls d H) (L2N.takes_of rfl rfl rfl rfl)) (pa_cons (pv 0) (pa_cons (pe_int) (pa_nil)))))) (pss_nil)) (pss_one (ps_ret (pe_cl c__law_draw hr (by decide) (pat_of (W := fun cls d _ H => E cls d H) (L2N.takes_of rfl rfl rfl rfl)) (pa_cons (pv 0) (pa_cons (pe_int) (pa_nil)))))))), rd__law_size T vs H Q E h⟩
theorem ok__law_standing {f : Addr} {fd : FuncData} (T : Txt K mg) (F : FunD K "_law_standing" "_law_standing" (defArgs s__law_standing) (defBody s__law_standing) (defScope s__law_standing) [] [] f fd) (c__law_draw : Cal P w K mg base 1 "_law_draw" ["bag", "many"] (sp__law_draw K)) : FnOk P w K mg base (L2N.CX P w) 2 f fd ["bag", "size"] (sp__law_standing K) :=
  F.ok sc__law_standing (len__law_standing K) fun cdv A outer s H vs Q E hr h => ⟨t__law_standing K E, pss_cons (ps_set (i := 2) sc__law_standing.nd rfl (by first | exact Or.inl rfl | exact Or.inr rfl) (pe_cl c__law_draw hr (by decide) (pat_of (W := fun cls d _ H => E cls d H) (L2N.takes_of rfl rfl rfl rfl)) (pa_cons (pv 0) (pa_cons (pe_int) (pa_nil))))) (pss_cons (ps_setLc (i := 3) (own := [("node", 6)]) (g := gName 6) (tt := tYes) (te := tOp rAddA (tVar 6) (tC (.int 1))) rfl sc__law_standing.nd rfl rfl (sw_true rfl rfl rfl (by decide +kernel)) (pi_range1 rfl T.b_range (pa_cons (pe_op op_addA (pv 1) (pe_int)) (pa_nil))) (blkOk_by (own := [("node", 6)]) (N := ["bag", "size", "way", "rights", "lefts", "flags", "node", "far_right", "far_left"]) (sc := defScope s__law_standing) (by decide +kernel)) (fun _ _ _ _ _ => pg_name (i := 6) sc__law_standing.nd rfl (by first | exact Or.inl rfl | exact Or.inr rfl)) (fun _ _ _ _ _ => pts_nil) (fun _ _ _ _ _ => pe_op op_addA (pv 6) (pe_int))) (pss_cons (ps_setLc (i := 4) (own := [("node", 6)]) (g := gName 6) (tt := tYes) (te := tOp rSubA (tVar 6) (tC (.int 1))) rfl sc__law_standing.nd rfl rfl (sw_true rfl rfl rfl (by decide +kernel)) (pi_range1 rfl T.b_range (pa_cons (pe_op op_addA (pv 1) (pe_int)) (pa_nil))) (blkOk_by (own := [("node", 6)]) (N := ["bag", "size", "way", "rights", "lefts", "flags", "node", "far_right", "far_left"]) (sc := defScope s__law_standing) (by decide +kernel)) (fun _ _ _ _ _ => pg_name (i := 6) sc__law_standing.nd rfl (by first | exact Or.inl rfl | exact Or.inr rfl)) (fun _ _ _ _ _ => pts_nil) (fun _ _ _ _ _ => pe_op op_sub (pv 6) (pe_int))) (pss_cons (ps_setLc (i := 5) (own := [("node", 6)]) (g := gName 6) (tt := tYes) (te := tC (.bl false)) rfl sc__law_standing.nd rfl rfl (sw_true rfl rfl rfl (by decide +kernel)) (pi_range1 rfl T.b_range (pa_cons (pe_op op_addA (pv 1) (pe_int)) (pa_nil))) (blkOk_by (own := [("node", 6)]) (N := ["bag", "size", "way", "rights", "lefts", "flags", "node", "far_right", "far_left"]) (sc := defScope s__law_standing) (by decide +kernel)) (fun _ _ _ _ _ => pg_name (i := 6) sc__law_standing.nd rfl (by first | exact Or.inl rfl | exact Or.inr rfl)) (fun _ _ _ _ _ => pts_nil) (fun _ _ _ _ _ => pe_bl)) (pss_cons (ps_if (pt_cmpR (op_eqA hr) (pv 2) (pe_int) (nomark _)) (pss_one (ps_ret (pe_lst (pa_cons (pv 1) (pa_cons (pv 3) (pa_cons (pv 4) (pa_cons (pv 5) (pa_nil)))))))) (pss_nil)) (pss_cons (ps_for (passes_of rfl) rfl (pi_range1 rfl T.b_range (pa_cons (pe_op op_addA (pv 1) (pe_int)) (pa_nil))) (pg_name (i := 6) sc__law_standing.nd rfl (by first | exact Or.inl rfl | exact Or.inr rfl)) (pss_cons (ps_set (i := 7) sc__law_standing.nd rfl (by first | exact Or.inl rfl | exact Or.inr rfl) (pe_op op_sub (pe_op op_addA (pv 1) (pe_int)) (pv 6))) (pss_cons (ps_set (i := 8) sc__law_standing.nd rfl (by first | exact Or.inl rfl | exact Or.inr rfl) (pe_op op_addA (pv 6) (pe_int))) (pss_cons (ps_if (pt_cmpR op_lt (pv 2) (pe_int) (nomark _)) (pss_cons (ps_set (i := 7) sc__law_standing.nd rfl (by first | exact Or.inl rfl | exact Or.inr rfl) (pe_callB (call_min2A rfl) (by rfl) T.b_min (by decide +kernel) (pa_cons (pe_int) (pa_cons (pv 7) (pa_nil))))) (pss_one (ps_set (i := 8) sc__law_standing.nd rfl (by first | exact Or.inl rfl | exact Or.inr rfl) (pe_callB (call_min2A rfl) (by rfl) T.b_min (by decide +kernel) (pa_cons (pe_int) (pa_cons (pv 8) (pa_nil))))))) (pss_nil)) (pss_cons (ps_if (pt_cmpR (op_eqA hr) (pe_cl c__law_draw hr (by decide) (pat_of (W := fun cls d _ H => E cls d H) (L2N.takes_of rfl rfl rfl rfl)) (pa_cons (pv 0) (pa_cons (pe_int) (pa_nil)))) (pe_int) (nomark _)) (pss_one (ps_asg (pe_op op_addA (pe_op op_addA (pv 6) (pe_int)) (pe_cl c__law_draw hr (by decide) (pat_of (W := fun cls d _ H => E cls d H) (L2N.takes_of rfl rfl rfl rfl)) (pa_cons (pv 0) (pa_cons (pv 7) (pa_nil))))) (pg_sub (pv 3) (pv 6) set_list))) (pss_nil)) (pss_one (ps_if (pt_cmpR (op_eqA hr) (pe_cl c__law_draw hr (by decide) (pat_of (W := fun cls d _ H => E cls d H) (L2N.takes_of rfl rfl rfl rfl)) (pa_cons (pv 0) (pa_cons (pe_int) (pa_nil)))) (pe_int) (nomark _)) (pss_one (ps_asg (pe_op op_sub (pv 6) (pe_cl c__law_draw hr (by decide) (pat_of (W := fun cls d _ H => E cls d H) (L2N.takes_of rfl rfl rfl rfl)) (pa_cons (pv 0) (pa_cons (pv 8) (pa_nil))))) (pg_sub (pv 4) (pe_op op_addA (pv 6) (pe_int)) set_list))) (pss_nil)))))))) (pss_cons (ps_for (passes_of rfl) rfl (pi_range2 rfl T.b_range (pa_cons (pe_int) (pa_cons (pe_op op_addA (pv 1) (pe_int)) (pa_nil)))) (pg_name (i := 6) sc__law_standing.nd rfl (by first | exact Or.inl rfl | exact Or.inr rfl)) (pss_one (ps_asg (pe_cmpR (op_eqA hr) (pe_cl c__law_draw hr (by decide) (pat_of (W := fun cls d _ H => E cls d H) (L2N.takes_of rfl rfl rfl rfl)) (pa_cons (pv 0) (pa_cons (pe_int) (pa_nil)))) (pe_int) (nomark _)) (pg_sub (pv 5) (pv 6) set_list)))) (pss_one (ps_ret (pe_lst (pa_cons (pv 1) (pa_cons (pv 3) (pa_cons (pv 4) (pa_cons (pv 5) (pa_nil)))))))))))))), rd__law_standing T vs H Q E h⟩
theorem ok_law {f : Addr} {fd : FuncData} (T : Txt K mg) (F : FunD K "law" "law" (defArgs s_law) (defBody s_law) (defScope s_law) [] [] f fd) (c_Links_copy : Met P w K mg base 6 (He.ga K "Links") "copy" ["self"] (sp_Links_copy K)) (c_Links_read : Smt P w K mg base 6 (He.ga K "Links") "read" ["text"] (sp_Links_read K)) (c__law_after : Cal P w K mg base 8 "_law_after" ["links", "world", "bag"] (sp__law_after K)) (c__law_agrees : Cal P w K mg base 7 "_law_agrees" ["links", "world"] (sp6__law_agrees K)) (c__law_bag : Cal P w K mg base 1 "_law_bag" ["script", "lane"] (sp__law_bag K)) (c__law_bounds_kept : Cal P w K mg base 6 "_law_bounds_kept" ["links", "size", "far"] (sp__law_bounds_kept K)) (c__law_draw : Cal P w K mg base 1 "_law_draw" ["bag", "many"] (sp__law_draw K)) (c__law_size : Cal P w K mg base 2 "_law_size" ["bag"] (sp__law_size K)) (c__law_standing : Cal P w K mg base 2 "_law_standing" ["bag", "size"] (sp__law_standing K)) (c__law_text : Cal P w K mg base 1 "_law_text" ["world"] (sp__law_text K)) : FnOk P w K mg base (L2N.CX P w) 9 f fd ["script"] (sp_law K) :=
  F.ok sc_law (len_law K) fun cdv A outer s H vs Q E hr h => ⟨t_law K E, pss_cons (ps_set (i := 1) sc_law.nd rfl (by first | exact Or.inl rfl | exact Or.inr rfl) (pe_cl c__law_bag hr (by decide) (pat_of (W := fun cls d _ H => E cls d H) (L2N.takes_of rfl rfl rfl rfl)) (pa_cons (pv 0) (pa_cons (pe_int) (pa_nil))))) (pss_cons (ps_set (i := 2) sc_law.nd rfl (by first | exact Or.inl rfl | exact Or.inr rfl) (pe_cl c__law_bag hr (by decide) (pat_of (W := fun cls d _ H => E cls d H) (L2N.takes_of rfl rfl rfl rfl)) (pa_cons (pv 0) (pa_cons (pe_int) (pa_nil))))) (pss_cons (ps_set (i := 3) sc_law.nd rfl (by first | exact Or.inl rfl | exact Or.inr rfl) (pe_cl c__law_standing hr (by decide) (pat_of (W := fun cls d _ H => E cls d H) (L2N.takes_of rfl rfl rfl rfl)) (pa_cons (pv 1) (pa_cons (pe_cl c__law_size hr (by decide) (pat_of (W := fun cls d _ H => E cls d H) (L2N.takes_of rfl rfl rfl rfl)) (pa_cons (pv 1) (pa_nil))) (pa_nil))))) (pss_cons (ps_set (i := 4) sc_law.nd rfl (by first | exact Or.inl rfl | exact Or.inr rfl) (pe_cl c__law_standing hr (by decide) (pat_of (W := fun cls d _ H => E cls d H) (L2N.takes_of rfl rfl rfl rfl)) (pa_cons (pv 2) (pa_cons (pe_cl c__law_size hr (by decide) (pat_of (W := fun cls d _ H => E cls d H) (L2N.takes_of rfl rfl rfl rfl)) (pa_cons (pv 2) (pa_nil))) (pa_nil))))) (pss_cons (ps_set (i := 5) sc_law.nd rfl (by first | exact Or.inl rfl | exact Or.inr rfl) (pe_cl c__law_draw hr (by decide) (pat_of (W := fun cls d _ H => E cls d H) (L2N.takes_of rfl rfl rfl rfl)) (pa_cons (pv 2) (pa_cons (pe_int) (pa_nil))))) (pss_cons (ps_set (i := 6) sc_law.nd rfl (by first | exact Or.inl rfl | exact Or.inr rfl) (pe_sm c_Links_read hr (by decide) (pat_of (W := fun cls d _ H => E cls d H) (L2N.takes_of rfl rfl rfl rfl)) (pe_own T.g_Links) (pa_cons (pe_cl c__law_text hr (by decide) (pat_of (W := fun cls d _ H => E cls d H) (L2N.takes_of rfl rfl rfl rfl)) (pa_cons (pv 3) (pa_nil))) (pa_nil)))) (pss_cons (ps_set (i := 7) sc_law.nd rfl (by first | exact Or.inl rfl | exact Or.inr rfl) (pe_sm c_Links_read hr (by decide) (pat_of (W := fun cls d _ H => E cls d H) (L2N.takes_of rfl rfl rfl rfl)) (pe_own T.g_Links) (pa_cons (pe_cl c__law_text hr (by decide) (pat_of (W := fun cls d _ H => E cls d H) (L2N.takes_of rfl rfl rfl rfl)) (pa_cons (pv 4) (pa_nil))) (pa_nil)))) (pss_cons (ps_if ((pw_or (pt_not (pt_val (pe_cl c__law_agrees hr (by decide) (pat_of (W := fun cls d _ H => E cls d H) (L2N.takes_of rfl rfl rfl rfl)) (pa_cons (pv 6) (pa_cons (pv 3) (pa_nil)))))) (pw_or1 (pt_not (pt_val (pe_cl c__law_agrees hr (by decide) (pat_of (W := fun cls d _ H => E cls d H) (L2N.takes_of rfl rfl rfl rfl)) (pa_cons (pv 7) (pa_cons (pv 4) (pa_nil)))))))).pt) (pss_one (ps_ret (pe_bl))) (pss_nil)) (pss_cons (ps_if ((pw_or (pt_not (pt_val (pe_cl c__law_bounds_kept hr (by decide) (pat_of (W := fun cls d _ H => E cls d H) (L2N.takes_of rfl rfl rfl rfl)) (pa_cons (pv 6) (pa_cons (pe_ix ix_seq (pv 3) (pe_int) (fun _ _ => rfl)) (pa_cons (pv 5) (pa_nil))))))) (pw_or1 (pt_not (pt_val (pe_cl c__law_bounds_kept hr (by decide) (pat_of (W := fun cls d _ H => E cls d H) (L2N.takes_of rfl rfl rfl rfl)) (pa_cons (pv 7) (pa_cons (pe_ix ix_seq (pv 4) (pe_int) (fun _ _ => rfl)) (pa_cons (pv 5) (pa_nil))))))))).pt) (pss_one (ps_ret (pe_bl))) (pss_nil)) (pss_cons (ps_if (pt_cmpR op_gt (pe_ix ix_seq (pv 3) (pe_int) (fun _ _ => rfl)) (pe_int) (nomark _)) (pss_cons (ps_set (i := 8) sc_law.nd rfl (by first | exact Or.inl rfl | exact Or.inr rfl) (pe_lst (pa_cons (pe_ix ix_seq (pv 3) (pe_int) (fun _ _ => rfl)) (pa_cons (pe_callTy call_listA (by rfl) T.b_list (by decide +kernel) (pa_cons (pe_ix ix_seq (pv 3) (pe_int) (fun _ _ => rfl)) (pa_nil))) (pa_cons (pe_callTy call_listA (by rfl) T.b_list (by decide +kernel) (pa_cons (pe_ix ix_seq (pv 3) (pe_int) (fun _ _ => rfl)) (pa_nil))) (pa_cons (pe_callTy call_listA (by rfl) T.b_list (by decide +kernel) (pa_cons (pe_ix ix_seq (pv 3) (pe_int) (fun _ _ => rfl)) (pa_nil))) (pa_nil))))))) (pss_cons (ps_set (i := 9) sc_law.nd rfl (by first | exact Or.inl rfl | exact Or.inr rfl) (pe_mt0 c_Links_copy T.cl_Links hr (by decide) (pat_of (W := fun cls d _ H => E cls d H) (L2N.takes_of rfl rfl rfl rfl)) (pv 6))) (pss_cons (ps_if (pt_not (pt_val (pe_cl c__law_after hr (by decide) (pat_of (W := fun cls d _ H => E cls d H) (L2N.takes_of rfl rfl rfl rfl)) (pa_cons (pv 6) (pa_cons (pv 3) (pa_cons (pv 2) (pa_nil))))))) (pss_one (ps_ret (pe_bl))) (pss_nil)) (pss_one (ps_if (pt_not (pt_val (pe_cl c__law_agrees hr (by decide) (pat_of (W := fun cls d _ H => E cls d H) (L2N.takes_of rfl rfl rfl rfl)) (pa_cons (pv 9) (pa_cons (pv 8) (pa_nil)))))) (pss_one (ps_ret (pe_bl))) (pss_nil)))))) (pss_nil)) (pss_cons (ps_if (pt_not (pt_val (pe_cl c__law_bounds_kept hr (by decide) (pat_of (W := fun cls d _ H => E cls d H) (L2N.takes_of rfl rfl rfl rfl)) (pa_cons (pv 6) (pa_cons (pe_ix ix_seq (pv 3) (pe_int) (fun _ _ => rfl)) (pa_cons (pv 5) (pa_nil))))))) (pss_one (ps_ret (pe_bl))) (pss_nil)) (pss_one (ps_ret (pe_and (pe_cl c__law_agrees hr (by decide) (pat_of (W := fun cls d _ H => E cls d H) (L2N.takes_of rfl rfl rfl rfl)) (pa_cons (pv 7) (pa_cons (pv 4) (pa_nil)))) (pe_one (pe_cl c__law_agrees hr (by decide) (pat_of (W := fun cls d _ H => E cls d H) (L2N.takes_of rfl rfl rfl rfl)) (pa_cons (pv 6) (pa_cons (pv 3) (pa_nil)))))))))))))))))), rd_law T vs H Q E h⟩
end
theorem okH__law_whole_number {P : Program} {w : World} {K : PySem.W.Frag} {mg : Str → Option Value} {base : Heap} {f : Addr} {fd : FuncData} (T : Txt K mg) (F : FunD K "_law_whole_number" "_law_whole_number" (defArgs s__law_whole_number) (defBody s__law_whole_number) (defScope s__law_whole_number) [] [] f fd)  : L2H.FnH P w K mg base (L2N.CX P w) 1 f fd ["told"] (sp__law_whole_number K) :=
  okH F sc__law_whole_number (len__law_whole_number K) fun cdv A outer s H vs Q E p hot hr h => ⟨t__law_whole_number K E, pss_one (ps_ret (pe_and (pe_callB call_isi (by rfl) T.b_isinstance (by decide +kernel) (pa_cons (pv 0) (pa_cons (pe_ty "int" T.b_int (by decide +kernel)) (pa_nil)))) (pe_one (pe_not (pe_callB call_isi (by rfl) T.b_isinstance (by decide +kernel) (pa_cons (pv 0) (pa_cons (pe_ty "bool" T.b_bool (by decide +kernel)) (pa_nil)))))))), rd__law_whole_number T vs H Q E h⟩
end G

set_option Elab.async false
set_option linter.all false
set_option maxRecDepth 100000
set_option maxHeartbeats 4000000

namespace G
open PySem PySem.Spec PyProof.Rows L2
theorem facts {P : Program} {w : World} {K : PySem.W.Frag} {h : Heap} {mg : Str → Option Value} {f : Addr} (X : K.In h) (G : h.Ns mainGlobals mg) (hfa : mg ("law" : Str) = some (.ref f)) (c : SaysY chkL fnL K) :
    ∃ fd : FuncData, (∀ (s : Shared) (v : Value), BindsTo s fd ⟨[v], []⟩ [("script", v)]) ∧ ∀ base : Heap, K.In base → base.Ns mainGlobals mg → FnOk P w K mg base (L2N.CX P w) 9 f fd ["script"] (sp_law K) := by
  have T := txt_of X G c
  obtain ⟨fd_check_size, F_check_size⟩ := c.def_ 0 (d := d_check_size) rfl
  obtain ⟨fd_Links___init__, F_Links___init__⟩ := c.def_ 1 (d := d_Links___init__) rfl
  obtain ⟨fd_Links_copy, F_Links_copy⟩ := c.def_ 2 (d := d_Links_copy) rfl
  obtain ⟨fd_is_positive, F_is_positive⟩ := c.def_ 3 (d := d_is_positive) rfl
  obtain ⟨fd__read_numbers, F__read_numbers⟩ := c.def_ 4 (d := d__read_numbers) rfl
  obtain ⟨fd__read_lefts, F__read_lefts⟩ := c.def_ 5 (d := d__read_lefts) rfl
  obtain ⟨fd__read_outs, F__read_outs⟩ := c.def_ 6 (d := d__read_outs) rfl
  obtain ⟨fd__read_rights, F__read_rights⟩ := c.def_ 7 (d := d__read_rights) rfl
  obtain ⟨fd_Links_read, F_Links_read⟩ := c.def_ 8 (d := d_Links_read) rfl
  obtain ⟨fd_Links_is_legal, F_Links_is_legal⟩ := c.def_ 9 (d := d_Links_is_legal) rfl
  obtain ⟨fd_check_operation, F_check_operation⟩ := c.def_ 10 (d := d_check_operation) rfl
  obtain ⟨fd_Links_check, F_Links_check⟩ := c.def_ 11 (d := d_Links_check) rfl
  obtain ⟨fd_Links_apply_at, F_Links_apply_at⟩ := c.def_ 12 (d := d_Links_apply_at) rfl
  obtain ⟨fd_Links_apply, F_Links_apply⟩ := c.def_ 13 (d := d_Links_apply) rfl
  obtain ⟨fd_Links_outs, F_Links_outs⟩ := c.def_ 14 (d := d_Links_outs) rfl
  obtain ⟨fd__joined, F__joined⟩ := c.def_ 15 (d := d__joined) rfl
  obtain ⟨fd_dump_of, F_dump_of⟩ := c.def_ 16 (d := d_dump_of) rfl
  obtain ⟨fd_Links_dump, F_Links_dump⟩ := c.def_ 17 (d := d_Links_dump) rfl
  obtain ⟨fd__law_alone, F__law_alone⟩ := c.def_ 18 (d := d__law_alone) rfl
  obtain ⟨fd__law_whole_number, F__law_whole_number⟩ := c.def_ 19 (d := d__law_whole_number) rfl
  obtain ⟨fd__law_numbers, F__law_numbers⟩ := c.def_ 20 (d := d__law_numbers) rfl
  obtain ⟨fd__law_state, F__law_state⟩ := c.def_ 21 (d := d__law_state) rfl
  obtain ⟨fd__law_text, F__law_text⟩ := c.def_ 22 (d := d__law_text) rfl
  obtain ⟨fd__law_words, F__law_words⟩ := c.def_ 23 (d := d__law_words) rfl
  obtain ⟨fd_Links_left, F_Links_left⟩ := c.def_ 24 (d := d_Links_left) rfl
  obtain ⟨fd_Links_right, F_Links_right⟩ := c.def_ 25 (d := d_Links_right) rfl
  obtain ⟨fd_check_gap, F_check_gap⟩ := c.def_ 26 (d := d_check_gap) rfl
  obtain ⟨fd_gap_state, F_gap_state⟩ := c.def_ 27 (d := d_gap_state) rfl
  obtain ⟨fd_gap_states, F_gap_states⟩ := c.def_ 28 (d := d_gap_states) rfl
  obtain ⟨fd_lost_gaps, F_lost_gaps⟩ := c.def_ 29 (d := d_lost_gaps) rfl
  obtain ⟨fd_sole_holders, F_sole_holders⟩ := c.def_ 30 (d := d_sole_holders) rfl
  obtain ⟨fd__law_agrees, F__law_agrees⟩ := c.def_ 31 (d := d__law_agrees) rfl
  obtain ⟨fd__law_draw, F__law_draw⟩ := c.def_ 32 (d := d__law_draw) rfl
  obtain ⟨fd__law_step, F__law_step⟩ := c.def_ 33 (d := d__law_step) rfl
  obtain ⟨fd__law_after, F__law_after⟩ := c.def_ 34 (d := d__law_after) rfl
  obtain ⟨fd__law_bag, F__law_bag⟩ := c.def_ 35 (d := d__law_bag) rfl
  obtain ⟨fd__law_refused, F__law_refused⟩ := c.def_ 36 (d := d__law_refused) rfl
  obtain ⟨fd__law_bounds_kept, F__law_bounds_kept⟩ := c.def_ 37 (d := d__law_bounds_kept) rfl
  obtain ⟨fd__law_size, F__law_size⟩ := c.def_ 38 (d := d__law_size) rfl
  obtain ⟨fd__law_standing, F__law_standing⟩ := c.def_ 39 (d := d__law_standing) rfl
  obtain ⟨fd_law, F_law⟩ := c.def_ 40 (d := d_law) rfl
  obtain ⟨fd_BadDump___init__, F_BadDump___init__⟩ := c.def_ 41 (d := d_BadDump___init__) rfl
  obtain ⟨fd_BadGap___init__, F_BadGap___init__⟩ := c.def_ 42 (d := d_BadGap___init__) rfl
  obtain ⟨fd_BadNode___init__, F_BadNode___init__⟩ := c.def_ 43 (d := d_BadNode___init__) rfl
  obtain ⟨fd_BadSize___init__, F_BadSize___init__⟩ := c.def_ 44 (d := d_BadSize___init__) rfl
  obtain ⟨fd_LogError___init__, F_LogError___init__⟩ := c.def_ 45 (d := d_LogError___init__) rfl
  have e := hfa.symm.trans T.gf_law
  cases e
  have bA := FunD.bindsA (ps := ["script"]) F_law fun _ _ _ _ _ _ us hl => match us, hl with | [_], _ => rfl
  refine ⟨fd_law, fun s v => bA s [v] rfl, fun base _ _ => ?_⟩
  have i_BadDump : FnOk P w K mg base (L2N.CX P w) 1 (He.ma K (He.ga K "BadDump") "__init__") fd_BadDump___init__ ["self", "part"] (spIn K ["part"]) := FunD.ok F_BadDump___init__ sc_BadDump___init__ (spIn_len rfl) fun cdv A outer s H vs Q E hr h => ⟨_, pss_one (ps_ost (pv 0) (pv 1)), ini1 rfl h⟩
  have i_BadGap : FnOk P w K mg base (L2N.CX P w) 1 (He.ma K (He.ga K "BadGap") "__init__") fd_BadGap___init__ ["self", "gap"] (spIn K ["gap"]) := FunD.ok F_BadGap___init__ sc_BadGap___init__ (spIn_len rfl) fun cdv A outer s H vs Q E hr h => ⟨_, pss_one (ps_ost (pv 0) (pv 1)), ini1 rfl h⟩
  have i_BadNode : FnOk P w K mg base (L2N.CX P w) 1 (He.ma K (He.ga K "BadNode") "__init__") fd_BadNode___init__ ["self", "node"] (spIn K ["node"]) := FunD.ok F_BadNode___init__ sc_BadNode___init__ (spIn_len rfl) fun cdv A outer s H vs Q E hr h => ⟨_, pss_one (ps_ost (pv 0) (pv 1)), ini1 rfl h⟩
  have i_BadSize : FnOk P w K mg base (L2N.CX P w) 1 (He.ma K (He.ga K "BadSize") "__init__") fd_BadSize___init__ ["self", "size"] (spIn K ["size"]) := FunD.ok F_BadSize___init__ sc_BadSize___init__ (spIn_len rfl) fun cdv A outer s H vs Q E hr h => ⟨_, pss_one (ps_ost (pv 0) (pv 1)), ini1 rfl h⟩
  have i_LogError : FnOk P w K mg base (L2N.CX P w) 1 (He.ma K (He.ga K "LogError") "__init__") fd_LogError___init__ ["self", "operation", "index"] (spIn K ["operation", "index"]) := FunD.ok F_LogError___init__ sc_LogError___init__ (spIn_len rfl) fun cdv A outer s H vs Q E hr h => ⟨_, pss_cons (ps_ost (pv 0) (pv 1)) (pss_one (ps_ost (pv 0) (pv 2))), ini2 rfl h⟩
  have x_BadDump : ExM P w K mg base 1 "BadDump" (He.ga K "BadDump") ["part"] := ⟨T.oe_BadDump.1, T.oe_BadDump.2, T.g_BadDump, _, fd_BadDump___init__, ["self", "part"], i_BadDump, T.in_BadDump.1, T.in_BadDump.2, FunD.bindsN (ps := ["self", "part"]) F_BadDump___init__ fun _ _ _ _ _ _ us hl => match us, hl with | [_, _], _ => rfl⟩
  have x_BadGap : ExM P w K mg base 1 "BadGap" (He.ga K "BadGap") ["gap"] := ⟨T.oe_BadGap.1, T.oe_BadGap.2, T.g_BadGap, _, fd_BadGap___init__, ["self", "gap"], i_BadGap, T.in_BadGap.1, T.in_BadGap.2, FunD.bindsN (ps := ["self", "gap"]) F_BadGap___init__ fun _ _ _ _ _ _ us hl => match us, hl with | [_, _], _ => rfl⟩
  have x_BadNode : ExM P w K mg base 1 "BadNode" (He.ga K "BadNode") ["node"] := ⟨T.oe_BadNode.1, T.oe_BadNode.2, T.g_BadNode, _, fd_BadNode___init__, ["self", "node"], i_BadNode, T.in_BadNode.1, T.in_BadNode.2, FunD.bindsN (ps := ["self", "node"]) F_BadNode___init__ fun _ _ _ _ _ _ us hl => match us, hl with | [_, _], _ => rfl⟩
  have x_BadOperation : ExM P w K mg base 1 "BadOperation" (He.ga K "BadOperation") ["operation", "index"] := ⟨T.oe_BadOperation.1, T.oe_BadOperation.2, T.g_BadOperation, _, fd_LogError___init__, ["self", "operation", "index"], i_LogError, (T.sm_BadOperation ▸ T.in_BadOperation).1, (T.sm_BadOperation ▸ T.in_BadOperation).2, FunD.bindsN (ps := ["self", "operation", "index"]) F_LogError___init__ fun _ _ _ _ _ _ us hl => match us, hl with | [_, _, _], _ => rfl⟩
  have x_BadSize : ExM P w K mg base 1 "BadSize" (He.ga K "BadSize") ["size"] := ⟨T.oe_BadSize.1, T.oe_BadSize.2, T.g_BadSize, _, fd_BadSize___init__, ["self", "size"], i_BadSize, T.in_BadSize.1, T.in_BadSize.2, FunD.bindsN (ps := ["self", "size"]) F_BadSize___init__ fun _ _ _ _ _ _ us hl => match us, hl with | [_, _], _ => rfl⟩
  have x_Illegal : ExM P w K mg base 1 "Illegal" (He.ga K "Illegal") ["operation", "index"] := ⟨T.oe_Illegal.1, T.oe_Illegal.2, T.g_Illegal, _, fd_LogError___init__, ["self", "operation", "index"], i_LogError, (T.sm_Illegal ▸ T.in_Illegal).1, (T.sm_Illegal ▸ T.in_Illegal).2, FunD.bindsN (ps := ["self", "operation", "index"]) F_LogError___init__ fun _ _ _ _ _ _ us hl => match us, hl with | [_, _, _], _ => rfl⟩
  have h__law_whole_number : CalH P w K mg base 1 "_law_whole_number" ["told"] (sp__law_whole_number K) := ⟨_, fd__law_whole_number, okH__law_whole_number T F__law_whole_number , T.gf__law_whole_number, F__law_whole_number.kp, FunD.bindsN (ps := ["told"]) F__law_whole_number fun _ _ _ _ _ _ us hl => match us, hl with | [_], _ => rfl⟩
  have c_check_size : Cal P w K mg base 3 "check_size" ["size"] (sp_check_size K) := ⟨_, fd_check_size, ok_check_size T F_check_size x_BadSize, T.gf_check_size, F_check_size.kp, FunD.bindsN (ps := ["size"]) F_check_size fun _ _ _ _ _ _ us hl => match us, hl with | [_], _ => rfl⟩
  have m_Links : Mak P w K mg base 4 "Links" (He.ga K "Links") ["self", "size"] (sp_Links___init__ K) := ⟨_, fd_Links___init__, ok_Links___init__ T F_Links___init__ c_check_size, T.mk_Links, T.g_Links, FunD.bindsN (ps := ["self", "size"]) F_Links___init__ fun _ _ _ _ _ _ us hl => match us, hl with | [_, _], _ => rfl⟩
  have c_Links_copy : Met P w K mg base 6 (He.ga K "Links") "copy" ["self"] (sp_Links_copy K) := ⟨_, fd_Links_copy, ok_Links_copy T F_Links_copy m_Links, T.me_Links_copy, FunD.bindsN (ps := ["self"]) F_Links_copy fun _ _ _ _ _ _ us hl => match us, hl with | [_], _ => rfl⟩
  have c_is_positive : Cal P w K mg base 1 "is_positive" ["word"] (sp_is_positive K) := ⟨_, fd_is_positive, ok_is_positive T F_is_positive , T.gf_is_positive, F_is_positive.kp, FunD.bindsN (ps := ["word"]) F_is_positive fun _ _ _ _ _ _ us hl => match us, hl with | [_], _ => rfl⟩
  have c__read_numbers : Cal P w K mg base 3 "_read_numbers" ["text", "part"] (sp__read_numbers K) := ⟨_, fd__read_numbers, ok__read_numbers T F__read_numbers c_is_positive x_BadDump, T.gf__read_numbers, F__read_numbers.kp, FunD.bindsN (ps := ["text", "part"]) F__read_numbers fun _ _ _ _ _ _ us hl => match us, hl with | [_, _], _ => rfl⟩
  have c__read_lefts : Cal P w K mg base 4 "_read_lefts" ["text", "size"] (sp__read_lefts K) := ⟨_, fd__read_lefts, ok__read_lefts T F__read_lefts c__read_numbers x_BadDump, T.gf__read_lefts, F__read_lefts.kp, FunD.bindsN (ps := ["text", "size"]) F__read_lefts fun _ _ _ _ _ _ us hl => match us, hl with | [_, _], _ => rfl⟩
  have c__read_outs : Cal P w K mg base 4 "_read_outs" ["text", "size"] (sp__read_outs K) := ⟨_, fd__read_outs, ok__read_outs T F__read_outs c__read_numbers x_BadDump, T.gf__read_outs, F__read_outs.kp, FunD.bindsN (ps := ["text", "size"]) F__read_outs fun _ _ _ _ _ _ us hl => match us, hl with | [_, _], _ => rfl⟩
  have c__read_rights : Cal P w K mg base 4 "_read_rights" ["text"] (sp__read_rights K) := ⟨_, fd__read_rights, ok__read_rights T F__read_rights c__read_numbers x_BadDump, T.gf__read_rights, F__read_rights.kp, FunD.bindsN (ps := ["text"]) F__read_rights fun _ _ _ _ _ _ us hl => match us, hl with | [_], _ => rfl⟩
  have c_Links_read : Smt P w K mg base 6 (He.ga K "Links") "read" ["text"] (sp_Links_read K) := smt_of T.sm_Links_read (ok_Links_read T F_Links_read m_Links c__read_lefts c__read_outs c__read_rights x_BadDump) F_Links_read.kp (FunD.bindsN (ps := ["text"]) F_Links_read fun _ _ _ _ _ _ us hl => match us, hl with | [_], _ => rfl)
  have c_Links_is_legal : Met P w K mg base 1 (He.ga K "Links") "is_legal" ["self", "operation"] (sp_Links_is_legal K) := ⟨_, fd_Links_is_legal, ok_Links_is_legal T F_Links_is_legal , T.me_Links_is_legal, FunD.bindsN (ps := ["self", "operation"]) F_Links_is_legal fun _ _ _ _ _ _ us hl => match us, hl with | [_, _], _ => rfl⟩
  have c_check_operation : Cal P w K mg base 3 "check_operation" ["size", "operation", "index"] (sp_check_operation K) := ⟨_, fd_check_operation, ok_check_operation T F_check_operation x_BadOperation, T.gf_check_operation, F_check_operation.kp, FunD.bindsN (ps := ["size", "operation", "index"]) F_check_operation fun _ _ _ _ _ _ us hl => match us, hl with | [_, _, _], _ => rfl⟩
  have c_Links_check : Met P w K mg base 4 (He.ga K "Links") "check" ["self", "operation", "index"] (sp_Links_check K) := ⟨_, fd_Links_check, ok_Links_check T F_Links_check c_Links_is_legal c_check_operation x_Illegal, T.me_Links_check, FunD.bindsN (ps := ["self", "operation", "index"]) F_Links_check fun _ _ _ _ _ _ us hl => match us, hl with | [_, _, _], _ => rfl⟩
  have c_Links_apply_at : Met P w K mg base 5 (He.ga K "Links") "apply_at" ["self", "operation", "index"] (sp_Links_apply_at K) := ⟨_, fd_Links_apply_at, ok_Links_apply_at T F_Links_apply_at c_Links_check, T.me_Links_apply_at, FunD.bindsN (ps := ["self", "operation", "index"]) F_Links_apply_at fun _ _ _ _ _ _ us hl => match us, hl with | [_, _, _], _ => rfl⟩
  have c_Links_apply : Met P w K mg base 6 (He.ga K "Links") "apply" ["self", "operation"] (sp_Links_apply K) := ⟨_, fd_Links_apply, ok_Links_apply T F_Links_apply c_Links_apply_at, T.me_Links_apply, FunD.bindsN (ps := ["self", "operation"]) F_Links_apply fun _ _ _ _ _ _ us hl => match us, hl with | [_, _], _ => rfl⟩
  have c_Links_outs : Met P w K mg base 1 (He.ga K "Links") "outs" ["self"] (sp_Links_outs K) := ⟨_, fd_Links_outs, ok_Links_outs T F_Links_outs , T.me_Links_outs, FunD.bindsN (ps := ["self"]) F_Links_outs fun _ _ _ _ _ _ us hl => match us, hl with | [_], _ => rfl⟩
  have c__joined : Cal P w K mg base 1 "_joined" ["numbers"] (sp__joined K) := ⟨_, fd__joined, ok__joined T F__joined , T.gf__joined, F__joined.kp, FunD.bindsN (ps := ["numbers"]) F__joined fun _ _ _ _ _ _ us hl => match us, hl with | [_], _ => rfl⟩
  have c_dump_of : Cal P w K mg base 2 "dump_of" ["rights", "lefts", "outs"] (sp_dump_of K) := ⟨_, fd_dump_of, ok_dump_of T F_dump_of c__joined, T.gf_dump_of, F_dump_of.kp, FunD.bindsN (ps := ["rights", "lefts", "outs"]) F_dump_of fun _ _ _ _ _ _ us hl => match us, hl with | [_, _, _], _ => rfl⟩
  have c_Links_dump : Met P w K mg base 3 (He.ga K "Links") "dump" ["self"] (sp_Links_dump K) := ⟨_, fd_Links_dump, ok_Links_dump T F_Links_dump c_Links_outs c_dump_of, T.me_Links_dump, FunD.bindsN (ps := ["self"]) F_Links_dump fun _ _ _ _ _ _ us hl => match us, hl with | [_], _ => rfl⟩
  have c__law_alone : Cal P w K mg base 1 "_law_alone" ["world"] (sp__law_alone K) := ⟨_, fd__law_alone, ok__law_alone T F__law_alone , T.gf__law_alone, F__law_alone.kp, FunD.bindsN (ps := ["world"]) F__law_alone fun _ _ _ _ _ _ us hl => match us, hl with | [_], _ => rfl⟩
  have c__law_whole_number : Cal P w K mg base 1 "_law_whole_number" ["told"] (sp__law_whole_number K) := ⟨_, fd__law_whole_number, ok__law_whole_number T F__law_whole_number , T.gf__law_whole_number, F__law_whole_number.kp, FunD.bindsN (ps := ["told"]) F__law_whole_number fun _ _ _ _ _ _ us hl => match us, hl with | [_], _ => rfl⟩
  have c__law_numbers : Cal P w K mg base 2 "_law_numbers" ["told", "due"] (sp__law_numbers K) := ⟨_, fd__law_numbers, ok__law_numbers T F__law_numbers c__law_whole_number, T.gf__law_numbers, F__law_numbers.kp, FunD.bindsN (ps := ["told", "due"]) F__law_numbers fun _ _ _ _ _ _ us hl => match us, hl with | [_, _], _ => rfl⟩
  have c__law_state : Cal P w K mg base 1 "_law_state" ["world", "place"] (sp__law_state K) := ⟨_, fd__law_state, ok__law_state T F__law_state , T.gf__law_state, F__law_state.kp, FunD.bindsN (ps := ["world", "place"]) F__law_state fun _ _ _ _ _ _ us hl => match us, hl with | [_, _], _ => rfl⟩
  have c__law_text : Cal P w K mg base 1 "_law_text" ["world"] (sp__law_text K) := ⟨_, fd__law_text, ok__law_text T F__law_text , T.gf__law_text, F__law_text.kp, FunD.bindsN (ps := ["world"]) F__law_text fun _ _ _ _ _ _ us hl => match us, hl with | [_], _ => rfl⟩
  have c__law_words : Cal P w K mg base 1 "_law_words" ["told", "due"] (sp__law_words K) := ⟨_, fd__law_words, ok__law_words T F__law_words , T.gf__law_words, F__law_words.kp, FunD.bindsN (ps := ["told", "due"]) F__law_words fun _ _ _ _ _ _ us hl => match us, hl with | [_, _], _ => rfl⟩
  have c_Links_left : Met P w K mg base 3 (He.ga K "Links") "left" ["self", "node"] (sp_Links_left K) := ⟨_, fd_Links_left, ok_Links_left T F_Links_left x_BadNode, T.me_Links_left, FunD.bindsN (ps := ["self", "node"]) F_Links_left fun _ _ _ _ _ _ us hl => match us, hl with | [_, _], _ => rfl⟩
  have c_Links_right : Met P w K mg base 3 (He.ga K "Links") "right" ["self", "node"] (sp_Links_right K) := ⟨_, fd_Links_right, ok_Links_right T F_Links_right x_BadNode, T.me_Links_right, FunD.bindsN (ps := ["self", "node"]) F_Links_right fun _ _ _ _ _ _ us hl => match us, hl with | [_, _], _ => rfl⟩
  have c_check_gap : Cal P w K mg base 3 "check_gap" ["size", "gap"] (sp_check_gap K) := ⟨_, fd_check_gap, ok_check_gap T F_check_gap x_BadGap, T.gf_check_gap, F_check_gap.kp, FunD.bindsN (ps := ["size", "gap"]) F_check_gap fun _ _ _ _ _ _ us hl => match us, hl with | [_, _], _ => rfl⟩
  have c_gap_state : Cal P w K mg base 4 "gap_state" ["links", "gap"] (sp_gap_state K) := ⟨_, fd_gap_state, ok_gap_state T F_gap_state c_Links_left c_Links_right c_check_gap, T.gf_gap_state, F_gap_state.kp, FunD.bindsN (ps := ["links", "gap"]) F_gap_state fun _ _ _ _ _ _ us hl => match us, hl with | [_, _], _ => rfl⟩
  have c_gap_states : Cal P w K mg base 5 "gap_states" ["links"] (sp_gap_states K) := ⟨_, fd_gap_states, ok_gap_states T F_gap_states c_gap_state, T.gf_gap_states, F_gap_states.kp, FunD.bindsN (ps := ["links"]) F_gap_states fun _ _ _ _ _ _ us hl => match us, hl with | [_], _ => rfl⟩
  have c_lost_gaps : Cal P w K mg base 6 "lost_gaps" ["links"] (sp_lost_gaps K) := ⟨_, fd_lost_gaps, ok_lost_gaps T F_lost_gaps c_gap_states, T.gf_lost_gaps, F_lost_gaps.kp, FunD.bindsN (ps := ["links"]) F_lost_gaps fun _ _ _ _ _ _ us hl => match us, hl with | [_], _ => rfl⟩
  have c_sole_holders : Cal P w K mg base 6 "sole_holders" ["links"] (sp_sole_holders K) := ⟨_, fd_sole_holders, ok_sole_holders T F_sole_holders c_gap_states, T.gf_sole_holders, F_sole_holders.kp, FunD.bindsN (ps := ["links"]) F_sole_holders fun _ _ _ _ _ _ us hl => match us, hl with | [_], _ => rfl⟩
  have c__law_agrees : Cal P w K mg base 7 "_law_agrees" ["links", "world"] (sp6__law_agrees K) := ⟨_, fd__law_agrees, ok__law_agrees T F__law_agrees c_Links_dump c__law_alone c__law_numbers c__law_state c__law_text c__law_words c_gap_state c_gap_states c_lost_gaps c_sole_holders, T.gf__law_agrees, F__law_agrees.kp, FunD.bindsN (ps := ["links", "world"]) F__law_agrees fun _ _ _ _ _ _ us hl => match us, hl with | [_, _], _ => rfl⟩
  have c__law_draw : Cal P w K mg base 1 "_law_draw" ["bag", "many"] (sp__law_draw K) := ⟨_, fd__law_draw, ok__law_draw T F__law_draw , T.gf__law_draw, F__law_draw.kp, FunD.bindsN (ps := ["bag", "many"]) F__law_draw fun _ _ _ _ _ _ us hl => match us, hl with | [_, _], _ => rfl⟩
  have c__law_step : Cal P w K mg base 1 "_law_step" ["world", "deed"] (sp__law_step K) := ⟨_, fd__law_step, ok__law_step T F__law_step , T.gf__law_step, F__law_step.kp, FunD.bindsN (ps := ["world", "deed"]) F__law_step fun _ _ _ _ _ _ us hl => match us, hl with | [_, _], _ => rfl⟩
  have c__law_after : Cal P w K mg base 8 "_law_after" ["links", "world", "bag"] (sp__law_after K) := ⟨_, fd__law_after, ok__law_after T F__law_after c_Links_apply c__law_agrees c__law_draw c__law_step, T.gf__law_after, F__law_after.kp, FunD.bindsN (ps := ["links", "world", "bag"]) F__law_after fun _ _ _ _ _ _ us hl => match us, hl with | [_, _, _], _ => rfl⟩
  have c__law_bag : Cal P w K mg base 1 "_law_bag" ["script", "lane"] (sp__law_bag K) := ⟨_, fd__law_bag, ok__law_bag T F__law_bag , T.gf__law_bag, F__law_bag.kp, FunD.bindsN (ps := ["script", "lane"]) F__law_bag fun _ _ _ _ _ _ us hl => match us, hl with | [_, _], _ => rfl⟩
  have c__law_refused : Cal P w K mg base 5 "_law_refused" ["links", "place"] (sp__law_refused K) := ⟨_, fd__law_refused, ok__law_refused T F__law_refused c_gap_state h__law_whole_number, T.gf__law_refused, F__law_refused.kp, FunD.bindsN (ps := ["links", "place"]) F__law_refused fun _ _ _ _ _ _ us hl => match us, hl with | [_, _], _ => rfl⟩
  have c__law_bounds_kept : Cal P w K mg base 6 "_law_bounds_kept" ["links", "size", "far"] (sp__law_bounds_kept K) := ⟨_, fd__law_bounds_kept, ok__law_bounds_kept T F__law_bounds_kept c__law_refused, T.gf__law_bounds_kept, F__law_bounds_kept.kp, FunD.bindsN (ps := ["links", "size", "far"]) F__law_bounds_kept fun _ _ _ _ _ _ us hl => match us, hl with | [_, _, _], _ => rfl⟩
  have c__law_size : Cal P w K mg base 2 "_law_size" ["bag"] (sp__law_size K) := ⟨_, fd__law_size, ok__law_size T F__law_size c__law_draw, T.gf__law_size, F__law_size.kp, FunD.bindsN (ps := ["bag"]) F__law_size fun _ _ _ _ _ _ us hl => match us, hl with | [_], _ => rfl⟩
  have c__law_standing : Cal P w K mg base 2 "_law_standing" ["bag", "size"] (sp__law_standing K) := ⟨_, fd__law_standing, ok__law_standing T F__law_standing c__law_draw, T.gf__law_standing, F__law_standing.kp, FunD.bindsN (ps := ["bag", "size"]) F__law_standing fun _ _ _ _ _ _ us hl => match us, hl with | [_, _], _ => rfl⟩
  exact ok_law T F_law c_Links_copy c_Links_read c__law_after c__law_agrees c__law_bag c__law_bounds_kept c__law_draw c__law_size c__law_standing c__law_text
end G
open PySem PySem.W PySem.Calls PyProof.Rows
set_option maxRecDepth 100000 in
set_option maxHeartbeats 0 in
theorem PySem.Challenge.cw_latelink_k06_states_of_gaps_holds : PySem.Challenge.rw_latelink_k06_states_of_gaps.Holds := by
  w_on; o_law
  refine HandSHeadRun.head_any (r := OpenLaw.row PySem.Challenge.rw_latelink_k06_states_of_gaps) (q := view (OpenLaw.row PySem.Challenge.rw_latelink_k06_states_of_gaps).prog [45]) (H := G.hk) (ob := G.ob) (M := 8000) (loose := G.loose) (d := HandSHeadRun.topDef (OpenLaw.row PySem.Challenge.rw_latelink_k06_states_of_gaps).prog 45) (kwd := []) G.ob_eq
    (by kernel_rfl) (fun s => by kernel_rfl) G.run (by kernel_rfl) (by kernel_rfl) (by kernel_rfl) (by rfl) (by first | assumption | decide +kernel) (by decide +kernel) ⟨rfl, rfl, rfl, rfl, rfl, by decide +kernel⟩ ?hw ?hc
  case hw => w_witness2
  case hc =>
    refine L2.walk_ofE (l := PySem.Challenge.rw_latelink_k06_states_of_gaps) (n := 63) (k := 9) (x := "script") (CX := L2.CX0) rfl (by decide) (by kernel_rfl) ⟨rfl, by decide, by decide⟩ ?F (fun _ _ _ _ z => z)
    case F =>
      intro w mg fa h Y Gm hmg0
      obtain ⟨K, KX, c⟩ := Y
      have hmg : mg ("law" : PySem.Str) = some (.ref fa) := by
        have e : (HandSHeadRun.topDef (OpenLaw.row PySem.Challenge.rw_latelink_k06_states_of_gaps).prog 45).name = ("law" : PySem.Str) := by kernel_rfl
        rw [← e]
        exact hmg0
      obtain ⟨fd, hb, hF⟩ := G.facts (P := (PySem.Challenge.rw_latelink_k06_states_of_gaps).prog) (w := w) KX Gm hmg c
      exact ⟨K, fd, _, KX, hb, fun H a ns hl _ hS => ⟨a, ns, rfl, hS, hl, fun _ => rfl⟩, fun base h1 h2 => G.noX (hF base h1 h2)⟩
