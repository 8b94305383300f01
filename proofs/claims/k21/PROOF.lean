import PyProof.Rows.All
import Wide.All
import OpenK.AllK
import Wide.FinOn
import KE.KStateDown
import KE.KExcIs
import HandS.ForMost
import HandS.Exc
import HandS.ExcOwn
import HandS.ExcCtx
import HandS.ExcInit
import HandS.ExcField
import HandS.HotCalls
import HandS.WordsExc
import HandS.IsInst
import HandS.Conv
import HandS.Defaults
import HandS.Evl
import HandS.Head0
import HandS.Head1
import HandS.Head2
import HandS.HeadEnd
import HandS.HeadHook1
import HandS.HeadHook2
import HandS.ClsMeth
import HandS.ExcInitHot
import HandS.OwnEq
import HandS.HeadNt
import HandS.NoneIn
import HandS.Text
import HandS.Steps
import HandS.Strs
import HandS.TupAny
import HandS.Deep
import PySem.Challenge.RW_latelink_k21_whole_loss_certificates
set_option Elab.async false
set_option linter.all false
set_option maxRecDepth 100000
set_option maxHeartbeats 4000000
/-! Calls by bundles, own exceptions with fields, raised, caught, asked. -/
namespace G
open PySem PySem.Spec PyProof.Rows L2

/-! ### a def, a method of the text, ready to be called -/
structure Cal (P : Program) (w : World) (K : PySem.W.Frag) (mg : Str → Option Value) (base : Heap) (k : Nat) (x : Str) (ps : List Str) (sp : Sp) : Prop where
  ex : ∃ (f : Addr) (fd : FuncData), FnOk P w K mg base (L2N.CX P w) k f fd ps sp ∧ mg x = some (.ref f) ∧ PySem.W.keepIn K (.ref f) = true ∧ Binds K fd ps []
structure Met (P : Program) (w : World) (K : PySem.W.Frag) (mg : Str → Option Value) (base : Heap) (k : Nat) (C : Addr) (m : Str) (ps : List Str) (sp : Sp) : Prop where
  ex : ∃ (f : Addr) (fd : FuncData), FnOk P w K mg base (L2N.CX P w) k f fd ps sp ∧ Meth K C m f ∧ Binds K fd ps []
structure Mak (P : Program) (w : World) (K : PySem.W.Frag) (mg : Str → Option Value) (base : Heap) (k : Nat) (x : Str) (C : Addr) (ps : List Str) (sp : Sp) : Prop where
  ex : ∃ (f : Addr) (fd : FuncData), FnOk P w K mg base (L2N.CX P w) k f fd ps sp ∧ Mk K C f ∧ mg x = some (.ref C) ∧ Binds K fd ps []
/-- the same where an exception is handled -/
structure CalH (P : Program) (w : World) (K : PySem.W.Frag) (mg : Str → Option Value) (base : Heap) (k : Nat) (x : Str) (ps : List Str) (sp : Sp) : Prop where
  ex : ∃ (f : Addr) (fd : FuncData), L2H.FnH P w K mg base (L2N.CX P w) k f fd ps sp ∧ mg x = some (.ref f) ∧ PySem.W.keepIn K (.ref f) = true ∧ Binds K fd ps []
section
variable {X : Cx} {j k : Nat} {x m : Str} {ps : List Str} {sp : Sp} {E : XK} {C : Addr} {p pos apos : Pos} {e o : Expr} {es : List Expr} {t : TA} {ta : TE}
/-- f(..): what leaves it as an exception is wished for by E -/
def tCl (sp : Sp) (E : L2.St → XK) (t : TA) : TE := fun σ H Q => t σ H fun vs H1 => sp vs H1 Q (E σ)
def tMt (C : Addr) (m : Str) (sp : Sp) (E : L2.St → XK) (ta : TE) (t : TA) : TE := fun σ H Q => ta σ H fun x H1 => ∃ a dx fs, x = .ref a ∧ H1 a = some (.ins C dx fs) ∧ fs.lookup m = none ∧ t σ H1 fun vs H2 => sp (x :: vs) H2 Q (E σ)
def tMk (C : Addr) (sp : Sp) (E : L2.St → XK) (t : TA) : TE := fun σ H Q => t σ H fun vs H1 => ∀ x dx, H1 x = none → H1 dx = none → dx ≠ x → sp (.ref x :: vs) (upd (upd H1 dx (.own x)) x (.ins C dx [])) (fun v H2 => v = .non ∧ Q (.ref x) H2) (E σ)
abbrev PAt (X : Cx) (E : L2.St → XK) : Prop := ∀ σ, PassesAt (L2N.CX X.prog X.w) X σ (E σ)
theorem pat_of {X : Cx} {W : WX} (tk : L2N.Takes X W) : PAt X (WE W) := fun σ => L2N.passAt tk σ
/-- where nothing may be let out -/
theorem pat_no {X : Cx} : PAt X (fun _ => L2.E0) := fun σ pins H s e s' I c => by
  obtain ⟨_, _, _, _, _, _, _, _, _, _, _, _, z⟩ := c
  exact z.elim
variable {E : L2.St → XK}
theorem pe_cl (c : Cal X.prog X.w X.K X.mg X.base k x ps sp) (hr : Room j X.A) (hk : k ≤ j) (hx : PAt X E) (ha : PA X (e :: es) t) (hg : Gl X x := by rfl) (hdb : (x == ("__debug__" : Str)) = false := by decide)
    (he : starEach (e :: es) X.env = (false, eval e X.env) :: starEach es X.env := by rfl) (hpl : (backTo pos (starEach es X.env)).any (·.1) = false := by rfl) : PE X (.Call (.Name x p) (e :: es) [] pos) (tCl sp E t) := by
  obtain ⟨f, fd, F, hm, kp, hb⟩ := c.ex
  refine ⟨fun pins s σ H Q I h => ?_⟩
  exact (pe_callS (E := E) F (hr.mono hk) hg hm kp hb hx ha hdb he hpl).run pins s σ H Q I h
theorem pe_cl0 (c : Cal X.prog X.w X.K X.mg X.base k x ps sp) (hr : Room j X.A) (hk : k ≤ j) (hx : PAt X E) (hg : Gl X x := by rfl) (hdb : (x == ("__debug__" : Str)) = false := by decide) : PE X (.Call (.Name x p) [] [] pos) (tCl sp E tNil) := by
  obtain ⟨f, fd, F, hm, kp, hb⟩ := c.ex
  refine ⟨fun pins s σ H Q I h => wpAny_Call_Name_kw (ld_glob I hg hm ?_ hdb)⟩
  exact PySem.W.callWith_K0 I.kIn kp (run_fnS (E := E) (us := []) (vs := []) F (hr.mono hk) hb (hx σ) I .nil h)
theorem run_mt {pins : List (Addr × Obj)} {s : Shared} {σ : L2.St} {H : Hp} {Q : VK} {f : Addr} {fd : FuncData} {us : List Value} {vs : List V} (F : FnOk X.prog X.w X.K X.mg X.base (L2N.CX X.prog X.w) k f fd ps sp) (hr : Room k X.A) (hb : Binds X.K fd ps []) (hx : PAt X E) (I : Inv X pins σ H s) (r : Vals vs us)
    (h : sp vs H Q (E σ)) : wpAny (model X.prog X.w) X.A (call (.ref f) us) (EP X pins σ Q) X.xe s := run_fnS F hr hb (hx σ) I r h
theorem pe_mt {pl : Sem Bool} (c : Met X.prog X.w X.K X.mg X.base k C m ps sp) (cl : Cls X.K C) (hr : Room j X.A) (hk : k ≤ j) (hx : PAt X E) (he : PE X o ta) (ha : PA X (e :: es) t)
    (hst : starEach (e :: es) X.env = (false, eval e X.env) :: starEach es X.env := by rfl) (hpl : (backTo pos (starEach es X.env)).any (·.1) = false := by rfl)
    (ht : eval (.Call (.Attribute o m apos) (e :: es) [] pos) X.env = (do
      let ov ← eval o X.env
      standAt apos.atName
      let (f, first) ← holding [ov] (getMethod ov m pl)
      callWith pos f first (backTo pos (starEach (e :: es) X.env)) (backToKw pos (keywordEach [] X.env))) := by rfl) : PE X (.Call (.Attribute o m apos) (e :: es) [] pos) (tMt C m sp E ta t) := by
  obtain ⟨f, fd, F, hm, hb⟩ := c.ex
  refine ⟨fun pins s σ H Q I h => PySem.W.methodCall_KW (pl := pl) (thn (he.run pins s σ H _ I h) fun u s1 hh => ?_) ht⟩
  obtain ⟨x, H1, I1, rx, a, dx, fs, ex, ea, l, q⟩ := hh
  subst ex
  obtain rfl : u = Value.ref a := rx
  refine getmeth_ok I1 ea cl hm l (PySem.W.callWith_K (first := [.ref a]) (h₀ := X.base) I.ok.mod.kin hm.kp (thn (ha.run pos pins s1 σ H1 _ I1 q) fun us s2 hh => ?_) hst hpl)
  obtain ⟨vs, H2, I2, r, q2⟩ := hh
  exact ⟨I2.kIn, run_fnS (us := .ref a :: us) (vs := .ref a :: vs) F (hr.mono hk) hb (hx σ) I2 (.cons rfl r) q2⟩
theorem pe_mt0 {pl : Sem Bool} (c : Met X.prog X.w X.K X.mg X.base k C m ps sp) (cl : Cls X.K C) (hr : Room j X.A) (hk : k ≤ j) (hx : PAt X E) (he : PE X o ta)
    (ht : eval (.Call (.Attribute o m apos) [] [] pos) X.env = (do
      let ov ← eval o X.env
      standAt apos.atName
      let (f, first) ← holding [ov] (getMethod ov m pl)
      callWith pos f first (backTo pos (starEach [] X.env)) (backToKw pos (keywordEach [] X.env))) := by rfl) : PE X (.Call (.Attribute o m apos) [] [] pos) (tMt C m sp E ta tNil) := by
  obtain ⟨f, fd, F, hm, hb⟩ := c.ex
  refine ⟨fun pins s σ H Q I h => PySem.W.methodCall_KW (pl := pl) (thn (he.run pins s σ H _ I h) fun u s1 hh => ?_) ht⟩
  obtain ⟨x, H1, I1, rx, a, dx, fs, ex, ea, l, q⟩ := hh
  subst ex
  obtain rfl : u = Value.ref a := rx
  refine getmeth_ok I1 ea cl hm l ?_
  exact PySem.W.callWith_K0 (first := [.ref a]) I1.kIn hm.kp (run_fnS (us := [.ref a]) (vs := [.ref a]) F (hr.mono hk) hb (hx σ) I1 (.cons rfl .nil) q)
/-- an instance is made, what its __init__ lets out is wished for at the slots σ -/
theorem run_mk {pn : List (Addr × Obj)} {τ : L2.St} {H0 : Hp} {sh : Shared} {R : VK} {f : Addr} {fd : FuncData} {uu : List Value} {vv : List V} (M : Mk X.K C f) (F : FnOk X.prog X.w X.K X.mg X.base (L2N.CX X.prog X.w) k f fd ps sp)
    (hr : Room (k + 1) X.A) (hb : Binds X.K fd ps []) (hx : PAt X E) (I : Inv X pn τ H0 sh) (r : Vals vv uu)
    (h : ∀ x dx, H0 x = none → H0 dx = none → dx ≠ x → sp (.ref x :: vv) (upd (upd H0 dx (.own x)) x (.ins C dx [])) (fun v H2 => v = .non ∧ R (.ref x) H2) (E τ)) :
    wpAny (model X.prog X.w) X.A (call (.ref C) uu) (EP X pn τ R) X.xe sh := by
  have q0 := h (sh.heap.objs.size + 1) sh.heap.objs.size (I.hok.fresh (Nat.le_succ _)) (I.hok.fresh (Nat.le_refl _)) (Nat.ne_of_lt (Nat.lt_succ_self _))
  have J := Inv.made (C := C) I
  have rr : Vals (V.ref (sh.heap.objs.size + 1) :: vv) (Value.ref (sh.heap.objs.size + 1) :: uu) := .cons rfl r
  have ln : (Value.ref (sh.heap.objs.size + 1) :: uu ++ []).length = ps.length := by
    rw [List.append_nil, ← rr.length]
    exact F.len _ _ _ _ q0
  have bb := hb _ (Value.ref (sh.heap.objs.size + 1) :: uu) J.kIn ln
  rw [List.append_nil] at bb
  have go := F.run _ X.stack _ _ ⟨Value.ref (sh.heap.objs.size + 1) :: uu, []⟩ _ _ _ (E τ) (hr.make C uu []) (J.env0.make C uu []) bb rr q0
  refine wpAny_call (make_map (f := f) I.kIn M.makes M.init (beq_iff_eq.mp M.fn) (codeAny_mono go fun rs s2 w => ?_))
  cases rs with
  | error er => exact hx τ pn _ _ er s2 J w
  | ok fl =>
    cases fl with
    | ret u =>
      obtain ⟨v, H2, J2, rv, ev, w2⟩ := J.after w
      subst ev
      exact ⟨rv, V.ref (sh.heap.objs.size + 1), H2, J2, rfl, w2⟩
    | next => exact w.elim
    | brk => exact w.elim
    | cont => exact w.elim
theorem pe_mk (c : Mak X.prog X.w X.K X.mg X.base k x C ps sp) (hr : Room j X.A) (hk : k + 1 ≤ j) (hx : PAt X E) (ha : PA X (e :: es) t) (hg : Gl X x := by rfl) (hdb : (x == ("__debug__" : Str)) = false := by decide)
    (he : starEach (e :: es) X.env = (false, eval e X.env) :: starEach es X.env := by rfl) (hpl : (backTo pos (starEach es X.env)).any (·.1) = false := by rfl) : PE X (.Call (.Name x p) (e :: es) [] pos) (tMk C sp E t) := by
  obtain ⟨f, fd, F, M, hm, hb⟩ := c.ex
  refine ⟨fun pn s τ H Q I h => wpAny_Call_Name_kw (ld_glob I hg hm ?_ hdb)⟩
  refine PySem.W.callWith_K (h₀ := X.base) I.ok.mod.kin M.kp (thn (ha.run pos pn s τ H _ I h) fun us s1 hh => ?_) he hpl
  obtain ⟨vs, H1, I1, r, q⟩ := hh
  exact ⟨I1.kIn, run_mk M F (hr.mono hk) hb hx I1 r q⟩
end

/-! ### calls where an exception is handled -/
section
variable {X : Cx} {j k : Nat} {x : Str} {ps : List Str} {sp : Sp} {p pos : Pos} {e : Expr} {es : List Expr} {t : TA} {E : L2.St → XK}
theorem pe_clH (c : CalH X.prog X.w X.K X.mg X.base k x ps sp) (hr : L2H.RoomH j X.A) (hk : k ≤ j) (hc : L2H.HotC X) (hx : PAt X E) (ha : PA X (e :: es) t) (hg : Gl X x := by rfl) (hdb : (x == ("__debug__" : Str)) = false := by decide)
    (he : starEach (e :: es) X.env = (false, eval e X.env) :: starEach es X.env := by rfl) (hpl : (backTo pos (starEach es X.env)).any (·.1) = false := by rfl) : PE X (.Call (.Name x p) (e :: es) [] pos) (tCl sp E t) := by
  obtain ⟨f, fd, F, hm, kp, hb⟩ := c.ex
  refine ⟨fun pins s σ H Q I h => ?_⟩
  exact (L2H.pe_callH (E := E) F (hr.mono hk) hc hg hm kp hb hx ha hdb he hpl).run pins s σ H Q I h
/-- the suite of a clause is such a place -/
theorem hot_suite {X : Cx} {a : Addr} {oe : Obj} {cls : Value} {d : Option Addr} {pn : List (Addr × Obj)} (hz : L2N.Zn cls d oe) (hf : ∃ vs, oe.data = .fields vs) : L2H.HotC (X.suite a ((a, oe) :: pn)) := by
  obtain ⟨vs, hv⟩ := hf
  exact ⟨(a, oe), ⟨rfl, vs, hv, hz.2.2 vs hv⟩, List.mem_cons_self⟩
end

/-! ### own exceptions with fields -/
/-- what a class of errors must be for its instances to be asked and read -/
structure ExK (K : PySem.W.Frag) (C : Addr) : Prop where
  cl : (PySem.W.clsIn K C).isSome = true
  ga : PySem.W.findIn K (.ref C) "__getattribute__" = some (some (.builtin "BaseException.__getattribute__"))
  gg : PySem.W.findIn K (.ref C) "__getattr__" = some none
  be : PySem.W.subIn K (.ref C) (.type "BaseException") = some true
  hd : PySem.W.hasDictIn K C = true
  cc : PySem.W.findIn K (.ref C) "__class__" = some (some (.builtin "object.__class__"))
  gs : PySem.W.specialIn K (.builtin "object.__class__") "__get__" = some (some (.builtin "getset_descriptor.__get__"))
  tk : PySem.W.takesIn K (.builtin "object.__class__") = some true
  mo : PySem.W.mroIn K C (.type "object") = some true
/-- isinstance(raised, c) -/
def rIsX (K : PySem.W.Frag) (cls : Value) (d : Option Addr) (a : Addr) : List V → Hp → VK → Prop := fun xs H Q => ∃ (D dd : Addr) (fs : List (Str × V)) (c : V) (u : Value) (b : Bool),
  cls = .ref D ∧ d = some dd ∧ H dd = some (.xd fs) ∧ ExK K D ∧ xs = [.ref a, c] ∧ ClsV c u ∧ PySem.W.kitOne K (.ref D) u = some b ∧ Q (.bl b) H
section
variable {X : Cx} {a : Addr} {oe : Obj} {cls : Value} {d : Option Addr} {pn : List (Addr × Obj)}
theorem exc_at {pins : List (Addr × Obj)} {s : Shared} {σ : L2.St} {H : Hp} {D dd : Addr} {fs : List (Str × V)} (I : Inv (X.suite a ((a, oe) :: pn)) pins σ H s) (hz : Zc cls d oe) (hf : ∃ vs, oe.data = .fields vs) (ec : cls = .ref D) (ed : d = some dd)
    (hd : H dd = some (.xd fs)) : ∃ (od : Obj) (mA : Str → Option Value), PySem.W.InstAt s.heap a oe D (some od) ∧ (∀ f, RelO (fs.lookup f) (mA f)) ∧ ∀ n, PySem.W.lookIn n od = some (mA n) := by
  obtain ⟨hget, _⟩ := I.pin (a, oe) (List.mem_append_left _ List.mem_cons_self)
  obtain ⟨vs, hv⟩ := hf
  obtain ⟨mA, hns, hr⟩ := (show ObjOk X.prog X.w H s.heap dd (.xd fs) from I.hok dd _ hd)
  obtain ⟨od, ho, hl⟩ := lookIn_ns hns
  refine ⟨od, mA, ⟨hget, hz.1.trans ec, ?_, ?_⟩, hr, hl⟩
  · unfold PySem.W.notCls
    rw [hv] <;> rfl
  · rw [hz.2, ed]
    exact ho
theorem call_isX (hz : Zc cls d oe) (hf : ∃ vs, oe.data = .fields vs) : CallR (X.suite a ((a, oe) :: pn)) (.builtin "isinstance") (rIsX X.K cls d a) := by
  intro pins s σ H xs us Q I r h
  obtain ⟨D, dd, fs, c, u, b, ec, ed, hd, T, rfl, k, e, q⟩ := h
  obtain ⟨u1, u2, rfl, r1, r2⟩ := vals2 r
  cases (show u1 = Value.ref a from r1)
  have e2 := k.eq r2
  subst e2
  obtain ⟨od, mA, J, _, _⟩ := exc_at I hz hf ec ed hd
  exact PySem.W.kia_one (PySem.W.kitx_exc T.cl T.ga T.gg T.be T.cc T.gs T.tk T.mo) I.kIn J e (fun z => nomatch z) fun tk => ⟨.bl b, H, I.tok tk, rfl, q⟩
/-- raised.f -/
def tXat (K : PySem.W.Frag) (a : Addr) (cls : Value) (d : Option Addr) (f : Str) (te : TE) : TE := fun σ H Q => te σ H fun x H1 => ∃ (D dd : Addr) (fs : List (Str × V)) (v : V),
  cls = .ref D ∧ d = some dd ∧ H1 dd = some (.xd fs) ∧ ExK K D ∧ x = .ref a ∧ PySem.W.findIn K (.ref D) f = some none ∧ fs.lookup f = some v ∧ Q v H1
theorem pe_xat {e : Expr} {te : TE} {pos : Pos} {n : Str} (hz : Zc cls d oe) (hf : ∃ vs, oe.data = .fields vs) (he : PE (X.suite a ((a, oe) :: pn)) e te) (hb : attributeBase e n X.env (eval e X.env) = eval e X.env := by rfl) :
    PE (X.suite a ((a, oe) :: pn)) (.Attribute e n pos) (tXat X.K a cls d n te) := by
  refine ⟨fun pins s σ H Q I h => attr_of hb (thn (he.run pins s σ H _ I h) fun u s1 hh => ?_)⟩
  obtain ⟨x, H1, I1, rx, D, dd, fs, v, ec, ed, hd, T, ex, hno, l, q⟩ := hh
  subst ex
  obtain rfl : u = Value.ref a := rx
  obtain ⟨od, mA, J, hr, hl⟩ := exc_at I1 hz hf ec ed hd
  obtain ⟨u, hu, ru⟩ := RelO.some_of (v := v) (o := mA n) (by rw [← l]; exact hr n)
  exact HandSPX.exc_get I1.kIn J T.ga T.gg T.be (PySem.W.findObj_own T.hd hno rfl (by rw [hl, hu])) (handed_of ru) ⟨v, H1, I1.tok _, ru, q⟩
end
end G

set_option Elab.async false
set_option linter.all false
set_option maxRecDepth 100000
set_option maxHeartbeats 4000000
/-! Own errors made and raised where nothing is handled. -/
namespace G
open PySem PySem.Spec PyProof.Rows L2

/-- what an error's __init__ leaves: its fields fs hold the values us -/
def spIn (K : PySem.W.Frag) (fs : List Str) : Sp := fun vs H Q _ => ∃ (a C : Addr) (us : List V), vs = .ref a :: us ∧ us.length = fs.length ∧ OexC K C ∧ (∀ f ∈ fs, PySem.W.findIn K (.ref C) f = some none) ∧ H a = some (exo a C none) ∧
  ∀ (dx : Addr) (H' : Hp), H dx = none → dx ≠ a → H' a = some (exo a C (some dx)) → H' dx = some (exd dx (fs.zip us).reverse) → (∀ b, b ≠ a → b ≠ dx → H' b = H b) → Q .non H'
theorem spIn_len {K : PySem.W.Frag} {fs ps : List Str} (h : ps.length = fs.length + 1) : ∀ vs H Q E, spIn K fs vs H Q E → vs.length = ps.length := by
  rintro vs H Q E ⟨a, C, us, rfl, hl, _⟩
  rw [h, List.length_cons, hl]
/-- an own class of errors -/
structure ExM (P : Program) (w : World) (K : PySem.W.Frag) (mg : Str → Option Value) (base : Heap) (k : Nat) (x : Str) (C : Addr) (fs : List Str) : Prop where
  oex : OexC K C
  no : ∀ f ∈ fs, PySem.W.findIn K (.ref C) f = some none
  gl : mg x = some (.ref C)
  ex : ∃ (fI : Addr) (fd : FuncData) (ps : List Str), FnOk P w K mg base (L2N.CX P w) k fI fd ps (spIn K fs) ∧ PySem.W.findIn K (.ref C) "__init__" = some (some (.ref fI)) ∧ PySem.W.typeIn K (.ref fI) = some (.type "function") ∧ Binds K fd ps []
theorem heap_mk {H H2 : Hp} {a d : Addr} {o : HO} (ha : H a = none) (hd : d ≠ a) (k : ∀ b, b ≠ a → b ≠ d → H2 b = H b) : upd (del H2 a) d o = upd H d o := by
  funext b
  by_cases hb : b = d
  · rw [hb, upd_same, upd_same]
  · rw [upd_ne hb, upd_ne hb]
    by_cases hba : b = a
    · rw [hba, del_same, ha]
    · rw [del_ne hba, k b hba hb]
theorem mk_go {K : PySem.W.Frag} {C : Addr} {fs : List Str} {us : List V} {H : Hp} {Q : XK} (T : OexC K C) (hf : ∀ f ∈ fs, PySem.W.findIn K (.ref C) f = some none) (hl : us.length = fs.length) (h : ∀ d, H d = none → Q (.ref C) (some d) (upd H d (.xd (fs.zip us).reverse))) :
    ∀ a, H a = none → spIn K fs (.ref a :: us) (upd H a (exo a C none)) (fun v H2 => v = .non ∧ ∃ (d : Addr) (gs : List (Str × V)), H2 a = some (exo a C (some d)) ∧ H2 d = some (exd d gs) ∧ H d = none ∧ Q (.ref C) (some d) (upd (del H2 a) d (.xd gs))) (fun _ _ _ => False) := by
  intro a ha
  refine ⟨a, C, us, rfl, hl, T, hf, upd_same, fun dx H' nd ne e1 e2 k => ⟨rfl, dx, _, e1, e2, ?_, ?_⟩⟩
  · rw [upd_ne ne] at nd
    exact nd
  · have nd' : H dx = none := by
      rw [upd_ne ne] at nd
      exact nd
    rw [heap_mk ha ne fun b h1 h2 => (k b h1 h2).trans (upd_ne h1)]
    exact h dx nd'
/-- x(e, ..), x a class of errors -/
def tRz (C : Addr) (fs : List Str) (W : WX) (ta : TA) : TS := fun _ σ H => ta σ H fun us H1 => us.length = fs.length ∧ us.length ≤ 1000 ∧ ∀ d, H1 d = none → W (.ref C) (some d) σ (upd H1 d (.xd (fs.zip us).reverse))
section
variable {X : Cx} {j k : Nat} {x : Str} {C : Addr} {fs : List Str} {p pos pos2 : Pos} {e : Expr} {es : List Expr} {ta : TA}
theorem pmk_x (c : ExM X.prog X.w X.K X.mg X.base k x C fs) (hr : Room j X.A) (hk : k + 1 ≤ j) (ha : PA X (e :: es) ta) (hg : Gl X x) (hdb : (x == ("__debug__" : Str)) = false)
    (he : starEach (e :: es) X.env = (false, eval e X.env) :: starEach es X.env) (hpl : (backTo pos (starEach es X.env)).any (·.1) = false) :
    L2N.PMk X (.Call (.Name x p) (e :: es) [] pos) (fun σ H Q => ta σ H fun us H1 => us.length = fs.length ∧ us.length ≤ 1000 ∧ ∀ d, H1 d = none → Q (.ref C) (some d) (upd H1 d (.xd (fs.zip us).reverse))) := by
  obtain ⟨T, hno, hm, fI, fd, ps, F1, iC, tI, hb⟩ := c
  intro pn s τ H Q I h
  obtain ⟨nm, qn, N, bs, bm, sn, sub, ab, col, dd, k0, k1, k2, k3, k5, hC, hbm⟩ := T.cls
  refine wpAny_Call_Name_kw (ld_glob I hg hm (PySem.W.callWith_K (h₀ := X.base) I.ok.mod.kin T.kC (thn (ha.run pos pn s τ H _ I h) fun us s1 hh => ?_) he hpl) hdb)
  obtain ⟨vs, H1, I1, r1, hl, hz, q1⟩ := hh
  refine ⟨I1.kIn, ?_⟩
  obtain ⟨hp, g, dr, tk, os⟩ := s1
  show wpAny _ _ (call (.ref C) us) _ _ _
  have hle := Nat.le_succ hp.objs.size
  have hn : H1 (hp.objs.size + 1) = none := I1.hok.fresh hle
  have hq := mk_go (Q := Q) T hno hl q1 (hp.objs.size + 1) hn
  have up : ∀ b o, hp.get? b = some o → ((hp.push (PySem.W.kdv_tup us)).push (PySem.HandSPX.excO C hp.objs.size)).get? b = some o := fun b o z => Heap.get?_push_of_some _ (Heap.get?_push_of_some _ z)
  have new : ((hp.push (PySem.W.kdv_tup us)).push (PySem.HandSPX.excO C hp.objs.size)).get? (hp.objs.size + 1) = some (PySem.HandSPX.excO C hp.objs.size) := by heap_get
  have J := I1.laid (t' := tk) (a := hp.objs.size + 1) (o := exo (hp.objs.size + 1) C none) up hle (exo_ok new)
  have rr : Vals (V.ref (hp.objs.size + 1) :: vs) (Value.ref (hp.objs.size + 1) :: us) := .cons rfl r1
  have ln : (Value.ref (hp.objs.size + 1) :: us ++ []).length = ps.length := by
    rw [List.append_nil, ← rr.length]
    exact F1.len _ _ _ _ hq
  have bb := hb _ (Value.ref (hp.objs.size + 1) :: us) J.kIn ln
  rw [List.append_nil] at bb
  have sz : us.length ≤ sizeLine := by
    rw [← r1.length, sizeLine_eq]
    omega
  have hr' : Room (k + 1) X.A := hr.mono hk
  have go := F1.run _ X.stack _ _ ⟨Value.ref (hp.objs.size + 1) :: us, []⟩ _ _ _ _ (hr'.make C us []) (J.env0.make C us []) bb rr hq
  refine wpAny_call (PySem.HandSPX.call_own F.excBase_ValueError (fun Y => PySem.HandSPX.refsVE_contains Y bm hbm) (I1.kIn _ _ hC) (PySem.W.looks_findIn I1.kIn iC) (fun self => PySem.W.bind_fn I1.kIn self tI) sz (codeAny_mono go fun rs s2 w => ?_))
  cases rs with
  | error er =>
    obtain ⟨_, _, _, _, _, _, _, _, _, _, _, _, z⟩ := w
    exact z.elim
  | ok fl =>
    cases fl with
    | ret u =>
      obtain ⟨v, H2, os2, ba, un, hok, rv, ev, d, gs, ea, ed, hd1, q2⟩ := w
      subst ev
      obtain ⟨h2, g2, d2, t2, os'⟩ := s2
      obtain ⟨t0, HG, J2, kG, ge, hoe, na⟩ := mk_end0 (d2 := d2) (t2 := t2) I1 hle up un hok os2 ba ea ed hd1
      exact ⟨rv, hp.objs.size + 1, _, _, ⟨HG, g2, d2, t2, os'⟩, _, .ref C, some d, rfl, J2, kG, ge, hoe, ⟨rfl, rfl, fun zs hv => by cases hv; rfl⟩, rfl, rfl, na, rfl, ba, raises_own T.exC T.tyC, q2⟩
    | next => exact w.elim
    | brk => exact w.elim
    | cont => exact w.elim
/-- raise x(e, ..) -/
theorem ps_rz {W : WX} (c : ExM X.prog X.w X.K X.mg X.base k x C fs) (hc : X.calm = true) (tk : L2N.Takes X W) (hr : Room j X.A) (hk : k + 1 ≤ j) (ha : PA X (e :: es) ta) (hg : Gl X x := by rfl) (hdb : (x == ("__debug__" : Str)) = false := by decide)
    (he : starEach (e :: es) X.env = (false, eval e X.env) :: starEach es X.env := by rfl) (hpl : (backTo pos (starEach es X.env)).any (·.1) = false := by rfl) : PS X (.Raise (some (.Call (.Name x p) (e :: es) [] pos)) none pos2) (tRz C fs W ta) :=
  L2N.ps_raise hc tk (pmk_x c hr hk ha hg hdb he hpl)
end
/-! ### the __init__ of one field, of two -/
theorem ini1 {K : PySem.W.Frag} {f : Str} {vs : List V} {H : Hp} {Q : VK} {E : XK} {N : List Str} (hN : N.length = 2) (h : spIn K [f] vs H Q E) : (tOst K f (tVar 0) (tVar 1)) { nx := fun _ H' => Q .non H', rt := Q } (start N vs) H := by
  obtain ⟨a, C, us, rfl, hl, T, hno, ha, q⟩ := h
  match us, hl with
  | [v], _ =>
    match N, hN with
    | [_, _], _ =>
      refine ⟨_, rfl, _, rfl, a, C, rfl, T, hno f (List.mem_singleton.mpr rfl), Or.inl ⟨ha, fun dx hd ne => ?_⟩⟩
      refine q dx _ hd ne upd_same ?_ fun b h1 h2 => ?_
      · rw [upd_ne ne, upd_same] <;> rfl
      · rw [upd_ne h1, upd_ne h2]
theorem ini2 {K : PySem.W.Frag} {f g : Str} {vs : List V} {H : Hp} {Q : VK} {E : XK} {N : List Str} (hN : N.length = 3) (h : spIn K [f, g] vs H Q E) :
    (tSeq (tOst K f (tVar 0) (tVar 1)) (tOst K g (tVar 0) (tVar 2))) { nx := fun _ H' => Q .non H', rt := Q } (start N vs) H := by
  obtain ⟨a, C, us, rfl, hl, T, hno, ha, q⟩ := h
  match us, hl with
  | [v, v2], _ =>
    match N, hN with
    | [_, _, _], _ =>
      refine ⟨_, rfl, _, rfl, a, C, rfl, T, hno f List.mem_cons_self, Or.inl ⟨ha, fun dx hd ne => ?_⟩⟩
      refine ⟨_, rfl, _, rfl, a, C, rfl, T, hno g (List.mem_cons_of_mem _ List.mem_cons_self), Or.inr ⟨dx, [(f, v)], upd_same, ?_, by show 1 ≤ 900; decide, ?_⟩⟩
      · rw [upd_ne ne, upd_same]
      · refine q dx _ hd ne ?_ upd_same fun b h1 h2 => ?_
        · rw [upd_ne (Ne.symm ne), upd_same]
        · rw [upd_ne h2, upd_ne h1, upd_ne h2]
end G

set_option Elab.async false
set_option linter.all false
set_option maxRecDepth 100000
set_option maxHeartbeats 4000000
/-! Operators that take what comes, and the steps of a reading, from the front. -/
namespace G
open PySem PySem.Spec PyProof.Rows L2

/-! ### operators by values -/
def rAddA : R2 := fun x y H Q => (∃ i j, x = .int i ∧ y = .int j ∧ Q (.int (i + j)) H) ∨ (∃ i j : Str, x = .str i ∧ y = .str j ∧ i.length + j.length ≤ sizeLine ∧ Q (.str (i ++ j)) H) ∨ rCat x y H Q
def rMulA : R2 := fun x y H Q => (∃ i j, x = .int i ∧ y = .int j ∧ CMul i j ∧ Q (.int (i * j)) H) ∨ rRep x y H Q
def rEqA (K : PySem.W.Frag) : R2 := fun x y H Q => rEq x y H Q ∨ rEqD K x y H Q
def rNeA (K : PySem.W.Frag) : R2 := fun x y H Q => rNe x y H Q ∨ rNeD K x y H Q
def rLenA (K : PySem.W.Frag) : List V → Hp → VK → Prop := fun xs H Q => ∃ x n, xs = [x] ∧ LenV K x H n ∧ Q (.int n) H
def rListA (K : PySem.W.Frag) : List V → Hp → VK → Prop := fun xs H Q => ∃ p ys, xs = [.ref p] ∧ (SqL K H p ys ∨ SqT K H p ys) ∧ ∀ l, H l = none → Q (.ref l) (upd H l (.lst ys))
def rIntA : List V → Hp → VK → Prop := fun xs H Q => (∃ i, xs = [.int i] ∧ Q (.int i) H) ∨ ∃ k, xs = [.bl k] ∧ Q (.int (if k then 1 else 0)) H
def rAbsA : List V → Hp → VK → Prop := fun xs H Q => ∃ i, xs = [.int i] ∧ Q (.int (if i < 0 then -i else i)) H
def rMin2A : List V → Hp → VK → Prop := fun xs H Q => ∃ i j, xs = [.int i, .int j] ∧ Q (.int (if j < i then j else i)) H
def rMax2A : List V → Hp → VK → Prop := fun xs H Q => ∃ i j, xs = [.int i, .int j] ∧ Q (.int (if j > i then j else i)) H
def rIsNA : R2 := fun x y H Q => y = .non ∧ Q (.bl (decide (x = .non))) H
def rNotNA : R2 := fun x y H Q => y = .non ∧ Q (.bl (!decide (x = .non))) H
abbrev rSubA : R2 := rI0 fun i j => .int (i - j)
abbrev rModA : R2 := rI (fun _ j => 0 < j) fun i j => .int (i % j)
abbrev rDivA : R2 := rI CDiv fun i j => .int (i / j)
abbrev rPowA : R2 := rI CPow fun i j => .int (i ^ j.toNat)
abbrev rLtA : R2 := rI0 fun i j => .bl (decide (i < j))
abbrev rLeA : R2 := rI0 fun i j => .bl (decide (i ≤ j))
abbrev rGtA : R2 := rI0 fun i j => .bl (decide (j < i))
abbrev rGeA : R2 := rI0 fun i j => .bl (decide (j ≤ i))
abbrev rNegA : V → Hp → VK → Prop := rU fun i => .int (-i)
section
variable {X : Cx}
theorem op_addA : OpR X (binaryOp .Add) rAddA := OpR.or op_add (OpR.or op_add_str op_cat)
theorem op_mulA : OpR X (binaryOp .Mult) rMulA := OpR.or op_mul op_rep
theorem op_eqA {k : Nat} (hr : Room k X.A) : OpR X (compareOp .Eq) (rEqA X.K) := OpR.or op_eq (op_eqD hr.units)
theorem op_neA {k : Nat} (hr : Room k X.A) : OpR X (compareOp .NotEq) (rNeA X.K) := OpR.or op_ne (op_neD hr.units)
theorem call_lenA : CallR X (.builtin "len") (rLenA X.K) := call_len
theorem call_listA : CallR X (.type "list") (rListA X.K) := call_list_of
theorem call_intA : CallR X (.type "int") rIntA := call_int1
theorem call_absA : CallR X (.builtin "abs") rAbsA := call_abs
theorem call_min2A (hc : X.calm = true) : CallR X (.builtin "min") rMin2A := call_min2 hc
theorem call_max2A (hc : X.calm = true) : CallR X (.builtin "max") rMax2A := call_max2 hc
theorem op_isNA : OpR X (compareOp .Is) rIsNA := op_isN
theorem op_notNA : OpR X (compareOp .IsNot) rNotNA := op_notN
end

/-! ### what frames a step: all that was tracked but the addresses of S -/
def Kp (S : List Addr) (H H' : Hp) : Prop := ∀ b o, b ∉ S → H b = some o → H' b = some o
theorem Kp.refl (S : List Addr) (H : Hp) : Kp S H H := fun _ _ _ h => h
theorem Kp.trans {S : List Addr} {H H1 H2 : Hp} (a : Kp S H H1) (b : Kp S H1 H2) : Kp S H H2 := fun c o n h => b c o n (a c o n h)
theorem Kp.mono {S S' : List Addr} {H H1 : Hp} (a : Kp S H H1) (h : ∀ b ∈ S, b ∈ S') : Kp S' H H1 := fun c o n e => a c o (fun z => n (h c z)) e
theorem Kp.all {S : List Addr} {H H1 : Hp} (a : Kp [] H H1) : Kp S H H1 := fun c o _ e => a c o (by simp) e
theorem Kp.new {S : List Addr} {H : Hp} {p : Addr} {o : HO} (n : H p = none) : Kp S H (upd H p o) := fun b u _ e => by
  rw [upd_ne (ne_of_none e n)]
  exact e
theorem Kp.put {S : List Addr} {H : Hp} {p : Addr} {o : HO} (h : p ∈ S) : Kp S H (upd H p o) := fun b u n e => by
  have ne : b ≠ p := fun z => n (by rw [z]; exact h)
  rw [upd_ne ne]
  exact e
/-- an object that H does not know may change -/
theorem Kp.mut {S : List Addr} {H H1 : Hp} {p : Addr} {o : HO} (e : Kp S H H1) (n : H p = none) : Kp S H (upd H1 p o) := fun b u h z => by
  rw [upd_ne (ne_of_none z n)]
  exact e b u h z
theorem Kp.at0 {H H' : Hp} {b : Addr} {o : HO} (k : Kp [] H H') (h : H b = some o) : H' b = some o := k b o (by simp) h
theorem Kp.at1 {H H' : Hp} {a b : Addr} {o : HO} (k : Kp [a] H H') (n : b ≠ a) (h : H b = some o) : H' b = some o := k b o (by simpa using n) h
theorem Kp.free {S : List Addr} {H H' : Hp} {b : Addr} (k : Kp S H H') (n : b ∉ S) (h : H' b = none) : H b = none := by
  cases e : H b with
  | none => rfl
  | some o =>
    rw [k b o n e] at h
    cases h
theorem Kp.free0 {H H' : Hp} {b : Addr} (k : Kp [] H H') (h : H' b = none) : H b = none := k.free (by simp) h
theorem Kp.sql {S : List Addr} {K : PySem.W.Frag} {H H' : Hp} {a : Addr} {xs : List V} (e : Kp S H H') (n : a ∉ S) (h : SqL K H a xs) : SqL K H' a xs := by
  rcases h with (h | ⟨o, h⟩) | h
  · exact .inl (.inl (e _ _ n h))
  · exact .inl (.inr ⟨o, e _ _ n h⟩)
  · exact .inr h
theorem Kp.sqt {S : List Addr} {K : PySem.W.Frag} {H H' : Hp} {a : Addr} {xs : List V} (e : Kp S H H') (n : a ∉ S) (h : SqT K H a xs) : SqT K H' a xs := by
  rcases h with (h | ⟨o, h⟩) | h
  · exact .inl (.inl (e _ _ n h))
  · exact .inl (.inr ⟨o, e _ _ n h⟩)
  · exact .inr h

/-! ### the steps -/
section
variable {K : PySem.W.Frag} {σ : L2.St} {H : Hp} {Q : VK} {ta tb tc te : TE} {t u : TT} {x y v : V} {QB : Bool → Hp → Prop} {QA : List V → Hp → Prop} {D : Ends} {s1 s2 : TS} {tl tr : TA} {i j : Int} {n m : Nat} {p q : Addr} {xs ys : List V}
theorem w_var {k : Nat} (h : σ[k]? = some (some v)) (g : Q v H) : tVar k σ H Q := ⟨v, h, g⟩
theorem w_c (g : Q v H) : tC v σ H Q := g
theorem w_op {r : R2} (g : ta σ H fun x H1 => tb σ H1 fun y H2 => r x y H2 Q) : tOp r ta tb σ H Q := g
theorem w_un {r : V → Hp → VK → Prop} (g : ta σ H fun x H1 => r x H1 Q) : tUn r ta σ H Q := g
theorem w_test (g : te σ H fun x H1 => ∃ k, x = .bl k ∧ QB k H1) : tTest te σ H QB := g
theorem w_tb (g : te σ H fun x H1 => ∃ k, x = .bl k ∧ QB k H1) : tB te σ H QB := g
theorem w_and (g : t σ H fun c H1 => if c = true then u σ H1 QB else QB false H1) : tAnd t u σ H QB := g
theorem w_or (g : t σ H fun c H1 => if c = true then QB true H1 else u σ H1 QB) : tOr t u σ H QB := g
theorem w_not (g : t σ H fun c H1 => QB (!c) H1) : tNot t σ H QB := g
theorem w_andV (g : ta σ H fun x H1 => ∃ c, x = .bl c ∧ if c = true then tb σ H1 Q else Q (.bl false) H1) : tAndV ta tb σ H Q := g
theorem w_orV (g : ta σ H fun x H1 => ∃ c, x = .bl c ∧ if c = true then Q (.bl true) H1 else tb σ H1 Q) : tOrV ta tb σ H Q := g
theorem w_notV (g : ta σ H fun x H1 => ∃ c, x = .bl c ∧ Q (.bl (!c)) H1) : tNotV ta σ H Q := g
theorem w_ifE (g : t σ H fun c H1 => if c = true then ta σ H1 Q else tb σ H1 Q) : tIf t ta tb σ H Q := g
theorem w_chain {r r' : R2} (g : ta σ H fun x H1 => tb σ H1 fun y H2 => r x y H2 fun z H3 => ∃ k, z = .bl k ∧ (if k = true then tc σ H3 fun w' H4 => r' y w' H4 Q else Q (.bl false) H3)) : tChain r r' ta tb tc σ H Q := g
theorem w_nil (g : QA [] H) : tNil σ H QA := g
theorem w_cons (g : ta σ H fun x H1 => tr σ H1 fun xs H2 => QA (x :: xs) H2) : tCons ta tr σ H QA := g
theorem w_cb {r : List V → Hp → VK → Prop} (g : tl σ H fun vs H1 => r vs H1 Q) : tCB r tl σ H Q := g
theorem w_cl {sp : Sp} {E : L2.St → XK} (g : tl σ H fun vs H1 => sp vs H1 Q (E σ)) : tCl sp E tl σ H Q := g
theorem w_tup (g : tl σ H fun xs H1 => xs.length ≤ sizeLine ∧ ∀ p, H1 p = none → Q (.ref p) (upd H1 p (.tup xs))) : tTup tl σ H Q := g
theorem w_lst (g : tl σ H fun xs H1 => xs.length ≤ sizeLine ∧ ∀ p, H1 p = none → Q (.ref p) (upd H1 p (.lst xs))) : tLst tl σ H Q := g
theorem w_bm {T : String} {r : V → List V → Hp → VK → Prop} (g : te σ H fun x H1 => tyV K T x H1 ∧ tl σ H1 fun xs H2 => r x xs H2 Q) : tBM K T r te tl σ H Q := g
theorem w_bm0 {T : String} {r : V → List V → Hp → VK → Prop} (g : te σ H fun x H1 => tyV K T x H1 ∧ r x [] H1 Q) : tBM0 K T r te σ H Q := g
theorem w_fld {f : Str} (g : ta σ H fun x H1 => ∃ a C dx fs v, x = .ref a ∧ H1 a = some (.ins C dx fs) ∧ Cls K C ∧ NoAttr K C f ∧ fs.lookup f = some v ∧ Q v H1) : tFld K ta f σ H Q := g
theorem w_mt {C : Addr} {m : Str} {sp : Sp} {E : L2.St → XK} (g : ta σ H fun x H1 => ∃ a dx fs, x = .ref a ∧ H1 a = some (.ins C dx fs) ∧ fs.lookup m = none ∧ tl σ H1 fun vs H2 => sp (x :: vs) H2 Q (E σ)) : tMt C m sp E ta tl σ H Q := g
theorem w_seq (g : s1 { D with nx := s2 D } σ H) : tSeq s1 s2 D σ H := g
theorem w_next (g : D.nx σ H) : tNext D σ H := g
theorem w_if (g : t σ H fun b H1 => if b = true then s1 D σ H1 else s2 D σ H1) : tIfS t s1 s2 D σ H := g
theorem w_ret (g : te σ H D.rt) : tRet te D σ H := g
theorem w_drop (g : te σ H fun _ H1 => D.nx σ H1) : tDrop te D σ H := g
theorem w_asg {k : Nat} (g : te σ H fun x H1 => D.nx (σ.set k (some x)) H1) : tAsg te (gName k) D σ H := g
theorem w_asgS {to ti : TE} {r : TSet} (g : te σ H fun v H0 => to σ H0 fun o H1 => ti σ H1 fun i H2 => r o i v H2 fun H3 => D.nx σ H3) : tAsg te (gSub to ti r) D σ H := g
theorem w_ast {k : Nat} {ts : TGs} (g : te σ H fun v H0 => ∃ a xs, v = .ref a ∧ SqT K H0 a xs ∧ xs.length = k ∧ ts xs σ H0 D.nx) : tAsg te (gTup K k ts) D σ H := g
theorem w_asf {f : Str} (g : te σ H fun y H1 => ta σ H1 fun x H2 => ∃ a C dx fs, x = .ref a ∧ H2 a = some (.ins C dx fs) ∧ Cls K C ∧ NoAttr K C f ∧ fs.length < 1000 ∧ D.nx σ (upd H2 a (.ins C dx (putF f y fs)))) : sFld K ta te f D σ H := g
theorem w_ex1 {P : Bool → Prop} {b : Bool} (g : P b) : ∃ k, V.bl b = .bl k ∧ P k := ⟨b, rfl, g⟩
theorem w_iteD {c A B : Prop} [Decidable c] (h1 : c → A) (h2 : ¬ c → B) : if decide c = true then A else B := by
  by_cases h : c
  · rw [decide_eq_true h]
    exact iteT (h1 h)
  · rw [decide_eq_false h]
    exact iteF (h2 h)
theorem w_iteN {c A B : Prop} [Decidable c] (h1 : ¬ c → A) (h2 : c → B) : if (!decide c) = true then A else B := by
  by_cases h : c
  · rw [decide_eq_true h]
    exact iteF (h2 h)
  · rw [decide_eq_false h]
    exact iteT (h1 h)
theorem w_iteB {b : Bool} {A B : Prop} (h1 : b = true → A) (h2 : b = false → B) : if b = true then A else B := by
  cases b with
  | true => exact iteT (h1 rfl)
  | false => exact iteF (h2 rfl)
theorem w_iteBN {b : Bool} {A B : Prop} (h1 : b = false → A) (h2 : b = true → B) : if (!b) = true then A else B := by
  cases b with
  | true => exact iteF (h2 rfl)
  | false => exact iteT (h1 rfl)
theorem w_addI (g : Q (.int (i + j)) H) : rAddA (.int i) (.int j) H Q := .inl ⟨i, j, rfl, rfl, g⟩
theorem w_addS {a b : Str} (h : a.length + b.length ≤ sizeLine) (g : Q (.str (a ++ b)) H) : rAddA (.str a) (.str b) H Q := .inr (.inl ⟨a, b, rfl, rfl, h, g⟩)
theorem w_addL (h1 : H p = some (.lst xs)) (h2 : H q = some (.lst ys)) (h : xs.length + ys.length ≤ sizeLine) (g : ∀ r, H r = none → Q (.ref r) (upd H r (.lst (xs ++ ys)))) : rAddA (.ref p) (.ref q) H Q :=
  .inr (.inr ⟨p, q, xs, ys, rfl, rfl, h1, h2, h, g⟩)
theorem w_mulI (h : CMul i j) (g : Q (.int (i * j)) H) : rMulA (.int i) (.int j) H Q := .inl ⟨i, j, rfl, rfl, h, g⟩
theorem w_mulL (h1 : H p = some (.lst xs)) (h2 : -(2 ^ 63) ≤ j) (h3 : j < 2 ^ 63) (h : xs.length * j.toNat ≤ sizeLine) (g : ∀ r, H r = none → Q (.ref r) (upd H r (.lst (List.replicate j.toNat xs).flatten))) : rMulA (.ref p) (.int j) H Q :=
  .inr ⟨p, j, xs, rfl, rfl, h1, h2, h3, h, g⟩
theorem w_i0 {f : Int → Int → V} (g : Q (f i j) H) : rI0 f (.int i) (.int j) H Q := ⟨i, j, rfl, rfl, g⟩
theorem w_ic {C : Int → Int → Prop} {f : Int → Int → V} (h : C i j) (g : Q (f i j) H) : rI C f (.int i) (.int j) H Q := ⟨i, j, rfl, rfl, h, g⟩
theorem w_u1 {f : Int → V} (g : Q (f i) H) : rU f (.int i) H Q := ⟨i, rfl, g⟩
theorem dec_I : decide (V.int i = V.int j) = decide (i = j) := by
  rw [Bool.eq_iff_iff]
  simp
theorem dec_S {a b : Str} : decide (V.str a = V.str b) = decide (a = b) := by
  rw [Bool.eq_iff_iff]
  simp
theorem dec_B {a b : Bool} : decide (V.bl a = V.bl b) = decide (a = b) := by
  rw [Bool.eq_iff_iff]
  simp
theorem w_eqI (g : Q (.bl (decide (i = j))) H) : rEqA K (.int i) (.int j) H Q := .inl ⟨rfl, by rw [dec_I]; exact g⟩
theorem w_eqS {a b : Str} (g : Q (.bl (decide (a = b))) H) : rEqA K (.str a) (.str b) H Q := .inl ⟨rfl, by rw [dec_S]; exact g⟩
theorem w_eqB {a b : Bool} (g : Q (.bl (decide (a = b))) H) : rEqA K (.bl a) (.bl b) H Q := .inl ⟨rfl, by rw [dec_B]; exact g⟩
theorem w_neI (g : Q (.bl (!decide (i = j))) H) : rNeA K (.int i) (.int j) H Q := .inl ⟨rfl, by rw [dec_I]; exact g⟩
theorem w_neS {a b : Str} (g : Q (.bl (!decide (a = b))) H) : rNeA K (.str a) (.str b) H Q := .inl ⟨rfl, by rw [dec_S]; exact g⟩
theorem w_neB {a b : Bool} (g : Q (.bl (!decide (a = b))) H) : rNeA K (.bl a) (.bl b) H Q := .inl ⟨rfl, by rw [dec_B]; exact g⟩
theorem w_eqD {d e : PyData} (h1 : Dp K H x d) (h2 : Dp K H y e) (h3 : SeqAt.shaped d = true) (h4 : SeqAt.shaped e = true) (g : Q (.bl (PyData.eqv d e)) H) : rEqA K x y H Q := .inr ⟨d, e, h1, h2, h3, h4, g⟩
theorem w_neD {d e : PyData} (h1 : Dp K H x d) (h2 : Dp K H y e) (h3 : SeqAt.shaped d = true) (h4 : SeqAt.shaped e = true) (g : Q (.bl (!PyData.eqv d e)) H) : rNeA K x y H Q := .inr ⟨d, e, h1, h2, h3, h4, g⟩
theorem w_isN0 (g : Q (.bl true) H) : rIsNA .non .non H Q := ⟨rfl, g⟩
theorem w_isN1 (h : x ≠ .non) (g : Q (.bl false) H) : rIsNA x .non H Q := ⟨rfl, by rw [decide_eq_false h]; exact g⟩
theorem w_notN0 (g : Q (.bl false) H) : rNotNA .non .non H Q := ⟨rfl, g⟩
theorem w_notN1 (h : x ≠ .non) (g : Q (.bl true) H) : rNotNA x .non H Q := ⟨rfl, by rw [decide_eq_false h]; exact g⟩
theorem w_lenL (h : SqL K H p xs) (g : Q (.int (xs.length : Int)) H) : rLenA K [.ref p] H Q := ⟨_, _, rfl, .inl ⟨xs, h, rfl⟩, g⟩
theorem w_lenT (h : SqT K H p xs) (g : Q (.int (xs.length : Int)) H) : rLenA K [.ref p] H Q := ⟨_, _, rfl, .inr ⟨xs, h, rfl⟩, g⟩
theorem w_lenS {a : Str} (h : a.length ≤ sizeLine) (g : Q (.int (a.length : Int)) H) : rLenA K [.str a] H Q := ⟨_, _, rfl, ⟨h, rfl⟩, g⟩
theorem w_listL (h : SqL K H p xs) (g : ∀ l, H l = none → Q (.ref l) (upd H l (.lst xs))) : rListA K [.ref p] H Q := ⟨p, xs, rfl, .inl h, g⟩
theorem w_listT (h : SqT K H p xs) (g : ∀ l, H l = none → Q (.ref l) (upd H l (.lst xs))) : rListA K [.ref p] H Q := ⟨p, xs, rfl, .inr h, g⟩
theorem w_intI (g : Q (.int i) H) : rIntA [.int i] H Q := .inl ⟨i, rfl, g⟩
theorem w_abs (g : Q (.int (if i < 0 then -i else i)) H) : rAbsA [.int i] H Q := ⟨i, rfl, g⟩
theorem w_min2 (g : Q (.int (if j < i then j else i)) H) : rMin2A [.int i, .int j] H Q := ⟨i, j, rfl, g⟩
theorem w_max2 (g : Q (.int (if j > i then j else i)) H) : rMax2A [.int i, .int j] H Q := ⟨i, j, rfl, g⟩
theorem w_ixL (h : SqL K H p xs) (ha : atI xs i = some v) (g : Q v H) : rIx K (.ref p) (.int i) H Q := .inl ⟨p, xs, i, v, rfl, rfl, h, ha, g⟩
theorem w_ixT (h : SqT K H p xs) (ha : atI xs i = some v) (g : Q v H) : rIx K (.ref p) (.int i) H Q := .inr (.inl ⟨p, xs, i, v, rfl, rfl, h, ha, g⟩)
theorem w_ixS {a : Str} {c : Nat} (h : a.length ≤ sizeLine) (ha : atI a.cps.toList i = some c) (g : Q (.str ⟨#[c]⟩) H) : rIx K (.str a) (.int i) H Q := .inr (.inr ⟨a, i, c, rfl, rfl, h, ha, g⟩)
theorem w_setL {R : Hp → Prop} (h : H p = some (.lst xs)) (ha : ixN xs.length i = some n) (g : R (upd H p (.lst (xs.set n v)))) : rSetL (.ref p) (.int i) v H R := ⟨p, xs, i, n, rfl, rfl, h, ha, g⟩
theorem w_app (h : H p = some (.lst xs)) (hl : xs.length < sizeLine) (g : Q .non (upd H p (.lst (xs ++ [v])))) : tyV K "list" (.ref p) H ∧ rAppend (.ref p) [v] H Q := ⟨.inl ⟨rfl, xs, SqL.of h⟩, p, xs, v, rfl, rfl, h, hl, g⟩
theorem w_ty (h : SqL K H p xs) : tyV K "list" (.ref p) H := .inl ⟨rfl, xs, h⟩
theorem w_append (h : H p = some (.lst xs)) (hl : xs.length < sizeLine) (g : Q .non (upd H p (.lst (xs ++ [v])))) : rAppend (.ref p) [v] H Q := ⟨p, xs, v, rfl, rfl, h, hl, g⟩
end
end G

set_option Elab.async false
set_option linter.all false
set_option maxRecDepth 100000
set_option maxHeartbeats 4000000
/-! Loops, comprehensions by words; the head's own facts. -/
namespace G
open PySem PySem.Spec PyProof.Rows L2

/-! ### what a loop wants of its walk J -/
def LoopG (J : It) (g : TG) (tb : TS) (D : Ends) (σ : L2.St) (H1 : Hp) : Prop := ∃ W : Nat → Nat → L2.St → Hp → Prop, (∃ m, W 0 m σ H1) ∧ ∀ i m σ H, W i m σ H →
  (J.stop i H ∧ D.nx σ H) ∨ (J.go i H ∧ ∃ N : L2.St → Hp → Prop, (∀ σ' H', N σ' H' → ∃ m', m' < m ∧ W (i + 1) m' σ' H') ∧ ∀ x H', J.yld i H x H' → g x σ H' fun σ2 H2 => tb { D with nx := N, ct := N, bk := D.nx } σ2 H2)
def CompG (J : It) (g : TG) (tt : TT) (te : TE) (vs : List Nat) (σ : L2.St) (Q : VK) (H1 : Hp) : Prop := ∀ D, H1 D = none → ∃ W : Nat → Nat → Hp → Prop, (∃ m, W 0 m (upd H1 D (.lst []))) ∧ ∀ i m H, W i m H →
  (J.stop i H ∧ Q (.ref D) H) ∨ (J.go i H ∧ ∃ Nx : Hp → Prop, (∀ H', Nx H' → ∃ m', m' < m ∧ W (i + 1) m' H') ∧ ∀ x H', J.yld i H x H' → g x (wipe σ vs) H' fun σ2 H2 => wipe σ2 vs = wipe σ vs ∧ tt σ2 H2 fun b H3 =>
    if b = true then te σ2 H3 fun y H4 => ∃ acc, H4 D = some (.lst acc) ∧ acc.length < sizeLine ∧ Nx (upd H4 D (.lst (acc ++ [y]))) else Nx H3)
section
variable {K : PySem.W.Frag} {σ : L2.St} {H : Hp} {Q : VK} {ta : TA} {te tl : TE} {tt : TT} {D : Ends} {tb : TS} {g : TG} {wi : TI} {j : Nat} {R : It → Hp → Prop} {vs : List Nat}
theorem w_for (h : wi σ H fun J H1 => LoopG J g tb D σ H1) : tFor wi g tb D σ H := h
theorem w_lc (h : wi σ H fun J H1 => CompG J g tt te vs σ Q H1) : tLc wi g tt te vs σ H Q := h
theorem w_iR1 (h : ta σ H fun vs H1 => ∃ j : Int, vs = [.int j] ∧ -(2 ^ 62) ≤ j ∧ j < 2 ^ 62 ∧ R (Itr 0 j.toNat) H1) : iRng1 ta σ H R := h
theorem w_iR2 (h : ta σ H fun vs H1 => ∃ i j : Int, vs = [.int i, .int j] ∧ (-(2 ^ 62) ≤ i ∧ i < 2 ^ 62 ∧ -(2 ^ 62) ≤ j ∧ j < 2 ^ 62) ∧ R (Itr i (j - i).toNat) H1) : iRng2 ta σ H R := h
theorem w_rng1 {n : Int} (h : -(2 ^ 62) ≤ n ∧ n < 2 ^ 62) (g : R (Itr 0 n.toNat) H) : ∃ j : Int, [V.int n] = [.int j] ∧ -(2 ^ 62) ≤ j ∧ j < 2 ^ 62 ∧ R (Itr 0 j.toNat) H := ⟨n, rfl, h.1, h.2, g⟩
theorem w_rng2 {a b : Int} (h : -(2 ^ 62) ≤ a ∧ a < 2 ^ 62 ∧ -(2 ^ 62) ≤ b ∧ b < 2 ^ 62) (g : R (Itr a (b - a).toNat) H) :
    ∃ i j : Int, [V.int a, V.int b] = [.int i, .int j] ∧ (-(2 ^ 62) ≤ i ∧ i < 2 ^ 62 ∧ -(2 ^ 62) ≤ j ∧ j < 2 ^ 62) ∧ R (Itr i (j - i).toNat) H := ⟨a, b, rfl, h, g⟩
theorem w_iL (h : tl σ H fun x H1 => ∃ a, x = .ref a ∧ (∃ xs, SqL K H1 a xs) ∧ R (Itl K a) H1) : iList K tl σ H R := h
theorem w_iT (h : tl σ H fun x H1 => ∃ a, x = .ref a ∧ (∃ xs, SqT K H1 a xs) ∧ R (Itt K a) H1) : iTup K tl σ H R := h
theorem w_lst1 {a : Addr} {xs : List V} (h : SqL K H a xs) (g : R (Itl K a) H) : ∃ b, V.ref a = .ref b ∧ (∃ xs, SqL K H b xs) ∧ R (Itl K b) H := ⟨a, rfl, ⟨xs, h⟩, g⟩
theorem w_tup1 {a : Addr} {xs : List V} (h : SqT K H a xs) (g : R (Itt K a) H) : ∃ b, V.ref a = .ref b ∧ (∃ xs, SqT K H b xs) ∧ R (Itt K b) H := ⟨a, rfl, ⟨xs, h⟩, g⟩
theorem w_iE (h : ta σ H fun vs H1 => ∃ a xs, vs = [.ref a] ∧ SqL K H1 a xs ∧ R (Ite K a) H1) : iEnum K ta σ H R := h
theorem w_iZ (h : ta σ H fun vs H1 => ∃ a b xs ys, vs = [.ref a, .ref b] ∧ SqL K H1 a xs ∧ SqL K H1 b ys ∧ R (Itz K a b) H1) : iZip K ta σ H R := h

/-! ### loops -/
theorem lp_rng {lo : Int} {n : Nat} (Pv : Nat → L2.St → Hp → Prop) (h0 : Pv 0 σ H) (hs : ∀ (i : Nat) σ' H', i < n → Pv i σ' H' → g (.int (lo + (i : Int))) σ' H' fun σ2 H2 => tb { D with nx := Pv (i + 1), ct := Pv (i + 1), bk := D.nx } σ2 H2)
    (hd : ∀ σ' H', Pv n σ' H' → D.nx σ' H') : LoopG (Itr lo n) g tb D σ H := for_range Pv h0 hs hd
theorem lp_rng0 {n : Nat} (Pv : Nat → L2.St → Hp → Prop) (h0 : Pv 0 σ H) (hs : ∀ (i : Nat) σ' H', i < n → Pv i σ' H' → g (.int (i : Int)) σ' H' fun σ2 H2 => tb { D with nx := Pv (i + 1), ct := Pv (i + 1), bk := D.nx } σ2 H2)
    (hd : ∀ σ' H', Pv n σ' H' → D.nx σ' H') : LoopG (Itr 0 n) g tb D σ H := for_range Pv h0 (fun i σ' H' hi p => by rw [Int.zero_add]; exact hs i σ' H' hi p) hd
theorem lp_lst {a : Addr} {xs : List V} (Pv : Nat → L2.St → Hp → Prop) (h0 : Pv 0 σ H) (hl : ∀ i σ' H', i ≤ xs.length → Pv i σ' H' → SqL K H' a xs)
    (hs : ∀ i x σ' H', xs[i]? = some x → Pv i σ' H' → g x σ' H' fun σ2 H2 => tb { D with nx := Pv (i + 1), ct := Pv (i + 1), bk := D.nx } σ2 H2) (hd : ∀ σ' H', Pv xs.length σ' H' → D.nx σ' H') : LoopG (Itl K a) g tb D σ H := for_list Pv h0 hl hs hd
theorem lp_tup {a : Addr} {xs : List V} (Pv : Nat → L2.St → Hp → Prop) (h0 : Pv 0 σ H) (hl : ∀ i σ' H', i ≤ xs.length → Pv i σ' H' → SqT K H' a xs)
    (hs : ∀ i x σ' H', xs[i]? = some x → Pv i σ' H' → g x σ' H' fun σ2 H2 => tb { D with nx := Pv (i + 1), ct := Pv (i + 1), bk := D.nx } σ2 H2) (hd : ∀ σ' H', Pv xs.length σ' H' → D.nx σ' H') : LoopG (Itt K a) g tb D σ H := for_tup Pv h0 hl hs hd
theorem lp_enum {a : Addr} {xs : List V} (Pv : Nat → L2.St → Hp → Prop) (h0 : Pv 0 σ H) (hl : ∀ i σ' H', i ≤ xs.length → Pv i σ' H' → SqL K H' a xs)
    (hs : ∀ (i : Nat) (x : V) (T : Addr) σ' H', xs[i]? = some x → Pv i σ' H' → H' T = none → g (.ref T) σ' (upd H' T (.tup [.int (i : Int), x])) fun σ2 H2 => tb { D with nx := Pv (i + 1), ct := Pv (i + 1), bk := D.nx } σ2 H2)
    (hd : ∀ σ' H', Pv xs.length σ' H' → D.nx σ' H') : LoopG (Ite K a) g tb D σ H := by
  refine ⟨fun i m σ H => m = xs.length - i ∧ i ≤ xs.length ∧ Pv i σ H, ⟨xs.length, by simp, Nat.zero_le _, h0⟩, ?_⟩
  rintro i m σ H ⟨rfl, hi, p⟩
  have q := hl i σ H hi p
  by_cases lt : i < xs.length
  · refine .inr ⟨⟨xs, xs[i], q, by simp [lt]⟩, Pv (i + 1), fun σ' H' p' => ⟨xs.length - (i + 1), by omega, rfl, lt, p'⟩, fun v H' y => ?_⟩
    obtain ⟨T, x, rfl, nT, rfl, hx⟩ := y
    exact hs i x T σ H (hx xs q) p nT
  · have e : i = xs.length := by omega
    subst e
    exact .inl ⟨⟨xs, q, Nat.le_refl _⟩, hd σ H p⟩

/-! ### comprehensions: items i is what stands behind i turns -/
theorem cp_go {J : It} {n : Nat} (items : Nat → List V) (Ok : Hp → Prop) (hz : ∀ i, i < n → (items i).length < sizeLine) (h0 : items 0 = []) (ok0 : ∀ H', Kp [] H H' → Ok H') (hgo : ∀ i H', i < n → Ok H' → J.go i H') (hst : ∀ H', Ok H' → J.stop n H')
    (hs : ∀ (i : Nat) (x : V) (H' H'' : Hp) (S : V → Hp → Prop) (N : Hp → Prop), i < n → Kp [] H H' → J.yld i H' x H'' → (∀ y H4, Kp [] H' H4 → items (i + 1) = items i ++ [y] → S y H4) → (∀ H4, Kp [] H' H4 → items (i + 1) = items i → N H4) →
      g x (wipe σ vs) H'' fun σ2 H2 => wipe σ2 vs = wipe σ vs ∧ tt σ2 H2 fun b H3 => if b = true then te σ2 H3 S else N H3)
    (hd : ∀ D H', H D = none → Kp [] H H' → H' D = some (.lst (items n)) → Q (.ref D) H') : CompG J g tt te vs σ Q H := by
  intro D nD
  refine ⟨fun i m H' => m = n - i ∧ i ≤ n ∧ Kp [] H H' ∧ H' D = some (.lst (items i)), ⟨n, by simp, Nat.zero_le _, Kp.new nD, by rw [h0]; exact upd_same⟩, ?_⟩
  rintro i m H' ⟨rfl, hi, k, e⟩
  by_cases lt : i < n
  · refine .inr ⟨hgo i H' lt (ok0 H' k), fun H'' => Kp [] H H'' ∧ H'' D = some (.lst (items (i + 1))), fun H'' p => ⟨n - (i + 1), by omega, rfl, lt, p.1, p.2⟩, fun x H'' y => ?_⟩
    refine hs i x H' H'' _ _ lt k y (fun y H4 k4 ei => ⟨items i, k4.at0 e, hz i lt, ?_, ?_⟩) (fun H4 k4 ei => ⟨k.trans k4, ?_⟩)
    · exact Kp.mut (k.trans k4) nD
    · rw [ei]
      exact upd_same
    · rw [ei]
      exact k4.at0 e
  · have ei : i = n := by omega
    subst ei
    exact .inl ⟨hst H' (ok0 H' k), hd D H' nD k e⟩
theorem cp_rng {lo : Int} {n : Nat} (items : Nat → List V) (hz : ∀ i, i < n → (items i).length < sizeLine) (h0 : items 0 = [])
    (hs : ∀ (i : Nat) (H' : Hp) (S : V → Hp → Prop) (N : Hp → Prop), i < n → Kp [] H H' → (∀ y H4, Kp [] H' H4 → items (i + 1) = items i ++ [y] → S y H4) → (∀ H4, Kp [] H' H4 → items (i + 1) = items i → N H4) →
      g (.int (lo + (i : Int))) (wipe σ vs) H' fun σ2 H2 => wipe σ2 vs = wipe σ vs ∧ tt σ2 H2 fun b H3 => if b = true then te σ2 H3 S else N H3)
    (hd : ∀ D H', H D = none → Kp [] H H' → H' D = some (.lst (items n)) → Q (.ref D) H') : CompG (Itr lo n) g tt te vs σ Q H :=
  cp_go items (fun _ => True) hz h0 (fun _ _ => trivial) (fun i H' hi _ => hi) (fun H' _ => Nat.le_refl n) (fun i x H' H'' S N hi k y a b => by
    obtain ⟨rfl, rfl⟩ := y
    exact hs i H'' S N hi k a b) hd
theorem cp_lst {a : Addr} {xs : List V} (h : SqL K H a xs) (items : Nat → List V) (hz : ∀ i, i < xs.length → (items i).length < sizeLine) (h0 : items 0 = [])
    (hs : ∀ (i : Nat) (x : V) (H' : Hp) (S : V → Hp → Prop) (N : Hp → Prop), xs[i]? = some x → Kp [] H H' → (∀ y H4, Kp [] H' H4 → items (i + 1) = items i ++ [y] → S y H4) → (∀ H4, Kp [] H' H4 → items (i + 1) = items i → N H4) →
      g x (wipe σ vs) H' fun σ2 H2 => wipe σ2 vs = wipe σ vs ∧ tt σ2 H2 fun b H3 => if b = true then te σ2 H3 S else N H3)
    (hd : ∀ D H', H D = none → Kp [] H H' → H' D = some (.lst (items xs.length)) → Q (.ref D) H') : CompG (Itl K a) g tt te vs σ Q H :=
  cp_go (n := xs.length) items (fun H' => SqL K H' a xs) hz h0 (fun _ k => k.sql (by simp) h) (fun i H' hi q => ⟨xs, xs[i], q, by simp [hi]⟩) (fun H' q => ⟨xs, q, Nat.le_refl _⟩) (fun i x H' H'' S N hi k y a b => by
    obtain ⟨rfl, hx⟩ := y
    exact hs i x H'' S N (hx xs (k.sql (by simp) h)) k a b) hd
theorem cp_tup {a : Addr} {xs : List V} (h : SqT K H a xs) (items : Nat → List V) (hz : ∀ i, i < xs.length → (items i).length < sizeLine) (h0 : items 0 = [])
    (hs : ∀ (i : Nat) (x : V) (H' : Hp) (S : V → Hp → Prop) (N : Hp → Prop), xs[i]? = some x → Kp [] H H' → (∀ y H4, Kp [] H' H4 → items (i + 1) = items i ++ [y] → S y H4) → (∀ H4, Kp [] H' H4 → items (i + 1) = items i → N H4) →
      g x (wipe σ vs) H' fun σ2 H2 => wipe σ2 vs = wipe σ vs ∧ tt σ2 H2 fun b H3 => if b = true then te σ2 H3 S else N H3)
    (hd : ∀ D H', H D = none → Kp [] H H' → H' D = some (.lst (items xs.length)) → Q (.ref D) H') : CompG (Itt K a) g tt te vs σ Q H :=
  cp_go (n := xs.length) items (fun H' => SqT K H' a xs) hz h0 (fun _ k => k.sqt (by simp) h) (fun i H' hi q => ⟨xs, xs[i], q, by simp [hi]⟩) (fun H' q => ⟨xs, q, Nat.le_refl _⟩) (fun i x H' H'' S N hi k y a b => by
    obtain ⟨rfl, hx⟩ := y
    exact hs i x H'' S N (hx xs (k.sqt (by simp) h)) k a b) hd
theorem cp_enum {a : Addr} {xs : List V} (h : SqL K H a xs) (items : Nat → List V) (hz : ∀ i, i < xs.length → (items i).length < sizeLine) (h0 : items 0 = [])
    (hs : ∀ (i : Nat) (x : V) (T : Addr) (H' : Hp) (S : V → Hp → Prop) (N : Hp → Prop), xs[i]? = some x → Kp [] H H' → H' T = none → (∀ y H4, Kp [] H' H4 → items (i + 1) = items i ++ [y] → S y H4) → (∀ H4, Kp [] H' H4 → items (i + 1) = items i → N H4) →
      g (.ref T) (wipe σ vs) (upd H' T (.tup [.int (i : Int), x])) fun σ2 H2 => wipe σ2 vs = wipe σ vs ∧ tt σ2 H2 fun b H3 => if b = true then te σ2 H3 S else N H3)
    (hd : ∀ D H', H D = none → Kp [] H H' → H' D = some (.lst (items xs.length)) → Q (.ref D) H') : CompG (Ite K a) g tt te vs σ Q H :=
  cp_go (n := xs.length) items (fun H' => SqL K H' a xs) hz h0 (fun _ k => k.sql (by simp) h) (fun i H' hi q => ⟨xs, xs[i], q, by simp [hi]⟩) (fun H' q => ⟨xs, q, Nat.le_refl _⟩) (fun i v H' H'' S N hi k y a b => by
    obtain ⟨T, x, rfl, nT, rfl, hx⟩ := y
    exact hs i x T H' S N (hx xs (k.sql (by simp) h)) k nT a b) hd
end

/-! ### the head's facts: any tests of the written part -/
abbrev Chk := PySem.W.Frag → Bool
def obsX (fa : List Chk) (fn : List He.DefD) (K : PySem.W.Frag) : He.AlD := ((fa.all fun f => f K) && fn.all fun d => d.ok K, fn.map fun d => He.fnW K d.at_)
def SaysX (fa : List Chk) (fn : List He.DefD) (K : PySem.W.Frag) : Prop := obsX fa fn K = He.valD fn
def obsXG (n : Nat) (fa : List Chk) (fn : List He.DefD) (g : Addr → Option Obj) : He.AlD := obsX fa fn (He.frG g (He.asD g n ++ [cStatics]))
def hookX (n : Nat) (fa : List Chk) (fn : List He.DefD) : PySem.W.Hook where
  α := He.AlD
  obs := fun s => obsXG n fa fn s.heap.get?
  val := fun _ => He.valD fn
  says := fun _ h => ∃ K : PySem.W.Frag, K.In h ∧ SaysX fa fn K
  of := fun _ _ e => ⟨_, He.frG_in, e⟩
  keeps := fun _ _ _ ⟨K, hK, c⟩ k => ⟨K, PySem.W.Frag.In.keeps hK k, c⟩
theorem obsXG_eq {n : Nat} {fa : List Chk} {fn : List He.DefD} {g : Addr → Option Obj} {s : Shared} (h : ∀ a, g a = s.heap.get? a) : obsXG n fa fn g = (hookX n fa fn).obs s := by
  have e : g = s.heap.get? := funext h
  rw [e] <;> rfl
section
variable {fa : List Chk} {fn : List He.DefD} {K : PySem.W.Frag}
theorem SaysX.fact (c : SaysX fa fn K) (i : Nat) {f : Chk} (h : fa[i]? = some f := by rfl) : f K = true := by
  have c1 := (He.ba (show ((fa.all fun f => f K) && fn.all fun d => d.ok K) = true from congrArg (fun z : He.AlD => z.1) c)).1
  exact List.all_eq_true.mp c1 f (List.mem_of_getElem? h)
theorem SaysX.def_ (c : SaysX fa fn K) (i : Nat) {d : He.DefD} (h : fn[i]? = some d := by rfl) : ∃ fd, FunD K d.name d.qual d.params d.body d.scope (d.dvs K) (d.kws K) (He.fAd K d.at_) fd := by
  have c2 := (He.ba (show ((fa.all fun f => f K) && fn.all fun d => d.ok K) = true from congrArg (fun z : He.AlD => z.1) c)).2
  have e : fn.map (fun d => He.fnW K d.at_) = fn.map He.DefD.val := congrArg (fun z : He.AlD => z.2) c
  have e2 : (fn.map fun d => He.fnW K d.at_)[i]? = (fn.map He.DefD.val)[i]? := by rw [e]
  rw [List.getElem?_map, List.getElem?_map, h] at e2
  exact He.DefD.funD (Option.some.inj e2) (List.all_eq_true.mp c2 d (List.mem_of_getElem? h))
/-- a plain fact of He -/
abbrev fa_ (f : He.Fa) : Chk := fun K => f.ok K
/-- a class of errors, as it is made -/
def oexB (C : Addr) (K : PySem.W.Frag) : Bool := match K.lookup C with
  | some ⟨.type "type", _, .cls cd, sl⟩ => (match cd.mro, sl.toList with
    | .ref C1 :: bm, [_, _, _, _, some (.builtin n), _] => C1 == C && n == "ValueError.__new__" && !cd.hasDel && cd.hasDict && PySem.HandSPX.refsVE bm
    | _, _ => false)
  | _ => false
theorem oexB_ok {C : Addr} (q : oexB C K = true) : ∃ nm qn N bs bm sn sub ab col dd k0 k1 k2 k3 k5, K.lookup C = some (excClassObj nm qn C N bs bm true sn sub ab col dd k0 k1 k2 k3 k5 "ValueError.__new__") ∧ PySem.HandSPX.refsVE bm = true := by
  unfold oexB at q
  split at q
  · rename_i dd cd sl ho
    split at q
    · rename_i C1 bm k0 k1 k2 k3 n k5 hm hs
      simp only [Bool.and_eq_true, beq_iff_eq, Bool.not_eq_true'] at q
      obtain ⟨⟨⟨⟨rfl, rfl⟩, del⟩, hd⟩, hr⟩ := q
      obtain ⟨nm, bs, mro, ns, qn, hdd, sn, sub, ab, col, dl⟩ := cd
      dsimp only at hm del hd
      subst hm del hd
      have es : sl = #[k0, k1, k2, k3, some (.builtin "ValueError.__new__"), k5] := by
        obtain ⟨l⟩ := sl
        exact congrArg Array.mk hs
      subst es
      exact ⟨nm, qn, ns, bs, bm, sn, sub, ab, col, dd, k0, k1, k2, k3, k5, ho, hr⟩
    · cases q
  · cases q
def eqT (a b : Option Bool) : Bool := decide (a = b)
/-- all that an own class of errors C with the fields fs is asked -/
def excB (x : Str) (fs : List Str) (K : PySem.W.Frag) : Bool := oexB (He.ga K x) K && (He.eqO (PySem.W.findIn K (.ref (He.ga K x)) "__setattr__") (some (some (.builtin "object.__setattr__"))) &&
  (eqT (PySem.W.subIn K (.ref (He.ga K x)) (.type "BaseException")) (some true) && (decide (PySem.W.typeIn K (.ref (He.ga K x)) = some (.type "type")) && (PySem.W.keepIn K (.ref (He.ga K x)) &&
  (fs.all fun f => He.eqO (PySem.W.findIn K (.ref (He.ga K x)) f) (some none))))))
/-- .. and its instances are asked -/
def askB (x : Str) (K : PySem.W.Frag) : Bool := (PySem.W.clsIn K (He.ga K x)).isSome && (He.eqO (PySem.W.findIn K (.ref (He.ga K x)) "__getattribute__") (some (some (.builtin "BaseException.__getattribute__"))) &&
  (He.eqO (PySem.W.findIn K (.ref (He.ga K x)) "__getattr__") (some none) && (eqT (PySem.W.subIn K (.ref (He.ga K x)) (.type "BaseException")) (some true) && (PySem.W.hasDictIn K (He.ga K x) &&
  (He.eqO (PySem.W.findIn K (.ref (He.ga K x)) "__class__") (some (some (.builtin "object.__class__"))) && (He.eqO (PySem.W.specialIn K (.builtin "object.__class__") "__get__") (some (some (.builtin "getset_descriptor.__get__"))) &&
  (eqT (PySem.W.takesIn K (.builtin "object.__class__")) (some true) && eqT (PySem.W.mroIn K (He.ga K x) (.type "object")) (some true))))))))
theorem excB_ok {x : Str} {fs : List Str} (q : excB x fs K = true) : OexC K (He.ga K x) ∧ ∀ f ∈ fs, PySem.W.findIn K (.ref (He.ga K x)) f = some none := by
  obtain ⟨q1, q⟩ := He.ba q
  obtain ⟨q2, q⟩ := He.ba q
  obtain ⟨q3, q⟩ := He.ba q
  obtain ⟨q4, q⟩ := He.ba q
  obtain ⟨q5, q6⟩ := He.ba q
  exact ⟨⟨oexB_ok q1, He.eqO_ok q2, of_decide_eq_true q3, of_decide_eq_true q4, q5⟩, fun f hf => He.eqO_ok (List.all_eq_true.mp q6 f hf)⟩
theorem askB_ok {x : Str} (q : askB x K = true) : ExK K (He.ga K x) := by
  obtain ⟨q1, q⟩ := He.ba q
  obtain ⟨q2, q⟩ := He.ba q
  obtain ⟨q3, q⟩ := He.ba q
  obtain ⟨q4, q⟩ := He.ba q
  obtain ⟨q5, q⟩ := He.ba q
  obtain ⟨q6, q⟩ := He.ba q
  obtain ⟨q7, q⟩ := He.ba q
  obtain ⟨q8, q9⟩ := He.ba q
  exact ⟨q1, He.eqO_ok q2, He.eqO_ok q3, of_decide_eq_true q4, q5, He.eqO_ok q6, He.eqO_ok q7, of_decide_eq_true q8, of_decide_eq_true q9⟩
/-- isinstance of an instance of x by the class y, by a built-in one -/
def kitB2 (x y : Str) (b : Bool) (K : PySem.W.Frag) : Bool := eqT (PySem.W.kitOne K (.ref (He.ga K x)) (.ref (He.ga K y))) (some b)
def kitT2 (x : Str) (y : String) (b : Bool) (K : PySem.W.Frag) : Bool := eqT (PySem.W.kitOne K (.ref (He.ga K x)) (.type y)) (some b)
/-- except y takes an x -/
def exmB (x y : Str) (b : Bool) (K : PySem.W.Frag) : Bool := eqT (PySem.W.exmOne K (.ref (He.ga K x)) (.ref (He.ga K y))) (some b)
/-- the __init__ that is found, a function -/
def iniB (x : Str) (K : PySem.W.Frag) : Bool := He.eqO (PySem.W.findIn K (.ref (He.ga K x)) "__init__") (some (some (.ref (He.ma K (He.ga K x) "__init__")))) && decide (PySem.W.typeIn K (.ref (He.ma K (He.ga K x) "__init__")) = some (.type "function"))
theorem iniB_ok {x : Str} (q : iniB x K = true) : PySem.W.findIn K (.ref (He.ga K x)) "__init__" = some (some (.ref (He.ma K (He.ga K x) "__init__"))) ∧ PySem.W.typeIn K (.ref (He.ma K (He.ga K x) "__init__")) = some (.type "function") := by
  obtain ⟨q1, q2⟩ := He.ba q
  exact ⟨He.eqO_ok q1, of_decide_eq_true q2⟩
end
end G

set_option Elab.async false
set_option linter.all false
set_option maxRecDepth 100000
set_option maxHeartbeats 4000000
/-! Constants of a class; truth; two things more. -/
namespace G
open PySem PySem.Spec PyProof.Rows L2
section
variable {X : Cx} {C : Addr} {mc u : Value} {v : V} {e : Expr} {f : Str} {pos : Pos} {ta : TE}
theorem pe_cc (k : ∃ mc u, ClX.CRead X.K C mc ∧ ClX.CVal X.K C mc f v u) (he : PE X e (tC (.ref C))) (hb : attributeBase e f X.env (eval e X.env) = eval e X.env := by rfl) : PE X (.Attribute e f pos) (tC v) := by
  obtain ⟨mc, u, r, k⟩ := k
  exact ⟨fun pins s σ H Q I h => (ClX.pe_cval he hb).run pins s σ H Q I ⟨C, mc, v, u, rfl, r, k, h⟩⟩
def tTr (K : PySem.W.Frag) (ta : TE) : TT := fun σ H Q => ta σ H fun x H' => ∃ k, TruV K x H' k ∧ Q k H'
theorem pt_tr (ha : PE X e ta) (he : ∀ whole, isTrue e X.env whole = (do let v ← whole; standAt e.pos; holding [v] (truthy v))) : PT X e (tTr X.K ta) := pt_truth ha he
end
/-- x.f is the whole number i -/
def ccB (x f : Str) (i : Int) (K : PySem.W.Frag) : Bool := PySem.W.readsIn K (He.ga K x) (.type "type") && (He.eqO (PySem.W.specialIn K (.ref (He.ga K x)) "__getattribute__") (some (some (.builtin "type.__getattribute__"))) &&
  (match PySem.W.findCls K (.ref (He.ga K x)) (.type "type") f with
  | some (.val (.int j _)) => decide (j = i)
  | _ => false))
theorem ccB_ok {K : PySem.W.Frag} {x f : Str} {i : Int} (q : ccB x f i K = true) : ∃ mc u, ClX.CRead K (He.ga K x) mc ∧ ClX.CVal K (He.ga K x) mc f (.int i) u := by
  obtain ⟨q1, q⟩ := He.ba q
  obtain ⟨q2, q3⟩ := He.ba q
  have q4 : (match PySem.W.findCls K (.ref (He.ga K x)) (.type "type") f with
    | some (.val (.int j _)) => decide (j = i)
    | _ => false) = true := q3
  split at q4
  · rename_i j t e
    have ej : j = i := of_decide_eq_true q4
    subst ej
    exact ⟨.type "type", .int j t, ⟨q1, He.eqO_ok q2⟩, ⟨e, t, rfl⟩⟩
  · cases q4
/-- a fact's list is looked up -/
theorem glf_ok {K : PySem.W.Frag} {h : Heap} {mg : Str → Option Value} {x : Str} (X : K.In h) (G : h.Ns mainGlobals mg) (c : (He.Fa.glo x).ok K = true) : mg x = some (.ref (He.ga K x)) := He.glo_ok X G c
end G
namespace G
open PySem PySem.Spec PyProof.Rows L2
/-- a built-in class as a value -/
theorem pe_ty {X : Cx} {x : Str} (n : String) {pos : Pos} (hm : X.mg x = none) (hv : bootBuiltins x = some (.type n)) (hg : Gl X x := by rfl) (hn : x ≠ "__name__" := by decide) (hd : (x == ("__debug__" : Str)) = false := by decide) : PE X (.Name x pos) (tC (.ty n)) :=
  pe_bltn hg hm hv rfl hn hd
/-- an own class as a value -/
theorem pe_own {X : Cx} {x : Str} {C : Addr} {pos : Pos} (hm : X.mg x = some (.ref C)) (hg : Gl X x := by rfl) (hd : (x == ("__debug__" : Str)) = false := by decide) : PE X (.Name x pos) (tC (.ref C)) := pe_glob hg hm rfl hd
end G
namespace G
open PySem PySem.Spec PyProof.Rows L2
/-- a def of the text where an exception is handled -/
theorem okH {P : Program} {w : World} {K : PySem.W.Frag} {mg : Str → Option Value} {base : Heap} {CX : CXT} {x qual : Str} {params : Arguments} {body : List Stmt} {scope : Scope} {dvs : List V} {kws : List (Str × V)} {f : Addr} {fd : FuncData} {N ps : List Str} {k : Nat} {sp : Sp}
    (F : FunD K x qual params body scope dvs kws f fd) (S : FnScope N ps scope) (len : ∀ vs H Q E, sp vs H Q E → vs.length = ps.length)
    (hb : ∀ (cdv : Value) (A : Around) (outer : List Env) (s : Shared) (H : Hp) (vs : List V) (Q : VK) (E : XK) (p : Addr × Obj), L2H.Hot1 A p → L2H.RoomH k (A.deeper (envOfC qual scope s.heap.objs.size f cdv)) → sp vs H Q E →
      ∃ t, PSs (L2H.cxH CX P w K mg base N qual scope f cdv A outer s H E p) body t ∧ t { nx := fun _ H' => Q .non H', rt := Q } (start N vs) H) : L2H.FnH P w K mg base CX (k + 1) f fd ps sp := by
  obtain ⟨oc, od, dV, kV, doc, pm, an, cdv, ct, osl, rfl, lk, hcd, _, _⟩ := F.ex
  exact L2H.fn_ofH lk hcd S len fun A outer s H vs Q E p h1 h2 h3 => hb cdv A outer s H vs Q E p h1 h2 h3
/-- a def called there -/
theorem hotC {CX : CXT} {P : Program} {w : World} {K : PySem.W.Frag} {mg : Str → Option Value} {base : Heap} {N : List Str} {qual : Str} {scope : Scope} {f : Addr} {cd : Value} {A : Around} {outer : List Env} {s : Shared} {H : Hp} {E : XK} {p : Addr × Obj} (h : L2H.Hot1 A p) :
    L2H.HotC (L2H.cxH CX P w K mg base N qual scope f cd A outer s H E p) := ⟨p, h, List.mem_cons_self⟩
end G
namespace G
open PySem PySem.Spec PyProof.Rows L2
/-- what lets nothing out -/
theorem noX {P : Program} {w : World} {K : PySem.W.Frag} {mg : Str → Option Value} {base : Heap} {k : Nat} {f : Addr} {fd : FuncData} {ps : List Str} {sp : Sp} (F : FnOk P w K mg base (L2N.CX P w) k f fd ps sp) :
    FnOk P w K mg base L2.CX0 k f fd ps (fun vs H Q _ => sp vs H Q L2.E0) := by
  refine ⟨fun vs H Q E h => F.len vs H Q _ h, fun A outer s H args us vs Q E hr e0 hb r h => codeAny_mono (F.run A outer s H args us vs Q _ hr e0 hb r h) fun rs s2 q => ?_⟩
  cases rs with
  | error e =>
    obtain ⟨_, _, _, _, _, _, _, _, _, _, _, _, z⟩ := q
    exact z.elim
  | ok fl => cases fl <;> exact q
end G

set_option Elab.async false
set_option linter.all false
set_option maxRecDepth 100000
set_option maxHeartbeats 4000000
/-! Standings as plain lists, and what operations do to them. -/
namespace G
open PySem PySem.Spec PyProof.Rows L2

/-! ### lists by place -/
def gI (l : List Int) (i : Nat) : Int := l.getD i 0
def gB (l : List Bool) (i : Nat) : Bool := l.getD i false
theorem gI_at {l : List Int} {i : Nat} (h : i < l.length) : l[i]? = some (gI l i) := by
  unfold gI
  rw [List.getElem?_eq_getElem h, List.getD_eq_getElem?_getD, List.getElem?_eq_getElem h] <;> rfl
theorem gB_at {l : List Bool} {i : Nat} (h : i < l.length) : l[i]? = some (gB l i) := by
  unfold gB
  rw [List.getElem?_eq_getElem h, List.getD_eq_getElem?_getD, List.getElem?_eq_getElem h] <;> rfl
theorem gI_of {l : List Int} {i : Nat} {v : Int} (h : l[i]? = some v) : gI l i = v := by
  unfold gI
  rw [List.getD_eq_getElem?_getD, h] <;> rfl
theorem gB_of {l : List Bool} {i : Nat} {v : Bool} (h : l[i]? = some v) : gB l i = v := by
  unfold gB
  rw [List.getD_eq_getElem?_getD, h] <;> rfl
theorem gI_set {l : List Int} {i j : Nat} {v : Int} (h : i < l.length) : gI (l.set i v) j = if j = i then v else gI l j := by
  unfold gI
  rw [List.getD_eq_getElem?_getD, List.getD_eq_getElem?_getD]
  by_cases e : j = i
  · rw [if_pos e, e, List.getElem?_set_self h] <;> rfl
  · rw [if_neg e, List.getElem?_set_ne (Ne.symm e)]
theorem gB_set {l : List Bool} {i j : Nat} {v : Bool} (h : i < l.length) : gB (l.set i v) j = if j = i then v else gB l j := by
  unfold gB
  rw [List.getD_eq_getElem?_getD, List.getD_eq_getElem?_getD]
  by_cases e : j = i
  · rw [if_pos e, e, List.getElem?_set_self h] <;> rfl
  · rw [if_neg e, List.getElem?_set_ne (Ne.symm e)]
theorem atI_pos {α : Type} {l : List α} {i : Int} (h0 : 0 ≤ i) (h1 : i < (l.length : Int)) : atI l i = l[i.toNat]? := by
  unfold atI ixN
  rw [if_pos h0, if_pos h1] <;> rfl
theorem ixN_pos {n : Nat} {i : Int} (h0 : 0 ≤ i) (h1 : i < (n : Int)) : ixN n i = some i.toNat := by
  unfold ixN
  rw [if_pos h0, if_pos h1]
theorem at_I {l : List Int} {i : Int} (h0 : 0 ≤ i) (h1 : i < (l.length : Int)) : atI (l.map V.int) i = some (.int (gI l i.toNat)) := by
  rw [atI_pos h0 (by rw [List.length_map]; exact h1), List.getElem?_map, gI_at (by omega)] <;> rfl
theorem at_B {l : List Bool} {i : Int} (h0 : 0 ≤ i) (h1 : i < (l.length : Int)) : atI (l.map V.bl) i = some (.bl (gB l i.toNat)) := by
  rw [atI_pos h0 (by rw [List.length_map]; exact h1), List.getElem?_map, gB_at (by omega)] <;> rfl
theorem at_last {α : Type} {l : List α} {x : α} (h : l.getLast? = some x) : atI l (-1) = some x := by
  have hne : l ≠ [] := by
    intro e
    rw [e] at h
    cases h
  have hl : 0 < l.length := List.length_pos_iff.mpr hne
  unfold atI ixN
  rw [if_neg (by decide), if_pos (by omega)]
  show l[(-1 + (l.length : Int)).toNat]? = some x
  rw [show (-1 + (l.length : Int)).toNat = l.length - 1 by omega, ← List.getLast?_eq_getElem?]
  exact h
theorem set_I {l : List Int} {k : Nat} {v : Int} : (l.map V.int).set k (V.int v) = (l.set k v).map V.int := by rw [List.map_set]
theorem set_B {l : List Bool} {k : Nat} {v : Bool} : (l.map V.bl).set k (V.bl v) = (l.set k v).map V.bl := by rw [List.map_set]
theorem sz_ok {n : Nat} (h : n ≤ 1000000) : n ≤ sizeLine := by
  rw [sizeLine_eq]
  omega
theorem sz_lt {n : Nat} (h : n < 1000000) : n < sizeLine := by
  rw [sizeLine_eq]
  omega
theorem map_inj_I : ∀ {a b : List Int}, a.map V.int = b.map V.int → a = b
  | [], [], _ => rfl
  | [], _ :: _, h => by cases h
  | _ :: _, [], h => by cases h
  | x :: a, y :: b, h => by
    have h' : V.int x :: a.map V.int = V.int y :: b.map V.int := h
    injection h' with h1 h2
    injection h1 with h1
    rw [h1, map_inj_I h2]

/-! ### standings -/
structure Sd where
  n : Nat
  R : List Int
  L : List Int
  O : List Bool
structure Wf (s : Sd) : Prop where
  n60 : s.n ≤ 60
  lR : s.R.length = s.n + 1
  lL : s.L.length = s.n + 2
  lO : s.O.length = s.n + 2
  rb : ∀ v : Nat, v ≤ s.n → (v : Int) < gI s.R v ∧ gI s.R v ≤ (s.n : Int) + 1
  lb : ∀ v : Nat, 1 ≤ v → v ≤ s.n + 1 → 0 ≤ gI s.L v ∧ gI s.L v < (v : Int)
def stepS (s : Sd) (op : Int) : Sd :=
  let x := op.natAbs
  let l := (gI s.L x).toNat
  let r := (gI s.R x).toNat
  ⟨s.n, s.R.set l (if op < 0 then gI s.R x else (x : Int)), s.L.set r (if op < 0 then gI s.L x else (x : Int)), s.O.set x (decide (op < 0))⟩
/-- an operation for the size; a legal one -/
def IsOp (n : Nat) (op : Int) : Prop := 1 ≤ op.natAbs ∧ op.natAbs ≤ n
def OkOp (s : Sd) (op : Int) : Prop := IsOp s.n op ∧ gB s.O op.natAbs = decide (0 < op)
instance (n : Nat) (op : Int) : Decidable (IsOp n op) := by unfold IsOp; infer_instance
instance (s : Sd) (op : Int) : Decidable (OkOp s op) := by unfold OkOp; infer_instance
theorem Wf.step {s : Sd} (w : Wf s) {op : Int} (h : IsOp s.n op) : Wf (stepS s op) := by
  obtain ⟨h1, h2⟩ := h
  obtain ⟨r1, r2⟩ := w.rb op.natAbs (by omega)
  obtain ⟨l1, l2⟩ := w.lb op.natAbs h1 (by omega)
  have e1 : (gI s.L op.natAbs).toNat < s.R.length := by rw [w.lR]; omega
  have e2 : (gI s.R op.natAbs).toNat < s.L.length := by rw [w.lL]; omega
  refine ⟨w.n60, ?_, ?_, ?_, fun v hv => ?_, fun v hv hv2 => ?_⟩
  · show (s.R.set _ _).length = _
    rw [List.length_set]
    exact w.lR
  · show (s.L.set _ _).length = _
    rw [List.length_set]
    exact w.lL
  · show (s.O.set _ _).length = _
    rw [List.length_set]
    exact w.lO
  · show (v : Int) < gI (s.R.set _ _) v ∧ gI (s.R.set _ _) v ≤ (s.n : Int) + 1
    rw [gI_set e1]
    by_cases e : v = (gI s.L op.natAbs).toNat
    · rw [if_pos e]
      by_cases o : op < 0
      · rw [if_pos o]
        omega
      · rw [if_neg o]
        omega
    · rw [if_neg e]
      exact w.rb v hv
  · show 0 ≤ gI (s.L.set _ _) v ∧ gI (s.L.set _ _) v < (v : Int)
    rw [gI_set e2]
    by_cases e : v = (gI s.R op.natAbs).toNat
    · rw [if_pos e]
      by_cases o : op < 0
      · rw [if_pos o]
        omega
      · rw [if_neg o]
        omega
    · rw [if_neg e]
      exact w.lb v hv hv2
/-- its own links stay -/
theorem step_R {s : Sd} (w : Wf s) {op : Int} (h : IsOp s.n op) : gI (stepS s op).R op.natAbs = gI s.R op.natAbs := by
  obtain ⟨l1, l2⟩ := w.lb op.natAbs h.1 (by have := h.2; omega)
  show gI (s.R.set _ _) _ = _
  rw [gI_set (by rw [w.lR]; have := h.2; omega), if_neg (by omega)]
theorem step_L {s : Sd} (w : Wf s) {op : Int} (h : IsOp s.n op) : gI (stepS s op).L op.natAbs = gI s.L op.natAbs := by
  obtain ⟨l1, l2⟩ := w.rb op.natAbs (by have := h.2; omega)
  show gI (s.L.set _ _) _ = _
  rw [gI_set (by rw [w.lL]; omega), if_neg (by omega)]
/-- a, a + 1, .. n of them -/
def rgI (a : Int) (n : Nat) : List Int := (List.range n).map fun (i : Nat) => a + (i : Int)
theorem rgI_len (a : Int) (n : Nat) : (rgI a n).length = n := by simp [rgI]
def wholeS (n : Nat) : Sd := ⟨n, rgI 1 (n + 1), 0 :: rgI 0 (n + 1), List.replicate (n + 2) false⟩
theorem gI_range {n i : Nat} {a : Int} (h : i < n) : gI (rgI a n) i = a + (i : Int) := by
  refine gI_of ?_
  unfold rgI
  rw [List.getElem?_map, List.getElem?_range h] <;> rfl
theorem Wf.whole {n : Nat} (h : n ≤ 60) : Wf (wholeS n) := by
  refine ⟨h, rgI_len _ _, congrArg Nat.succ (rgI_len _ _), List.length_replicate, fun v hv => ?_, fun v h1 h2 => ?_⟩
  · show (v : Int) < gI (rgI 1 (n + 1)) v ∧ gI (rgI 1 (n + 1)) v ≤ (n : Int) + 1
    have hv' : v ≤ n := hv
    rw [gI_range (by omega)]
    omega
  · show 0 ≤ gI (0 :: rgI 0 (n + 1)) v ∧ gI (0 :: rgI 0 (n + 1)) v < (v : Int)
    have h2' : v ≤ n + 1 := h2
    obtain ⟨u, rfl⟩ : ∃ u, v = u + 1 := ⟨v - 1, by omega⟩
    have e : gI (0 :: rgI 0 (n + 1)) (u + 1) = gI (rgI 0 (n + 1)) u := rfl
    rw [e, gI_range (by omega)]
    omega
theorem snoc_ind {α : Type} {P : List α → Prop} (h0 : P []) (h1 : ∀ l x, P l → P (l ++ [x])) (l : List α) : P l := by
  have key : ∀ r : List α, P r.reverse := by
    intro r
    induction r with
    | nil => exact h0
    | cons x r ih =>
      rw [List.reverse_cons]
      exact h1 _ _ ih
  have e := key l.reverse
  rwa [List.reverse_reverse] at e
def runS (s : Sd) (log : List Int) : Sd := log.foldl stepS s
theorem runS_snoc (s : Sd) (log : List Int) (op : Int) : runS s (log ++ [op]) = stepS (runS s log) op := by
  unfold runS
  rw [List.foldl_append] <;> rfl
theorem stepS_n (s : Sd) (op : Int) : (stepS s op).n = s.n := rfl
theorem runS_n (s : Sd) : ∀ log : List Int, (runS s log).n = s.n := by
  intro log
  induction log using snoc_ind with
  | h0 => rfl
  | h1 l x ih => rw [runS_snoc]; exact ih
/-- every operation is legal in turn -/
def Leg (s : Sd) (log : List Int) : Prop := ∀ i op, log[i]? = some op → OkOp (runS s (log.take i)) op
theorem Leg.snoc {s : Sd} {log : List Int} {op : Int} (h : Leg s log) (o : OkOp (runS s log) op) : Leg s (log ++ [op]) := by
  intro i p hp
  by_cases hi : i < log.length
  · rw [List.getElem?_append_left hi] at hp
    rw [List.take_append_of_le_length (by omega)]
    exact h i p hp
  · rw [List.getElem?_append_right (by omega)] at hp
    have e : i = log.length := by
      have := (List.getElem?_eq_some_iff.mp hp).1
      simp at this
      omega
    subst e
    have : p = op := by simpa using hp.symm
    subst this
    rw [List.take_left']
    · exact o
    · rfl
theorem Leg.take {s : Sd} {log : List Int} (h : Leg s log) (k : Nat) : Leg s (log.take k) := by
  intro i op hp
  have hi : i < (log.take k).length := (List.getElem?_eq_some_iff.mp hp).1
  rw [List.length_take] at hi
  rw [List.getElem?_take_of_lt (by omega)] at hp
  rw [List.take_take, Nat.min_eq_left (by omega)]
  exact h i op hp
theorem Leg.wf {s : Sd} (w : Wf s) : ∀ {log : List Int}, Leg s log → Wf (runS s log) := by
  intro log
  induction log using snoc_ind with
  | h0 => exact fun _ => w
  | h1 l x ih =>
    intro h
    have h1 : Leg s l := by
      have := h.take l.length
      rwa [List.take_left' rfl] at this
    have h2 := h l.length x (by simp)
    rw [List.take_left' rfl] at h2
    rw [runS_snoc]
    exact (ih h1).step h2.1
end G

set_option Elab.async false
set_option linter.all false
set_option maxRecDepth 100000
set_option maxHeartbeats 4000000
/-! What the program's own defs promise: standings, logs, gaps. -/
namespace G
open PySem PySem.Spec PyProof.Rows L2

/-! ### a standing in the heap -/
def fl (n r l o : V) : List (Str × V) := putF "_out" o (putF "_lefts" l (putF "_rights" r (putF "size" n [])))
theorem n1 : ¬ (("size" : Str) = "_rights") := by decide +kernel
theorem n2 : ¬ (("size" : Str) = "_lefts") := by decide +kernel
theorem n3 : ¬ (("size" : Str) = "_out") := by decide +kernel
theorem n4 : ¬ (("_rights" : Str) = "_lefts") := by decide +kernel
theorem n5 : ¬ (("_rights" : Str) = "_out") := by decide +kernel
theorem n6 : ¬ (("_lefts" : Str) = "_out") := by decide +kernel
theorem fl_size (n r l o : V) : (fl n r l o).lookup ("size" : Str) = some n := by
  unfold fl
  rw [lookup_putF, if_neg n3, lookup_putF, if_neg n2, lookup_putF, if_neg n1, lookup_putF, if_pos rfl]
theorem fl_R (n r l o : V) : (fl n r l o).lookup ("_rights" : Str) = some r := by
  unfold fl
  rw [lookup_putF, if_neg n5, lookup_putF, if_neg n4, lookup_putF, if_pos rfl]
theorem fl_L (n r l o : V) : (fl n r l o).lookup ("_lefts" : Str) = some l := by
  unfold fl
  rw [lookup_putF, if_neg n6, lookup_putF, if_pos rfl]
theorem fl_O (n r l o : V) : (fl n r l o).lookup ("_out" : Str) = some o := by
  unfold fl
  rw [lookup_putF, if_pos rfl]
theorem fl_no {m : Str} (n r l o : V) (h1 : ¬ m = "size") (h2 : ¬ m = "_rights") (h3 : ¬ m = "_lefts") (h4 : ¬ m = "_out") : (fl n r l o).lookup m = none := by
  unfold fl
  rw [lookup_putF, if_neg h4, lookup_putF, if_neg h3, lookup_putF, if_neg h2, lookup_putF, if_neg h1]
  rfl
theorem fl_eq (n r l o : V) : fl n r l o = [(("size" : Str), n), ("_rights", r), ("_lefts", l), ("_out", o)] := by
  unfold fl
  simp only [putF, if_neg n1, if_neg n2, if_neg n3, if_neg n4, if_neg n5, if_neg n6]
theorem fl_len (n r l o : V) : (fl n r l o).length < 1000 := by
  rw [fl_eq]
  show 4 < 1000
  decide
theorem fl_putR (n r l o r2 : V) : putF "_rights" r2 (fl n r l o) = fl n r2 l o := by
  rw [fl_eq, fl_eq]
  simp only [putF]
  rw [if_neg n1, if_pos trivial]
theorem fl_putL (n r l o l2 : V) : putF "_lefts" l2 (fl n r l o) = fl n r l2 o := by
  rw [fl_eq, fl_eq]
  simp only [putF]
  rw [if_neg n2, if_neg n4, if_pos trivial]
theorem fl_putO (n r l o o2 : V) : putF "_out" o2 (fl n r l o) = fl n r l o2 := by
  rw [fl_eq, fl_eq]
  simp only [putF]
  rw [if_neg n3, if_neg n5, if_neg n6, if_pos trivial]
structure LinksAt (K : PySem.W.Frag) (H : Hp) (p r l o : Addr) (s : Sd) : Prop where
  ob : ∃ dx, H p = some (.ins (He.ga K "Links") dx (fl (.int s.n) (.ref r) (.ref l) (.ref o)))
  hr : H r = some (.lst (s.R.map V.int))
  hl : H l = some (.lst (s.L.map V.int))
  ho : H o = some (.lst (s.O.map V.bl))
  rl : r ≠ l
  ro : r ≠ o
  lo : l ≠ o
  wf : Wf s
theorem LinksAt.pr {K : PySem.W.Frag} {H : Hp} {p r l o : Addr} {s : Sd} (a : LinksAt K H p r l o s) : p ≠ r ∧ p ≠ l ∧ p ≠ o := by
  obtain ⟨dx, h⟩ := a.ob
  exact ⟨ne_of h a.hr (by intro z; cases z), ne_of h a.hl (by intro z; cases z), ne_of h a.ho (by intro z; cases z)⟩
theorem LinksAt.kp {K : PySem.W.Frag} {H H' : Hp} {p r l o : Addr} {s : Sd} {S : List Addr} (a : LinksAt K H p r l o s) (k : Kp S H H') (h1 : p ∉ S) (h2 : r ∉ S) (h3 : l ∉ S) (h4 : o ∉ S) : LinksAt K H' p r l o s := by
  obtain ⟨dx, h⟩ := a.ob
  exact ⟨⟨dx, k _ _ h1 h⟩, k _ _ h2 a.hr, k _ _ h3 a.hl, k _ _ h4 a.ho, a.rl, a.ro, a.lo, a.wf⟩
theorem LinksAt.k0 {K : PySem.W.Frag} {H H' : Hp} {p r l o : Addr} {s : Sd} (a : LinksAt K H p r l o s) (k : Kp [] H H') : LinksAt K H' p r l o s := a.kp k (by simp) (by simp) (by simp) (by simp)

/-! ### errors -/
/-- an error of the class x leaves, new, with these fields -/
def Ex (K : PySem.W.Frag) (x : Str) (fs : List (Str × V)) (E : XK) (H : Hp) : Prop := ∀ d, H d = none → E (.ref (He.ga K x)) (some d) (upd H d (.xd fs))
def OpE (K : PySem.W.Frag) (n : Nat) (op : Int) (i : Int) (E : XK) (H : Hp) : Prop := Ex K (if IsOp n op then "Illegal" else "BadOperation") [("index", .int i), ("operation", .int op)] E H
/-- .. the first wrong operation of a log -/
def LogE (K : PySem.W.Frag) (s : Sd) (log : List Int) (E : XK) (H : Hp) : Prop := ∀ (i : Nat) (op : Int), log[i]? = some op → Leg s (log.take i) → ¬ OkOp (runS s (log.take i)) op → ∀ H', Kp [] H H' → OpE K s.n op i E H'
def SizeOk (size : Int) : Prop := 0 ≤ size ∧ size ≤ 60
instance (size : Int) : Decidable (SizeOk size) := by unfold SizeOk; infer_instance

/-! ### gaps -/
def stT (s : Sd) (v : Nat) : Str := if gI s.R v = (v : Int) + 1 then (if gI s.L (v + 1) = (v : Int) then "joined" else "left") else (if gI s.L (v + 1) = (v : Int) then "right" else "lost")
def lostL (s : Sd) : List Nat := (List.range (s.n + 1)).filter fun v => decide (stT s v = "lost")

/-! ### promises -/
section
variable (K : PySem.W.Frag)
def sp_check_size : Sp := fun vs H Q E => ∃ size : Int, vs = [.int size] ∧ (SizeOk size → Q .non H) ∧ (¬ SizeOk size → Ex K "BadSize" [("size", .int size)] E H)
def sp_check_operation : Sp := fun vs H Q E => ∃ (n : Nat) (op i : Int), vs = [.int n, .int op, .int i] ∧ (IsOp n op → Q .non H) ∧ (¬ IsOp n op → Ex K "BadOperation" [("index", .int i), ("operation", .int op)] E H)
def sp_check_gap : Sp := fun vs H Q E => ∃ (n : Nat) (g : Int), vs = [.int n, .int g] ∧ (0 ≤ g ∧ g ≤ n → Q .non H) ∧ (¬ (0 ≤ g ∧ g ≤ n) → Ex K "BadGap" [("gap", .int g)] E H)
def sp_Links___init__ : Sp := fun vs H Q E => ∃ (p dx : Addr) (size : Int), vs = [.ref p, .int size] ∧ H p = some (.ins (He.ga K "Links") dx []) ∧
  (SizeOk size → ∀ (r l o : Addr) (H' : Hp), H r = none → H l = none → H o = none → Kp [p] H H' → LinksAt K H' p r l o (wholeS size.toNat) → Q .non H') ∧ (¬ SizeOk size → Ex K "BadSize" [("size", .int size)] E H)
def sp_Links_is_legal : Sp := fun vs H Q E => ∃ (p r l o : Addr) (s : Sd) (op : Int), vs = [.ref p, .int op] ∧ LinksAt K H p r l o s ∧ IsOp s.n op ∧ Q (.bl (decide (gB s.O op.natAbs = decide (0 < op)))) H
def sp_Links_check : Sp := fun vs H Q E => ∃ (p r l o : Addr) (s : Sd) (op i : Int), vs = [.ref p, .int op, .int i] ∧ LinksAt K H p r l o s ∧ (OkOp s op → Q .non H) ∧ (¬ OkOp s op → OpE K s.n op i E H)
def sp_Links_apply_at : Sp := fun vs H Q E => ∃ (p r l o : Addr) (s : Sd) (op i : Int), vs = [.ref p, .int op, .int i] ∧ LinksAt K H p r l o s ∧ (OkOp s op → ∀ H', Kp [r, l, o] H H' → LinksAt K H' p r l o (stepS s op) → Q .non H') ∧ (¬ OkOp s op → OpE K s.n op i E H)
def sp_Links_apply : Sp := fun vs H Q E => ∃ (p r l o : Addr) (s : Sd) (op : Int), vs = [.ref p, .int op] ∧ LinksAt K H p r l o s ∧ (OkOp s op → ∀ H', Kp [r, l, o] H H' → LinksAt K H' p r l o (stepS s op) → Q .non H') ∧ (¬ OkOp s op → OpE K s.n op 0 E H)
def sp_Links_left : Sp := fun vs H Q E => ∃ (p r l o : Addr) (s : Sd) (v : Nat), vs = [.ref p, .int v] ∧ LinksAt K H p r l o s ∧ 1 ≤ v ∧ v ≤ s.n + 1 ∧ Q (.int (gI s.L v)) H
def sp_Links_right : Sp := fun vs H Q E => ∃ (p r l o : Addr) (s : Sd) (v : Nat), vs = [.ref p, .int v] ∧ LinksAt K H p r l o s ∧ v ≤ s.n ∧ Q (.int (gI s.R v)) H
/-- a new standing s -/
def NewS (H : Hp) (s : Sd) (Q : VK) : Prop := ∀ (p r l o : Addr) (H' : Hp), H p = none → H r = none → H l = none → H o = none → Kp [] H H' → LinksAt K H' p r l o s → Q (.ref p) H'
def sp_Links_copy : Sp := fun vs H Q E => ∃ (p r l o : Addr) (s : Sd), vs = [.ref p] ∧ LinksAt K H p r l o s ∧ NewS K H s Q
def sp_play : Sp := fun vs H Q E => ∃ (p r l o a : Addr) (s : Sd) (log : List Int), vs = [.ref p, .ref a] ∧ LinksAt K H p r l o s ∧ SqL K H a (log.map V.int) ∧ (Leg s log → NewS K H (runS s log) Q) ∧ LogE K s log E H
def sp_replay : Sp := fun vs H Q E => ∃ (a : Addr) (size : Int) (log : List Int), vs = [.int size, .ref a] ∧ SqL K H a (log.map V.int) ∧ (SizeOk size → Leg (wholeS size.toNat) log → NewS K H (runS (wholeS size.toNat) log) Q) ∧
  (SizeOk size → LogE K (wholeS size.toNat) log E H) ∧ (¬ SizeOk size → ∀ H', Kp [] H H' → Ex K "BadSize" [("size", .int size)] E H')
def sp_gap_state : Sp := fun vs H Q E => ∃ (p r l o : Addr) (s : Sd) (g : Int), vs = [.ref p, .int g] ∧ LinksAt K H p r l o s ∧ (0 ≤ g ∧ g ≤ s.n → Q (.str (stT s g.toNat)) H) ∧ (¬ (0 ≤ g ∧ g ≤ s.n) → Ex K "BadGap" [("gap", .int g)] E H)
def sp_gap_states : Sp := fun vs H Q E => ∃ (p r l o : Addr) (s : Sd), vs = [.ref p] ∧ LinksAt K H p r l o s ∧ ∀ (q : Addr) (H' : Hp), H q = none → Kp [] H H' → H' q = some (.lst ((List.range (s.n + 1)).map fun (v : Nat) => V.str (stT s v))) → Q (.ref q) H'
def sp_lost_gaps : Sp := fun vs H Q E => ∃ (p r l o : Addr) (s : Sd), vs = [.ref p] ∧ LinksAt K H p r l o s ∧ ∀ (q : Addr) (H' : Hp), H q = none → Kp [] H H' → H' q = some (.lst ((lostL s).map fun (v : Nat) => V.int (v : Int))) → Q (.ref q) H'
end
end G

set_option Elab.async false
set_option linter.all false
set_option maxRecDepth 100000
set_option maxHeartbeats 4000000
/-! More steps. -/
namespace G
open PySem PySem.Spec PyProof.Rows L2
section
variable {K : PySem.W.Frag} {σ : L2.St} {H : Hp} {Q : VK} {ta tb tc te : TE} {x y v : V} {D : Ends} {tl : TA} {i j : Int} {n m : Nat} {p q : Addr} {xs ys : List V} {A B : Prop}
theorem w_tT (a : A) : if true = true then A else B := iteT a
theorem w_tF (b : B) : if false = true then A else B := iteF b
theorem w_nT (a : A) : if (!false) = true then A else B := iteT a
theorem w_nF (b : B) : if (!true) = true then A else B := iteF b
theorem w_rz {C : Addr} {fs : List Str} {W : WX} (g : tl σ H fun us H1 => us.length = fs.length ∧ us.length ≤ 1000 ∧ ∀ d, H1 d = none → W (.ref C) (some d) σ (upd H1 d (.xd (fs.zip us).reverse))) : tRz C fs W tl D σ H := g
theorem w_mk {C : Addr} {sp : Sp} {E : L2.St → XK} (g : tl σ H fun vs H1 => ∀ x dx, H1 x = none → H1 dx = none → dx ≠ x → sp (.ref x :: vs) (upd (upd H1 dx (.own x)) x (.ins C dx [])) (fun v H2 => v = .non ∧ Q (.ref x) H2) (E σ)) : tMk C sp E tl σ H Q := g
theorem w_lrg {t : L2.St → Hp → (Int → Int → Hp → Prop) → Prop} (g : t σ H fun a b H1 => RgOk a b ∧ ∀ q, H1 q = none → Q (.ref q) (upd H1 q (.lst (rgV a b)))) : tLstRg t σ H Q := g
theorem w_rg1 {R : Int → Int → Hp → Prop} (g : te σ H fun x H1 => ∃ n, x = .int n ∧ R 0 n H1) : tRg1 te σ H R := g
theorem w_rg2 {R : Int → Int → Hp → Prop} (g : ta σ H fun x H1 => tb σ H1 fun y H2 => ∃ i j, x = .int i ∧ y = .int j ∧ R i j H2) : tRg2 ta tb σ H R := g
theorem w_n1 {R : Int → Prop} (g : R i) : ∃ n, V.int i = .int n ∧ R n := ⟨i, rfl, g⟩
theorem w_n2 {R : Int → Int → Prop} (g : R i j) : ∃ a b, V.int i = .int a ∧ V.int j = .int b ∧ R a b := ⟨i, j, rfl, rfl, g⟩
theorem w_sl {r : V → Option Int → Option Int → Hp → VK → Prop} {tlo thi : TO} (g : te σ H fun x H1 => tlo σ H1 fun l H2 => thi σ H2 fun u H3 => r x l u H3 Q) : tSl r te tlo thi σ H Q := g
theorem w_np {R : Option Int → Hp → Prop} (g : R none H) : tNoPart σ H R := g
theorem w_pt {R : Option Int → Hp → Prop} (g : te σ H fun x H1 => ∃ i, x = .int i ∧ R (some i) H1) : tPart te σ H R := g
theorem w_tr {R : Bool → Hp → Prop} (g : te σ H fun x H' => ∃ k, TruV K x H' k ∧ R k H') : tTr K te σ H R := g
theorem w_truL {R : Bool → Prop} (h : SqL K H p xs) (g : R (!xs.isEmpty)) : ∃ k, TruV K (.ref p) H k ∧ R k := ⟨_, .inl ⟨xs, h, rfl⟩, g⟩
theorem w_gn {k : Nat} {R : L2.St → Hp → Prop} (g : R (σ.set k (some v)) H) : gName k v σ H R := g
theorem w_g2 {T : Addr} {g1 g2 : TG} {R : L2.St → Hp → Prop} (h : SqT K H T [x, y]) (g : g1 x σ H fun σ1 H1 => g2 y σ1 H1 R) : gTup K 2 (gCons g1 (gCons g2 gNil)) (.ref T) σ H R :=
  ⟨T, [x, y], rfl, h, rfl, x, [y], rfl, by
    show g1 x σ H _
    exact (funext fun σ1 => funext fun H1 => propext ⟨fun z => ⟨y, [], rfl, by
      show g2 y σ1 H1 _
      exact (funext fun σ2 => funext fun H2 => propext ⟨fun z => ⟨rfl, z⟩, fun z => z.2⟩ : R = fun σ2 H2 => ([] : List V) = [] ∧ R σ2 H2) ▸ z⟩, fun ⟨v, r, e, z⟩ => by
      injection e with e1 e2
      subst e1 e2
      exact (funext fun σ2 => funext fun H2 => propext ⟨fun z => z.2, fun z => ⟨rfl, z⟩⟩ : (fun σ2 H2 => ([] : List V) = [] ∧ R σ2 H2) = R) ▸ z⟩ : (fun σ1 H1 => g2 y σ1 H1 R) = fun σ1 H1 => gCons g2 gNil [y] σ1 H1 R) ▸ g⟩
theorem w_g1 {g1 : TG} {R : L2.St → Hp → Prop} (g : g1 x σ H R) : gCons g1 gNil [x] σ H R := ⟨x, [], rfl, by
  have e : (fun σ2 H2 => gNil [] σ2 H2 R) = R := funext fun σ2 => funext fun H2 => propext ⟨fun z => z.2, fun z => ⟨rfl, z⟩⟩
  rw [e]
  exact g⟩
theorem w_gc {g1 : TG} {ts : TGs} {R : L2.St → Hp → Prop} (g : g1 x σ H fun σ1 H1 => ts (y :: xs) σ1 H1 R) : gCons g1 ts (x :: y :: xs) σ H R := ⟨x, y :: xs, rfl, g⟩
theorem w_gt {T : Addr} {k : Nat} {ts : TGs} {R : L2.St → Hp → Prop} (h : SqT K H T xs) (hl : xs.length = k) (g : ts xs σ H R) : gTup K k ts (.ref T) σ H R := ⟨T, xs, rfl, h, hl, g⟩
/-- a new object: the heap goes on under a name -/
def NwU (o : HO) (H : Hp) (Q : VK) : Prop := ∀ q, H q = none → Q (.ref q) (upd H q o)
theorem nw {o : HO} (g : ∀ q H', H q = none → Kp [] H H' → H' q = some o → Q (.ref q) H') : NwU o H Q := fun q n => g q _ n (Kp.new n) upd_same
theorem nwu {o : HO} (g : ∀ q, H q = none → Q (.ref q) (upd H q o)) : NwU o H Q := g
theorem w_lstN (g : tl σ H fun xs H1 => xs.length ≤ sizeLine ∧ NwU (.lst xs) H1 Q) : tLst tl σ H Q := g
theorem w_tupN (g : tl σ H fun xs H1 => xs.length ≤ sizeLine ∧ NwU (.tup xs) H1 Q) : tTup tl σ H Q := g
theorem w_lrgN {t : L2.St → Hp → (Int → Int → Hp → Prop) → Prop} (g : t σ H fun a b H1 => RgOk a b ∧ NwU (.lst (rgV a b)) H1 Q) : tLstRg t σ H Q := g
theorem w_addLN (h1 : H p = some (.lst xs)) (h2 : H q = some (.lst ys)) (h : xs.length + ys.length ≤ sizeLine) (g : ∀ r H', H r = none → Kp [] H H' → H' r = some (.lst (xs ++ ys)) → Q (.ref r) H') : rAddA (.ref p) (.ref q) H Q := w_addL h1 h2 h (nw g)
theorem w_mulLN (h1 : H p = some (.lst xs)) (h2 : -(2 ^ 63) ≤ j) (h3 : j < 2 ^ 63) (h : xs.length * j.toNat ≤ sizeLine) (g : ∀ r H', H r = none → Kp [] H H' → H' r = some (.lst (List.replicate j.toNat xs).flatten) → Q (.ref r) H') : rMulA (.ref p) (.int j) H Q := w_mulL h1 h2 h3 h (nw g)
theorem w_listLN (h : SqL K H p xs) (g : ∀ l H', H l = none → Kp [] H H' → H' l = some (.lst xs) → Q (.ref l) H') : rListA K [.ref p] H Q := w_listL h (nw g)
theorem w_listTN (h : SqT K H p xs) (g : ∀ l H', H l = none → Kp [] H H' → H' l = some (.lst xs) → Q (.ref l) H') : rListA K [.ref p] H Q := w_listT h (nw g)
theorem w_sT {C dx : Addr} {fs : List (Str × V)} {f : Str} {R : Hp → Prop} {v : V} (cl : Cls K C) (na : NoAttr K C f) (h : H p = some (.ins C dx fs)) (hl : fs.length < 1000) (g : ∀ H', Kp [p] H H' → H' p = some (.ins C dx (putF f v fs)) → R H') :
    ∃ a C dx fs, V.ref p = .ref a ∧ H a = some (.ins C dx fs) ∧ Cls K C ∧ NoAttr K C f ∧ fs.length < 1000 ∧ R (upd H a (.ins C dx (putF f v fs))) := ⟨p, C, dx, fs, rfl, h, cl, na, hl, g _ (Kp.put (by simp)) upd_same⟩
theorem w_seT {R : Hp → Prop} (h : H p = some (.lst xs)) (ha : ixN xs.length i = some n) (g : ∀ H', Kp [p] H H' → H' p = some (.lst (xs.set n v)) → R H') : rSetL (.ref p) (.int i) v H R := w_setL h ha (g _ (Kp.put (by simp)) upd_same)
theorem w_apT (h : H p = some (.lst xs)) (hl : xs.length < sizeLine) (g : ∀ H', Kp [p] H H' → H' p = some (.lst (xs ++ [v])) → Q .non H') : rAppend (.ref p) [v] H Q := w_append h hl (g _ (Kp.put (by simp)) upd_same)
/-- an object of a class, made: its dict, the object -/
def MkU (C : Addr) (sp : Sp) (E : XK) (vs : List V) (H : Hp) (Q : VK) : Prop := ∀ x dx, H x = none → H dx = none → dx ≠ x → sp (.ref x :: vs) (upd (upd H dx (.own x)) x (.ins C dx [])) (fun v H2 => v = .non ∧ Q (.ref x) H2) E
theorem w_mkN {C : Addr} {sp : Sp} {E : L2.St → XK} (g : tl σ H fun vs H1 => MkU C sp (E σ) vs H1 Q) : tMk C sp E tl σ H Q := g
theorem mk {C : Addr} {sp : Sp} {E : XK} {vs : List V} (g : ∀ x dx H', H x = none → H' x = some (.ins C dx []) → Kp [] H H' → sp (.ref x :: vs) H' (fun v H2 => v = .non ∧ Q (.ref x) H2) E) : MkU C sp E vs H Q :=
  fun x dx n1 n2 ne => g x dx _ n1 upd_same ((Kp.new n2).trans (Kp.new (by rw [upd_ne (Ne.symm ne)]; exact n1)))
theorem w_r1 {R : Int → Prop} {n : Int} (h : -(2 ^ 62) ≤ n ∧ n < 2 ^ 62) (g : R n) : ∃ j : Int, [V.int n] = [.int j] ∧ -(2 ^ 62) ≤ j ∧ j < 2 ^ 62 ∧ R j := ⟨n, rfl, h.1, h.2, g⟩
theorem w_r2 {R : Int → Int → Prop} {a b : Int} (h : -(2 ^ 62) ≤ a ∧ a < 2 ^ 62 ∧ -(2 ^ 62) ≤ b ∧ b < 2 ^ 62) (g : R a b) : ∃ i j : Int, [V.int a, V.int b] = [.int i, .int j] ∧ (-(2 ^ 62) ≤ i ∧ i < 2 ^ 62 ∧ -(2 ^ 62) ≤ j ∧ j < 2 ^ 62) ∧ R i j := ⟨a, b, rfl, h, g⟩
theorem w_yes {R : Bool → Hp → Prop} (g : R true H) : tYes σ H R := g
theorem ref_ne : V.ref p ≠ .non := fun z => by cases z
theorem int_ne : V.int i ≠ .non := fun z => by cases z
theorem at_0 : atI (x :: xs) 0 = some x := by
  rw [atI_pos (by omega) (by rw [List.length_cons]; omega)] <;> rfl
theorem w_l1 {R : Addr → Prop} (h : SqL K H p xs) (g : R p) : ∃ a, V.ref p = .ref a ∧ (∃ xs, SqL K H a xs) ∧ R a := ⟨p, rfl, ⟨xs, h⟩, g⟩
/-- a field of a standing -/
theorem w_fR {r l o : Addr} {s : Sd} {R : V → Prop} (cl : Cls K (He.ga K "Links")) (na : NoAttr K (He.ga K "Links") "_rights") (a : LinksAt K H p r l o s) (g : R (.ref r)) :
    ∃ a C dx fs v, V.ref p = .ref a ∧ H a = some (.ins C dx fs) ∧ Cls K C ∧ NoAttr K C "_rights" ∧ fs.lookup ("_rights" : Str) = some v ∧ R v := by
  obtain ⟨dx, h⟩ := a.ob
  exact ⟨p, _, dx, _, _, rfl, h, cl, na, fl_R _ _ _ _, g⟩
theorem w_fL {r l o : Addr} {s : Sd} {R : V → Prop} (cl : Cls K (He.ga K "Links")) (na : NoAttr K (He.ga K "Links") "_lefts") (a : LinksAt K H p r l o s) (g : R (.ref l)) :
    ∃ a C dx fs v, V.ref p = .ref a ∧ H a = some (.ins C dx fs) ∧ Cls K C ∧ NoAttr K C "_lefts" ∧ fs.lookup ("_lefts" : Str) = some v ∧ R v := by
  obtain ⟨dx, h⟩ := a.ob
  exact ⟨p, _, dx, _, _, rfl, h, cl, na, fl_L _ _ _ _, g⟩
theorem w_fO {r l o : Addr} {s : Sd} {R : V → Prop} (cl : Cls K (He.ga K "Links")) (na : NoAttr K (He.ga K "Links") "_out") (a : LinksAt K H p r l o s) (g : R (.ref o)) :
    ∃ a C dx fs v, V.ref p = .ref a ∧ H a = some (.ins C dx fs) ∧ Cls K C ∧ NoAttr K C "_out" ∧ fs.lookup ("_out" : Str) = some v ∧ R v := by
  obtain ⟨dx, h⟩ := a.ob
  exact ⟨p, _, dx, _, _, rfl, h, cl, na, fl_O _ _ _ _, g⟩
theorem w_fS {r l o : Addr} {s : Sd} {R : V → Prop} (cl : Cls K (He.ga K "Links")) (na : NoAttr K (He.ga K "Links") "size") (a : LinksAt K H p r l o s) (g : R (.int s.n)) :
    ∃ a C dx fs v, V.ref p = .ref a ∧ H a = some (.ins C dx fs) ∧ Cls K C ∧ NoAttr K C "size" ∧ fs.lookup ("size" : Str) = some v ∧ R v := by
  obtain ⟨dx, h⟩ := a.ob
  exact ⟨p, _, dx, _, _, rfl, h, cl, na, fl_size _ _ _ _, g⟩
/-- .. of an object with the fields of a standing -/
theorem w_oR {dx : Addr} {n r l o : V} {R : V → Prop} (cl : Cls K (He.ga K "Links")) (na : NoAttr K (He.ga K "Links") "_rights") (h : H p = some (.ins (He.ga K "Links") dx (fl n r l o))) (g : R r) :
    ∃ a C dx fs v, V.ref p = .ref a ∧ H a = some (.ins C dx fs) ∧ Cls K C ∧ NoAttr K C "_rights" ∧ fs.lookup ("_rights" : Str) = some v ∧ R v := ⟨p, _, dx, _, _, rfl, h, cl, na, fl_R _ _ _ _, g⟩
theorem w_oL {dx : Addr} {n r l o : V} {R : V → Prop} (cl : Cls K (He.ga K "Links")) (na : NoAttr K (He.ga K "Links") "_lefts") (h : H p = some (.ins (He.ga K "Links") dx (fl n r l o))) (g : R l) :
    ∃ a C dx fs v, V.ref p = .ref a ∧ H a = some (.ins C dx fs) ∧ Cls K C ∧ NoAttr K C "_lefts" ∧ fs.lookup ("_lefts" : Str) = some v ∧ R v := ⟨p, _, dx, _, _, rfl, h, cl, na, fl_L _ _ _ _, g⟩
theorem w_oO {dx : Addr} {n r l o : V} {R : V → Prop} (cl : Cls K (He.ga K "Links")) (na : NoAttr K (He.ga K "Links") "_out") (h : H p = some (.ins (He.ga K "Links") dx (fl n r l o))) (g : R o) :
    ∃ a C dx fs v, V.ref p = .ref a ∧ H a = some (.ins C dx fs) ∧ Cls K C ∧ NoAttr K C "_out" ∧ fs.lookup ("_out" : Str) = some v ∧ R v := ⟨p, _, dx, _, _, rfl, h, cl, na, fl_O _ _ _ _, g⟩
/-- a field of an object is set -/
theorem w_st {C dx : Addr} {fs : List (Str × V)} {f : Str} {R : Hp → Prop} {v : V} (cl : Cls K C) (na : NoAttr K C f) (h : H p = some (.ins C dx fs)) (hl : fs.length < 1000) (g : R (upd H p (.ins C dx (putF f v fs)))) :
    ∃ a C dx fs, V.ref p = .ref a ∧ H a = some (.ins C dx fs) ∧ Cls K C ∧ NoAttr K C f ∧ fs.length < 1000 ∧ R (upd H a (.ins C dx (putF f v fs))) := ⟨p, C, dx, fs, rfl, h, cl, na, hl, g⟩
/-- a method of a standing -/
theorem w_me {r l o : Addr} {s : Sd} {m : Str} {R : Prop} (a : LinksAt K H p r l o s) (hm : ∀ n r l o : V, (fl n r l o).lookup m = none) (g : R) : ∃ a dx fs, V.ref p = .ref a ∧ H a = some (.ins (He.ga K "Links") dx fs) ∧ fs.lookup m = none ∧ R := by
  obtain ⟨dx, h⟩ := a.ob
  exact ⟨p, dx, _, rfl, h, hm _ _ _ _, g⟩
end
/-- a method's name is none of the fields -/
theorem no_m {m : Str} (h1 : ¬ m = "size" := by decide +kernel) (h2 : ¬ m = "_rights" := by decide +kernel) (h3 : ¬ m = "_lefts" := by decide +kernel) (h4 : ¬ m = "_out" := by decide +kernel) (n r l o : V) : (fl n r l o).lookup m = none := fl_no n r l o h1 h2 h3 h4
theorem natAbs_if (i : Int) : (if i < 0 then -i else i) = (i.natAbs : Int) := by
  split <;> omega
end G

set_option Elab.async false
set_option linter.all false
set_option maxRecDepth 100000
set_option maxHeartbeats 4000000
/-! == by an own __eq__, any answer. -/
namespace G
open PySem PySem.Spec PyProof.Rows L2
section
variable {X : Cx} {j k : Nat} {ps : List Str} {sp : Sp} {E : XK} {C f : Addr} {fd : FuncData}
def rOwn (C : Addr) (sp : Sp) (E : XK) : R2 := fun x y H Q => ∃ a b dx dy fs gs, x = .ref a ∧ y = .ref b ∧ H a = some (.ins C dx fs) ∧ H b = some (.ins C dy gs) ∧ sp [.ref a, .ref b] H (fun v H' => (∃ k, v = .bl k) ∧ Q v H') E
theorem op_own (F : FnOk X.prog X.w X.K X.mg X.base (L2N.CX X.prog X.w) k f fd ps sp) (hb : Binds X.K fd ps []) (hr : Room j X.A) (hk : k ≤ j) (hx : PAt X (fun _ => E))
    (hs : PySem.W.findIn X.K (.ref C) "__eq__" = some (some (.ref f))) (hf : PySem.W.isFn X.K (.ref f) = true) : OpR X (compareOp .Eq) (rOwn C sp E) := by
  intro pins s σ H x y u v Q I rx ry hq
  obtain ⟨a, b, dx, dy, fs, gs, rfl, rfl, ha, hb', q⟩ := hq
  cases rx
  cases ry
  obtain ⟨mA, J, _⟩ := ins_get I.hok ha
  obtain ⟨mB, J', _⟩ := ins_get I.hok hb'
  obtain ⟨od, J, _⟩ := J.look
  obtain ⟨od', J', _⟩ := J'.look
  obtain ⟨m, hF⟩ := I.fr
  show wpAny (model X.prog X.w) X.A (richCompare .Eq (.ref a) (.ref b)) (EP X pins σ Q) X.xe s
  refine PySem.W.cmp_K (op := .Eq) (tb := .ref C) hr.units0 hF I.ok.mod.kin J J'.type (by simp [PySem.W.notFirst]) hs hf ?_
  refine wpAny_mono (run_fnS (E := fun _ => E) (us := [.ref a, .ref b]) (vs := [.ref a, .ref b]) F (hr.mono hk) hb (hx σ) I (.cons rfl (.cons rfl .nil)) q) (fun r s' z => ?_) fun _ _ x => x
  obtain ⟨w, H', I', rw_, ⟨kk, rfl⟩, qq⟩ := z
  cases rw_
  exact ⟨.bl kk, H', I', rfl, qq⟩
end
end G
namespace G
open PySem PySem.Spec PyProof.Rows L2
section
variable {X : Cx} {j k : Nat} {ps : List Str} {sp : Sp} {E : XK} {C : Addr}
/-- == of data, or by the own __eq__ of the class at C -/
def rEqO (K : PySem.W.Frag) (C : Addr) (sp : Sp) (E : XK) : R2 := fun x y H Q => rEqA K x y H Q ∨ rOwn C sp E x y H Q
theorem op_eqO {i : Nat} (c : Met X.prog X.w X.K X.mg X.base k C "__eq__" ps sp) (hr : Room j X.A) (hk : k ≤ j) (hx : PAt X (fun _ => E)) : OpR X (compareOp .Eq) (rEqO X.K C sp E) := by
  obtain ⟨f, fd, F, hm, hb⟩ := c.ex
  exact OpR.or (op_eqA hr) (op_own F hb hr hk hx hm.at_ hm.fn)
end
end G
namespace G
open PySem PySem.Spec PyProof.Rows L2
/-- isinstance of an instance of an own class -/
def tyB (x : Str) (K : PySem.W.Frag) : Bool := He.eqO (PySem.W.findIn K (.ref (He.ga K x)) "__class__") (some (some (.builtin "object.__class__"))) && eqT (PySem.W.mroIn K (He.ga K x) (.type "object")) (some true)
theorem tyB_ok {x : Str} {K : PySem.W.Frag} (q : tyB x K = true) : PySem.W.findIn K (.ref (He.ga K x)) "__class__" = some (some (.builtin "object.__class__")) ∧ PySem.W.mroIn K (He.ga K x) (.type "object") = some true := by
  obtain ⟨q1, q2⟩ := He.ba q
  exact ⟨He.eqO_ok q1, of_decide_eq_true q2⟩
end G

set_option Elab.async false
set_option linter.all false
set_option maxRecDepth 100000
set_option maxHeartbeats 4000000
/-! More built-ins: str, tuple, is True, pop, insert, extend. -/
namespace G
open PySem PySem.Spec PyProof.Rows L2
def rStrA : List V → Hp → VK → Prop := fun xs H Q => ∃ i, xs = [.int i] ∧ i.natAbs.log2 < 1920 ∧ Q (.str (toString i)) H
def rTupA (K : PySem.W.Frag) : List V → Hp → VK → Prop := fun xs H Q => ∃ p ys, xs = [.ref p] ∧ ((SqL K H p ys ∧ ∀ l, H l = none → Q (.ref l) (upd H l (.tup ys))) ∨ (SqT K H p ys ∧ Q (.ref p) H))
/-- x is True, x is False, of a truth value -/
def rIsB (neg : Bool) : R2 := fun x y H Q => ∃ b c, x = .bl b ∧ y = .bl c ∧ Q (.bl (neg != decide (b = c))) H
section
variable {X : Cx}
theorem call_strA : CallR X (.type "str") rStrA := call_str_int
theorem call_tupA : CallR X (.type "tuple") (rTupA X.K) := call_tuple_of
theorem op_isB : OpR X (compareOp .Is) (rIsB false) := by
  intro pins s σ H x y v u Q I rx ry h
  obtain ⟨b, c, rfl, rfl, q⟩ := h
  cases rx
  cases ry
  show wpAny _ _ ((isSame (Value.bool b) (Value.bool c)) >>= fun z => pure (Value.bool z)) _ _ s
  refine wpAny_bind (wpAny_isSame_plain rfl (wpAny_pure (fin_bl I q ?_)))
  cases b <;> cases c <;> rfl
theorem op_isnotB : OpR X (compareOp .IsNot) (rIsB true) := by
  intro pins s σ H x y v u Q I rx ry h
  obtain ⟨b, c, rfl, rfl, q⟩ := h
  cases rx
  cases ry
  show wpAny _ _ ((isSame (Value.bool b) (Value.bool c)) >>= fun z => pure (Value.bool (!z))) _ _ s
  refine wpAny_bind (wpAny_isSame_plain rfl (wpAny_pure (fin_bl I q ?_)))
  cases b <;> cases c <;> rfl
end
section
variable {K : PySem.W.Frag} {σ : L2.St} {H : Hp} {Q : VK} {ta tb tc te : TE} {x y v : V} {i j : Int} {n m : Nat} {p q : Addr} {xs ys : List V} {b c : Bool}
theorem w_str (h : i.natAbs.log2 < 1920) (g : Q (.str (toString i)) H) : rStrA [.int i] H Q := ⟨i, rfl, h, g⟩
theorem w_tuA (h : SqL K H p xs) (g : ∀ l H', H l = none → Kp [] H H' → H' l = some (.tup xs) → Q (.ref l) H') : rTupA K [.ref p] H Q := ⟨p, xs, rfl, .inl ⟨h, nw g⟩⟩
theorem w_isB (g : Q (.bl (decide (b = c))) H) : rIsB false (.bl b) (.bl c) H Q := ⟨b, c, rfl, rfl, by
  have e : (false != decide (b = c)) = decide (b = c) := by cases decide (b = c) <;> rfl
  rw [e]; exact g⟩
theorem w_isnB (g : Q (.bl (!decide (b = c))) H) : rIsB true (.bl b) (.bl c) H Q := ⟨b, c, rfl, rfl, by
  have e : (true != decide (b = c)) = !decide (b = c) := by cases decide (b = c) <;> rfl
  rw [e]; exact g⟩
theorem w_pop (h : H p = some (.lst xs)) (hy : xs[xs.length - 1]? = some y) (g : ∀ H', Kp [p] H H' → H' p = some (.lst xs.dropLast) → Q y H') : rPop (.ref p) [] H Q := ⟨p, xs, y, rfl, rfl, h, hy, g _ (Kp.put (by simp)) upd_same⟩
theorem w_popAt {k : Nat} (h : H p = some (.lst xs)) (h1 : -(2 ^ 63) ≤ i) (h2 : i < 2 ^ 63) (hk : seqIndex? i xs.length = some k) (hy : xs[k]? = some y) (g : ∀ H', Kp [p] H H' → H' p = some (.lst (xs.eraseIdx k)) → Q y H') : rPopAt (.ref p) [.int i] H Q :=
  ⟨p, xs, i, k, y, rfl, rfl, h, h1, h2, hk, hy, g _ (Kp.put (by simp)) upd_same⟩
theorem w_inL {neg : Bool} (h : SqL K H p xs) (hx : flatV x = true) (ha : xs.all flatV = true) (g : Q (.bl (if neg then !inV x xs else inV x xs)) H) : rIn K neg x (.ref p) H Q := ⟨p, xs, rfl, .inl h, hx, ha, g⟩
theorem w_inT {neg : Bool} (h : SqT K H p xs) (hx : flatV x = true) (ha : xs.all flatV = true) (g : Q (.bl (if neg then !inV x xs else inV x xs)) H) : rIn K neg x (.ref p) H Q := ⟨p, xs, rfl, .inr h, hx, ha, g⟩
theorem flatI : ∀ l : List Int, (l.map V.int).all flatV = true
  | [] => rfl
  | a :: l => by rw [List.map_cons, List.all_cons, flatI l]; rfl
end
theorem strOk_of (s : String) : PyData.strOk (Str.ofString s) = true := by
  rw [Str.ofString_eq_toList]
  unfold PyData.strOk
  rw [Array.all_eq_true]
  intro i h
  have h' : i < s.toList.length := by simpa using h
  simp only [List.getElem_toArray, List.getElem_map, decide_eq_true_eq]
  have v := (s.toList[i]'h').valid
  rcases v with v | v
  · show (s.toList[i]'h').val.toNat < _
    have : (s.toList[i]'h').val.toNat < 0xd800 := v
    omega
  · exact v.2
end G

set_option Elab.async false
set_option linter.all false
set_option maxRecDepth 100000
set_option maxHeartbeats 4000000
/-! Static methods, texts, more in a handler; a head with defs at any address. -/
namespace G
open PySem PySem.Spec PyProof.Rows L2

/-! ### a static method by its class -/
structure Smt (P : Program) (w : World) (K : PySem.W.Frag) (mg : Str → Option Value) (base : Heap) (k : Nat) (C : Addr) (m : Str) (ps : List Str) (sp : Sp) : Prop where
  ex : ∃ (f p : Addr) (fd : FuncData) (rest : List Value), FnOk P w K mg base (L2N.CX P w) k f fd ps sp ∧ ClX.CRead K C (.type "type") ∧ PySem.W.findCls K (.ref C) (.type "type") m = some (.get (.builtin "staticmethod.__get__") (.ref p) .none (.ref C)) ∧
    PySem.W.recIn K p "staticmethod" = some (.ref f :: rest) ∧ PySem.W.keepIn K (.ref f) = true ∧ Binds K fd ps []
section
variable {X : Cx} {j k : Nat} {m : Str} {ps : List Str} {sp : Sp} {C : Addr} {pos apos : Pos} {e o : Expr} {es : List Expr} {t : TA} {E : L2.St → XK}
theorem pe_sm {pl : Sem Bool} (c : Smt X.prog X.w X.K X.mg X.base k C m ps sp) (hr : Room j X.A) (hk : k ≤ j) (hx : PAt X E) (he : PE X o (tC (.ref C))) (ha : PA X (e :: es) t)
    (hst : starEach (e :: es) X.env = (false, eval e X.env) :: starEach es X.env := by rfl) (hpl : (backTo pos (starEach es X.env)).any (·.1) = false := by rfl)
    (ht : eval (.Call (.Attribute o m apos) (e :: es) [] pos) X.env = (do
      let ov ← eval o X.env
      standAt apos.atName
      let (f, first) ← holding [ov] (getMethod ov m pl)
      callWith pos f first (backTo pos (starEach (e :: es) X.env)) (backToKw pos (keywordEach [] X.env))) := by rfl) : PE X (.Call (.Attribute o m apos) (e :: es) [] pos) (tCl sp E t) := by
  obtain ⟨f, p, fd, rest, F, r, e1, e2, kp, hb⟩ := c.ex
  refine ⟨fun pins s σ H Q I h => PySem.W.methodCall_KW (pl := pl) (thn (he.run pins s σ H (fun x H1 => x = V.ref C ∧ tCl sp E t σ H1 Q) I ⟨rfl, h⟩) fun u s1 hh => ?_) ht⟩
  obtain ⟨x, H1, I1, rx, ex, q⟩ := hh
  subst ex
  obtain rfl : u = Value.ref C := rx
  refine PySem.W.method_cls I1.kIn r.ga (PySem.W.cls_bind I1.kIn r.rd e1 (wpAny_call (PySem.W.sm_get (s := { s1 with toks := s1.toks + 1 }) I1.kIn e2 (PySem.W.handed_on rfl ?_))))
  have I2 := I1.tok (s1.toks + 1)
  refine PySem.W.callWith_K (first := []) (h₀ := X.base) I2.ok.mod.kin kp (thn (ha.run pos pins _ σ H1 _ I2 q) fun us s2 hh => ?_) hst hpl
  obtain ⟨vs, H2, I3, rv, q2⟩ := hh
  exact ⟨I3.kIn, run_fnS (E := E) (us := us) (vs := vs) F (hr.mono hk) hb (hx σ) I3 rv q2⟩
end
/-- C.m is a staticmethod -/
def smB (x m : Str) (K : PySem.W.Frag) : Bool := PySem.W.readsIn K (He.ga K x) (.type "type") && (He.eqO (PySem.W.specialIn K (.ref (He.ga K x)) "__getattribute__") (some (some (.builtin "type.__getattribute__"))) &&
  He5.wrapB K (He.ga K x) "staticmethod" "staticmethod.__get__" m)
theorem smB_ok {K : PySem.W.Frag} {x m : Str} (q : smB x m K = true) : ClX.CRead K (He.ga K x) (.type "type") ∧ ∃ (p : Addr) (rest : List Value), PySem.W.findCls K (.ref (He.ga K x)) (.type "type") m = some (.get (.builtin "staticmethod.__get__") (.ref p) .none (.ref (He.ga K x))) ∧
    PySem.W.recIn K p "staticmethod" = some (.ref (He5.wf K (He.ga K x) "staticmethod" m) :: rest) := by
  obtain ⟨q1, q⟩ := He.ba q
  obtain ⟨q2, q3⟩ := He.ba q
  obtain ⟨h1, rest, h2⟩ := He5.wrapB_ok q3
  exact ⟨⟨q1, He.eqO_ok q2⟩, _, rest, h1, h2⟩
theorem smt_of {P : Program} {w : World} {K : PySem.W.Frag} {mg : Str → Option Value} {base : Heap} {k : Nat} {x m : Str} {ps : List Str} {sp : Sp} {fd : FuncData} (q : ClX.CRead K (He.ga K x) (.type "type") ∧ ∃ (p : Addr) (rest : List Value), PySem.W.findCls K (.ref (He.ga K x)) (.type "type") m = some (.get (.builtin "staticmethod.__get__") (.ref p) .none (.ref (He.ga K x))) ∧
    PySem.W.recIn K p "staticmethod" = some (.ref (He5.wf K (He.ga K x) "staticmethod" m) :: rest)) (F : FnOk P w K mg base (L2N.CX P w) k (He5.wf K (He.ga K x) "staticmethod" m) fd ps sp) (kp : PySem.W.keepIn K (.ref (He5.wf K (He.ga K x) "staticmethod" m)) = true) (hb : Binds K fd ps []) :
    Smt P w K mg base k (He.ga K x) m ps sp := by
  obtain ⟨r, p, rest, h1, h2⟩ := q
  exact ⟨_, p, fd, rest, F, r, h1, h2, kp, hb⟩

/-! ### the head, defs at any address -/
def obsY (fa : List Chk) (fn : List He5.DefA) (K : PySem.W.Frag) : He.AlD := ((fa.all fun f => f K) && fn.all fun d => d.ok K, fn.map fun d => He5.fnA K (d.at_ K))
def valY (fn : List He5.DefA) : He.AlD := (true, fn.map He5.DefA.val)
def SaysY (fa : List Chk) (fn : List He5.DefA) (K : PySem.W.Frag) : Prop := obsY fa fn K = valY fn
def obsYG (n : Nat) (fa : List Chk) (fn : List He5.DefA) (g : Addr → Option Obj) : He.AlD := obsY fa fn (He.frG g (He.asD g n ++ [cStatics]))
def hookY (n : Nat) (fa : List Chk) (fn : List He5.DefA) : PySem.W.Hook where
  α := He.AlD
  obs := fun s => obsYG n fa fn s.heap.get?
  val := fun _ => valY fn
  says := fun _ h => ∃ K : PySem.W.Frag, K.In h ∧ SaysY fa fn K
  of := fun _ _ e => ⟨_, He.frG_in, e⟩
  keeps := fun _ _ _ ⟨K, hK, c⟩ k => ⟨K, PySem.W.Frag.In.keeps hK k, c⟩
theorem obsYG_eq {n : Nat} {fa : List Chk} {fn : List He5.DefA} {g : Addr → Option Obj} {s : Shared} (h : ∀ a, g a = s.heap.get? a) : obsYG n fa fn g = (hookY n fa fn).obs s := by
  have e : g = s.heap.get? := funext h
  rw [e] <;> rfl
section
variable {fa : List Chk} {fn : List He5.DefA} {K : PySem.W.Frag}
theorem SaysY.fact (c : SaysY fa fn K) (i : Nat) {f : Chk} (h : fa[i]? = some f := by rfl) : f K = true := by
  have c1 := (He.ba (show ((fa.all fun f => f K) && fn.all fun d => d.ok K) = true from congrArg (fun z : He.AlD => z.1) c)).1
  exact List.all_eq_true.mp c1 f (List.mem_of_getElem? h)
theorem SaysY.def_ (c : SaysY fa fn K) (i : Nat) {d : He5.DefA} (h : fn[i]? = some d := by rfl) : ∃ fd, FunD K d.name d.qual d.params d.body d.scope (d.dvs K) (d.kws K) (d.at_ K) fd := by
  have c2 := (He.ba (show ((fa.all fun f => f K) && fn.all fun d => d.ok K) = true from congrArg (fun z : He.AlD => z.1) c)).2
  have e : fn.map (fun d => He5.fnA K (d.at_ K)) = fn.map He5.DefA.val := congrArg (fun z : He.AlD => z.2) c
  have e2 : (fn.map fun d => He5.fnA K (d.at_ K))[i]? = (fn.map He5.DefA.val)[i]? := by rw [e]
  rw [List.getElem?_map, List.getElem?_map, h] at e2
  exact He5.DefA.funD (Option.some.inj e2) (List.all_eq_true.mp c2 d (List.mem_of_getElem? h))
end

/-! ### where an exception is handled -/
section
variable {X : Cx}
theorem op_eqAH {k : Nat} (hr : L2H.RoomH k X.A) : OpR X (compareOp .Eq) (rEqA X.K) := OpR.or op_eq (op_eqD (by have := hr.un; omega))
theorem op_neAH {k : Nat} (hr : L2H.RoomH k X.A) : OpR X (compareOp .NotEq) (rNeA X.K) := OpR.or op_ne (op_neD (by have := hr.un; omega))
end

/-! ### texts -/
def rJoin (K : PySem.W.Frag) : V → List V → Hp → VK → Prop := fun x xs H Q => ∃ a p, ∃ ys : List Str, x = .str a ∧ xs = [.ref p] ∧ (SqL K H p (ys.map V.str) ∨ SqT K H p (ys.map V.str)) ∧
    (ys.map (·.length)).sum + ys.length * a.length ≤ 16777216 ∧ Q (.str (Txt.join a ys)) H
def rSplit : V → List V → Hp → VK → Prop := fun x xs H Q => ∃ a b, x = .str a ∧ xs = [.str b] ∧ (b.length == 0) = false ∧ a.length + 2 ≤ sizeLine ∧ rNewStrs (Txt.split a b) H Q
def rIntS : List V → Hp → VK → Prop := fun xs H Q => ∃ a n, xs = [.str a] ∧ PySem.intText? a = some n ∧ a.length ≤ 640 ∧ Q (.int n) H
section
variable {X : Cx} {o e : Expr} {to te : TE}
theorem pe_joinA {apos pos : Pos} (ho : PE X o to) (he : PE X e te) (hs : starEach [e] X.env = [(false, eval e X.env)] := by rfl) (hbase : attributeBase o "join" X.env (eval o X.env) = eval o X.env := by rfl) (hline : (apos.endLine == pos.line) = true := by rfl) :
    PE X (.Call (.Attribute o "join" apos) [e] [] pos) (tM1 (rJoin X.K) to te) := pe_join ho he hs hbase hline
theorem pe_splitA {apos pos : Pos} (ho : PE X o to) (he : PE X e te) (hs : starEach [e] X.env = [(false, eval e X.env)] := by rfl) (hbase : attributeBase o "split" X.env (eval o X.env) = eval o X.env := by rfl) (hline : (apos.endLine == pos.line) = true := by rfl) :
    PE X (.Call (.Attribute o "split" apos) [e] [] pos) (tM1 rSplit to te) := pe_split ho he hs hbase hline
theorem call_intS : CallR X (.type "int") rIntS := call_int_str
end
section
variable {K : PySem.W.Frag} {σ : L2.St} {H : Hp} {Q : VK} {ta tb tc te : TE} {x y v : V} {i j : Int} {n m : Nat} {p q : Addr} {xs ys : List V} {b c : Bool}
theorem w_m1 {r : V → List V → Hp → VK → Prop} (g : ta σ H fun x H1 => (∃ a, x = .str a) ∧ te σ H1 fun y H2 => r x [y] H2 Q) : tM1 r ta te σ H Q := g
theorem w_joinL {a : Str} {ss : List Str} (h : SqL K H p (ss.map V.str)) (hl : (ss.map (·.length)).sum + ss.length * a.length ≤ 16777216) (g : Q (.str (Txt.join a ss)) H) : rJoin K (.str a) [.ref p] H Q := ⟨a, p, ss, rfl, rfl, .inl h, hl, g⟩
theorem w_split {a b : Str} (hb : (b.length == 0) = false) (hl : a.length + 2 ≤ sizeLine) (g : ∀ l H', H l = none → Kp [] H H' → H' l = some (.lst ((Txt.split a b).map V.str)) → Q (.ref l) H') : rSplit (.str a) [.str b] H Q := ⟨a, b, rfl, rfl, hb, hl, nw g⟩
theorem w_intS {a : Str} {k : Int} (h : PySem.intText? a = some k) (hl : a.length ≤ 640) (g : Q (.int k) H) : rIntS [.str a] H Q := ⟨a, k, rfl, h, hl, g⟩
theorem w_exS {P : Prop} {a : Str} (g : P) : (∃ b, V.str a = .str b) ∧ P := ⟨⟨a, rfl⟩, g⟩
theorem w_inS {c : Nat} {z : Str} (g : Q (.bl (decide (c ∈ z.cps.toList))) H) : rInS (.str ⟨#[c]⟩) (.str z) H Q := ⟨c, z, rfl, rfl, g⟩
theorem w_iS {R : It → Hp → Prop} (g : ta σ H fun v H1 => ∃ x, v = .str x ∧ R (Its x) H1) : iStr ta σ H R := g
theorem w_gu {T : Addr} {k : Nat} {ts : TGs} {R : L2.St → Hp → Prop} (h : SqL K H T xs) (hl : xs.length = k) (g : ts xs σ H R) : gUnl K k ts (.ref T) σ H R := ⟨T, xs, rfl, h, hl, g⟩
end
end G

set_option Elab.async false
set_option linter.all false
set_option maxRecDepth 100000
set_option maxHeartbeats 4000000
/-! What a log writes down: last writes, last changes, the first loss. Promises of the defs that read logs. -/
namespace G
open PySem PySem.Spec PyProof.Rows L2

/-! ### the book -/
structure Bk where
  s : Sd
  k : Nat
  wr : List Int
  wl : List Int
  de : List Int
  ls : Option (Nat × Nat)
def lowN (s : Sd) (op : Int) : Nat := (gI s.L op.natAbs).toNat
def hiN (s : Sd) (op : Int) : Nat := (gI s.R op.natAbs).toNat - 1
def deS (s s' : Sd) (k : Nat) (de : List Int) (g : Nat) : List Int := if stT s g = stT s' g then de else de.set g (k : Int)
def lsS (s s' : Sd) (k g : Nat) (ls : Option (Nat × Nat)) : Option (Nat × Nat) := if ls = none ∧ stT s g ≠ stT s' g ∧ stT s' g = "lost" then some (k, g) else ls
def bstep (b : Bk) (op : Int) : Bk :=
  let s' := stepS b.s op
  ⟨s', b.k + 1, b.wr.set (lowN b.s op) (b.k : Int), b.wl.set (hiN b.s op) (b.k : Int), deS b.s s' b.k (deS b.s s' b.k b.de (lowN b.s op)) (hiN b.s op), lsS b.s s' b.k (hiN b.s op) (lsS b.s s' b.k (lowN b.s op) b.ls)⟩
def bk0 (n : Nat) : Bk := ⟨wholeS n, 0, List.replicate (n + 1) (-1), List.replicate (n + 1) (-1), List.replicate (n + 1) (-1), none⟩
def bkR (n : Nat) (log : List Int) : Bk := log.foldl bstep (bk0 n)
theorem bkR_snoc (n : Nat) (log : List Int) (op : Int) : bkR n (log ++ [op]) = bstep (bkR n log) op := by
  unfold bkR
  rw [List.foldl_append] <;> rfl
theorem bkR_s (n : Nat) (log : List Int) : (bkR n log).s = runS (wholeS n) log := by
  induction log using snoc_ind with
  | h0 => rfl
  | h1 l x ih => rw [bkR_snoc, runS_snoc, ← ih] <;> rfl
theorem bkR_k (n : Nat) (log : List Int) : (bkR n log).k = log.length := by
  induction log using snoc_ind with
  | h0 => rfl
  | h1 l x ih =>
    rw [bkR_snoc, List.length_append]
    show (bkR n l).k + 1 = _
    rw [ih] <;> rfl
theorem deS_len (s s' : Sd) (k : Nat) (de : List Int) (g : Nat) : (deS s s' k de g).length = de.length := by
  unfold deS
  split
  · rfl
  · exact List.length_set
theorem bkR_len (n : Nat) (log : List Int) : (bkR n log).wr.length = n + 1 ∧ (bkR n log).wl.length = n + 1 ∧ (bkR n log).de.length = n + 1 := by
  induction log using snoc_ind with
  | h0 => exact ⟨List.length_replicate, List.length_replicate, List.length_replicate⟩
  | h1 l x ih =>
    rw [bkR_snoc]
    obtain ⟨a, b, c⟩ := ih
    refine ⟨?_, ?_, ?_⟩
    · show (List.set _ _ _).length = _
      rw [List.length_set, a]
    · show (List.set _ _ _).length = _
      rw [List.length_set, b]
    · show (deS _ _ _ _ _).length = _
      rw [deS_len, deS_len, c]
/-- bounds of the two touched gaps -/
theorem touch_bd {s : Sd} (w : Wf s) {op : Int} (h : IsOp s.n op) : lowN s op < op.natAbs ∧ op.natAbs ≤ hiN s op ∧ hiN s op ≤ s.n ∧ gI s.L op.natAbs = (lowN s op : Int) ∧ gI s.R op.natAbs = (hiN s op : Int) + 1 := by
  unfold lowN hiN
  obtain ⟨r1, r2⟩ := w.rb op.natAbs h.2
  obtain ⟨l1, l2⟩ := w.lb op.natAbs h.1 (by have := h.2; omega)
  refine ⟨by omega, by omega, by omega, by omega, by omega⟩
/-- no other gap changes -/
theorem step_st {s : Sd} (w : Wf s) {op : Int} (h : IsOp s.n op) {g : Nat} (hl : g ≠ lowN s op) (hh : g ≠ hiN s op) : stT (stepS s op) g = stT s g := by
  obtain ⟨t1, t2, t3, t4, t5⟩ := touch_bd w h
  have e1 : gI (stepS s op).R g = gI s.R g := by
    show gI (s.R.set _ _) g = _
    rw [gI_set (by rw [w.lR, t4]; have := h.2; omega), t4, if_neg (by rw [Int.toNat_natCast]; exact hl)]
  have e2 : gI (stepS s op).L (g + 1) = gI s.L (g + 1) := by
    show gI (s.L.set _ _) (g + 1) = _
    rw [gI_set (by rw [w.lL, t5]; omega), t5, if_neg (by omega)]
  unfold stT
  rw [e1, e2]
/-- the lost gaps, ascending -/
theorem mem_lost {s : Sd} {g : Nat} : g ∈ lostL s ↔ g ≤ s.n ∧ stT s g = "lost" := by
  unfold lostL
  rw [List.mem_filter, List.mem_range]
  constructor
  · exact fun ⟨a, b⟩ => ⟨by omega, of_decide_eq_true b⟩
  · exact fun ⟨a, b⟩ => ⟨by omega, decide_eq_true b⟩
theorem lost_sorted (s : Sd) : (lostL s).Pairwise (· < ·) := by
  unfold lostL
  exact List.Pairwise.filter _ List.pairwise_lt_range
theorem lost_head {s : Sd} {g : Nat} {r : List Nat} (h : lostL s = g :: r) : g ≤ s.n ∧ stT s g = "lost" ∧ ∀ x, x ≤ s.n → stT s x = "lost" → g ≤ x := by
  have m : g ∈ lostL s := by rw [h]; exact List.mem_cons_self
  obtain ⟨a, b⟩ := mem_lost.mp m
  refine ⟨a, b, fun x h1 h2 => ?_⟩
  have mx : x ∈ lostL s := mem_lost.mpr ⟨h1, h2⟩
  have so := lost_sorted s
  rw [h] at mx so
  rcases List.mem_cons.mp mx with rfl | q
  · exact Nat.le_refl _
  · exact Nat.le_of_lt ((List.pairwise_cons.mp so).1 x q)
/-- while nothing is lost, a loss stands at a touched gap -/
theorem ls_step {s : Sd} (w : Wf s) {op : Int} (h : IsOp s.n op) (k : Nat) (e : lostL s = []) :
    lsS s (stepS s op) k (hiN s op) (lsS s (stepS s op) k (lowN s op) none) = ((lostL (stepS s op)).head?.map fun g => (k, g)) := by
  obtain ⟨t1, t2, t3, t4, t5⟩ := touch_bd w h
  have no : ∀ x, x ≤ s.n → stT s x ≠ "lost" := fun x h1 h2 => by
    have := mem_lost.mpr ⟨h1, h2⟩
    rw [e] at this
    cases this
  have nl := no (lowN s op) (by have := h.2; omega)
  have nh := no (hiN s op) t3
  have key : ∀ g, g ≤ s.n → ∀ l0, lsS s (stepS s op) k g l0 = if l0 = none ∧ stT (stepS s op) g = "lost" then some (k, g) else l0 := by
    intro g hg l0
    unfold lsS
    by_cases c1 : l0 = none
    · by_cases c2 : stT (stepS s op) g = "lost"
      · rw [if_pos ⟨c1, by rw [c2]; exact no g hg, c2⟩, if_pos ⟨c1, c2⟩]
      · rw [if_neg (fun z => c2 z.2.2), if_neg (fun z => c2 z.2)]
    · rw [if_neg (fun z => c1 z.1), if_neg (fun z => c1 z.1)]
  have kl := key (lowN s op) (by have := h.2; omega) none
  have only : ∀ x, x ≤ s.n → stT (stepS s op) x = "lost" → x = lowN s op ∨ x = hiN s op := by
    intro x hx hl
    by_cases c1 : x = lowN s op
    · exact .inl c1
    · by_cases c2 : x = hiN s op
      · exact .inr c2
      · rw [step_st w h c1 c2] at hl
        exact absurd hl (no x hx)
  cases hL : lostL (stepS s op) with
  | nil =>
    have n1 : stT (stepS s op) (lowN s op) ≠ "lost" := fun z => by
      have := mem_lost.mpr ⟨show lowN s op ≤ (stepS s op).n by rw [stepS_n]; have := h.2; omega, z⟩
      rw [hL] at this
      cases this
    have n2 : stT (stepS s op) (hiN s op) ≠ "lost" := fun z => by
      have := mem_lost.mpr ⟨show hiN s op ≤ (stepS s op).n by rw [stepS_n]; exact t3, z⟩
      rw [hL] at this
      cases this
    rw [kl, if_neg (fun z => n1 z.2), key _ t3, if_neg (fun z => n2 z.2)] <;> rfl
  | cons g r =>
    obtain ⟨g1, g2, g3⟩ := lost_head hL
    rw [stepS_n] at g1 g3
    show _ = some (k, g)
    by_cases c : stT (stepS s op) (lowN s op) = "lost"
    · have := g3 _ (by have := h.2; omega) c
      have eg : g = lowN s op := by
        rcases only g g1 g2 with q | q
        · exact q
        · omega
      rw [kl, if_pos ⟨rfl, c⟩, key _ t3, if_neg (fun z => by cases z.1), eg]
    · have eg : g = hiN s op := by
        rcases only g g1 g2 with q | q
        · exact absurd (q ▸ g2) c
        · exact q
      rw [kl, if_neg (fun z => c z.2), key _ t3, if_pos ⟨rfl, eg ▸ g2⟩, eg]
/-- the last change of a gap, when one more operation comes -/
theorem de_step {s : Sd} (w : Wf s) {op : Int} (h : IsOp s.n op) (k : Nat) {de : List Int} (hl : de.length = s.n + 1) {g : Nat} (hg : g ≤ s.n) :
    gI (deS s (stepS s op) k (deS s (stepS s op) k de (lowN s op)) (hiN s op)) g = if stT s g = stT (stepS s op) g then gI de g else (k : Int) := by
  obtain ⟨t1, t2, t3, t4, t5⟩ := touch_bd w h
  have key : ∀ de' : List Int, de'.length = s.n + 1 → ∀ x, x ≤ s.n → gI (deS s (stepS s op) k de' x) g = if g = x ∧ ¬ stT s g = stT (stepS s op) g then (k : Int) else gI de' g := by
    intro de' hl' x hx
    unfold deS
    by_cases c : stT s x = stT (stepS s op) x
    · rw [if_pos c, if_neg]
      rintro ⟨rfl, n⟩
      exact n c
    · rw [if_neg c, gI_set (by omega)]
      by_cases e : g = x
      · rw [if_pos e, if_pos ⟨e, by rw [e]; exact c⟩]
      · rw [if_neg e, if_neg (fun z => e z.1)]
  rw [key _ (by rw [deS_len, hl]) _ t3, key _ hl _ (by have := h.2; omega)]
  by_cases c : stT s g = stT (stepS s op) g
  · rw [if_pos c, if_neg (fun z => z.2 c), if_neg (fun z => z.2 c)]
  · rw [if_neg c]
    by_cases e2 : g = hiN s op
    · rw [if_pos ⟨e2, c⟩]
    · rw [if_neg (fun z => e2 z.1)]
      by_cases e1 : g = lowN s op
      · rw [if_pos ⟨e1, c⟩]
      · exact absurd (step_st w h e1 e2).symm c

/-! ### promises -/
section
variable (K : PySem.W.Frag)
/-- the errors of a log from the whole list -/
structure RepE (H : Hp) (size : Int) (log : List Int) (E : XK) : Prop where
  op : SizeOk size → LogE K (wholeS size.toNat) log E H
  sz : ¬ SizeOk size → ∀ H', Kp [] H H' → Ex K "BadSize" [("size", .int size)] E H'
theorem RepE.kp {K : PySem.W.Frag} {H H1 : Hp} {size : Int} {log : List Int} {E : XK} (r : RepE K H size log E) (k : Kp [] H H1) : RepE K H1 size log E :=
  ⟨fun ok i op h l b H' k' => r.op ok i op h l b H' (k.trans k'), fun b H' k' => r.sz b H' (k.trans k')⟩
def TouchAt (H : Hp) (n : Nat) (log : List Int) (xs : List V) : Prop := xs.length = log.length ∧ ∀ (i : Nat) (op : Int), log[i]? = some op → ∃ t, xs[i]? = some (.ref t) ∧ H t = some (.tup [.int (op.natAbs : Int), .int (gI (runS (wholeS n) (log.take i)).L op.natAbs), .int (gI (runS (wholeS n) (log.take i)).R op.natAbs)])
def sp__links_of_operations : Sp := fun vs H Q E => ∃ (a : Addr) (size : Int) (log : List Int), vs = [.int size, .ref a] ∧ SqL K H a (log.map V.int) ∧ log.length ≤ 1000 ∧ RepE K H size log E ∧
  (SizeOk size → Leg (wholeS size.toNat) log → ∀ q H' xs, H q = none → Kp [] H H' → H' q = some (.lst xs) → TouchAt H' size.toNat log xs → Q (.ref q) H')
def sp_writers : Sp := fun vs H Q E => ∃ (a : Addr) (size : Int) (log : List Int), vs = [.int size, .ref a] ∧ SqL K H a (log.map V.int) ∧ log.length ≤ 1000 ∧ RepE K H size log E ∧
  (SizeOk size → Leg (wholeS size.toNat) log → ∀ t r l H', Kp [] H H' → H' t = some (.tup [.ref r, .ref l]) → H' r = some (.lst ((bkR size.toNat log).wr.map V.int)) → H' l = some (.lst ((bkR size.toNat log).wl.map V.int)) → Q (.ref t) H')
def sp_decided_by : Sp := fun vs H Q E => ∃ (a : Addr) (size g : Int) (log : List Int), vs = [.int size, .ref a, .int g] ∧ SqL K H a (log.map V.int) ∧ RepE K H size log E ∧
  (SizeOk size → Leg (wholeS size.toNat) log → ¬ (0 ≤ g ∧ g ≤ size) → ∀ H', Kp [] H H' → Ex K "BadGap" [("gap", .int g)] E H') ∧
  (SizeOk size → Leg (wholeS size.toNat) log → 0 ≤ g → g ≤ size → ∀ H', Kp [] H H' → Q (.int (gI (bkR size.toNat log).de g.toNat)) H')
/-- None or a pair -/
def OptP (H : Hp) (v : V) : Option (Nat × Nat) → Prop
  | none => v = .non
  | some (k, g) => ∃ t, v = .ref t ∧ H t = some (.tup [.int (k : Int), .int (g : Int)])
def sp_first_loss : Sp := fun vs H Q E => ∃ (a : Addr) (size : Int) (log : List Int), vs = [.int size, .ref a] ∧ SqL K H a (log.map V.int) ∧ RepE K H size log E ∧
  (SizeOk size → Leg (wholeS size.toNat) log → ∀ v H', Kp [] H H' → OptP H' v (bkR size.toNat log).ls → Q v H')
end
end G

set_option Elab.async false
set_option linter.all false
set_option maxRecDepth 100000
set_option maxHeartbeats 4000000
/-! What the law's own defs promise. -/
namespace G
open PySem PySem.Spec PyProof.Rows L2
def Bag (H : Hp) (b : Addr) : Prop := ∃ c m t : Int, H b = some (.lst [.int c, .int m, .int t])
/-- the law's own standing: a list of a size and three lists -/
structure LW (H : Hp) (w r l o : Addr) (s : Sd) : Prop where
  ob : H w = some (.lst [.int s.n, .ref r, .ref l, .ref o])
  hr : H r = some (.lst (s.R.map V.int))
  hl : ∃ L' : List Int, H l = some (.lst (L'.map V.int)) ∧ L'.length = s.n + 2 ∧ ∀ v, 1 ≤ v → gI L' v = gI s.L v
  ho : H o = some (.lst (s.O.map V.bl))
  ne : r ≠ l ∧ r ≠ o ∧ l ≠ o ∧ w ≠ r ∧ w ≠ l ∧ w ≠ o
  wf : Wf s
theorem LW.kp {H H' : Hp} {w r l o : Addr} {s : Sd} {S : List Addr} (a : LW H w r l o s) (k : Kp S H H') (h1 : w ∉ S) (h2 : r ∉ S) (h3 : l ∉ S) (h4 : o ∉ S) : LW H' w r l o s := by
  obtain ⟨L', e1, e2⟩ := a.hl
  exact ⟨k _ _ h1 a.ob, k _ _ h2 a.hr, ⟨L', k _ _ h3 e1, e2⟩, k _ _ h4 a.ho, a.ne, a.wf⟩
theorem LW.k0 {H H' : Hp} {w r l o : Addr} {s : Sd} (a : LW H w r l o s) (k : Kp [] H H') : LW H' w r l o s := a.kp k (by simp) (by simp) (by simp) (by simp)
/-- out, by the last operation of the node -/
def outF (log : List Int) (v : Nat) : Bool := match log.reverse.find? (fun x => decide (x.natAbs = v)) with
  | some x => decide (x < 0)
  | none => false
theorem outF_snoc (log : List Int) (op : Int) (v : Nat) : outF (log ++ [op]) v = if op.natAbs = v then decide (op < 0) else outF log v := by
  unfold outF
  rw [List.reverse_append, List.reverse_singleton, List.singleton_append, List.find?_cons]
  by_cases h : op.natAbs = v
  · rw [decide_eq_true h, if_pos h]
  · rw [decide_eq_false h, if_neg h]
theorem run_out {n : Nat} (hn : n ≤ 60) : ∀ log : List Int, (∀ x ∈ log, IsOp n x) → ∀ v, gB (runS (wholeS n) log).O v = outF log v := by
  intro log
  induction log using snoc_ind with
  | h0 =>
    intro _ v
    show gB (List.replicate (n + 2) false) v = false
    unfold gB
    rw [List.getD_eq_getElem?_getD]
    by_cases h : v < n + 2
    · rw [List.getElem?_replicate_of_lt h] <;> rfl
    · rw [List.getElem?_eq_none (by rw [List.length_replicate]; omega)] <;> rfl
  | h1 l x ih =>
    intro h v
    have hx := h x (by simp)
    have lo : (runS (wholeS n) l).O.length = n + 2 := by
      clear ih h hx
      induction l using snoc_ind with
      | h0 => exact List.length_replicate
      | h1 l y ih =>
        rw [runS_snoc]
        show (List.set _ _ _).length = _
        rw [List.length_set, ih]
    rw [runS_snoc, outF_snoc]
    show gB ((runS (wholeS n) l).O.set x.natAbs (decide (x < 0))) v = _
    rw [gB_set (by rw [lo]; have := hx.2; omega), ih (fun y hy => h y (by simp [hy]))]
    by_cases e : x.natAbs = v
    · rw [if_pos e.symm, if_pos e]
    · rw [if_neg (fun z => e z.symm), if_neg e]
/-- each operation turns its node -/
def Alt (log : List Int) : Prop := ∀ i op, log[i]? = some op → outF (log.take i) op.natAbs = decide (0 < op)
theorem leg_of {n : Nat} (hn : n ≤ 60) {log : List Int} (h : ∀ x ∈ log, IsOp n x) (a : Alt log) : Leg (wholeS n) log := by
  intro i op hi
  refine ⟨by rw [runS_n]; exact h op (List.mem_of_getElem? hi), ?_⟩
  rw [run_out hn _ (fun x hx => h x (List.mem_of_mem_take hx))]
  exact a i op hi
theorem Leg.isop {n : Nat} {log : List Int} (h : Leg (wholeS n) log) : ∀ x ∈ log, IsOp n x := by
  intro x hx
  obtain ⟨i, hi⟩ := List.getElem?_of_mem hx
  have := (h i x hi).1
  rwa [runS_n] at this
theorem ok_out {n : Nat} (hn : n ≤ 60) {log : List Int} (h : Leg (wholeS n) log) {op : Int} : OkOp (runS (wholeS n) log) op ↔ IsOp n op ∧ outF log op.natAbs = decide (0 < op) := by
  unfold OkOp
  rw [run_out hn log h.isop, runS_n] <;> rfl

/-- what is due for a size, a log and a gap -/
def FltV (size : Int) (log : List Int) (g : Int) (xs : List V) : Prop :=
  (¬ SizeOk size ∧ xs = [.str "size", .int size]) ∨
  (SizeOk size ∧ ∃ (i : Nat) (op : Int), log[i]? = some op ∧ Leg (wholeS size.toNat) (log.take i) ∧ ¬ OkOp (runS (wholeS size.toNat) (log.take i)) op ∧ xs = [.str (if IsOp size.toNat op then "illegal" else "operation"), .int op, .int (i : Int)]) ∨
  (SizeOk size ∧ Leg (wholeS size.toNat) log ∧ ¬ (0 ≤ g ∧ g ≤ size) ∧ xs = [.str "gap", .int g]) ∨
  (SizeOk size ∧ Leg (wholeS size.toNat) log ∧ (0 ≤ g ∧ g ≤ size) ∧ xs = [.str "done"])
theorem bad_uniq {s : Sd} {log : List Int} {i j : Nat} {a b : Int} (hi : log[i]? = some a) (hj : log[j]? = some b) (li : Leg s (log.take i)) (lj : Leg s (log.take j)) (ni : ¬ OkOp (runS s (log.take i)) a) (nj : ¬ OkOp (runS s (log.take j)) b) : i = j ∧ a = b := by
  have lt : ∀ {i j : Nat} {a : Int}, log[i]? = some a → Leg s (log.take j) → ¬ OkOp (runS s (log.take i)) a → ¬ i < j := by
    intro i j a hi lj ni h
    have := lj i a (by rw [List.getElem?_take_of_lt h]; exact hi)
    rw [List.take_take, Nat.min_eq_left (by omega)] at this
    exact ni this
  have e : i = j := by
    have := lt hi lj ni
    have := lt hj li nj
    omega
  subst e
  exact ⟨rfl, by rw [hi] at hj; injection hj⟩
theorem bad_leg {s : Sd} {log : List Int} {i : Nat} {a : Int} (hi : log[i]? = some a) (ni : ¬ OkOp (runS s (log.take i)) a) (l : Leg s log) : False := ni (l i a hi)
theorem FltV.uniq {size : Int} {log : List Int} {g : Int} {xs ys : List V} (a : FltV size log g xs) (b : FltV size log g ys) : xs = ys := by
  rcases a with ⟨a1, rfl⟩ | ⟨a1, i, op, a2, a3, a4, rfl⟩ | ⟨a1, a2, a3, rfl⟩ | ⟨a1, a2, a3, rfl⟩ <;> rcases b with ⟨b1, rfl⟩ | ⟨b1, j, oq, b2, b3, b4, rfl⟩ | ⟨b1, b2, b3, rfl⟩ | ⟨b1, b2, b3, rfl⟩
  all_goals first
    | rfl
    | exact absurd b1 a1
    | exact absurd a1 b1
    | exact absurd b3 a3
    | exact absurd a3 b3
    | exact (bad_leg a2 a4 b2).elim
    | exact (bad_leg b2 b4 a2).elim
    | (obtain ⟨rfl, rfl⟩ := bad_uniq a2 b2 a3 b3 a4 b4; rfl)
section
def sp__law_bag (K : PySem.W.Frag) : Sp := fun vs H Q E => ∃ (a : Addr) (lane : Int) (ns : List Int), vs = [.ref a, .int lane] ∧ 0 ≤ lane ∧ lane ≤ 1 ∧ SqL K H a (ns.map V.int) ∧ ns.length ≤ 63 ∧ ∀ b H', H b = none → Kp [] H H' → Bag H' b → Q (.ref b) H'
def sp__law_draw (K : PySem.W.Frag) : Sp := fun vs H Q E => ∃ (b : Addr) (many : Int), vs = [.ref b, .int many] ∧ 0 < many ∧ many < 2 ^ 30 ∧ Bag H b ∧ ∀ (d : Int) H', 0 ≤ d → d < many → Kp [b] H H' → Bag H' b → Q (.int d) H'
def sp__law_size (K : PySem.W.Frag) : Sp := fun vs H Q E => ∃ b : Addr, vs = [.ref b] ∧ Bag H b ∧ ∀ (n : Nat) H', n ≤ 60 → Kp [b] H H' → Bag H' b → Q (.int (n : Int)) H'
def sp__law_whole (K : PySem.W.Frag) : Sp := fun vs H Q E => ∃ n : Nat, vs = [.int (n : Int)] ∧ n ≤ 60 ∧ ∀ w r l o H', H w = none → H r = none → H l = none → H o = none → Kp [] H H' → LW H' w r l o (wholeS n) → Q (.ref w) H'
def sp__law_planted (K : PySem.W.Frag) : Sp := fun vs H Q E => ∃ (b : Addr) (n : Nat), vs = [.ref b, .int (n : Int)] ∧ n ≤ 60 ∧ Bag H b ∧ ∀ (ds : List Int) (q : Addr) H', H q = none → (∀ x ∈ ds, IsOp n x) → Alt ds → ds.length ≤ 9 → Kp [b] H H' → Bag H' b → H' q = some (.lst (ds.map V.int)) → Q (.ref q) H'
def sp__law_log (K : PySem.W.Frag) : Sp := fun vs H Q E => ∃ (b : Addr) (n : Nat), vs = [.ref b, .int (n : Int)] ∧ n ≤ 60 ∧ Bag H b ∧ ∀ (ds : List Int) (q : Addr) H', H q = none → (∀ x ∈ ds, IsOp n x) → Alt ds → ds.length ≤ 200 → Kp [b] H H' → Bag H' b → H' q = some (.lst (ds.map V.int)) → Q (.ref q) H'
def sp__law_state (K : PySem.W.Frag) : Sp := fun vs H Q E => ∃ (w r l o : Addr) (s : Sd) (g : Nat), vs = [.ref w, .int (g : Int)] ∧ LW H w r l o s ∧ g ≤ s.n ∧ Q (.str (stT s g)) H
def sp__law_step (K : PySem.W.Frag) : Sp := fun vs H Q E => ∃ (w r l o : Addr) (s : Sd) (op : Int), vs = [.ref w, .int op] ∧ LW H w r l o s ∧ IsOp s.n op ∧ ∀ H', Kp [r, l, o] H H' → LW H' w r l o (stepS s op) → Q .non H'
def sp__law_whole_number (K : PySem.W.Frag) : Sp := fun vs H Q E => ∃ i : Int, vs = [.int i] ∧ Q (.bl true) H
def sp__law_numbers (K : PySem.W.Frag) : Sp := fun vs H Q E => ∃ (a b : Addr) (xs : List Int), vs = [.ref a, .ref b] ∧ xs.length ≤ 1000 ∧ H a = some (.lst (xs.map V.int)) ∧ H b = some (.lst (xs.map V.int)) ∧ Q (.bl true) H
def sp__law_pair (K : PySem.W.Frag) : Sp := fun vs H Q E => ∃ (x y : V) (p : Option (Nat × Nat)), vs = [x, y] ∧ OptP H x p ∧ OptP H y p ∧ Q (.bl true) H
def sp__law_book (K : PySem.W.Frag) : Sp := fun vs H Q E => ∃ (n : Nat) (a : Addr) (log : List Int), vs = [.int (n : Int), .ref a] ∧ n ≤ 60 ∧ SqL K H a (log.map V.int) ∧ log.length ≤ 1000 ∧ Leg (wholeS n) log ∧
  ∀ q r l d v H', Kp [] H H' → H' q = some (.lst [.ref r, .ref l, .ref d, v]) → H' r = some (.lst ((bkR n log).wr.map V.int)) → H' l = some (.lst ((bkR n log).wl.map V.int)) → H' d = some (.lst ((bkR n log).de.map V.int)) → OptP H' v (bkR n log).ls → Q (.ref q) H'
def sp__law_agrees (K : PySem.W.Frag) : Sp := fun vs H Q E => ∃ (n : Nat) (a c : Addr) (log gs : List Int), vs = [.int (n : Int), .ref a, .ref c] ∧ n ≤ 60 ∧ H a = some (.lst (log.map V.int)) ∧ log.length ≤ 1000 ∧ Leg (wholeS n) log ∧ SqL K H c (gs.map V.int) ∧ (∀ g ∈ gs, 0 ≤ g ∧ g ≤ n) ∧ gs.length ≤ 1000 ∧ ∀ H', Kp [] H H' → Q (.bl true) H'
def sp__law_fault (K : PySem.W.Frag) : Sp := fun vs H Q E => ∃ (size g : Int) (a : Addr) (log : List Int), vs = [.int size, .ref a, .int g] ∧ SqL K H a (log.map V.int) ∧ log.length ≤ 1000 ∧ ∀ xs t H', FltV size log g xs → Kp [] H H' → H' t = some (.tup xs) → Q (.ref t) H'
def sp__law_answer (K : PySem.W.Frag) : Sp := fun vs H Q E => ∃ (way size g : Int) (a : Addr) (log : List Int), vs = [.int way, .int size, .ref a, .int g] ∧ (way = 0 ∨ g = 0) ∧ 0 ≤ way ∧ way ≤ 2 ∧ SqL K H a (log.map V.int) ∧ log.length ≤ 1000 ∧ ∀ xs t H', FltV size log g xs → Kp [] H H' → H' t = some (.tup xs) → Q (.ref t) H'
def sp__law_spoilt (K : PySem.W.Frag) : Sp := fun vs H Q E => ∃ (b a : Addr) (n : Nat) (log : List Int), vs = [.ref b, .int (n : Int), .ref a] ∧ n ≤ 60 ∧ Bag H b ∧ a ≠ b ∧ H a = some (.lst (log.map V.int)) ∧ log.length ≤ 400 ∧ ∀ (ds : List Int) (q : Addr) H', H q = none → ds.length ≤ 2 * log.length + 2 → Kp [b] H H' → Bag H' b → H' q = some (.lst (ds.map V.int)) → Q (.ref q) H'
/-- a trial: a size, a log, a gap -/
def Trial (H : Hp) (x : V) : Prop := ∃ (t a : Addr) (size g : Int) (log : List Int), x = .ref t ∧ H t = some (.tup [.int size, .ref a, .int g]) ∧ H a = some (.lst (log.map V.int)) ∧ log.length ≤ 1000
def sp__law_trials (K : PySem.W.Frag) : Sp := fun vs H Q E => ∃ (b a : Addr) (n : Nat) (log : List Int), vs = [.ref b, .int (n : Int), .ref a] ∧ n ≤ 60 ∧ Bag H b ∧ a ≠ b ∧ H a = some (.lst (log.map V.int)) ∧ log.length ≤ 400 ∧ ∀ (xs : List V) (q : Addr) H', Kp [b] H H' → Bag H' b → H' q = some (.lst xs) → xs.length ≤ 100 → (∀ x ∈ xs, Trial H' x) → Q (.ref q) H'
def sp__law_places (K : PySem.W.Frag) : Sp := fun vs H Q E => ∃ (b a : Addr) (n : Nat) (log : List Int), vs = [.ref b, .int (n : Int), .ref a] ∧ n ≤ 60 ∧ Bag H b ∧ a ≠ b ∧ H a = some (.lst (log.map V.int)) ∧ log.length ≤ 500 ∧ (∀ x ∈ log, IsOp n x) ∧ ∀ (gs : List Int) (q : Addr) H', gs.length ≤ 100 → (∀ g ∈ gs, 0 ≤ g ∧ g ≤ n) → Kp [b] H H' → Bag H' b → H' q = some (.lst (gs.map V.int)) → Q (.ref q) H'
def sp__law_refuses (K : PySem.W.Frag) : Sp := fun vs H Q E => ∃ (q : Addr) (xs : List V), vs = [.ref q] ∧ H q = some (.lst xs) ∧ xs.length ≤ 100 ∧ (∀ x ∈ xs, Trial H x) ∧ ∀ H', Kp [] H H' → Q (.bl true) H'
def sp_law (K : PySem.W.Frag) : Sp := fun vs H Q E => ∃ (a : Addr) (ns : List Int), vs = [.ref a] ∧ SqL K H a (ns.map V.int) ∧ ns.length ≤ 63 ∧ ∀ H', Q (.bl true) H'
end
end G

set_option Elab.async false
set_option linter.all false
set_option maxRecDepth 100000
set_option maxHeartbeats 4000000
/-! k10: verdicts, certificates, values of many kinds. -/
namespace G
open PySem PySem.Spec PyProof.Rows L2
/-- a comprehension whose turns change the heap -/
theorem cp_mut {σ : L2.St} {H : Hp} {Q : VK} {te : TE} {tt : TT} {g : TG} {vs : List Nat} {lo : Int} {n : Nat} (Pv : Addr → Nat → List V → Hp → Prop) (hn : n < sizeLine)
    (h0 : ∀ D H', H D = none → Kp [] H H' → H' D = some (.lst []) → Pv D 0 [] H')
    (hs : ∀ (D : Addr) (i : Nat) (acc : List V) (H' : Hp) (S : V → Hp → Prop) (N : Hp → Prop), H D = none → i < n → H' D = some (.lst acc) → Pv D i acc H' →
      (∀ y H4, H4 D = some (.lst acc) → (∀ H5, Kp [D] H4 H5 → H5 D = some (.lst (acc ++ [y])) → Pv D (i + 1) (acc ++ [y]) H5) → S y H4) → (∀ H4, H4 D = some (.lst acc) → Pv D (i + 1) acc H4 → N H4) →
      g (.int (lo + (i : Int))) (wipe σ vs) H' fun σ2 H2 => wipe σ2 vs = wipe σ vs ∧ tt σ2 H2 fun b H3 => if b = true then te σ2 H3 S else N H3)
    (hd : ∀ D acc H', H D = none → H' D = some (.lst acc) → acc.length ≤ n → Pv D n acc H' → Q (.ref D) H') : CompG (Itr lo n) g tt te vs σ Q H := by
  intro D nD
  refine ⟨fun i m H' => m = n - i ∧ i ≤ n ∧ ∃ acc, acc.length ≤ i ∧ H' D = some (.lst acc) ∧ Pv D i acc H', ⟨n, by simp, Nat.zero_le _, [], Nat.le_refl _, upd_same, h0 D _ nD (Kp.new nD) upd_same⟩, ?_⟩
  rintro i m H' ⟨rfl, hi, acc, la, e, p⟩
  by_cases lt : i < n
  · refine .inr ⟨lt, fun H'' => ∃ acc, acc.length ≤ i + 1 ∧ H'' D = some (.lst acc) ∧ Pv D (i + 1) acc H'', fun H'' p => ⟨n - (i + 1), by omega, rfl, lt, p⟩, fun x H'' y => ?_⟩
    obtain ⟨rfl, rfl⟩ := y
    refine hs D i acc _ _ _ nD lt e p (fun y H4 h4 k4 => ⟨acc, h4, by omega, acc ++ [y], by rw [List.length_append]; show acc.length + 1 ≤ _; omega, upd_same, k4 _ (Kp.put (by simp)) upd_same⟩) (fun H4 h4 k4 => ⟨acc, by omega, h4, k4⟩)
  · have ei : i = n := by omega
    subst ei
    exact .inl ⟨Nat.le_refl _, hd D acc H' nD e la p⟩
/-- .. over a list -/
theorem cp_mutL {K : PySem.W.Frag} {σ : L2.St} {H : Hp} {Q : VK} {te : TE} {tt : TT} {g : TG} {vs : List Nat} {a : Addr} {xs : List V} (Pv : Addr → Nat → List V → Hp → Prop) (hn : xs.length < sizeLine)
    (h0 : ∀ D H', H D = none → Kp [] H H' → H' D = some (.lst []) → Pv D 0 [] H')
    (hl : ∀ D i acc H', H D = none → Pv D i acc H' → SqL K H' a xs)
    (hs : ∀ (D : Addr) (i : Nat) (x : V) (acc : List V) (H' : Hp) (S : V → Hp → Prop) (N : Hp → Prop), H D = none → xs[i]? = some x → H' D = some (.lst acc) → Pv D i acc H' →
      (∀ y H4, H4 D = some (.lst acc) → (∀ H5, Kp [D] H4 H5 → H5 D = some (.lst (acc ++ [y])) → Pv D (i + 1) (acc ++ [y]) H5) → S y H4) → (∀ H4, H4 D = some (.lst acc) → Pv D (i + 1) acc H4 → N H4) →
      g x (wipe σ vs) H' fun σ2 H2 => wipe σ2 vs = wipe σ vs ∧ tt σ2 H2 fun b H3 => if b = true then te σ2 H3 S else N H3)
    (hd : ∀ D acc H', H D = none → H' D = some (.lst acc) → acc.length ≤ xs.length → Pv D xs.length acc H' → Q (.ref D) H') : CompG (Itl K a) g tt te vs σ Q H := by
  intro D nD
  refine ⟨fun i m H' => m = xs.length - i ∧ i ≤ xs.length ∧ ∃ acc, acc.length ≤ i ∧ H' D = some (.lst acc) ∧ Pv D i acc H', ⟨xs.length, by simp, Nat.zero_le _, [], Nat.le_refl _, upd_same, h0 D _ nD (Kp.new nD) upd_same⟩, ?_⟩
  rintro i m H' ⟨rfl, hi, acc, la, e, p⟩
  have q := hl D i acc H' nD p
  by_cases lt : i < xs.length
  · refine .inr ⟨⟨xs, xs[i], q, by simp [lt]⟩, fun H'' => ∃ acc, acc.length ≤ i + 1 ∧ H'' D = some (.lst acc) ∧ Pv D (i + 1) acc H'', fun H'' p => ⟨xs.length - (i + 1), by omega, rfl, lt, p⟩, fun x H'' y => ?_⟩
    obtain ⟨rfl, hx⟩ := y
    refine hs D i x acc _ _ _ nD (hx xs q) e p (fun y H4 h4 k4 => ⟨acc, h4, by omega, acc ++ [y], by rw [List.length_append]; show acc.length + 1 ≤ _; omega, upd_same, k4 _ (Kp.put (by simp)) upd_same⟩) (fun H4 h4 k4 => ⟨acc, by omega, h4, k4⟩)
  · have ei : i = xs.length := by omega
    subst ei
    exact .inl ⟨⟨xs, q, Nat.le_refl _⟩, hd D acc H' nD e la p⟩
/-- the nodes that are out, from the least on -/
def outN (n : Nat) (O : List Bool) : List Int := (((List.range n).map fun (v : Nat) => v + 1).filter fun v => gB O v).map fun (v : Nat) => (v : Int)
theorem outN_len (n : Nat) (O : List Bool) : (outN n O).length ≤ n := by
  unfold outN
  rw [List.length_map]
  refine Nat.le_trans (List.length_filter_le _ _) ?_
  rw [List.length_map, List.length_range]
  exact Nat.le_refl _
/-- None or a whole number -/
def Isn (v : V) : Prop := v = .non ∨ ∃ i : Int, v = .int i
/-! a verdict in the heap -/
def vfl (g a b w : V) : List (Str × V) := putF "whole" w (putF "index" b (putF "gap" a (putF "out_nodes" g [])))
theorem m1 : ¬ (("out_nodes" : Str) = "gap") := by decide +kernel
theorem m2 : ¬ (("out_nodes" : Str) = "index") := by decide +kernel
theorem m3 : ¬ (("out_nodes" : Str) = "whole") := by decide +kernel
theorem m4 : ¬ (("gap" : Str) = "index") := by decide +kernel
theorem m5 : ¬ (("gap" : Str) = "whole") := by decide +kernel
theorem m6 : ¬ (("index" : Str) = "whole") := by decide +kernel
theorem vfl_g (g a b w : V) : (vfl g a b w).lookup ("out_nodes" : Str) = some g := by
  unfold vfl
  rw [lookup_putF, if_neg m3, lookup_putF, if_neg m2, lookup_putF, if_neg m1, lookup_putF, if_pos rfl]
theorem vfl_a (g a b w : V) : (vfl g a b w).lookup ("gap" : Str) = some a := by
  unfold vfl
  rw [lookup_putF, if_neg m5, lookup_putF, if_neg m4, lookup_putF, if_pos rfl]
theorem vfl_b (g a b w : V) : (vfl g a b w).lookup ("index" : Str) = some b := by
  unfold vfl
  rw [lookup_putF, if_neg m6, lookup_putF, if_pos rfl]
theorem vfl_w (g a b w : V) : (vfl g a b w).lookup ("whole" : Str) = some w := by
  unfold vfl
  rw [lookup_putF, if_pos rfl]
def whB (a : V) (gone : List Int) : Bool := match a with
  | .non => decide ((gone.length : Int) = 0)
  | _ => false
structure VdAt (K : PySem.W.Frag) (H : Hp) (x g : Addr) (gone : List Int) (a b : V) : Prop where
  ob : ∃ dx, H x = some (.ins (He.ga K "Verdict") dx (vfl (.ref g) a b (.bl (whB a gone))))
  hg : H g = some (.lst (gone.map V.int))
theorem VdAt.kp {K : PySem.W.Frag} {H H' : Hp} {x g : Addr} {gone : List Int} {a b : V} {S : List Addr} (v : VdAt K H x g gone a b) (k : Kp S H H') (h1 : x ∉ S) (h2 : g ∉ S) : VdAt K H' x g gone a b := by
  obtain ⟨dx, h⟩ := v.ob
  exact ⟨⟨dx, k _ _ h1 h⟩, k _ _ h2 v.hg⟩
theorem VdAt.k0 {K : PySem.W.Frag} {H H' : Hp} {x g : Addr} {gone : List Int} {a b : V} (v : VdAt K H x g gone a b) (k : Kp [] H H') : VdAt K H' x g gone a b := v.kp k (by simp) (by simp)
/-- what the verdict of a log is due to tell -/
def VF (n : Nat) (log : List Int) (v w : V) : Prop :=
  (∃ i : Nat, i ≤ n ∧ (∀ j, j < i → stT (runS (wholeS n) log) j = "joined") ∧ stT (runS (wholeS n) log) i ≠ "joined" ∧ v = .int (i : Int) ∧ w = .int (gI (bkR n log).de i)) ∨
  ((∀ j, j ≤ n → stT (runS (wholeS n) log) j = "joined") ∧ v = .non ∧ w = .non)
theorem VF.isn {n : Nat} {log : List Int} {v w : V} (h : VF n log v w) : Isn v ∧ Isn w := by
  rcases h with ⟨i, _, _, _, rfl, rfl⟩ | ⟨_, rfl, rfl⟩
  · exact ⟨.inr ⟨_, rfl⟩, .inr ⟨_, rfl⟩⟩
  · exact ⟨.inl rfl, .inl rfl⟩
/-- the certificate of a gap -/
def paper (n : Nat) (log : List Int) (i : Nat) : List V := [.str (stT (runS (wholeS n) log) i), .int (gI (bkR n log).wr i), .int (gI (bkR n log).wl i)]
def PapersAt (H : Hp) (p : Addr) (n : Nat) (log : List Int) : Prop := ∃ ps : List V, H p = some (.lst ps) ∧ ps.length = n + 1 ∧ ∀ i, i ≤ n → ∃ t, ps[i]? = some (.ref t) ∧ H t = some (.tup (paper n log i))
def outS (n : Nat) (log : List Int) : List Int := outN n (runS (wholeS n) log).O
def BookAt (H : Hp) (q : Addr) (n : Nat) (log : List Int) : Prop := ∃ p d g, H q = some (.lst [.ref p, .ref d, .ref g]) ∧ PapersAt H p n log ∧ H d = some (.lst ((bkR n log).de.map V.int)) ∧ H g = some (.lst ((outS n log).map V.int))
theorem PapersAt.k0 {H H' : Hp} {p : Addr} {n : Nat} {log : List Int} (a : PapersAt H p n log) (k : Kp [] H H') : PapersAt H' p n log := by
  obtain ⟨ps, h1, h2, h3⟩ := a
  refine ⟨ps, k.at0 h1, h2, fun i hi => ?_⟩
  obtain ⟨t, h4, h5⟩ := h3 i hi
  exact ⟨t, h4, k.at0 h5⟩
theorem PapersAt.k1 {H H' : Hp} {p b : Addr} {n : Nat} {log : List Int} (a : PapersAt H p n log) (hb : Bag H b) (ne : p ≠ b) (k : Kp [b] H H') : PapersAt H' p n log := by
  obtain ⟨ps, h1, h2, h3⟩ := a
  refine ⟨ps, k.at1 ne h1, h2, fun i hi => ?_⟩
  obtain ⟨t, h4, h5⟩ := h3 i hi
  obtain ⟨c, m, t', hb⟩ := hb
  exact ⟨t, h4, k.at1 (ne_of h5 hb (by intro z; cases z)) h5⟩
/-! values of many kinds, apart from b -/
mutual
inductive Vl (b : Addr) (H : Hp) : V → PyData → Prop
  | non : Vl b H .non .none
  | bl (k : Bool) : Vl b H (.bl k) (.bool k)
  | int (i : Int) : Vl b H (.int i) (.int i)
  | str (x : Str) : Vl b H (.str x) (.str x)
  | lst {a : Addr} {xs : List V} {ds : List PyData} : a ≠ b → H a = some (.lst xs) → VlA b H xs ds → Vl b H (.ref a) (.list ds)
  | tup {a : Addr} {xs : List V} {ds : List PyData} : a ≠ b → H a = some (.tup xs) → VlA b H xs ds → Vl b H (.ref a) (.tuple ds)
inductive VlA (b : Addr) (H : Hp) : List V → List PyData → Prop
  | nil : VlA b H [] []
  | cons {v : V} {vs : List V} {d : PyData} {ds : List PyData} : Vl b H v d → VlA b H vs ds → VlA b H (v :: vs) (d :: ds)
end
mutual
theorem Vl.dp {K : PySem.W.Frag} {b : Addr} {H : Hp} : ∀ (d : PyData) (v : V), Vl b H v d → Dp K H v d
  | .none, _, h => by cases h; exact .non
  | .bool b, _, h => by cases h; exact .bl b
  | .int i, _, h => by cases h; exact .int i
  | .str x, _, h => by cases h; exact .str x
  | .list ds, _, h => by
    cases h with
    | lst ne hs ha => exact .lst (SqL.of hs) (VlA.dp ds _ ha)
  | .tuple ds, _, h => by
    cases h with
    | tup ne hs ha => exact .tup (SqT.of hs) (VlA.dp ds _ ha)
  | .dict _, _, h => by cases h
theorem VlA.dp {K : PySem.W.Frag} {b : Addr} {H : Hp} : ∀ (ds : List PyData) (vs : List V), VlA b H vs ds → DpAll K H vs ds
  | [], _, h => by cases h; exact .nil
  | d :: ds, _, h => by
    cases h with
    | cons h1 h2 => exact .cons (Vl.dp d _ h1) (VlA.dp ds _ h2)
end
mutual
theorem Vl.kp {b : Addr} {H H' : Hp} (k : Kp [b] H H') : ∀ (d : PyData) (v : V), Vl b H v d → Vl b H' v d
  | .none, _, h => by cases h; exact .non
  | .bool b, _, h => by cases h; exact .bl b
  | .int i, _, h => by cases h; exact .int i
  | .str x, _, h => by cases h; exact .str x
  | .list ds, _, h => by
    cases h with
    | lst ne hs ha => exact .lst ne (k.at1 ne hs) (VlA.kp k ds _ ha)
  | .tuple ds, _, h => by
    cases h with
    | tup ne hs ha => exact .tup ne (k.at1 ne hs) (VlA.kp k ds _ ha)
  | .dict _, _, h => by cases h
theorem VlA.kp {b : Addr} {H H' : Hp} (k : Kp [b] H H') : ∀ (ds : List PyData) (vs : List V), VlA b H vs ds → VlA b H' vs ds
  | [], _, h => by cases h; exact .nil
  | d :: ds, _, h => by
    cases h with
    | cons h1 h2 => exact .cons (Vl.kp k d _ h1) (VlA.kp k ds _ h2)
end
theorem Vl.k0 {b : Addr} {H H' : Hp} {v : V} {d : PyData} (h : Vl b H v d) (k : Kp [] H H') : Vl b H' v d := Vl.kp k.all d v h
/-- no truth value stands where a whole number should -/
def okv : PyData → Bool
  | .tuple [_, .bool _, _] => false
  | .tuple [_, _, .bool _] => false
  | _ => true
structure Val (b : Addr) (H : Hp) (v : V) : Prop where
  ex : ∃ d, Vl b H v d ∧ SeqAt.shaped d = true ∧ okv d = true
theorem Val.k1 {b : Addr} {H H' : Hp} {v : V} (h : Val b H v) (k : Kp [b] H H') : Val b H' v := by
  obtain ⟨d, h1, h2⟩ := h.ex
  exact ⟨d, Vl.kp k d v h1, h2⟩
/-- the value is the certificate -/
def cerB (d : PyData) (s : Str) (i j : Int) : Bool := match d with
  | .tuple [.str t, .int k, .int l] => decide (t = s) && (decide (k = i) && decide (l = j))
  | _ => false
def isS : PyData → Bool
  | .str _ => true
  | _ => false
def isI : PyData → Bool
  | .int _ => true
  | _ => false
def isTu : PyData → Bool
  | .tuple _ => true
  | _ => false
theorem cer_of (a b c : PyData) (s : Str) (i j : Int) : cerB (.tuple [a, b, c]) s i j = (isS a && ((isI b && isI c) && PyData.eqv (.tuple [a, b, c]) (.tuple [.str s, .int i, .int j]))) := by
  cases a <;> cases b <;> cases c <;> simp [cerB, isS, isI, PyData.eqv, PyData.eqvAll, Bool.beq_eq_decide_eq]
theorem cer_okv {d : PyData} (h : okv d = true) (s : Str) (i j : Int) : cerB d s i j = PyData.eqv d (.tuple [.str s, .int i, .int j]) := by
  cases d with
  | tuple ds =>
    match ds with
    | [] => simp [cerB, PyData.eqv, PyData.eqvAll]
    | [a] => simp [cerB, PyData.eqv, PyData.eqvAll]
    | [a, b] => simp [cerB, PyData.eqv, PyData.eqvAll]
    | [a, b, c] =>
      rw [cer_of]
      cases a <;> cases b <;> cases c <;> simp_all [isS, isI, okv, PyData.eqv, PyData.eqvAll]
    | a :: b :: c :: d :: e => simp [cerB, PyData.eqv, PyData.eqvAll]
  | _ => simp [cerB, PyData.eqv]
theorem cer_len {ds : List PyData} (h : ds.length ≠ 3) (s : Str) (i j : Int) : cerB (.tuple ds) s i j = false := by
  match ds with
  | [] => rfl
  | [a] => simp [cerB]
  | [a, b] => simp [cerB]
  | [a, b, c] => exact absurd rfl h
  | a :: b :: c :: d :: e => simp [cerB]
theorem cer_tu {d : PyData} (h : isTu d = false) (s : Str) (i j : Int) : cerB d s i j = false := by
  cases d <;> simp_all [isTu, cerB]
/-! promises -/
section
def sp_Links_outs (K : PySem.W.Frag) : Sp := fun vs H Q E => ∃ (p r l o : Addr) (s : Sd), vs = [.ref p] ∧ LinksAt K H p r l o s ∧ ∀ q H', H q = none → Kp [] H H' → H' q = some (.lst ((outN s.n s.O).map V.int)) → Q (.ref q) H'
def sp_Verdict___init__ (K : PySem.W.Frag) : Sp := fun vs H Q E => ∃ (p l dx : Addr) (a b : V) (gone : List Int), vs = [.ref p, .ref l, a, b] ∧ H p = some (.ins (He.ga K "Verdict") dx []) ∧ p ≠ l ∧ SqL K H l (gone.map V.int) ∧ gone.length ≤ 1000 ∧ Isn a ∧
  ∀ g H', H g = none → Kp [p] H H' → VdAt K H' p g gone a b → Q .non H'
def sp_verdict (K : PySem.W.Frag) : Sp := fun vs H Q E => ∃ (a : Addr) (size : Int) (log : List Int), vs = [.int size, .ref a] ∧ SqL K H a (log.map V.int) ∧ log.length ≤ 1000 ∧ RepE K H size log E ∧
  (SizeOk size → Leg (wholeS size.toNat) log → ∀ x g v w H', Kp [] H H' → VdAt K H' x g (outS size.toNat log) v w → VF size.toNat log v w → Q (.ref x) H')
def sp__law_number_or_none (K : PySem.W.Frag) : Sp := fun vs H Q E => ∃ v : V, vs = [v, v] ∧ Isn v ∧ Q (.bl true) H
def sp__law_bears (K : PySem.W.Frag) : Sp := fun vs H Q E => ∃ (x g c : Addr) (gone : List Int) (v w : V), vs = [.ref x, .ref c, v, w] ∧ VdAt K H x g gone v w ∧ H c = some (.lst (gone.map V.int)) ∧ gone.length ≤ 1000 ∧ Isn v ∧ Isn w ∧ Q (.bl true) H
def sp10__law_book (K : PySem.W.Frag) : Sp := fun vs H Q E => ∃ (n : Nat) (a : Addr) (log : List Int), vs = [.int (n : Int), .ref a] ∧ n ≤ 60 ∧ SqL K H a (log.map V.int) ∧ log.length ≤ 1000 ∧ Leg (wholeS n) log ∧ ∀ q H', Kp [] H H' → BookAt H' q n log → Q (.ref q) H'
def sp__law_verdict_fits (K : PySem.W.Frag) : Sp := fun vs H Q E => ∃ (x g q : Addr) (n : Nat) (log : List Int) (v w : V), vs = [.ref x, .ref q] ∧ n ≤ 60 ∧ VdAt K H x g (outS n log) v w ∧ VF n log v w ∧ BookAt H q n log ∧ Q (.bl true) H
def sp__law_made (K : PySem.W.Frag) : Sp := fun vs H Q E => ∃ (c : Addr) (gone : List Int) (v w : V), vs = [.ref c, v, w] ∧ H c = some (.lst (gone.map V.int)) ∧ gone.length ≤ 10 ∧ Isn v ∧ Isn w ∧ ∀ H', Kp [] H H' → Q (.bl true) H'
def sp__law_is_paper (K : PySem.W.Frag) : Sp := fun vs H Q E => ∃ (t u : Addr) (s : Str) (i j : Int), vs = [.ref t, .ref u] ∧ H t = some (.tup [.str s, .int i, .int j]) ∧ H u = some (.tup [.str s, .int i, .int j]) ∧ Q (.bl true) H
def sp__law_bents (K : PySem.W.Frag) : Sp := fun vs H Q E => ∃ (b u o : Addr) (by_ i j i' j' : Int) (s s' : Str), vs = [.ref u, .ref o, .int by_] ∧ H u = some (.tup [.str s, .int i, .int j]) ∧ H o = some (.tup [.str s', .int i', .int j']) ∧ PyData.strOk s = true ∧ PyData.strOk s' = true ∧
  -2000 ≤ i ∧ i ≤ 2000 ∧ u ≠ b ∧ o ≠ b ∧ H b ≠ none ∧ ∀ q xs H', H q = none → Kp [] H H' → H' q = some (.lst xs) → 1 ≤ xs.length → xs.length ≤ 100 → (∀ x ∈ xs, Val b H' x) → Q (.ref q) H'
def sp_is_plain_integer (K : PySem.W.Frag) : Sp := fun vs H Q E => ∃ (b : Addr) (x : V) (d : PyData), vs = [x] ∧ Vl b H x d ∧ Q (.bl (isI d)) H
def sp_gap_certificate (K : PySem.W.Frag) : Sp := fun vs H Q E => ∃ (a : Addr) (size g : Int) (log : List Int), vs = [.int size, .ref a, .int g] ∧ SqL K H a (log.map V.int) ∧ log.length ≤ 1000 ∧ RepE K H size log E ∧
  (SizeOk size → Leg (wholeS size.toNat) log → ¬ (0 ≤ g ∧ g ≤ size) → ∀ H', Kp [] H H' → Ex K "BadGap" [("gap", .int g)] E H') ∧
  (SizeOk size → Leg (wholeS size.toNat) log → 0 ≤ g → g ≤ size → ∀ t H', Kp [] H H' → H' t = some (.tup (paper size.toNat log g.toNat)) → Q (.ref t) H')
def sp_is_gap_certificate (K : PySem.W.Frag) : Sp := fun vs H Q E => ∃ (a b : Addr) (size g : Int) (log : List Int) (x : V) (d : PyData), vs = [.int size, .ref a, .int g, x] ∧ SqL K H a (log.map V.int) ∧ log.length ≤ 1000 ∧ Vl b H x d ∧ SeqAt.shaped d = true ∧ RepE K H size log E ∧
  (SizeOk size → Leg (wholeS size.toNat) log → ¬ (0 ≤ g ∧ g ≤ size) → ∀ H', Kp [] H H' → Ex K "BadGap" [("gap", .int g)] E H') ∧
  (SizeOk size → Leg (wholeS size.toNat) log → 0 ≤ g → g ≤ size → ∀ H', Kp [] H H' → Q (.bl (cerB d (stT (runS (wholeS size.toNat) log) g.toNat) (gI (bkR size.toNat log).wr g.toNat) (gI (bkR size.toNat log).wl g.toNat))) H')
def sp__law_judged (K : PySem.W.Frag) : Sp := fun vs H Q E => ∃ (n g : Nat) (a b u : Addr) (log : List Int) (x : V) (d : PyData), vs = [.int (n : Int), .ref a, .int (g : Int), x, .ref u] ∧ n ≤ 60 ∧ g ≤ n ∧ SqL K H a (log.map V.int) ∧ log.length ≤ 1000 ∧ Leg (wholeS n) log ∧
  Vl b H x d ∧ SeqAt.shaped d = true ∧ okv d = true ∧ H u = some (.tup (paper n log g)) ∧ ∀ H', Kp [] H H' → Q (.bl true) H'
def sp__law_papers_fit (K : PySem.W.Frag) : Sp := fun vs H Q E => ∃ (n : Nat) (a c p b : Addr) (log gs : List Int), vs = [.int (n : Int), .ref a, .ref c, .ref p, .ref b] ∧ n ≤ 60 ∧ H a = some (.lst (log.map V.int)) ∧ log.length ≤ 1000 ∧ Leg (wholeS n) log ∧ H c = some (.lst (gs.map V.int)) ∧ gs ≠ [] ∧
  (∀ g ∈ gs, 0 ≤ g ∧ g ≤ n) ∧ gs.length ≤ 1000 ∧ PapersAt H p n log ∧ Bag H b ∧ a ≠ b ∧ c ≠ b ∧ p ≠ b ∧ ∀ H', Kp [b] H H' → Bag H' b → Q (.bl true) H'
def sp10__law_agrees (K : PySem.W.Frag) : Sp := fun vs H Q E => ∃ (n : Nat) (a c b : Addr) (log gs : List Int), vs = [.int (n : Int), .ref a, .ref c, .ref b] ∧ n ≤ 60 ∧ H a = some (.lst (log.map V.int)) ∧ log.length ≤ 1000 ∧ Leg (wholeS n) log ∧ H c = some (.lst (gs.map V.int)) ∧ gs ≠ [] ∧
  (∀ g ∈ gs, 0 ≤ g ∧ g ≤ n) ∧ gs.length ≤ 1000 ∧ Bag H b ∧ a ≠ b ∧ c ≠ b ∧ ∀ H', Kp [b] H H' → Bag H' b → Q (.bl true) H'
def sp10__law_answer (K : PySem.W.Frag) : Sp := fun vs H Q E => ∃ (way size g : Int) (a : Addr) (log : List Int), vs = [.int way, .int size, .ref a, .int g] ∧ (way ≤ 1 ∨ g = 0) ∧ 0 ≤ way ∧ way ≤ 2 ∧ SqL K H a (log.map V.int) ∧ log.length ≤ 1000 ∧ ∀ xs t H', FltV size log g xs → Kp [] H H' → H' t = some (.tup xs) → Q (.ref t) H'
def sp10__law_places (K : PySem.W.Frag) : Sp := fun vs H Q E => ∃ (b a : Addr) (n : Nat) (log : List Int), vs = [.ref b, .int (n : Int), .ref a] ∧ n ≤ 60 ∧ Bag H b ∧ a ≠ b ∧ H a = some (.lst (log.map V.int)) ∧ log.length ≤ 500 ∧ (∀ x ∈ log, IsOp n x) ∧ ∀ (gs : List Int) (q : Addr) H', H q = none → gs ≠ [] → gs.length ≤ 100 → (∀ g ∈ gs, 0 ≤ g ∧ g ≤ n) → Kp [b] H H' → Bag H' b → H' q = some (.lst (gs.map V.int)) → Q (.ref q) H'
end
end G

set_option Elab.async false
set_option linter.all false
set_option maxRecDepth 100000
set_option maxHeartbeats 4000000
/-! Texts of numbers, and of standings. -/
namespace G
open PySem PySem.Spec PyProof.Rows L2 TL
def numI (i : Int) : Str := Str.ofString (toString i)
def spS : Str := " "
def barS : Str := " | "
def joinI (l : List Int) : Str := Txt.join spS (l.map numI)
theorem tl_numI {i : Int} (h : 0 ≤ i) : tl (numI i) = numL i.toNat := by
  obtain ⟨n, rfl⟩ : ∃ n : Nat, i = (n : Int) := ⟨i.toNat, by omega⟩
  rw [Int.toNat_natCast]
  exact tl_num n
theorem tl_spS : tl spS = [32] := by decide +kernel
theorem tl_barS : tl barS = [32, 124, 32] := by decide +kernel
theorem numI_len {i : Int} (h : 0 ≤ i) (h2 : i < 1000000000) : (numI i).length ≤ 9 := by
  rw [len_tl, tl_numI h]
  exact numL_len (by decide) (by omega)
theorem numI_pos {i : Int} (h : 0 ≤ i) : 1 ≤ (numI i).length := by
  rw [len_tl, tl_numI h]
  exact List.length_pos_iff.mpr (numL_ne _)
theorem split_joinI {l : List Int} (hne : l ≠ []) (h : ∀ i ∈ l, 0 ≤ i) : Txt.split (joinI l) spS = l.map numI := by
  refine split_join (y := spS) (s := 32) (S := []) tl_spS (by decide +kernel) (by simpa using hne) fun p hp => ?_
  obtain ⟨i, hi, rfl⟩ := List.mem_map.mp hp
  rw [tl_numI (h i hi)]
  exact numL_free (by omega)
theorem joinL_len (S : List Nat) : ∀ ps : List (List Nat), (joinL S ps).length ≤ (ps.map List.length).sum + ps.length * S.length
  | [] => by simp [joinL]
  | [p] => by simp [joinL]
  | p :: q :: r => by
    have ih := joinL_len S (q :: r)
    show (p ++ (S ++ joinL S (q :: r))).length ≤ _
    simp only [List.length_append, List.map_cons, List.sum_cons, List.length_cons, Nat.add_mul, Nat.one_mul] at ih ⊢
    omega
theorem sum_le9 : ∀ {l : List Int}, (∀ i ∈ l, 0 ≤ i ∧ i < 1000000000) → ((l.map numI).map (·.length)).sum ≤ 9 * l.length
  | [], _ => by simp
  | i :: l, h => by
    have ih := sum_le9 (l := l) fun j hj => h j (List.mem_cons_of_mem _ hj)
    have h0 := h i List.mem_cons_self
    have := numI_len h0.1 h0.2
    simp only [List.map_cons, List.sum_cons, List.length_cons]
    omega
theorem joinI_len {l : List Int} (h : ∀ i ∈ l, 0 ≤ i ∧ i < 1000000000) : (joinI l).length ≤ 10 * l.length := by
  unfold joinI
  rw [len_tl, join_eq, tl_join]
  refine Nat.le_trans (joinL_len _ _) ?_
  have := sum_le9 h
  rw [tl_spS, List.map_map, List.length_map, List.length_map]
  have e : (List.map (List.length ∘ tl) (List.map numI l)).sum = ((l.map numI).map (·.length)).sum := by
    congr 1
  rw [e]
  show _ + l.length * 1 ≤ _
  omega
theorem join_cost {l : List Int} (h : ∀ i ∈ l, 0 ≤ i ∧ i < 1000000000) (hl : l.length ≤ 1000) : ((l.map numI).map (·.length)).sum + (l.map numI).length * spS.length ≤ 16777216 := by
  have := sum_le9 h
  have e : spS.length = 1 := by decide +kernel
  rw [e, List.length_map]
  omega
theorem intText_num {i : Int} (h : 0 ≤ i) (h2 : i < 1000000000) : intText? (numI i) = some i := by
  obtain ⟨n, rfl⟩ : ∃ n : Nat, i = (n : Int) := ⟨i.toNat, by omega⟩
  refine int_num ?_
  have := numL_len (n := n) (k := 9) (by decide) (by omega)
  omega
theorem numI_inj {i j : Int} (hi : 0 ≤ i) (hj : 0 ≤ j) (e : numI i = numI j) : i = j := by
  have e2 := congrArg tl e
  rw [tl_numI hi, tl_numI hj] at e2
  have := numL_inj e2
  omega
theorem zeroS : numI 0 = ("0" : Str) := by decide +kernel
theorem numI_ne0 {i : Int} (h : 1 ≤ i) : ¬ numI i = ("0" : Str) := fun e => by
  rw [← zeroS] at e
  have := numI_inj (by omega) (by omega) e
  omega
theorem numL_head : ∀ n : Nat, 1 ≤ n → ∀ c r, numL n = c :: r → c ≠ 48 := by
  intro n
  induction n using Nat.strongRecOn with
  | _ n ih =>
    intro h c r e
    by_cases h10 : n < 10
    · rw [numL_lt h10] at e
      injection e with e1 e2
      omega
    · rw [numL_step (by omega)] at e
      cases e2 : numL (n / 10) with
      | nil => exact absurd e2 (numL_ne _)
      | cons d t =>
        rw [e2, List.cons_append] at e
        injection e with e3 e4
        have := ih (n / 10) (by omega) (by omega) d t e2
        omega
def digS : Str := "0123456789"
theorem digs_mem {c : Nat} (h : 48 ≤ c ∧ c ≤ 57) : c ∈ digS.cps.toList := by
  have e : digS.cps.toList = [48, 49, 50, 51, 52, 53, 54, 55, 56, 57] := by decide +kernel
  rw [e]
  have : c = 48 ∨ c = 49 ∨ c = 50 ∨ c = 51 ∨ c = 52 ∨ c = 53 ∨ c = 54 ∨ c = 55 ∨ c = 56 ∨ c = 57 := by omega
  simp only [List.mem_cons, List.not_mem_nil, or_false]
  exact this
theorem numI_digits {i : Int} (h : 0 ≤ i) {c : Nat} (hc : c ∈ (numI i).cps.toList) : c ∈ digS.cps.toList := by
  have e : (numI i).cps.toList = numL i.toNat := tl_numI h
  rw [e] at hc
  exact digs_mem (numL_digits _ _ hc)
/-! ### a text's parts -/
def GoodP (p : List Nat) : Prop := 124 ∉ p ∧ ∀ q, p ≠ q ++ [32]
theorem pre_bar {x y : Nat} (r : List Nat) (h : y ≠ 124) : pre [32, 124, 32] (x :: y :: r) = false := by
  cases hp : pre [32, 124, 32] (x :: y :: r) with
  | false => rfl
  | true =>
    have e : (x :: y :: r).take 3 = [32, 124, 32] := eq_of_beq hp
    rw [List.take_succ_cons, List.take_succ_cons] at e
    injection e with e1 e2
    injection e2 with e3 e4
    exact absurd e3 h
theorem good_free {p rest : List Nat} (g : GoodP p) : ∀ i, i < p.length → pre [32, 124, 32] ((p ++ rest).drop i) = false := by
  intro i hi
  have h1 : i < (p ++ rest).length := by rw [List.length_append]; omega
  have e1 : (p ++ rest).drop i = (p ++ rest)[i] :: (p ++ rest).drop (i + 1) := List.drop_eq_getElem_cons h1
  have e2 : (p ++ rest)[i] = p[i] := List.getElem_append_left hi
  rw [e1, e2]
  by_cases c : p[i] = 32
  · have lt : i + 1 < p.length := by
      apply Classical.byContradiction
      intro nlt
      have ei : i = p.length - 1 := by omega
      refine g.2 p.dropLast ?_
      have hne : p ≠ [] := fun z => by rw [z] at hi; simp at hi
      have := List.dropLast_concat_getLast hne
      rw [← this]
      congr 1
      · rw [List.dropLast_concat]
      · congr 1
        rw [List.getLast_eq_getElem]
        subst ei
        exact c
    have h2 : i + 1 < (p ++ rest).length := by rw [List.length_append]; omega
    have e3 : (p ++ rest).drop (i + 1) = (p ++ rest)[i + 1] :: (p ++ rest).drop (i + 2) := List.drop_eq_getElem_cons h2
    have e4 : (p ++ rest)[i + 1] = p[i + 1] := List.getElem_append_left lt
    rw [e3, e4]
    exact pre_bar _ fun z => g.1 (by rw [← z]; exact List.getElem_mem lt)
  · exact pre_of_head _ _ c
theorem split_bar {a b c : Str} (ga : GoodP (tl a)) (gb : GoodP (tl b)) (gc : GoodP (tl c)) : Txt.split (Txt.join barS [a, b, c]) barS = [a, b, c] := by
  refine map_tl_inj ?_
  rw [split_spl _ barS (by rw [tl_barS]; simp) (kind_ok (by decide +kernel)), join_eq, tl_join, tl_barS]
  show spl [32, 124, 32] 0 [] (tl a ++ ([32, 124, 32] ++ (tl b ++ ([32, 124, 32] ++ tl c)))) = [tl a, tl b, tl c]
  rw [spl_part (by simp) (good_free ga), spl_part (by simp) (good_free gb), spl_last (fun i hi => by
    have := good_free (rest := []) gc i hi
    rw [List.append_nil] at this
    exact this)]
  rfl
theorem joinL_mem {S : List Nat} {c : Nat} : ∀ {ps : List (List Nat)}, c ∈ joinL S ps → c ∈ S ∨ ∃ p ∈ ps, c ∈ p
  | [], h => by cases h
  | [p], h => .inr ⟨p, List.mem_singleton.mpr rfl, h⟩
  | p :: q :: r, h => by
    have h : c ∈ p ++ (S ++ joinL S (q :: r)) := h
    rcases List.mem_append.mp h with h | h
    · exact .inr ⟨p, List.mem_cons_self, h⟩
    rcases List.mem_append.mp h with h | h
    · exact .inl h
    rcases joinL_mem h with h | ⟨z, hz, h⟩
    · exact .inl h
    · exact .inr ⟨z, List.mem_cons_of_mem _ hz, h⟩
theorem joinL_last {S : List Nat} : ∀ {ps : List (List Nat)}, ps ≠ [] → (∀ p ∈ ps, p ≠ [] ∧ ∀ q, p ≠ q ++ [32]) → joinL S ps ≠ [] ∧ ∀ q, joinL S ps ≠ q ++ [32]
  | [], h, _ => absurd rfl h
  | [p], _, h => h p (List.mem_singleton.mpr rfl)
  | p :: q :: r, _, h => by
    obtain ⟨i1, i2⟩ := joinL_last (S := S) (ps := q :: r) (by simp) fun z hz => h z (List.mem_cons_of_mem _ hz)
    have hj : joinL S (p :: q :: r) = (p ++ S) ++ joinL S (q :: r) := (List.append_assoc ..).symm
    rw [hj]
    refine ⟨fun z => i1 (List.append_eq_nil_iff.mp z).2, fun t ht => ?_⟩
    have e := congrArg List.getLast? ht
    rw [List.getLast?_append, List.getLast?_concat, List.getLast?_eq_some_getLast i1, Option.some_or] at e
    have d := List.dropLast_concat_getLast i1
    have gl : (joinL S (q :: r)).getLast i1 = 32 := by injection e
    rw [gl] at d
    exact i2 _ d.symm
theorem numL_last (n : Nat) : ∀ q, numL n ≠ q ++ [32] := fun q e => by
  have := numL_digits n 32 (by rw [e]; simp)
  omega
theorem good_joinI {l : List Int} (hne : l ≠ []) (h : ∀ i ∈ l, 0 ≤ i) : GoodP (tl (joinI l)) := by
  unfold joinI
  rw [join_eq, tl_join, tl_spS]
  have hp : ∀ p ∈ (l.map numI).map tl, ∃ n, p = numL n := by
    intro p hp
    obtain ⟨z, hz, rfl⟩ := List.mem_map.mp hp
    obtain ⟨i, hi, rfl⟩ := List.mem_map.mp hz
    exact ⟨_, tl_numI (h i hi)⟩
  refine ⟨fun hm => ?_, (joinL_last (by simpa using hne) fun p hq => ?_).2⟩
  · rcases joinL_mem hm with z | ⟨p, hq, z⟩
    · simp at z
    · obtain ⟨n, rfl⟩ := hp p hq
      have := numL_digits n _ z
      omega
  · obtain ⟨n, rfl⟩ := hp p hq
    exact ⟨numL_ne n, numL_last n⟩
def noneS : Str := "none"
theorem good_none : GoodP (tl noneS) := by
  have e : tl noneS = [110, 111, 110, 101] := by decide +kernel
  rw [e]
  refine ⟨by decide, fun q h => ?_⟩
  have := congrArg List.getLast? h
  rw [List.getLast?_concat] at this
  simp at this
/-! ### the dump -/
def outsT (l : List Int) : Str := if l = [] then noneS else joinI l
def dumpS (s : Sd) : Str := Txt.join barS [joinI s.R, joinI (s.L.drop 1), outsT (outN s.n s.O)]
theorem joinI_ne_none {l : List Int} (hne : l ≠ []) (h : ∀ i ∈ l, 0 ≤ i) : ¬ joinI l = noneS := fun e => by
  have e2 := split_joinI hne h
  rw [e] at e2
  have d : Txt.split noneS spS = [noneS] := by
    refine map_tl_inj ?_
    rw [split_spl _ spS (by rw [tl_spS]; simp) (kind_ok (by decide +kernel))]
    decide +kernel
  rw [d] at e2
  match l, hne with
  | i :: r, _ =>
    rw [List.map_cons] at e2
    injection e2 with e3 e4
    have hi := h i List.mem_cons_self
    have t := congrArg tl e3
    rw [tl_numI hi] at t
    have m : (110 : Nat) ∈ numL i.toNat := by
      rw [← t]
      decide +kernel
    have := numL_digits _ _ m
    omega
theorem outN_bd {n : Nat} {O : List Bool} {i : Int} (h : i ∈ outN n O) : 1 ≤ i ∧ i ≤ n ∧ gB O i.toNat = true := by
  unfold outN at h
  obtain ⟨v, hv, rfl⟩ := List.mem_map.mp h
  obtain ⟨h1, h2⟩ := List.mem_filter.mp hv
  obtain ⟨u, hu, rfl⟩ := List.mem_map.mp h1
  have := List.mem_range.mp hu
  refine ⟨by omega, by omega, ?_⟩
  rw [Int.toNat_natCast]
  exact h2
end G

set_option Elab.async false
set_option linter.all false
set_option maxRecDepth 100000
set_option maxHeartbeats 4000000
/-! k07, k06: standings read from texts; what an operation changes. -/
namespace G
open PySem PySem.Spec PyProof.Rows L2
/-- a standing that can be read back: no left link of the head, the sentinels in -/
structure Snd (s : Sd) : Prop where
  l0 : ∃ t, s.L = 0 :: t
  o0 : gB s.O 0 = false
  o1 : gB s.O (s.n + 1) = false
theorem stepS_snd {s : Sd} (w : Wf s) (d : Snd s) {op : Int} (h : IsOp s.n op) : Snd (stepS s op) := by
  obtain ⟨t, e⟩ := d.l0
  obtain ⟨r1, r2⟩ := w.rb op.natAbs (by have := h.2; omega)
  have h1 := h.1
  have h2 := h.2
  refine ⟨?_, ?_, ?_⟩
  · obtain ⟨k, ek⟩ : ∃ k, (gI s.R op.natAbs).toNat = k + 1 := ⟨(gI s.R op.natAbs).toNat - 1, by omega⟩
    refine ⟨t.set k (if op < 0 then gI s.L op.natAbs else (op.natAbs : Int)), ?_⟩
    show s.L.set (gI s.R op.natAbs).toNat _ = _
    rw [ek]
    generalize (if op < 0 then gI s.L op.natAbs else (op.natAbs : Int)) = v
    rw [e]
    rfl
  · show gB (s.O.set op.natAbs _) 0 = false
    rw [gB_set (by rw [w.lO]; omega), if_neg (by omega)]
    exact d.o0
  · show gB (s.O.set op.natAbs _) (s.n + 1) = false
    rw [gB_set (by rw [w.lO]; omega), if_neg (by omega)]
    exact d.o1
theorem runS_snd {s : Sd} (w : Wf s) (d : Snd s) : ∀ {log : List Int}, Leg s log → Snd (runS s log) := by
  intro log
  induction log using snoc_ind with
  | h0 => exact fun _ => d
  | h1 l x ih =>
    intro h
    have h1 : Leg s l := by
      have := h.take l.length
      rwa [List.take_left' rfl] at this
    have h2 := h l.length x (by simp)
    rw [List.take_left' rfl] at h2
    rw [runS_snoc]
    exact stepS_snd (h1.wf w) (ih h1) h2.1
theorem wholeS_snd (n : Nat) : Snd (wholeS n) := by
  refine ⟨⟨_, rfl⟩, ?_, ?_⟩
  · exact gB_of (by show (List.replicate (n + 2) false)[0]? = _; rw [List.getElem?_replicate_of_lt (by omega)])
  · exact gB_of (by show (List.replicate (n + 2) false)[n + 1]? = _; rw [List.getElem?_replicate_of_lt (by omega)])
/-! ### the gaps of foreign writes -/
def forW (s : Sd) (x : Nat) : List Int :=
  (if gI s.L x ≠ (x : Int) - 1 ∧ gI s.R (gI s.L x).toNat = gI s.L x + 1 then [gI s.L x] else []) ++
  (if gI s.R x ≠ (x : Int) + 1 ∧ gI s.L (gI s.R x).toNat = gI s.R x - 1 then [gI s.R x - 1] else [])
theorem forW_len (s : Sd) (x : Nat) : (forW s x).length ≤ 2 := by
  unfold forW
  rw [List.length_append]
  split <;> split <;> simp
/-! ### changes -/
abbrev Tr := Nat × Str × Str
def trV (t : Tr) : List V := [.int (t.1 : Int), .str t.2.1, .str t.2.2]
def chg (s s' : Sd) : List Tr := ((List.range (s.n + 1)).filter fun g => !decide (stT s g = stT s' g)).map fun g => (g, stT s g, stT s' g)
def TupsAt (H : Hp) (xs : List V) (ts : List Tr) : Prop := xs.length = ts.length ∧ ∀ (i : Nat) (t : Tr), ts[i]? = some t → ∃ a, xs[i]? = some (.ref a) ∧ H a = some (.tup (trV t))
theorem TupsAt.kp {S : List Addr} {H H' : Hp} {xs : List V} {ts : List Tr} (h : TupsAt H xs ts) (k : Kp S H H') (hS : ∀ b ∈ S, ∀ ys, H b ≠ some (.tup ys)) : TupsAt H' xs ts := by
  refine ⟨h.1, fun i t e => ?_⟩
  obtain ⟨a, h1, h2⟩ := h.2 i t e
  exact ⟨a, h1, k _ _ (fun z => hS a z _ h2) h2⟩
theorem TupsAt.k0 {H H' : Hp} {xs : List V} {ts : List Tr} (h : TupsAt H xs ts) (k : Kp [] H H') : TupsAt H' xs ts := h.kp k (by simp)
theorem TupsAt.snoc {H : Hp} {xs : List V} {ts : List Tr} {a : Addr} {t : Tr} (h : TupsAt H xs ts) (ha : H a = some (.tup (trV t))) : TupsAt H (xs ++ [.ref a]) (ts ++ [t]) := by
  refine ⟨by rw [List.length_append, List.length_append, h.1] <;> rfl, fun i u e => ?_⟩
  by_cases c : i < ts.length
  · rw [List.getElem?_append_left c] at e
    obtain ⟨b, h1, h2⟩ := h.2 i u e
    exact ⟨b, by rw [List.getElem?_append_left (by rw [h.1]; exact c)]; exact h1, h2⟩
  · have hl := (List.getElem?_eq_some_iff.mp e).1
    rw [List.length_append] at hl
    have ei : i = ts.length := by simp at hl; omega
    subst ei
    rw [List.getElem?_append_right (Nat.le_refl _), Nat.sub_self] at e
    have eu : t = u := by simpa using e
    subst eu
    exact ⟨a, by rw [List.getElem?_append_right (by rw [h.1]; exact Nat.le_refl _), h.1, Nat.sub_self] <;> rfl, ha⟩
theorem TupsAt.nil {H : Hp} : TupsAt H [] [] := ⟨rfl, fun i t e => by simp at e⟩
theorem chg_len (s s' : Sd) : (chg s s').length ≤ s.n + 1 := by
  unfold chg
  rw [List.length_map]
  have := List.length_filter_le (fun g => !decide (stT s g = stT s' g)) (List.range (s.n + 1))
  rw [List.length_range] at this
  exact this
/-- the two ends of an operation: the gap, its state behind it -/
structure Ends2 (s : Sd) (op : Int) (es : List (Nat × Str)) : Prop where
  ex : ∃ c1 c2 : Bool, es = (if c1 then [(lowN s op, stT (stepS s op) (lowN s op))] else []) ++ (if c2 then [(hiN s op, stT (stepS s op) (hiN s op))] else []) ∧
    (c1 = false → stT (stepS s op) (lowN s op) = stT s (lowN s op)) ∧ (c2 = false → stT (stepS s op) (hiN s op) = stT s (hiN s op))
def chE (s : Sd) (es : List (Nat × Str)) : List Tr := (es.filter fun e => !decide (stT s e.1 = e.2)).map fun e => (e.1, stT s e.1, e.2)
theorem filter_two {n a b : Nat} {p : Nat → Bool} (hab : a < b) (hb : b < n) (h : ∀ g, g < n → g ≠ a → g ≠ b → p g = false) : (List.range n).filter p = (if p a then [a] else []) ++ (if p b then [b] else []) := by
  have key : ∀ m, (List.range m).filter p = (if a < m ∧ p a = true then [a] else []) ++ (if b < m ∧ p b = true then [b] else []) ∨ n < m := by
    intro m
    induction m with
    | zero => left; rw [if_neg (by omega), if_neg (by omega)]; rfl
    | succ m ih =>
      by_cases hm : n < m + 1
      · exact .inr hm
      rcases ih with ih | ih
      · left
        rw [List.range_succ, List.filter_append, ih]
        by_cases e1 : m = a
        · subst e1
          rw [if_neg (by omega), if_neg (by omega : ¬ (b < m ∧ p b = true)), if_neg (by omega : ¬ (b < m + 1 ∧ p b = true))]
          cases hp : p m with
          | true => rw [List.filter_cons_of_pos hp, if_pos ⟨by omega, rfl⟩]; rfl
          | false => rw [List.filter_cons_of_neg (by rw [hp]; exact Bool.false_ne_true), if_neg (by simp)]; rfl
        · by_cases e2 : m = b
          · subst e2
            rw [if_neg (by omega : ¬ (m < m ∧ p m = true))]
            have i1 : (a < m ∧ p a = true) = (a < m + 1 ∧ p a = true) := by
              refine propext ⟨fun z => ⟨by omega, z.2⟩, fun z => ⟨by omega, z.2⟩⟩
            simp only [i1, List.append_nil]
            cases hp : p m with
            | true => rw [List.filter_cons_of_pos hp, if_pos (⟨by omega, rfl⟩ : m < m + 1 ∧ true = true)]; rfl
            | false => rw [List.filter_cons_of_neg (by rw [hp]; exact Bool.false_ne_true), if_neg (by simp : ¬ (m < m + 1 ∧ false = true))]; rfl
          · rw [List.filter_cons_of_neg (by rw [h m (by omega) e1 e2]; exact Bool.false_ne_true)]
            have i1 : (a < m ∧ p a = true) = (a < m + 1 ∧ p a = true) := by
              refine propext ⟨fun z => ⟨by omega, z.2⟩, fun z => ⟨by omega, z.2⟩⟩
            have i2 : (b < m ∧ p b = true) = (b < m + 1 ∧ p b = true) := by
              refine propext ⟨fun z => ⟨by omega, z.2⟩, fun z => ⟨by omega, z.2⟩⟩
            simp only [i1, i2]
            rw [List.filter_nil, List.append_nil]
      · omega
  rcases key n with k | k
  · rw [k]
    congr 1
    · by_cases c : p a = true
      · rw [if_pos ⟨by omega, c⟩, if_pos c]
      · rw [if_neg (fun z => c z.2), if_neg c]
    · by_cases c : p b = true
      · rw [if_pos ⟨by omega, c⟩, if_pos c]
      · rw [if_neg (fun z => c z.2), if_neg c]
  · omega
theorem ends_chg {s : Sd} (w : Wf s) {op : Int} (h : IsOp s.n op) {es : List (Nat × Str)} (e : Ends2 s op es) : chE s es = chg s (stepS s op) := by
  obtain ⟨t1, t2, t3, t4, t5⟩ := touch_bd w h
  unfold chg
  rw [filter_two (a := lowN s op) (b := hiN s op) (by omega) (by omega) (fun g hg g1 g2 => by rw [step_st w h g1 g2, decide_eq_true rfl]; rfl)]
  obtain ⟨c1, c2, rfl, h1, h2⟩ := e.ex
  unfold chE
  rw [List.filter_append, List.map_append, List.map_append]
  congr 1
  · cases c1 with
    | true =>
      by_cases d : stT s (lowN s op) = stT (stepS s op) (lowN s op)
      · rw [decide_eq_true d]
        simp [d]
      · rw [decide_eq_false d]
        simp [d]
    | false =>
      have d := h1 rfl
      rw [d, decide_eq_true rfl]
      rfl
  · cases c2 with
    | true =>
      by_cases d : stT s (hiN s op) = stT (stepS s op) (hiN s op)
      · rw [decide_eq_true d]
        simp [d]
      · rw [decide_eq_false d]
        simp [d]
    | false =>
      have d := h2 rfl
      rw [d, decide_eq_true rfl]
      rfl
theorem ne_w : ¬ ("joined" : Str) = "lost" ∧ ¬ ("left" : Str) = "lost" ∧ ¬ ("right" : Str) = "lost" ∧ ¬ ("left" : Str) = "joined" ∧ ¬ ("right" : Str) = "joined" ∧ ¬ ("lost" : Str) = "joined" ∧ ¬ ("right" : Str) = "left" ∧ ¬ ("lost" : Str) = "left" ∧ ¬ ("lost" : Str) = "right" ∧ ¬ ("joined" : Str) = "left" ∧ ¬ ("joined" : Str) = "right" ∧ ¬ ("left" : Str) = "right" := by
  decide +kernel
theorem stT_lost {s : Sd} {g : Nat} : stT s g = "lost" ↔ gI s.R g ≠ (g : Int) + 1 ∧ gI s.L (g + 1) ≠ (g : Int) := by
  obtain ⟨a, b, c, _⟩ := ne_w
  unfold stT
  by_cases h1 : gI s.R g = (g : Int) + 1 <;> by_cases h2 : gI s.L (g + 1) = (g : Int)
  · rw [if_pos h1, if_pos h2]
    exact ⟨fun z => absurd z a, fun z => absurd h1 z.1⟩
  · rw [if_pos h1, if_neg h2]
    exact ⟨fun z => absurd z b, fun z => absurd h1 z.1⟩
  · rw [if_neg h1, if_pos h2]
    exact ⟨fun z => absurd z c, fun z => absurd h2 z.2⟩
  · rw [if_neg h1, if_neg h2]
    exact ⟨fun _ => ⟨h1, h2⟩, fun _ => rfl⟩
theorem step_gR {s : Sd} (w : Wf s) {op : Int} (h : IsOp s.n op) (g : Nat) : gI (stepS s op).R g = if g = lowN s op then (if op < 0 then (hiN s op : Int) + 1 else (op.natAbs : Int)) else gI s.R g := by
  obtain ⟨t1, t2, t3, t4, t5⟩ := touch_bd w h
  show gI (s.R.set _ _) g = _
  rw [gI_set (by rw [w.lR, t4]; have := h.2; omega), t4, Int.toNat_natCast, t5]
theorem step_gL {s : Sd} (w : Wf s) {op : Int} (h : IsOp s.n op) (g : Nat) : gI (stepS s op).L (g + 1) = if g = hiN s op then (if op < 0 then (lowN s op : Int) else (op.natAbs : Int)) else gI s.L (g + 1) := by
  obtain ⟨t1, t2, t3, t4, t5⟩ := touch_bd w h
  show gI (s.L.set _ _) (g + 1) = _
  rw [gI_set (by rw [w.lL, t5]; omega), t5, t4, show ((hiN s op : Int) + 1).toNat = hiN s op + 1 by omega]
  by_cases c : g = hiN s op
  · rw [if_pos c, if_pos (by omega)]
  · rw [if_neg c, if_neg (by omega)]
/-- what is lost stays lost -/
theorem lost_stays {s : Sd} (w : Wf s) {op : Int} (h : IsOp s.n op) {g : Nat} (hl : stT s g = "lost") : stT (stepS s op) g = "lost" := by
  obtain ⟨t1, t2, t3, t4, t5⟩ := touch_bd w h
  obtain ⟨a, b⟩ := stT_lost.mp hl
  refine stT_lost.mpr ⟨?_, ?_⟩
  · rw [step_gR w h]
    by_cases c : g = lowN s op
    · rw [if_pos c]
      by_cases o : op < 0
      · rw [if_pos o]
        omega
      · rw [if_neg o]
        intro z
        have e : g + 1 = op.natAbs := by omega
        rw [e, t4] at b
        omega
    · rw [if_neg c]
      exact a
  · rw [step_gL w h]
    by_cases c : g = hiN s op
    · rw [if_pos c]
      by_cases o : op < 0
      · rw [if_pos o]
        omega
      · rw [if_neg o]
        intro z
        have e : g = op.natAbs := by omega
        rw [e, t5] at a
        omega
    · rw [if_neg c]
      exact b
/-- the state of the lower gap behind the operation -/
theorem st_low {s : Sd} (w : Wf s) {op : Int} (h : IsOp s.n op) : stT (stepS s op) (lowN s op) = if lowN s op + 1 = op.natAbs then (if 0 < op then ("joined" : Str) else "right") else (if gI s.L (lowN s op + 1) = (lowN s op : Int) then ("right" : Str) else "lost") := by
  obtain ⟨t1, t2, t3, t4, t5⟩ := touch_bd w h
  have h1 := h.1
  have eR : gI (stepS s op).R (lowN s op) = if op < 0 then (hiN s op : Int) + 1 else (op.natAbs : Int) := by rw [step_gR w h, if_pos rfl]
  have eL : gI (stepS s op).L (lowN s op + 1) = gI s.L (lowN s op + 1) := by rw [step_gL w h, if_neg (by omega)]
  unfold stT
  rw [eR, eL]
  by_cases c : lowN s op + 1 = op.natAbs
  · rw [if_pos c]
    have e : gI s.L (lowN s op + 1) = (lowN s op : Int) := by rw [c]; exact t4
    rw [if_pos e, if_pos e]
    by_cases o : op < 0
    · rw [if_pos o, if_neg (by omega), if_neg (by omega)]
    · rw [if_neg o, if_pos (by omega), if_pos (by omega)]
  · rw [if_neg c]
    by_cases o : op < 0
    · rw [if_pos o, if_neg (by omega)]
    · rw [if_neg o, if_neg (by omega)]
theorem st_hi {s : Sd} (w : Wf s) {op : Int} (h : IsOp s.n op) : stT (stepS s op) (hiN s op) = if hiN s op = op.natAbs then (if 0 < op then ("joined" : Str) else "left") else (if gI s.R (hiN s op) = (hiN s op : Int) + 1 then ("left" : Str) else "lost") := by
  obtain ⟨t1, t2, t3, t4, t5⟩ := touch_bd w h
  have h1 := h.1
  have eR : gI (stepS s op).R (hiN s op) = gI s.R (hiN s op) := by rw [step_gR w h, if_neg (by omega)]
  have eL : gI (stepS s op).L (hiN s op + 1) = if op < 0 then (lowN s op : Int) else (op.natAbs : Int) := by rw [step_gL w h, if_pos rfl]
  unfold stT
  rw [eR, eL]
  by_cases c : hiN s op = op.natAbs
  · rw [if_pos c]
    have e : gI s.R (hiN s op) = (hiN s op : Int) + 1 := by rw [c, t5, c]
    rw [if_pos e]
    by_cases o : op < 0
    · rw [if_pos o, if_neg (by omega), if_neg (by omega)]
    · rw [if_neg o, if_pos (by omega), if_pos (by omega)]
  · rw [if_neg c]
    have n1 : ¬ (if op < 0 then (lowN s op : Int) else (op.natAbs : Int)) = (hiN s op : Int) := by
      by_cases o : op < 0
      · rw [if_pos o]
        omega
      · rw [if_neg o]
        omega
    rw [if_neg n1, if_neg n1]
/-! ### promises -/
section
def Num9 (l : List Int) : Prop := ∀ i ∈ l, 0 ≤ i ∧ i < 1000000000
/-- a new list -/
def NewL (H : Hp) (xs : List V) (Q : VK) : Prop := ∀ a H', H a = none → Kp [] H H' → H' a = some (.lst xs) → Q (.ref a) H'
def Any (H : Hp) (v : V) (Q : VK) : Prop := ∀ H', Kp [] H H' → Q v H'
def sp_is_positive (K : PySem.W.Frag) : Sp := fun vs H Q E => ∃ i : Int, vs = [.str (numI i)] ∧ 1 ≤ i ∧ i < 1000000000 ∧ Any H (.bl true) Q
def sp__read_numbers (K : PySem.W.Frag) : Sp := fun vs H Q E => ∃ (l : List Int) (part : Int), vs = [.str (joinI l), .int part] ∧ l ≠ [] ∧ Num9 l ∧ l.length ≤ 100 ∧ NewL H (l.map V.int) Q
def sp__read_rights (K : PySem.W.Frag) : Sp := fun vs H Q E => ∃ (n : Nat) (l : List Int), vs = [.str (joinI l)] ∧ n ≤ 60 ∧ l.length = n + 1 ∧ (∀ v, v ≤ n → (v : Int) < gI l v ∧ gI l v ≤ (n : Int) + 1) ∧ NewL H (l.map V.int) Q
def sp__read_lefts (K : PySem.W.Frag) : Sp := fun vs H Q E => ∃ (n : Nat) (l : List Int), vs = [.str (joinI l), .int (n : Int)] ∧ n ≤ 60 ∧ l.length = n + 1 ∧ (∀ v, v ≤ n → 0 ≤ gI l v ∧ gI l v ≤ (v : Int)) ∧ NewL H (l.map V.int) Q
def sp__read_outs (K : PySem.W.Frag) : Sp := fun vs H Q E => ∃ (n : Nat) (O : List Bool), vs = [.str (outsT (outN n O)), .int (n : Int)] ∧ n ≤ 60 ∧ NewL H ((outN n O).map V.int) Q
def sp_Links_read (K : PySem.W.Frag) : Sp := fun vs H Q E => ∃ s : Sd, vs = [.str (dumpS s)] ∧ Wf s ∧ Snd s ∧ NewS K H s Q
def sp__joined (K : PySem.W.Frag) : Sp := fun vs H Q E => ∃ (a : Addr) (l : List Int), vs = [.ref a] ∧ SqL K H a (l.map V.int) ∧ Num9 l ∧ l.length ≤ 100 ∧ Any H (.str (joinI l)) Q
def sp_dump_of (K : PySem.W.Frag) : Sp := fun vs H Q E => ∃ (r l o : Addr) (R L O : List Int), vs = [.ref r, .ref l, .ref o] ∧ SqL K H r (R.map V.int) ∧ SqL K H l (L.map V.int) ∧ SqL K H o (O.map V.int) ∧ (Num9 R ∧ R.length ≤ 100) ∧ (Num9 L ∧ L.length ≤ 100) ∧ (Num9 O ∧ O.length ≤ 100) ∧
  Any H (.str (Txt.join barS [joinI R, joinI L, outsT O])) Q
def sp_Links_dump (K : PySem.W.Frag) : Sp := fun vs H Q E => ∃ (p r l o : Addr) (s : Sd), vs = [.ref p] ∧ LinksAt K H p r l o s ∧ Any H (.str (dumpS s)) Q
def sp_foreign_writes (K : PySem.W.Frag) : Sp := fun vs H Q E => ∃ (p r l o : Addr) (s : Sd) (op : Int), vs = [.ref p, .int op] ∧ LinksAt K H p r l o s ∧ (OkOp s op → NewL H ((forW s op.natAbs).map V.int) Q) ∧ (¬ OkOp s op → OpE K s.n op 0 E H)
def sp_gap_changes (K : PySem.W.Frag) : Sp := fun vs H Q E => ∃ (p r l o : Addr) (s : Sd) (op : Int), vs = [.ref p, .int op] ∧ LinksAt K H p r l o s ∧
  (OkOp s op → ∀ xs q H', H q = none → Kp [] H H' → H' q = some (.lst xs) → TupsAt H' xs (chg s (stepS s op)) → Q (.ref q) H') ∧ (¬ OkOp s op → ∀ H', Kp [] H H' → OpE K s.n op 0 E H')
def sp__law_standing (K : PySem.W.Frag) : Sp := fun vs H Q E => ∃ (b : Addr) (n : Nat), vs = [.ref b, .int (n : Int)] ∧ n ≤ 60 ∧ Bag H b ∧ ∀ (s : Sd) w r l o H', s.n = n → Snd s → H w = none → H r = none → H l = none → H o = none → Kp [b] H H' → Bag H' b → LW H' w r l o s → Q (.ref w) H'
def sp__law_text (K : PySem.W.Frag) : Sp := fun vs H Q E => ∃ (w r l o : Addr) (s : Sd), vs = [.ref w] ∧ LW H w r l o s ∧ Any H (.str (dumpS s)) Q
def sp__law_words (K : PySem.W.Frag) : Sp := fun vs H Q E => ∃ (a b : Addr) (xs : List Str), vs = [.ref a, .ref b] ∧ xs.length ≤ 1000 ∧ H a = some (.lst (xs.map V.str)) ∧ H b = some (.lst (xs.map V.str)) ∧ Q (.bl true) H
def sp__law_triples (K : PySem.W.Frag) : Sp := fun vs H Q E => ∃ (a b : Addr) (xs ys : List V) (ts : List Tr), vs = [.ref a, .ref b] ∧ ts.length ≤ 1000 ∧ H a = some (.lst xs) ∧ H b = some (.lst ys) ∧ TupsAt H xs ts ∧ TupsAt H ys ts ∧ (∀ t ∈ ts, PyData.strOk t.2.1 = true ∧ PyData.strOk t.2.2 = true) ∧ Q (.bl true) H
def sp__law_states (K : PySem.W.Frag) : Sp := fun vs H Q E => ∃ (w r l o : Addr) (s : Sd), vs = [.ref w] ∧ LW H w r l o s ∧ NewL H ((List.range (s.n + 1)).map fun (v : Nat) => V.str (stT s v)) Q
def legO (s : Sd) (v : Nat) : Int := if gB s.O v then (v : Int) else -(v : Int)
def sp__law_legal (K : PySem.W.Frag) : Sp := fun vs H Q E => ∃ (w r l o : Addr) (s : Sd) (v : Nat), vs = [.ref w, .int (v : Int)] ∧ LW H w r l o s ∧ 1 ≤ v ∧ v ≤ s.n ∧ Q (.int (legO s v)) H
def sp__law_foreign (K : PySem.W.Frag) : Sp := fun vs H Q E => ∃ (w r l o : Addr) (s : Sd) (v : Nat), vs = [.ref w, .int (v : Int)] ∧ LW H w r l o s ∧ 1 ≤ v ∧ v ≤ s.n ∧ NewL H ((forW s v).map V.int) Q
/-- the pairs of a gap and a state -/
def PrsAt (H : Hp) (xs : List V) (es : List (Nat × Str)) : Prop := xs.length = es.length ∧ ∀ (i : Nat) (e : Nat × Str), es[i]? = some e → ∃ a, xs[i]? = some (.ref a) ∧ H a = some (.tup [.int (e.1 : Int), .str e.2])
def sp__law_ends (K : PySem.W.Frag) : Sp := fun vs H Q E => ∃ (w r l o : Addr) (s : Sd) (op : Int), vs = [.ref w, .int op] ∧ LW H w r l o s ∧ IsOp s.n op ∧ ∀ es xs q H', Ends2 s op es → H q = none → Kp [] H H' → H' q = some (.lst xs) → PrsAt H' xs es → Q (.ref q) H'
def sp__law_changes (K : PySem.W.Frag) : Sp := fun vs H Q E => ∃ (w r l o : Addr) (s : Sd) (op : Int), vs = [.ref w, .int op] ∧ LW H w r l o s ∧ IsOp s.n op ∧ ∀ xs q H', H q = none → Kp [] H H' → H' q = some (.lst xs) → TupsAt H' xs (chg s (stepS s op)) → Q (.ref q) H'
def sp7__law_agrees (K : PySem.W.Frag) : Sp := fun vs H Q E => ∃ (p r l o w wr wl wo : Addr) (s : Sd) (v : Nat), vs = [.ref p, .ref w, .int (v : Int)] ∧ LinksAt K H p r l o s ∧ LW H w wr wl wo s ∧ 1 ≤ v ∧ v ≤ s.n ∧ Any H (.bl true) Q
def sp__law_all_agree (K : PySem.W.Frag) : Sp := fun vs H Q E => ∃ (p r l o w wr wl wo a : Addr) (s : Sd) (ns : List Int), vs = [.ref p, .ref w, .ref a] ∧ LinksAt K H p r l o s ∧ LW H w wr wl wo s ∧ SqL K H a (ns.map V.int) ∧ (∀ x ∈ ns, 1 ≤ x ∧ x ≤ s.n) ∧ Any H (.bl true) Q
def sp__law_refusal (K : PySem.W.Frag) : Sp := fun vs H Q E => ∃ (p r l o : Addr) (s : Sd) (way op : Int), vs = [.int way, .ref p, .int op] ∧ LinksAt K H p r l o s ∧ ¬ OkOp s op ∧ ∀ t H', Kp [] H H' → H' t = some (.tup [.str (if IsOp s.n op then "not legal" else "no operation"), .int op, .int 0]) → Q (.ref t) H'
def sp7__law_refuses (K : PySem.W.Frag) : Sp := fun vs H Q E => ∃ (p r l o w wr wl wo a : Addr) (s : Sd) (ns : List Int) (far : Int), vs = [.ref p, .ref w, .ref a, .int far] ∧ LinksAt K H p r l o s ∧ LW H w wr wl wo s ∧ SqL K H a (ns.map V.int) ∧ (∀ x ∈ ns, 1 ≤ x ∧ x ≤ s.n) ∧ 0 ≤ far ∧ Any H (.bl true) Q
def sp__law_nodes (K : PySem.W.Frag) : Sp := fun vs H Q E => ∃ (b : Addr) (n : Nat), vs = [.ref b, .int (n : Int)] ∧ n ≤ 60 ∧ Bag H b ∧ ∀ (ns : List Int) a H', (∀ x ∈ ns, 1 ≤ x ∧ x ≤ n) → H a = none → Kp [b] H H' → Bag H' b → H' a = some (.lst (ns.map V.int)) → Q (.ref a) H'
/-- what stands apart -/
structure Apart (p r l o w wr wl wo b : Addr) : Prop where
  a1 : r ≠ wr ∧ r ≠ wl ∧ r ≠ wo ∧ l ≠ wr ∧ l ≠ wl ∧ l ≠ wo ∧ o ≠ wr ∧ o ≠ wl ∧ o ≠ wo
  a2 : w ≠ r ∧ w ≠ l ∧ w ≠ o ∧ p ≠ wr ∧ p ≠ wl ∧ p ≠ wo
  a3 : b ≠ p ∧ b ≠ r ∧ b ≠ l ∧ b ≠ o ∧ b ≠ w ∧ b ≠ wr ∧ b ≠ wl ∧ b ≠ wo
def sp__law_run (K : PySem.W.Frag) : Sp := fun vs H Q E => ∃ (p r l o w wr wl wo b : Addr) (s : Sd), vs = [.ref p, .ref w, .ref b] ∧ LinksAt K H p r l o s ∧ LW H w wr wl wo s ∧ Bag H b ∧ Apart p r l o w wr wl wo b ∧ 1 ≤ s.n ∧ Snd s ∧
  ∀ s' H', s'.n = s.n → LinksAt K H' p r l o s' → LW H' w wr wl wo s' → Kp [b, r, l, o, wr, wl, wo] H H' → Q (.bl true) H'
end
end G

set_option Elab.async false
set_option linter.all false
set_option maxRecDepth 100000
set_option maxHeartbeats 4000000
/-! Comprehensions over texts and pairs; cuts; all. -/
namespace G
open PySem PySem.Spec PyProof.Rows L2
section
variable {K : PySem.W.Frag} {σ : L2.St} {H : Hp} {Q : VK} {te : TE} {tt : TT} {g : TG} {vs : List Nat} {p : Addr} {xs ys : List V}
theorem cp_str {x : Str} (items : Nat → List V) (hz : ∀ i, i < x.cps.size → (items i).length < sizeLine) (h0 : items 0 = [])
    (hs : ∀ (i : Nat) (c : Nat) (H' : Hp) (S : V → Hp → Prop) (N : Hp → Prop), x.cps[i]? = some c → Kp [] H H' → (∀ y H4, Kp [] H' H4 → items (i + 1) = items i ++ [y] → S y H4) → (∀ H4, Kp [] H' H4 → items (i + 1) = items i → N H4) →
      g (.str ⟨#[c]⟩) (wipe σ vs) H' fun σ2 H2 => wipe σ2 vs = wipe σ vs ∧ tt σ2 H2 fun b H3 => if b = true then te σ2 H3 S else N H3)
    (hd : ∀ D H', H D = none → Kp [] H H' → H' D = some (.lst (items x.cps.size)) → Q (.ref D) H') : CompG (Its x) g tt te vs σ Q H :=
  cp_go (n := x.cps.size) items (fun _ => True) hz h0 (fun _ _ => trivial) (fun i H' hi _ => hi) (fun H' _ => Nat.le_refl _) (fun i v H' H'' S N hi k y a b => by
    obtain ⟨rfl, c, hc, rfl⟩ := y
    exact hs i c H'' S N hc k a b) hd
theorem cp_zip {a b : Addr} (h1 : SqL K H a xs) (h2 : SqL K H b ys) (hl : ys.length ≤ xs.length) (items : Nat → List V) (hz : ∀ i, i < ys.length → (items i).length < sizeLine) (h0 : items 0 = [])
    (hs : ∀ (i : Nat) (x y : V) (T : Addr) (H' : Hp) (S : V → Hp → Prop) (N : Hp → Prop), xs[i]? = some x → ys[i]? = some y → Kp [] H H' → H' T = none → (∀ z H4, Kp [] H' H4 → items (i + 1) = items i ++ [z] → S z H4) → (∀ H4, Kp [] H' H4 → items (i + 1) = items i → N H4) →
      g (.ref T) (wipe σ vs) (upd H' T (.tup [x, y])) fun σ2 H2 => wipe σ2 vs = wipe σ vs ∧ tt σ2 H2 fun b H3 => if b = true then te σ2 H3 S else N H3)
    (hd : ∀ D H', H D = none → Kp [] H H' → H' D = some (.lst (items ys.length)) → Q (.ref D) H') : CompG (Itz K a b) g tt te vs σ Q H :=
  cp_go (n := ys.length) items (fun H' => SqL K H' a xs ∧ SqL K H' b ys) hz h0 (fun _ k => ⟨k.sql (by simp) h1, k.sql (by simp) h2⟩)
    (fun i H' hi q => ⟨xs, ys, xs[i]'(by omega), ys[i], q.1, q.2, by simp [show i < xs.length by omega], by simp [hi]⟩) (fun H' q => ⟨xs, ys, q.1, q.2, .inr (Nat.le_refl _)⟩) (fun i v H' H'' S N hi k y e1 e2 => by
    obtain ⟨T, x, y, rfl, nT, rfl, hx, hy⟩ := y
    exact hs i x y T H' S N (hx xs (k.sql (by simp) h1)) (hy ys (k.sql (by simp) h2)) k nT e1 e2) hd
theorem w_slL {lo hi : Option Int} (h : SqL K H p xs) (g : ∀ q H', H q = none → Kp [] H H' → H' q = some (.lst (cutV xs lo hi)) → Q (.ref q) H') : rSlL K (.ref p) lo hi H Q := ⟨p, xs, rfl, h, nw g⟩
theorem cut_drop (xs : List V) (k : Nat) (h : k ≤ xs.length) : cutV xs (some (k : Int)) none = xs.drop k := by
  unfold cutV
  rw [HT.sIx_nat, HT.sIx_none, Nat.min_eq_left h]
  refine List.take_of_length_le ?_
  rw [List.length_drop] <;> omega
theorem cut_take (xs : List V) (k : Nat) (h : k ≤ xs.length) : cutV xs none (some (k : Int)) = xs.take k := by
  unfold cutV
  rw [HT.sIx_nat, HT.sIx_none, Nat.min_eq_left h, List.drop_zero, Nat.sub_zero]
theorem w_allT {n : Nat} (h : SqL K H p (List.replicate n (V.bl true))) (g : Q (.bl true) H) : rAll K [.ref p] H Q := ⟨p, List.replicate n true, rfl, by rw [List.map_replicate]; exact h, by
  have e : (List.replicate n true).all id = true := by
    rw [List.all_eq_true]
    intro x hx
    rw [(List.mem_replicate.mp hx).2] <;> rfl
  rw [e]
  exact g⟩
theorem w_asu {D : Ends} {k : Nat} {ts : TGs} (h : te σ H fun v H0 => gUnl K k ts v σ H0 D.nx) : tAsg te (gUnl K k ts) D σ H := h
theorem rep_snoc {α : Type} (n : Nat) (x : α) : List.replicate (n + 1) x = List.replicate n x ++ [x] := List.replicate_succ'
theorem map_snoc {l : List Int} {i : Nat} {x : Int} {f : Int → V} (h : l[i]? = some x) : (l.take (i + 1)).map f = (l.take i).map f ++ [f x] := by
  rw [List.take_succ, h, List.map_append] <;> rfl
end
/-! ### joins behind an if -/
section
variable {σ : L2.St} {H : Hp} {s1 s2 a b : TS} {t : TT} {D : Ends}
def SeqIf (t : TT) (a b s2 : TS) : TS := tSeq (tIfS t a b) s2
theorem w_seqI (g : SeqIf t a b s2 D σ H) : tSeq (tIfS t a b) s2 D σ H := g
theorem w_seqO (g : tSeq (tIfS t a b) s2 D σ H) : SeqIf t a b s2 D σ H := g
theorem w_ifK (P : Hp → Prop) (h1 : ∀ N : L2.St → Hp → Prop, (∀ H', P H' → N σ H') → tIfS t a b { D with nx := N } σ H) (h2 : ∀ H', P H' → s2 D σ H') : SeqIf t a b s2 D σ H := h1 _ h2
theorem w_ifJ (P : L2.St → Hp → Prop) (h1 : ∀ N : L2.St → Hp → Prop, (∀ σ' H', P σ' H' → N σ' H') → tIfS t a b { D with nx := N } σ H) (h2 : ∀ σ' H', P σ' H' → s2 D σ' H') : SeqIf t a b s2 D σ H := h1 _ h2
theorem w_seqK (P : Hp → Prop) (h1 : ∀ N : L2.St → Hp → Prop, (∀ H', P H' → N σ H') → s1 { D with nx := N } σ H) (h2 : ∀ H', P H' → s2 D σ H') : tSeq s1 s2 D σ H := h1 _ h2
theorem w_seqJ (P : L2.St → Hp → Prop) (h1 : ∀ N : L2.St → Hp → Prop, (∀ σ' H', P σ' H' → N σ' H') → s1 { D with nx := N } σ H) (h2 : ∀ σ' H', P σ' H' → s2 D σ' H') : tSeq s1 s2 D σ H := h1 _ h2
end
section
variable {K : PySem.W.Frag} {H : Hp} {Q : VK}
theorem w_isiS {x : Str} {t : String} {r : Bool} (h : kitB "str" t = some r) (g : Q (.bl r) H) : rIsi K [.str x, .ty t] H Q := ⟨_, _, _, _, r, rfl, .ty t, .base (.str x), kit_ty h, g⟩
theorem w_neT {p q : Addr} {xs : List V} {ds : List PyData} (h1 : H p = some (.tup xs)) (h2 : H q = some (.tup xs)) (d : DpAll K H xs ds) (s : SeqAt.shaped (.tuple ds) = true) (g : Q (.bl false) H) : rNeA K (.ref p) (.ref q) H Q :=
  w_neD (.tup (SqT.of h1) d) (.tup (SqT.of h2) d) s s (by
    rw [SeqAt.eqv_refl _ (SeqAt.canLay_of_shaped s)]
    exact g)
theorem inI (i : Int) (l : List Int) : inV (.int i) (l.map V.int) = decide (i ∈ l) := by
  unfold inV
  rw [Bool.eq_iff_iff, List.any_eq_true, decide_eq_true_iff]
  constructor
  · rintro ⟨y, hy, e⟩
    obtain ⟨j, hj, rfl⟩ := List.mem_map.mp hy
    have : j = i := by simpa [eqV] using e
    rw [← this]
    exact hj
  · intro h
    exact ⟨.int i, List.mem_map.mpr ⟨i, h, rfl⟩, by simp [eqV]⟩
theorem stOk (s : Sd) (g : Nat) : PyData.strOk (stT s g) = true := by
  unfold stT
  split <;> split <;> decide +kernel
end
end G

set_option Elab.async false
set_option linter.all false
set_option maxRecDepth 100000
set_option maxHeartbeats 4000000
/-! for over a tuple, a list, where an exception is handled. -/
namespace G
open PySem PySem.Spec PyProof.Rows L2 HotX
section
variable {prog : Program} {w : World} {A : Around} {E : Value → Shared → Prop} {s : Shared}
theorem pyNext_tuple_end_hot {it t x1 : Addr} {i : Nat} {items : Array Value} {Q : Option Value → Shared → Prop} (hot : HotAt A x1 s.heap) (hit : s.heap.IsTupleIter it t i) (ht : s.heap.IsTuple t items) (hx : items[i]? = none)
    (hQ : ∀ h', (∀ b o, b ≠ it → s.heap.get? b = some o → h'.get? b = some o) → Q none { s with heap := h' }) : wpAny (model prog w) A (pyNext (.ref it)) Q E s := by
  obtain ⟨o, ho, hc, hd⟩ := id hit
  obtain ⟨ol, hol, _, nl, hdl⟩ := ht
  obtain ⟨hh, o1, vs1, h1, d1, c1⟩ := hot
  have ne : x1 ≠ it := by
    rintro rfl
    rw [ho] at h1
    injection h1 with e
    subst e
    rw [hd] at d1
    injection d1 with e2
    subst e2
    simp at c1
  unfold pyNext
  refine wpAny_bind (wpAny_attempt (wpAny_callSpecial?_slot (name := Str.ofString "__next__") hit.typeIs F.slot_tuple_iterator_next
    (wpAny_call_entry F.slot_tuple_iterator_next hit.typeIs F.entry_tuple_iterator_next ?_ (F.args_tuple_iterator_next_1 _))))
  show wpAny _ _ (field (.ref it) 0 >>= _) _ _ s
  refine wpAny_bind (wpAny_field ho hd (x := .ref t) rfl ?_)
  show wpAny _ _ (if (Value.ref t == Value.none) = true then _ else _) _ _ s
  rw [if_neg (show ¬ ((Value.ref t == Value.none) = true) from Bool.false_ne_true)]
  show wpAny _ _ (field (.ref it) 1 >>= _) _ _ s
  refine wpAny_bind (wpAny_field ho hd (x := .int i 0) rfl ?_)
  show wpAny _ _ (seqItems? (.ref t) >>= _) _ _ s
  refine wpAny_bind (wpAny_seqItems hol hdl ?_)
  simp only [Int.toNat_natCast, hx]
  refine wpAny_bind (wpAny_rule (wpAny_bind (wpAny_setField ho hd (by simp) ?_)))
  show wpAny _ _ (newExc (.type "StopIteration") [] >>= _) _ _ _
  refine wpAny_bind ?_
  simp only [newExc, newTuple]
  refine wpAny_bind (wpAny_newObj_type ?_ (by size_fits))
  refine wpAny_bind (m := firstArgMember _ _) (wpAny_of_eq (a := Value.none) (by first | rfl | (simp only [firstArgMember]; rfl)) ?_)
  refine wpAny_newObj_type ?_ (by size_fits)
  have h1' := (Heap.get?_update_other (h := s.heap) (a := it) (b := x1) (Obj.mapFields (·.setIfInBounds 0 Value.none)) (Ne.symm ne)).trans h1
  refine raiseNew_hot ⟨hh, o1, vs1, Heap.get?_push_of_some _ (Heap.get?_push_of_some _ h1'), d1, c1⟩ (Nat.ne_of_lt (Heap.lt_size (Heap.get?_push_of_some _ h1'))) (Heap.get?_push_size _ rfl) rfl (by first | (simp; done) | (simp; omega) | (simp only [Array.size_append]; simp; omega)) ?_
  refine wpAny_bind (wpAny_isInstance (T := "StopIteration") (b := true) ⟨_, Heap.get?_update_self _ (Heap.get?_push_size _ rfl) rfl, rfl⟩ isSubtype_stop ?_)
  refine wpAny_pure (hQ _ fun b o nb e => ?_)
  have e' := (Heap.get?_update_other (h := s.heap) (a := it) (b := b) (Obj.mapFields (·.setIfInBounds 0 Value.none)) (Ne.symm nb)).trans e
  rw [Heap.get?_update_other _ _ (Nat.ne_of_gt (Heap.lt_size (Heap.get?_push_of_some _ e')))]
  exact Heap.get?_push_of_some _ (Heap.get?_push_of_some _ e')
end
theorem turn_tupH {P : Program} {w : World} {K : PySem.W.Frag} {tg : Expr} (a it : Addr) : L2H.TurnH P w K tg (Itt K a) [it] it (fun i h => h.IsTupleIter it a i) where
  mem := by simp
  obj := fun i h st b hb => by
    have e : b = it := by simpa using hb
    subst e
    obtain ⟨o, e, c, d⟩ := st
    exact ⟨o, e, fun v z => by rw [d] at z; cases z⟩
  keep := fun i h h' st k => st.at fun o e => k it (by simp) o e
  item := by
    intro X hP hw hK hc i pins s σ H E I hf st hg
    subst hP hw hK
    obtain ⟨xs, x, hq, hx⟩ := hg
    obtain ⟨its, rv, p, hz⟩ := I.tuple hq
    obtain ⟨u, hu, ru⟩ := rv.get hx
    obtain ⟨f0, f1, f2, f3, f4, f5⟩ := hf it (by simp)
    refine wpAny_pyNext_tuple_item st (show s.heap.IsTuple a its.toArray from p) (x := u) (by simpa using hu) fun h' st' sb => ?_
    have I1 : Inv X pins σ H { s with heap := h' } := I.turned (t' := s.toks) (fun b o hb e => (sb.2 b hb).trans e) f0 f1 f3 f4 f5
    obtain ⟨o, e, c, d⟩ := id st'
    exact ⟨u, rfl, go_of (s := { s with heap := h' }) e c d (by decide) ⟨x, H, I1, ru, ⟨rfl, fun ys hy => by rw [I.tuple_inj hy hq]; exact hx⟩, st', fun b hb => (hf b hb).1⟩⟩
  done := by
    intro X hP hw hK hc i pins s σ H E I hf st hg
    subst hP hw hK
    obtain ⟨xs, hq, hx⟩ := hg
    obtain ⟨its, rv, p, hz⟩ := I.tuple hq
    obtain ⟨f0, f1, f2, f3, f4, f5⟩ := hf it (by simp)
    have hl := rv.length
    obtain ⟨x1, hot⟩ := hc.at I
    exact pyNext_tuple_end_hot hot st (show s.heap.IsTuple a its.toArray from p) (by simp; omega) fun h' eb => ⟨rfl, I.turned (t' := s.toks) (fun b o hb e => eb b o hb e) f0 f1 f3 f4 f5⟩
  self := fun _ _ _ _ _ st h => wpAny_pyIter_tupleiter st h
theorem pi_tupH {X : Cx} {tg : Expr} {l : Expr} {tl : TE} (hl : PE X l tl) : L2H.PIH X tg l (iTup X.K tl) := by
  refine ⟨fun pins s σ H R I h => ?_⟩
  refine thn (hl.run pins s σ H _ I h) fun v s1 ⟨x, H1, I1, r1, q1⟩ => ?_
  obtain ⟨a, e, ⟨xs, hq⟩, q⟩ := q1
  subst e
  cases r1
  obtain ⟨its, rv, p, hz⟩ := I1.tuple hq
  refine wpAny_pyIter_tuple (show s1.heap.IsTuple a its.toArray from p) ?_
  refine ⟨s1.heap.objs.size, [s1.heap.objs.size], _, _, H1, rfl, I1.kept (t' := s1.toks) fun b o e => Heap.get?_push_of_some _ e, turn_tupH a _, ⟨_, Heap.get?_push_size _ rfl, rfl, rfl⟩, fun b hb => ?_, q⟩
  have e : b = s1.heap.objs.size := by simpa using hb
  subst e
  exact I1.fpOk (Nat.le_refl _) (I1.hok.fresh (Nat.le_refl _))
section
variable {K : PySem.W.Frag} {σ : L2.St} {H : Hp} {Q : VK} {x y v : V} {p q : Addr} {xs ys : List V} {k : Nat}
theorem w_catT (h1 : SqT K H p xs) (h2 : SqT K H q ys) (n1 : xs ≠ []) (n2 : ys ≠ []) (hl : xs.length + ys.length ≤ sizeLine) (g : ∀ r H', H r = none → Kp [] H H' → H' r = some (.tup (xs ++ ys)) → Q (.ref r) H') : rCatA K (.ref p) (.ref q) H Q :=
  ⟨p, q, xs, ys, rfl, rfl, h1, h2, hl, fun z => absurd z n1, fun _ z => absurd z n2, fun _ _ => nw g⟩
end
end G

set_option Elab.async false
set_option linter.all false
set_option maxRecDepth 100000
set_option maxHeartbeats 4000000
/-! xs[lo::k], `in` over data of any depth. -/
namespace G
open PySem PySem.Spec PyProof.Rows L2
section
variable {X : Cx} {e : Expr} {te : TE} {lo hi st : Option Expr} {tl th ts : TO} {pos p2 : Pos}
theorem op_inDA {k : Nat} (hr : Room k X.A) : OpR X (compareOp .In) (rInD X.K) := op_inD (by have := hr.un; omega)
/-- a stepped slice of a list: a new list of some of its items -/
def tSl3 (K : PySem.W.Frag) (te : TE) (tl th ts : TO) : TE := fun σ H Q => te σ H fun x H1 => tl σ H1 fun l H2 => th σ H2 fun u H3 => ts σ H3 fun z H4 => ∃ a xs, x = .ref a ∧ SqL K H4 a xs ∧ z ≠ some 0 ∧
  ∀ p ys, H4 p = none → ys.length ≤ xs.length → (∀ y ∈ ys, y ∈ xs) → Q (.ref p) (upd H4 p (.lst ys))
theorem vals_pick {xs : List V} {us : List Value} (r : Vals xs us) (f : Nat → Nat) : ∀ js : List Nat, ∃ ys : List V, Vals ys (js.filterMap fun m => us[f m]?) ∧ ys.length ≤ js.length ∧ ∀ y ∈ ys, y ∈ xs
  | [] => ⟨[], .nil, Nat.le_refl _, fun y h => by cases h⟩
  | j :: js => by
    obtain ⟨ys, h1, h2, h3⟩ := vals_pick r f js
    rw [List.filterMap_cons]
    cases c : us[f j]? with
    | none => exact ⟨ys, h1, Nat.le_trans h2 (Nat.le_succ _), h3⟩
    | some u =>
      have hl : f j < us.length := (List.getElem?_eq_some_iff.mp c).1
      obtain ⟨x, hx⟩ : ∃ x, xs[f j]? = some x := ⟨_, List.getElem?_eq_getElem (by rw [r.length]; exact hl)⟩
      obtain ⟨u', hu, ru⟩ := r.get hx
      rw [c] at hu
      injection hu with hu
      subst hu
      refine ⟨x :: ys, .cons ru h1, by rw [List.length_cons, List.length_cons]; omega, fun y hy => ?_⟩
      rcases List.mem_cons.mp hy with e | e
      · rw [e]
        exact List.mem_of_getElem? hx
      · exact h3 y e
theorem pe_sl3 {est : Expr} (he : PE X e te) (hl : PO X lo tl) (hu : PO X hi th) (hst : PO X (some est) ts) : PE X (.Subscript e (.Slice lo hi (some est) p2) pos) (tSl3 X.K te tl th ts) := by
  refine ⟨fun pins s σ H Q I h => ?_⟩
  refine Subscript_ (thn (he.run pins s σ H _ I h) fun v s1 ⟨x, H1, I1, r1, q1⟩ => ?_)
  refine wpAny_Slice (thn (hl.run pins s1 σ H1 _ I1 q1) fun vl s2 ⟨l, H2, I2, pl, q2⟩ => thn (hu.run pins s2 σ H2 _ I2 q2) fun vu s3 ⟨u, H3, I3, pu, q3⟩ => thn (hst.run pins s3 σ H3 _ I3 q3) fun vs s4 ⟨z, H4, I4, pz, q4⟩ => ?_)
  have I5 : Inv X pins σ H4 { s4 with heap := s4.heap.push { cls := .type "slice", data := .fields #[vl, vu, vs] } } := I4.kept (t' := s4.toks) fun b ob q => Heap.get?_push_of_some _ q
  obtain ⟨a, xs, rfl, hx, nz, q⟩ := q4
  cases r1
  obtain ⟨its, r, ht, hz⟩ := I5.list hx
  have hlen := r.length
  show wpAny (model X.prog X.w) X.A (subscriptTail e (.Slice lo hi (some est) p2) (.ref a) (.ref s4.heap.objs.size)) (EP X pins σ Q) X.xe { s4 with heap := s4.heap.push { cls := .type "slice", data := .fields #[vl, vu, vs] } }
  refine tail_any (ops := [.ref a, .ref s4.heap.objs.size]) (T := "list") ht.isList.typeIs slot_list_getitem.lookup ?_ (by with_unfolding_all rfl)
  refine wpAny_getItem_list_slice ht.isList (Heap.IsSliceOf.new ..) pl pu pz nz ?_ (by rw [List.size_toArray] <;> omega)
  obtain ⟨ys, h1, h2, h3⟩ := vals_pick r id (sliceRange (sliceBounds l u z its.toArray.size).1 (sliceBounds l u z its.toArray.size).2.1 (sliceBounds l u z its.toArray.size).2.2)
  have e : slicePick its.toArray l u z = ((sliceRange (sliceBounds l u z its.toArray.size).1 (sliceBounds l u z its.toArray.size).2.1 (sliceBounds l u z its.toArray.size).2.2).filterMap fun m => its[id m]?).toArray := by
    unfold slicePick
    simp
  have sz := slicePick_size_le its.toArray l u z
  rw [e] at sz ⊢
  have l1 := h1.length
  simp only [List.size_toArray] at sz l1
  rw [← l1] at sz
  refine ⟨.ref _, _, I5.laid (t' := s4.toks) (o := .lst ys) (fun b ob q => Heap.get?_push_of_some _ q) (Nat.le_refl _) ?_, rfl, q _ ys (I5.hok.fresh (Nat.le_refl _)) (by omega) h3⟩
  exact ⟨by omega, _, 0, h1, Heap.get?_push_size _ rfl⟩
end
end G

set_option Elab.async false
set_option linter.all false
set_option maxRecDepth 100000
set_option maxHeartbeats 4000000
/-! k21: certificates of loss. -/
namespace G
open PySem PySem.Spec PyProof.Rows L2
/-- the state of a gap after i operations -/
def stL (n : Nat) (log : List Int) (i g : Nat) : Str := stT (runS (wholeS n) (log.take i)) g
/-- the operations that changed it -/
def chL (n : Nat) (log : List Int) (g i : Nat) : List Int := ((List.range i).filter fun j => decide (¬ stL n log (j + 1) g = stL n log j g)).map fun (j : Nat) => (j : Int)
theorem chL_snoc (n : Nat) (log : List Int) (g i : Nat) : chL n log g (i + 1) = chL n log g i ++ (if ¬ stL n log (i + 1) g = stL n log i g then [(i : Int)] else []) := by
  unfold chL
  rw [List.range_succ, List.filter_append, List.map_append]
  congr 1
  by_cases c : stL n log (i + 1) g = stL n log i g
  · rw [if_neg (fun z => z c), List.filter_cons_of_neg (by rw [decide_eq_false (fun z => z c)]; exact Bool.false_ne_true)] <;> rfl
  · rw [if_pos c, List.filter_cons_of_pos (by rw [decide_eq_true c])] <;> rfl
theorem chL_len (n : Nat) (log : List Int) (g i : Nat) : (chL n log g i).length ≤ i := by
  unfold chL
  rw [List.length_map]
  refine Nat.le_trans (List.length_filter_le _ _) ?_
  rw [List.length_range]
  exact Nat.le_refl _
theorem jl : ¬ (("joined" : Str) = "lost") := by decide +kernel
theorem ll : ¬ (("left" : Str) = "lost") := by decide +kernel
theorem rl_ : ¬ (("right" : Str) = "lost") := by decide +kernel
theorem jl2 : ¬ (("left" : Str) = "joined") := by decide +kernel
theorem jr2 : ¬ (("right" : Str) = "joined") := by decide +kernel
theorem jx2 : ¬ (("lost" : Str) = "joined") := by decide +kernel
theorem stT_joined {s : Sd} {g : Nat} : stT s g = "joined" ↔ gI s.R g = (g : Int) + 1 ∧ gI s.L (g + 1) = (g : Int) := by
  unfold stT
  split <;> split <;> rename_i a b
  · exact ⟨fun _ => ⟨a, b⟩, fun _ => rfl⟩
  · exact ⟨fun z => absurd z jl2, fun z => absurd z.2 b⟩
  · exact ⟨fun z => absurd z jr2, fun z => absurd z.1 a⟩
  · exact ⟨fun z => absurd z jx2, fun z => absurd z.1 a⟩
theorem stT_lost2 {s : Sd} {g : Nat} : stT s g = "lost" ↔ ¬ gI s.R g = (g : Int) + 1 ∧ ¬ gI s.L (g + 1) = (g : Int) := by
  unfold stT
  split <;> split <;> rename_i a b
  · exact ⟨fun z => absurd z jl, fun z => absurd a z.1⟩
  · exact ⟨fun z => absurd z ll, fun z => absurd a z.1⟩
  · exact ⟨fun z => absurd z rl_, fun z => absurd b z.2⟩
  · exact ⟨fun _ => ⟨a, b⟩, fun _ => rfl⟩
/-- no operation loses a joined gap -/
theorem no_jump {s : Sd} {op : Int} (w : Wf s) (ok : IsOp s.n op) {g : Nat} (h : stT s g = "joined") : ¬ stT (stepS s op) g = "lost" := by
  intro z
  obtain ⟨h1, h2⟩ := stT_joined.mp h
  obtain ⟨z1, z2⟩ := stT_lost2.mp z
  obtain ⟨t1, t2, _⟩ := touch_bd w ok
  rw [step_gR w ok] at z1
  rw [step_gL w ok] at z2
  by_cases c1 : g = lowN s op
  · rw [if_neg (by omega)] at z2
    exact z2 h2
  · rw [if_neg c1] at z1
    exact z1 h1
theorem whole_joined {n g : Nat} (hg : g ≤ n) : stT (wholeS n) g = "joined" := by
  refine stT_joined.mpr ⟨?_, ?_⟩
  · show gI (rgI 1 (n + 1)) g = _
    rw [gI_range (by omega)]
    omega
  · show gI (rgI 0 (n + 1)) g = _
    rw [gI_range (by omega)]
    omega
theorem stL_snoc {n : Nat} {log : List Int} {i : Nat} {op : Int} (h : log[i]? = some op) (g : Nat) : stL n log (i + 1) g = stT (stepS (runS (wholeS n) (log.take i)) op) g := by
  unfold stL
  have e : log.take (i + 1) = log.take i ++ [op] := by rw [List.take_succ, h] <;> rfl
  rw [e, runS_snoc]
theorem lost_two {n : Nat} (hn : n ≤ 60) {log : List Int} (le : Leg (wholeS n) log) {g : Nat} (hg : g ≤ n) : ∀ i, i ≤ log.length → stL n log i g = "joined" ∨ (¬ stL n log i g = "lost" ∧ 1 ≤ (chL n log g i).length) ∨ 2 ≤ (chL n log g i).length := by
  intro i
  induction i with
  | zero =>
    intro _
    left
    unfold stL
    rw [List.take_zero]
    exact whole_joined hg
  | succ i ih =>
    intro hi
    obtain ⟨op, hop⟩ : ∃ op, log[i]? = some op := ⟨_, List.getElem?_eq_getElem (by omega)⟩
    have ok := le i op hop
    have wf : Wf (runS (wholeS n) (log.take i)) := Leg.wf (.whole hn) (le.take i)
    rw [chL_snoc]
    by_cases c : stL n log (i + 1) g = stL n log i g
    · rw [if_neg (fun z => z c), List.append_nil, c]
      exact ih (by omega)
    · rw [if_pos c, List.length_append]
      rcases ih (by omega) with h | ⟨h, l⟩ | l
      · right; left
        refine ⟨?_, by show 1 ≤ _ + 1; omega⟩
        rw [stL_snoc hop]
        exact no_jump wf ok.1 h
      · right; right
        show 2 ≤ _ + 1
        omega
      · right; right
        show 2 ≤ _ + 1
        omega
theorem lost_len {n : Nat} (hn : n ≤ 60) {log : List Int} (le : Leg (wholeS n) log) {g : Nat} (hg : g ≤ n) (h : stL n log log.length g = "lost") : 2 ≤ (chL n log g log.length).length := by
  rcases lost_two hn le hg log.length (Nat.le_refl _) with z | ⟨z, _⟩ | z
  · rw [h] at z
    exact absurd z jx2
  · exact absurd h z
  · exact z
/-! ### triples -/
abbrev Ct := Int × Int × Int
def ctV (t : Ct) : List V := [.int t.1, .int t.2.1, .int t.2.2]
def ctD (t : Ct) : PyData := .tuple [.int t.1, .int t.2.1, .int t.2.2]
def certAt (n : Nat) (log : List Int) (g : Nat) : Ct := ((g : Int), gI (chL n log g log.length) ((chL n log g log.length).length - 2), gI (chL n log g log.length) ((chL n log g log.length).length - 1))
def certK (n : Nat) (log : List Int) (k : Nat) : List Ct := ((List.range k).filter fun g => decide (stL n log log.length g = "lost")).map fun g => certAt n log g
def certs (n : Nat) (log : List Int) : List Ct := certK n log (n + 1)
theorem certK_snoc (n : Nat) (log : List Int) (k : Nat) : certK n log (k + 1) = certK n log k ++ (if stL n log log.length k = "lost" then [certAt n log k] else []) := by
  unfold certK
  rw [List.range_succ, List.filter_append, List.map_append]
  congr 1
  by_cases c : stL n log log.length k = "lost"
  · rw [if_pos c, List.filter_cons_of_pos (by rw [decide_eq_true c])] <;> rfl
  · rw [if_neg c, List.filter_cons_of_neg (by rw [decide_eq_false c]; exact Bool.false_ne_true)] <;> rfl
theorem certK_len (n : Nat) (log : List Int) (k : Nat) : (certK n log k).length ≤ k := by
  unfold certK
  rw [List.length_map]
  refine Nat.le_trans (List.length_filter_le _ _) ?_
  rw [List.length_range]
  exact Nat.le_refl _
theorem cert_bd {n : Nat} {log : List Int} (hn : n ≤ 60) (le : Leg (wholeS n) log) {t : Ct} (h : t ∈ certs n log) : 0 ≤ t.1 ∧ t.1 ≤ n ∧ 0 ≤ t.2.2 ∧ t.2.2 < log.length := by
  obtain ⟨g, hg, rfl⟩ := List.mem_map.mp h
  obtain ⟨h1, h2⟩ := List.mem_filter.mp hg
  have g1 := List.mem_range.mp h1
  have l2 := lost_len hn le (by omega) (of_decide_eq_true h2)
  have m : gI (chL n log g log.length) ((chL n log g log.length).length - 1) ∈ chL n log g log.length := List.mem_of_getElem? (gI_at (by omega))
  obtain ⟨j, hj, e⟩ := List.mem_map.mp m
  have j1 := List.mem_range.mp (List.mem_filter.mp hj).1
  refine ⟨by show (0 : Int) ≤ (g : Int); omega, by show (g : Int) ≤ n; omega, ?_, ?_⟩
  · show (0 : Int) ≤ gI _ _
    rw [← e]
    omega
  · show gI _ _ < _
    rw [← e]
    omega
def CPs (H : Hp) (xs : List V) (es : List Ct) : Prop := xs.length = es.length ∧ ∀ (i : Nat) (e : Ct), es[i]? = some e → ∃ a, xs[i]? = some (.ref a) ∧ H a = some (.tup (ctV e))
theorem CPs.kp {S : List Addr} {H H' : Hp} {xs : List V} {es : List Ct} (h : CPs H xs es) (k : Kp S H H') (hS : ∀ b ∈ S, ∀ ys, H b ≠ some (.tup ys)) : CPs H' xs es := by
  refine ⟨h.1, fun i t e => ?_⟩
  obtain ⟨a, h1, h2⟩ := h.2 i t e
  exact ⟨a, h1, k _ _ (fun z => hS a z _ h2) h2⟩
theorem CPs.k0 {H H' : Hp} {xs : List V} {es : List Ct} (h : CPs H xs es) (k : Kp [] H H') : CPs H' xs es := h.kp k (by simp)
theorem CPs.app {H : Hp} {xs ys : List V} {es fs : List Ct} (h : CPs H xs es) (h2 : CPs H ys fs) : CPs H (xs ++ ys) (es ++ fs) := by
  refine ⟨by rw [List.length_append, List.length_append, h.1, h2.1], fun i u e => ?_⟩
  by_cases c : i < es.length
  · rw [List.getElem?_append_left c] at e
    obtain ⟨b, e1, e2⟩ := h.2 i u e
    exact ⟨b, by rw [List.getElem?_append_left (by rw [h.1]; exact c)]; exact e1, e2⟩
  · rw [List.getElem?_append_right (by omega)] at e
    obtain ⟨b, e1, e2⟩ := h2.2 _ u e
    exact ⟨b, by rw [List.getElem?_append_right (by rw [h.1]; omega), h.1]; exact e1, e2⟩
theorem CPs.one {H : Hp} {a : Addr} {t : Ct} (ha : H a = some (.tup (ctV t))) : CPs H [.ref a] [t] := by
  refine ⟨rfl, fun i u e => ?_⟩
  match i, e with
  | 0, e =>
    have eu : t = u := by simpa using e
    subst eu
    exact ⟨a, rfl, ha⟩
  | i + 1, e => simp at e
theorem CPs.nil {H : Hp} : CPs H [] [] := ⟨rfl, fun i t e => by simp at e⟩
theorem CPs.tail {H : Hp} {x : V} {xs : List V} {e : Ct} {es : List Ct} (h : CPs H (x :: xs) (e :: es)) : CPs H xs es := by
  have := h.1
  refine ⟨by simpa using this, fun i u z => ?_⟩
  obtain ⟨a, h1, h2⟩ := h.2 (i + 1) u (by simpa using z)
  exact ⟨a, by simpa using h1, h2⟩
theorem CPs.dp {K : PySem.W.Frag} {H : Hp} : ∀ {xs : List V} {es : List Ct}, CPs H xs es → DpAll K H xs (es.map ctD)
  | [], [], _ => .nil
  | x :: xs, e :: es, h => by
    obtain ⟨a, h1, h2⟩ := h.2 0 e rfl
    have ex : x = .ref a := by simpa using h1
    subst ex
    exact .cons (.tup (SqT.of h2) (.cons (.int _) (.cons (.int _) (.cons (.int _) .nil)))) h.tail.dp
  | [], _ :: _, h => by have := h.1; simp at this
  | _ :: _, [], h => by have := h.1; simp at this
theorem layCt : ∀ es : List Ct, PyData.canLayAll0 (es.map ctD) = true
  | [] => by simp [PyData.canLayAll0]
  | e :: es => by
    show PyData.canLayAll0 (ctD e :: es.map ctD) = true
    rw [PyData.canLayAll0, layCt es]
    simp [ctD, PyData.canLay0, PyData.canLayAll0]
theorem depCt : ∀ es : List Ct, PyData.depthAll (es.map ctD) ≤ 2
  | [] => by simp [PyData.depthAll]
  | e :: es => by
    have := depCt es
    show PyData.depthAll (ctD e :: es.map ctD) ≤ 2
    rw [PyData.depthAll]
    simp [ctD, PyData.depth, PyData.depthAll]
    omega
theorem shCt (es : List Ct) : SeqAt.shaped (.list (es.map ctD)) = true := by
  unfold SeqAt.shaped
  rw [PyData.canLay0, layCt, PyData.depth]
  have := depCt es
  simp
  omega
/-- three whole numbers -/
def tripD : PyData → Bool
  | .tuple [a, b, c] => isI a && (isI b && isI c)
  | _ => false
def inD (d : PyData) (es : List Ct) : Bool := (es.map ctD).any fun z => PyData.eqv z d
def cerD (d : PyData) (es : List Ct) : Bool := tripD d && inD d es
/-! ### the law's things -/
structure Bk5 (H : Hp) (w l r o : Addr) (s : Sd) : Prop where
  ob : H w = some (.lst [.int s.n, .ref l, .ref r, .ref o])
  hl : ∃ L' : List Int, H l = some (.lst (L'.map V.int)) ∧ L'.length = s.n + 2 ∧ ∀ v, 1 ≤ v → v ≤ s.n + 1 → gI L' v = gI s.L v
  hr : ∃ R' : List Int, H r = some (.lst (R'.map V.int)) ∧ R'.length = s.n + 2 ∧ ∀ v, v ≤ s.n → gI R' v = gI s.R v
  ho : H o = some (.lst (s.O.map V.bl))
  ne : l ≠ r ∧ l ≠ o ∧ r ≠ o ∧ w ≠ l ∧ w ≠ r ∧ w ≠ o
  wf : Wf s
theorem Bk5.kp {H H' : Hp} {w l r o : Addr} {s : Sd} {S : List Addr} (a : Bk5 H w l r o s) (k : Kp S H H') (h1 : w ∉ S) (h2 : l ∉ S) (h3 : r ∉ S) (h4 : o ∉ S) : Bk5 H' w l r o s := by
  obtain ⟨L', e1, e2⟩ := a.hl
  obtain ⟨R', f1, f2⟩ := a.hr
  exact ⟨k _ _ h1 a.ob, ⟨L', k _ _ h2 e1, e2⟩, ⟨R', k _ _ h3 f1, f2⟩, k _ _ h4 a.ho, a.ne, a.wf⟩
theorem Bk5.k0 {H H' : Hp} {w l r o : Addr} {s : Sd} (a : Bk5 H w l r o s) (k : Kp [] H H') : Bk5 H' w l r o s := a.kp k (by simp) (by simp) (by simp) (by simp)
theorem Bk5.fr {H : Hp} {w l r o x : Addr} {s : Sd} (a : Bk5 H w l r o s) (n : H x = none) : w ≠ x ∧ l ≠ x ∧ r ≠ x ∧ o ≠ x := by
  obtain ⟨L', e1, e2⟩ := a.hl
  obtain ⟨R', f1, f2⟩ := a.hr
  exact ⟨ne_of_none a.ob n, ne_of_none e1 n, ne_of_none f1 n, ne_of_none a.ho n⟩
theorem legO_ok' {s : Sd} {v : Nat} (h1 : 1 ≤ v) (h2 : v ≤ s.n) : OkOp s (legO s v) ∧ (legO s v).natAbs = v := by
  unfold legO
  by_cases c : gB s.O v = true
  · rw [if_pos c]
    refine ⟨⟨⟨by omega, by omega⟩, ?_⟩, by omega⟩
    rw [Int.natAbs_natCast, c]
    symm
    exact decide_eq_true (by omega)
  · rw [if_neg c]
    refine ⟨⟨⟨by omega, by omega⟩, ?_⟩, by omega⟩
    rw [Int.natAbs_neg, Int.natAbs_natCast, Bool.not_eq_true] at *
    rw [c]
    symm
    exact decide_eq_false (by omega)
theorem legO_eq {s : Sd} {op : Int} (h : OkOp s op) : legO s op.natAbs = op := by
  unfold legO
  have h2 := h.2
  have h1 := h.1.1
  by_cases c : gB s.O op.natAbs = true
  · rw [if_pos c]
    rw [c] at h2
    have := decide_eq_true_iff.mp h2.symm
    omega
  · rw [if_neg c]
    rw [Bool.not_eq_true] at c
    rw [c] at h2
    have := decide_eq_false_iff_not.mp h2.symm
    omega
structure Bag5 (H : Hp) (b c : Addr) : Prop where
  ob : ∃ p q m t : Int, H b = some (.lst [.ref c, .int p, .int q, .int m, .int t]) ∧ 0 ≤ p
  hc : ∃ ns : List Int, H c = some (.lst (ns.map V.int)) ∧ ns.length ≤ 63
theorem Bag5.ne {H : Hp} {b c : Addr} (h : Bag5 H b c) : b ≠ c := by
  obtain ⟨p, q, m, t, h1, _⟩ := h.ob
  obtain ⟨ns, h2, _⟩ := h.hc
  rintro rfl
  rw [h1] at h2
  injection h2 with h2
  injection h2 with h2
  cases ns with
  | nil => cases h2
  | cons x ns =>
    injection h2 with h2
    cases h2
theorem Bag5.kp {H H' : Hp} {b c : Addr} {S : List Addr} (a : Bag5 H b c) (k : Kp S H H') (h1 : b ∉ S) (h2 : c ∉ S) : Bag5 H' b c := by
  obtain ⟨p, q, m, t, e1, p0⟩ := a.ob
  obtain ⟨ns, e2, e3⟩ := a.hc
  exact ⟨⟨p, q, m, t, k _ _ h1 e1, p0⟩, ⟨ns, k _ _ h2 e2, e3⟩⟩
theorem Bag5.k0 {H H' : Hp} {b c : Addr} (a : Bag5 H b c) (k : Kp [] H H') : Bag5 H' b c := a.kp k (by simp) (by simp)
theorem Bag5.fr {H : Hp} {b c x : Addr} (a : Bag5 H b c) (n : H x = none) : x ≠ b ∧ x ≠ c := by
  obtain ⟨_, _, _, _, e1, _⟩ := a.ob
  obtain ⟨_, e2, _⟩ := a.hc
  exact ⟨(ne_of_none e1 n).symm, (ne_of_none e2 n).symm⟩
/-- lists of nodes -/
def LanesI (H : Hp) (as : List Addr) (n : Nat) : Prop := ∀ a ∈ as, ∃ xs : List Int, H a = some (.lst (xs.map V.int)) ∧ xs.length ≤ 9 ∧ ∀ x ∈ xs, 1 ≤ x ∧ x ≤ n
structure ValS (b : Addr) (H : Hp) (v : V) : Prop where
  ex : ∃ d, Vl b H v d ∧ SeqAt.shaped d = true
theorem ValS.k1 {b : Addr} {H H' : Hp} {v : V} (h : ValS b H v) (k : Kp [b] H H') : ValS b H' v := by
  obtain ⟨d, h1, h2⟩ := h.ex
  exact ⟨d, Vl.kp k d v h1, h2⟩
theorem ValS.k0 {b : Addr} {H H' : Hp} {v : V} (h : ValS b H v) (k : Kp [] H H') : ValS b H' v := h.k1 k.all
/-- what is told of a wrong log -/
def FltC (size : Int) (log : List Int) (m : Bool) (s : Str) (i j : Int) : Prop :=
  (¬ SizeOk size ∧ s = "size" ∧ i = size ∧ j = 0) ∨
  (SizeOk size ∧ ∃ (k : Nat) (op : Int), log[k]? = some op ∧ Leg (wholeS size.toNat) (log.take k) ∧ ¬ OkOp (runS (wholeS size.toNat) (log.take k)) op ∧ s = (if IsOp size.toNat op then ("illegal" : Str) else "operation") ∧ i = op ∧ j = (k : Int)) ∨
  (m = true ∧ SizeOk size ∧ Leg (wholeS size.toNat) log ∧ certs size.toNat log = [] ∧ s = "none" ∧ i = size ∧ j = 0)
theorem FltC.uniq {size : Int} {log : List Int} {m m' : Bool} {s s' : Str} {i j i' j' : Int} (bad : ¬ (SizeOk size ∧ Leg (wholeS size.toNat) log)) (a : FltC size log m s i j) (b : FltC size log m' s' i' j') : s = s' ∧ i = i' ∧ j = j' := by
  rcases a with ⟨a1, rfl, rfl, rfl⟩ | ⟨a1, k, op, a2, a3, a4, rfl, rfl, rfl⟩ | ⟨_, a1, a2, _⟩
  · rcases b with ⟨b1, rfl, rfl, rfl⟩ | ⟨b1, _⟩ | ⟨_, b1, _⟩
    · exact ⟨rfl, rfl, rfl⟩
    · exact absurd b1 a1
    · exact absurd b1 a1
  · rcases b with ⟨b1, _⟩ | ⟨b1, k', op', b2, b3, b4, rfl, rfl, rfl⟩ | ⟨_, b1, b2, _⟩
    · exact absurd a1 b1
    · obtain ⟨rfl, rfl⟩ := bad_uniq a2 b2 a3 b3 a4 b4
      exact ⟨rfl, rfl, rfl⟩
    · exact absurd ⟨b1, b2⟩ bad
  · exact absurd ⟨a1, a2⟩ bad
/-! ### promises -/
section
def sp21__law_bag (K : PySem.W.Frag) : Sp := fun vs H Q E => ∃ (a : Addr) (ns : List Int), vs = [.ref a] ∧ SqL K H a (ns.map V.int) ∧ ns.length ≤ 63 ∧ ∀ b c H', H b = none → H c = none → Kp [] H H' → Bag5 H' b c → Q (.ref b) H'
def sp21__law_draw (K : PySem.W.Frag) : Sp := fun vs H Q E => ∃ (b c : Addr) (many : Int), vs = [.ref b, .int many] ∧ 0 < many ∧ many < 2 ^ 30 ∧ Bag5 H b c ∧ ∀ (d : Int) H', 0 ≤ d → d < many → Kp [b] H H' → Bag5 H' b c → Q (.int d) H'
def sp21__law_whole (K : PySem.W.Frag) : Sp := fun vs H Q E => ∃ n : Nat, vs = [.int (n : Int)] ∧ n ≤ 60 ∧ ∀ w l r o H', H w = none → H l = none → H r = none → H o = none → Kp [] H H' → Bk5 H' w l r o (wholeS n) → Q (.ref w) H'
def sp21__law_step (K : PySem.W.Frag) : Sp := fun vs H Q E => ∃ (w l r o : Addr) (s : Sd) (v : Nat), vs = [.ref w, .int (v : Int)] ∧ Bk5 H w l r o s ∧ 1 ≤ v ∧ v ≤ s.n ∧ ∀ H', Kp [l, r, o] H H' → Bk5 H' w l r o (stepS s (legO s v)) → Q .non H'
def sp__law_operation (K : PySem.W.Frag) : Sp := fun vs H Q E => ∃ (w l r o : Addr) (s : Sd) (v : Nat), vs = [.ref w, .int (v : Int)] ∧ Bk5 H w l r o s ∧ v ≤ s.n + 1 ∧ Q (.int (legO s v)) H
def sp21__law_state (K : PySem.W.Frag) : Sp := fun vs H Q E => ∃ (w l r o : Addr) (s : Sd) (g : Nat), vs = [.ref w, .int (g : Int)] ∧ Bk5 H w l r o s ∧ g ≤ s.n ∧ Q (.str (stT s g)) H
def sp__law_number (K : PySem.W.Frag) : Sp := fun vs H Q E => ∃ (b : Addr) (x : V) (d : PyData), vs = [x] ∧ Vl b H x d ∧ Q (.bl (isI d)) H
def sp21__law_size (K : PySem.W.Frag) : Sp := fun vs H Q E => ∃ b c : Addr, vs = [.ref b] ∧ Bag5 H b c ∧ ∀ (n : Nat) H', n ≤ 60 → Kp [b] H H' → Bag5 H' b c → Q (.int (n : Int)) H'
def sp21__law_lanes (K : PySem.W.Frag) : Sp := fun vs H Q E => ∃ (b c : Addr) (n : Nat), vs = [.ref b, .int (n : Int)] ∧ 1 ≤ n ∧ n ≤ 60 ∧ Bag5 H b c ∧ ∀ (as : List Addr) q H', H q = none → Kp [b] H H' → Bag5 H' b c → H' q = some (.lst (as.map V.ref)) → as.length ≤ 3 → LanesI H' as n → (∀ a ∈ as, H a = none ∧ a ≠ q) → Q (.ref q) H'
def sp21__law_nodes (K : PySem.W.Frag) : Sp := fun vs H Q E => ∃ (b c : Addr) (n : Nat), vs = [.ref b, .int (n : Int)] ∧ 1 ≤ n ∧ n ≤ 60 ∧ Bag5 H b c ∧ ∀ (ns : List Int) q H', (∀ x ∈ ns, 1 ≤ x ∧ x ≤ n) → ns.length ≤ 36 → H q = none → Kp [b] H H' → Bag5 H' b c → H' q = some (.lst (ns.map V.int)) → Q (.ref q) H'
def sp21__law_log (K : PySem.W.Frag) : Sp := fun vs H Q E => ∃ (b c : Addr) (n : Nat), vs = [.ref b, .int (n : Int)] ∧ n ≤ 60 ∧ Bag5 H b c ∧ ∀ (ds : List Int) q H', Leg (wholeS n) ds → ds.length ≤ 36 → H q = none → Kp [b] H H' → Bag5 H' b c → H' q = some (.lst (ds.map V.int)) → Q (.ref q) H'
def sp__law_losses (K : PySem.W.Frag) : Sp := fun vs H Q E => ∃ (a : Addr) (n : Nat) (log : List Int), vs = [.int (n : Int), .ref a] ∧ n ≤ 60 ∧ H a = some (.lst (log.map V.int)) ∧ log.length ≤ 1000 ∧ Leg (wholeS n) log ∧ ∀ xs q H', H q = none → Kp [] H H' → H' q = some (.lst xs) → CPs H' xs (certs n log) → Q (.ref q) H'
def sp__certificates (K : PySem.W.Frag) : Sp := fun vs H Q E => ∃ (a : Addr) (size : Int) (log : List Int), vs = [.int size, .ref a] ∧ SqL K H a (log.map V.int) ∧ log.length ≤ 1000 ∧ RepE K H size log E ∧
  (SizeOk size → Leg (wholeS size.toNat) log → ∀ xs q H', H q = none → Kp [] H H' → H' q = some (.lst xs) → CPs H' xs (certs size.toNat log) → Q (.ref q) H')
def sp_is_loss_certificate (K : PySem.W.Frag) : Sp := fun vs H Q E => ∃ (a b : Addr) (size : Int) (log : List Int) (x : V) (d : PyData), vs = [.int size, .ref a, x] ∧ SqL K H a (log.map V.int) ∧ log.length ≤ 1000 ∧ Vl b H x d ∧ SeqAt.shaped d = true ∧ RepE K H size log E ∧
  (SizeOk size → Leg (wholeS size.toNat) log → Any H (.bl (cerD d (certs size.toNat log))) Q)
def sp_loss_certificate (K : PySem.W.Frag) : Sp := fun vs H Q E => ∃ (a : Addr) (size : Int) (log : List Int), vs = [.int size, .ref a] ∧ SqL K H a (log.map V.int) ∧ log.length ≤ 1000 ∧ RepE K H size log E ∧
  (SizeOk size → Leg (wholeS size.toNat) log → certs size.toNat log = [] → ∀ H', Kp [] H H' → Ex K "NotLost" [("size", .int size)] E H') ∧
  (SizeOk size → Leg (wholeS size.toNat) log → ∀ e es, certs size.toNat log = e :: es → ∀ t H', Kp [] H H' → H' t = some (.tup (ctV e)) → Q (.ref t) H')
def sp21__law_told (K : PySem.W.Frag) : Sp := fun vs H Q E => ∃ (m : Bool) (a b : Addr) (size : Int) (log : List Int) (x : V) (d : PyData), vs = [.str (if m then "made" else "judged"), .int size, .ref a, x] ∧ SqL K H a (log.map V.int) ∧ log.length ≤ 1000 ∧ Vl b H x d ∧ SeqAt.shaped d = true ∧
  (∀ s i j t H', FltC size log m s i j → Kp [] H H' → H' t = some (.tup [.str s, .int i, .int j]) → Q (.ref t) H') ∧
  (m = true → SizeOk size → Leg (wholeS size.toNat) log → ∀ e es, certs size.toNat log = e :: es → ∀ u t H', Kp [] H H' → H' u = some (.tup (ctV e)) → H' t = some (.tup [.str "value", .ref u, .int 0]) → Q (.ref t) H') ∧
  (m = false → SizeOk size → Leg (wholeS size.toNat) log → ∀ t H', Kp [] H H' → H' t = some (.tup [.str "value", .bl (cerD d (certs size.toNat log)), .int 0]) → Q (.ref t) H')
def sp21__law_fits (K : PySem.W.Frag) : Sp := fun vs H Q E => ∃ (t : Addr) (w : Str) (i j : Int), vs = [.ref t, .str w, .int i, .int j] ∧ H t = some (.tup [.str w, .int i, .int j]) ∧ Q (.bl true) H
def sp__law_is_triple (K : PySem.W.Frag) : Sp := fun vs H Q E => ∃ (b : Addr) (x : V) (d : PyData), vs = [x] ∧ Vl b H x d ∧ SeqAt.shaped d = true ∧ Any H (.bl (tripD d)) Q
def sp__law_certified (K : PySem.W.Frag) : Sp := fun vs H Q E => ∃ (a : Addr) (n : Nat) (log : List Int), vs = [.int (n : Int), .ref a] ∧ n ≤ 60 ∧ H a = some (.lst (log.map V.int)) ∧ log.length ≤ 1000 ∧ Leg (wholeS n) log ∧ Any H (.bl true) Q
def sp21__law_judged (K : PySem.W.Frag) : Sp := fun vs H Q E => ∃ (a p b : Addr) (n : Nat) (log : List Int) (xs : List V) (x : V) (d : PyData), vs = [.int (n : Int), .ref a, .ref p, x] ∧ n ≤ 60 ∧ H a = some (.lst (log.map V.int)) ∧ log.length ≤ 1000 ∧ Leg (wholeS n) log ∧ H p = some (.lst xs) ∧ CPs H xs (certs n log) ∧ Vl b H x d ∧ SeqAt.shaped d = true ∧ Any H (.bl true) Q
def sp21__law_pairs (K : PySem.W.Frag) : Sp := fun vs H Q E => ∃ (b c a p : Addr) (n : Nat) (log : List Int) (xs : List V), vs = [.ref b, .int (n : Int), .ref a, .ref p] ∧ n ≤ 60 ∧ Bag5 H b c ∧ a ≠ b ∧ p ≠ b ∧ H a = some (.lst (log.map V.int)) ∧ log.length ≤ 1000 ∧ Leg (wholeS n) log ∧ H p = some (.lst xs) ∧ CPs H xs (certs n log) ∧ ∀ H', Kp [b] H H' → Bag5 H' b c → Q (.bl true) H'
def sp__law_truth (K : PySem.W.Frag) : Sp := fun vs H Q E => ∃ i : Int, vs = [.int i] ∧ ∀ x, (x = .int i ∨ ∃ k : Bool, x = .bl k) → Q x H
def sp__law_values (K : PySem.W.Frag) : Sp := fun vs H Q E => ∃ (b t : Addr) (e : Ct), vs = [.ref t] ∧ H t = some (.tup (ctV e)) ∧ t ≠ b ∧ (∃ o, H b = some o) ∧ 0 ≤ e.2.2 ∧ e.2.2 ≤ 1000 ∧ ∀ xs q H', H q = none → Kp [] H H' → H' q = some (.lst xs) → xs.length ≤ 31 → (∀ x ∈ xs, ValS b H' x) → Q (.ref q) H'
def sp__law_values_fit (K : PySem.W.Frag) : Sp := fun vs H Q E => ∃ (b c a : Addr) (n : Nat) (log : List Int), vs = [.ref b, .int (n : Int), .ref a] ∧ n ≤ 60 ∧ Bag5 H b c ∧ a ≠ b ∧ H a = some (.lst (log.map V.int)) ∧ log.length ≤ 1000 ∧ Leg (wholeS n) log ∧ ∀ H', Kp [b] H H' → Bag5 H' b c → Q (.bl true) H'
def sp__law_both_refuse (K : PySem.W.Frag) : Sp := fun vs H Q E => ∃ (a : Addr) (size : Int) (log : List Int) (w : Str) (i j : Int), vs = [.int size, .ref a, .str w, .int i, .int j] ∧ H a = some (.lst (log.map V.int)) ∧ log.length ≤ 1000 ∧ FltC size log false w i j ∧ ¬ (SizeOk size ∧ Leg (wholeS size.toNat) log) ∧ Any H (.bl true) Q
def sp__law_refusals (K : PySem.W.Frag) : Sp := fun vs H Q E => ∃ (b c a : Addr) (n : Nat) (log : List Int), vs = [.ref b, .int (n : Int), .ref a] ∧ n ≤ 60 ∧ Bag5 H b c ∧ a ≠ b ∧ H a = some (.lst (log.map V.int)) ∧ log.length ≤ 500 ∧ Leg (wholeS n) log ∧ ∀ H', Q (.bl true) H'
end
end G

set_option Elab.async false
set_option linter.all false
set_option maxRecDepth 100000
set_option maxHeartbeats 4000000

namespace G
open PySem PySem.Spec PyProof.Rows L2
def top (i : Nat) : Stmt := PySem.Challenge.pw_latelink_k21_whole_loss_certificates.main.body.getD i (.Pass ⟨0, 0, 0, 0⟩)
abbrev s__law_bag : Stmt := top 35
abbrev s__law_number : Stmt := top 41
abbrev s__law_fits : Stmt := top 48
abbrev s__law_is_triple : Stmt := top 49
abbrev s__law_state : Stmt := top 40
abbrev s__law_step : Stmt := top 38
abbrev s__law_whole : Stmt := top 37
abbrev s__law_losses : Stmt := top 46
abbrev s_check_size : Stmt := top 15
abbrev s_Links___init__ : Stmt := inClass (top 14) 1
abbrev s_Links_is_legal : Stmt := inClass (top 14) 11
abbrev s_check_operation : Stmt := top 16
abbrev s_Links_check : Stmt := inClass (top 14) 12
abbrev s_Links_apply_at : Stmt := inClass (top 14) 14
abbrev s_Links_left : Stmt := inClass (top 14) 7
abbrev s_Links_right : Stmt := inClass (top 14) 8
abbrev s_check_gap : Stmt := top 27
abbrev s_gap_state : Stmt := top 25
abbrev s_gap_states : Stmt := top 26
abbrev s__certificates : Stmt := top 33
abbrev s_is_plain_integer : Stmt := top 29
abbrev s_is_loss_certificate : Stmt := top 32
abbrev s_loss_certificate : Stmt := top 31
abbrev s__law_told : Stmt := top 47
abbrev s__law_certified : Stmt := top 50
abbrev s__law_draw : Stmt := top 36
abbrev s__law_lanes : Stmt := top 43
abbrev s__law_nodes : Stmt := top 44
abbrev s__law_operation : Stmt := top 39
abbrev s__law_log : Stmt := top 45
abbrev s__law_both_refuse : Stmt := top 56
abbrev s__law_refusals : Stmt := top 57
abbrev s__law_size : Stmt := top 42
abbrev s__law_judged : Stmt := top 53
abbrev s__law_pairs : Stmt := top 54
abbrev s__law_truth : Stmt := top 51
abbrev s__law_values : Stmt := top 52
abbrev s__law_values_fit : Stmt := top 55
abbrev s_law : Stmt := top 58
abbrev s_BadGap___init__ : Stmt := inClass (top 8) 0
abbrev s_BadNode___init__ : Stmt := inClass (top 7) 0
abbrev s_BadSize___init__ : Stmt := inClass (top 6) 0
abbrev s_LogError___init__ : Stmt := inClass (top 3) 0
abbrev s_NotLost___init__ : Stmt := inClass (top 10) 0
theorem sc__law_bag : FnScope ["script"] ["script"] (defScope s__law_bag) := ⟨rfl, rfl, rfl, by decide +kernel, rfl, by decide +kernel, by decide +kernel⟩
theorem sc__law_number : FnScope ["told"] ["told"] (defScope s__law_number) := ⟨rfl, rfl, rfl, by decide +kernel, rfl, by decide +kernel, by decide +kernel⟩
theorem sc__law_fits : FnScope ["told", "word", "first", "second"] ["told", "word", "first", "second"] (defScope s__law_fits) := ⟨rfl, rfl, rfl, by decide +kernel, rfl, by decide +kernel, by decide +kernel⟩
theorem sc__law_is_triple : FnScope ["value", "one"] ["value"] (defScope s__law_is_triple) := ⟨rfl, rfl, rfl, by decide +kernel, rfl, by decide +kernel, by decide +kernel⟩
theorem sc__law_state : FnScope ["book", "gap", "low", "high"] ["book", "gap"] (defScope s__law_state) := ⟨rfl, rfl, rfl, by decide +kernel, rfl, by decide +kernel, by decide +kernel⟩
theorem sc__law_step : FnScope ["book", "node", "lefts", "rights", "outs", "low", "high"] ["book", "node"] (defScope s__law_step) := ⟨rfl, rfl, rfl, by decide +kernel, rfl, by decide +kernel, by decide +kernel⟩
theorem sc__law_whole : FnScope ["size", "node"] ["size"] (defScope s__law_whole) := ⟨rfl, rfl, rfl, by decide +kernel, rfl, by decide +kernel, by decide +kernel⟩
theorem sc__law_losses : FnScope ["size", "moves", "book", "rows", "states", "place", "gap", "state", "row"] ["size", "moves"] (defScope s__law_losses) := ⟨rfl, rfl, rfl, by decide +kernel, rfl, by decide +kernel, by decide +kernel⟩
theorem sc_check_size : FnScope ["size"] ["size"] (defScope s_check_size) := ⟨rfl, rfl, rfl, by decide +kernel, rfl, by decide +kernel, by decide +kernel⟩
theorem sc_Links___init__ : FnScope ["self", "size"] ["self", "size"] (defScope s_Links___init__) := ⟨rfl, rfl, rfl, by decide +kernel, rfl, by decide +kernel, by decide +kernel⟩
theorem sc_Links_is_legal : FnScope ["self", "operation"] ["self", "operation"] (defScope s_Links_is_legal) := ⟨rfl, rfl, rfl, by decide +kernel, rfl, by decide +kernel, by decide +kernel⟩
theorem sc_check_operation : FnScope ["size", "operation", "index"] ["size", "operation", "index"] (defScope s_check_operation) := ⟨rfl, rfl, rfl, by decide +kernel, rfl, by decide +kernel, by decide +kernel⟩
theorem sc_Links_check : FnScope ["self", "operation", "index"] ["self", "operation", "index"] (defScope s_Links_check) := ⟨rfl, rfl, rfl, by decide +kernel, rfl, by decide +kernel, by decide +kernel⟩
theorem sc_Links_apply_at : FnScope ["self", "operation", "index", "node", "low", "high", "is_unlink"] ["self", "operation", "index"] (defScope s_Links_apply_at) := ⟨rfl, rfl, rfl, by decide +kernel, rfl, by decide +kernel, by decide +kernel⟩
theorem sc_Links_left : FnScope ["self", "node"] ["self", "node"] (defScope s_Links_left) := ⟨rfl, rfl, rfl, by decide +kernel, rfl, by decide +kernel, by decide +kernel⟩
theorem sc_Links_right : FnScope ["self", "node"] ["self", "node"] (defScope s_Links_right) := ⟨rfl, rfl, rfl, by decide +kernel, rfl, by decide +kernel, by decide +kernel⟩
theorem sc_check_gap : FnScope ["size", "gap"] ["size", "gap"] (defScope s_check_gap) := ⟨rfl, rfl, rfl, by decide +kernel, rfl, by decide +kernel, by decide +kernel⟩
theorem sc_gap_state : FnScope ["links", "gap", "is_held_left", "is_held_right"] ["links", "gap"] (defScope s_gap_state) := ⟨rfl, rfl, rfl, by decide +kernel, rfl, by decide +kernel, by decide +kernel⟩
theorem sc_gap_states : FnScope ["links", "gap"] ["links"] (defScope s_gap_states) := ⟨rfl, rfl, rfl, by decide +kernel, rfl, by decide +kernel, by decide +kernel⟩
theorem sc__certificates : FnScope ["size", "log", "links", "states", "changes", "index", "operation", "before", "gap", "state", "_"] ["size", "log"] (defScope s__certificates) := ⟨rfl, rfl, rfl, by decide +kernel, rfl, by decide +kernel, by decide +kernel⟩
theorem sc_is_plain_integer : FnScope ["value"] ["value"] (defScope s_is_plain_integer) := ⟨rfl, rfl, rfl, by decide +kernel, rfl, by decide +kernel, by decide +kernel⟩
theorem sc_is_loss_certificate : FnScope ["size", "log", "value", "certificates", "member"] ["size", "log", "value"] (defScope s_is_loss_certificate) := ⟨rfl, rfl, rfl, by decide +kernel, rfl, by decide +kernel, by decide +kernel⟩
theorem sc_loss_certificate : FnScope ["size", "log", "certificates"] ["size", "log"] (defScope s_loss_certificate) := ⟨rfl, rfl, rfl, by decide +kernel, rfl, by decide +kernel, by decide +kernel⟩
theorem sc__law_told : FnScope ["asks", "size", "moves", "value", "told", "fault"] ["asks", "size", "moves", "value"] (defScope s__law_told) := ⟨rfl, rfl, rfl, by decide +kernel, rfl, by decide +kernel, by decide +kernel⟩
theorem sc__law_certified : FnScope ["size", "moves", "losses", "handed", "told"] ["size", "moves"] (defScope s__law_certified) := ⟨rfl, rfl, rfl, by decide +kernel, rfl, by decide +kernel, by decide +kernel⟩
theorem sc__law_draw : FnScope ["bag", "many", "cell", "digit", "twice"] ["bag", "many"] (defScope s__law_draw) := ⟨rfl, rfl, rfl, by decide +kernel, rfl, by decide +kernel, by decide +kernel⟩
theorem sc__law_lanes : FnScope ["bag", "size", "lanes", "start", "turn", "lane", "node"] ["bag", "size"] (defScope s__law_lanes) := ⟨rfl, rfl, rfl, by decide +kernel, rfl, by decide +kernel, by decide +kernel⟩
theorem sc__law_nodes : FnScope ["bag", "size", "nodes", "turn", "node", "lanes", "taken", "lane", "spare", "start", "more", "open_lanes", "step"] ["bag", "size"] (defScope s__law_nodes) := ⟨rfl, rfl, rfl, by decide +kernel, rfl, by decide +kernel, by decide +kernel⟩
theorem sc__law_operation : FnScope ["book", "node"] ["book", "node"] (defScope s__law_operation) := ⟨rfl, rfl, rfl, by decide +kernel, rfl, by decide +kernel, by decide +kernel⟩
theorem sc__law_log : FnScope ["bag", "size", "book", "moves", "node"] ["bag", "size"] (defScope s__law_log) := ⟨rfl, rfl, rfl, by decide +kernel, rfl, by decide +kernel, by decide +kernel⟩
theorem sc__law_both_refuse : FnScope ["size", "moves", "word", "first", "second"] ["size", "moves", "word", "first", "second"] (defScope s__law_both_refuse) := ⟨rfl, rfl, rfl, by decide +kernel, rfl, by decide +kernel, by decide +kernel⟩
theorem sc__law_refusals : FnScope ["bag", "size", "moves", "place", "odd", "wrong", "far"] ["bag", "size", "moves"] (defScope s__law_refusals) := ⟨rfl, rfl, rfl, by decide +kernel, rfl, by decide +kernel, by decide +kernel⟩
theorem sc__law_size : FnScope ["bag", "size"] ["bag"] (defScope s__law_size) := ⟨rfl, rfl, rfl, by decide +kernel, rfl, by decide +kernel, by decide +kernel⟩
theorem sc__law_judged : FnScope ["size", "moves", "losses", "value", "told"] ["size", "moves", "losses", "value"] (defScope s__law_judged) := ⟨rfl, rfl, rfl, by decide +kernel, rfl, by decide +kernel, by decide +kernel⟩
theorem sc__law_pairs : FnScope ["bag", "size", "moves", "losses", "gap", "seconds", "first", "second", "place", "one"] ["bag", "size", "moves", "losses"] (defScope s__law_pairs) := ⟨rfl, rfl, rfl, by decide +kernel, rfl, by decide +kernel, by decide +kernel⟩
theorem sc__law_truth : FnScope ["number"] ["number"] (defScope s__law_truth) := ⟨rfl, rfl, rfl, by decide +kernel, rfl, by decide +kernel, by decide +kernel⟩
theorem sc__law_values : FnScope ["triple", "gap", "first", "second"] ["triple"] (defScope s__law_values) := ⟨rfl, rfl, rfl, by decide +kernel, rfl, by decide +kernel, by decide +kernel⟩
theorem sc__law_values_fit : FnScope ["bag", "size", "moves", "losses", "handed", "triple", "values", "value"] ["bag", "size", "moves"] (defScope s__law_values_fit) := ⟨rfl, rfl, rfl, by decide +kernel, rfl, by decide +kernel, by decide +kernel⟩
theorem sc_law : FnScope ["script", "bag", "size", "moves", "losses"] ["script"] (defScope s_law) := ⟨rfl, rfl, rfl, by decide +kernel, rfl, by decide +kernel, by decide +kernel⟩
theorem sc_BadGap___init__ : FnScope ["self", "gap"] ["self", "gap"] (defScope s_BadGap___init__) := ⟨rfl, rfl, rfl, by decide +kernel, rfl, by decide +kernel, by decide +kernel⟩
theorem sc_BadNode___init__ : FnScope ["self", "node"] ["self", "node"] (defScope s_BadNode___init__) := ⟨rfl, rfl, rfl, by decide +kernel, rfl, by decide +kernel, by decide +kernel⟩
theorem sc_BadSize___init__ : FnScope ["self", "size"] ["self", "size"] (defScope s_BadSize___init__) := ⟨rfl, rfl, rfl, by decide +kernel, rfl, by decide +kernel, by decide +kernel⟩
theorem sc_LogError___init__ : FnScope ["self", "operation", "index"] ["self", "operation", "index"] (defScope s_LogError___init__) := ⟨rfl, rfl, rfl, by decide +kernel, rfl, by decide +kernel, by decide +kernel⟩
theorem sc_NotLost___init__ : FnScope ["self", "size"] ["self", "size"] (defScope s_NotLost___init__) := ⟨rfl, rfl, rfl, by decide +kernel, rfl, by decide +kernel, by decide +kernel⟩
def d__law_bag : He5.DefA := ⟨fun K => He.fAd K ("_law_bag", none), "_law_bag", "_law_bag", defArgs s__law_bag, defBody s__law_bag, defScope s__law_bag, [], []⟩
def d__law_number : He5.DefA := ⟨fun K => He.fAd K ("_law_number", none), "_law_number", "_law_number", defArgs s__law_number, defBody s__law_number, defScope s__law_number, [], []⟩
def d__law_fits : He5.DefA := ⟨fun K => He.fAd K ("_law_fits", none), "_law_fits", "_law_fits", defArgs s__law_fits, defBody s__law_fits, defScope s__law_fits, [], []⟩
def d__law_is_triple : He5.DefA := ⟨fun K => He.fAd K ("_law_is_triple", none), "_law_is_triple", "_law_is_triple", defArgs s__law_is_triple, defBody s__law_is_triple, defScope s__law_is_triple, [], []⟩
def d__law_state : He5.DefA := ⟨fun K => He.fAd K ("_law_state", none), "_law_state", "_law_state", defArgs s__law_state, defBody s__law_state, defScope s__law_state, [], []⟩
def d__law_step : He5.DefA := ⟨fun K => He.fAd K ("_law_step", none), "_law_step", "_law_step", defArgs s__law_step, defBody s__law_step, defScope s__law_step, [], []⟩
def d__law_whole : He5.DefA := ⟨fun K => He.fAd K ("_law_whole", none), "_law_whole", "_law_whole", defArgs s__law_whole, defBody s__law_whole, defScope s__law_whole, [], []⟩
def d__law_losses : He5.DefA := ⟨fun K => He.fAd K ("_law_losses", none), "_law_losses", "_law_losses", defArgs s__law_losses, defBody s__law_losses, defScope s__law_losses, [], []⟩
def d_check_size : He5.DefA := ⟨fun K => He.fAd K ("check_size", none), "check_size", "check_size", defArgs s_check_size, defBody s_check_size, defScope s_check_size, [], []⟩
def d_Links___init__ : He5.DefA := ⟨fun K => He.fAd K ("Links", some "__init__"), "__init__", "Links.__init__", defArgs s_Links___init__, defBody s_Links___init__, defScope s_Links___init__, [], []⟩
def d_Links_is_legal : He5.DefA := ⟨fun K => He.fAd K ("Links", some "is_legal"), "is_legal", "Links.is_legal", defArgs s_Links_is_legal, defBody s_Links_is_legal, defScope s_Links_is_legal, [], []⟩
def d_check_operation : He5.DefA := ⟨fun K => He.fAd K ("check_operation", none), "check_operation", "check_operation", defArgs s_check_operation, defBody s_check_operation, defScope s_check_operation, [], []⟩
def d_Links_check : He5.DefA := ⟨fun K => He.fAd K ("Links", some "check"), "check", "Links.check", defArgs s_Links_check, defBody s_Links_check, defScope s_Links_check, [], []⟩
def d_Links_apply_at : He5.DefA := ⟨fun K => He.fAd K ("Links", some "apply_at"), "apply_at", "Links.apply_at", defArgs s_Links_apply_at, defBody s_Links_apply_at, defScope s_Links_apply_at, [], []⟩
def d_Links_left : He5.DefA := ⟨fun K => He.fAd K ("Links", some "left"), "left", "Links.left", defArgs s_Links_left, defBody s_Links_left, defScope s_Links_left, [], []⟩
def d_Links_right : He5.DefA := ⟨fun K => He.fAd K ("Links", some "right"), "right", "Links.right", defArgs s_Links_right, defBody s_Links_right, defScope s_Links_right, [], []⟩
def d_check_gap : He5.DefA := ⟨fun K => He.fAd K ("check_gap", none), "check_gap", "check_gap", defArgs s_check_gap, defBody s_check_gap, defScope s_check_gap, [], []⟩
def d_gap_state : He5.DefA := ⟨fun K => He.fAd K ("gap_state", none), "gap_state", "gap_state", defArgs s_gap_state, defBody s_gap_state, defScope s_gap_state, [], []⟩
def d_gap_states : He5.DefA := ⟨fun K => He.fAd K ("gap_states", none), "gap_states", "gap_states", defArgs s_gap_states, defBody s_gap_states, defScope s_gap_states, [], []⟩
def d__certificates : He5.DefA := ⟨fun K => He.fAd K ("_certificates", none), "_certificates", "_certificates", defArgs s__certificates, defBody s__certificates, defScope s__certificates, [], []⟩
def d_is_plain_integer : He5.DefA := ⟨fun K => He.fAd K ("is_plain_integer", none), "is_plain_integer", "is_plain_integer", defArgs s_is_plain_integer, defBody s_is_plain_integer, defScope s_is_plain_integer, [], []⟩
def d_is_loss_certificate : He5.DefA := ⟨fun K => He.fAd K ("is_loss_certificate", none), "is_loss_certificate", "is_loss_certificate", defArgs s_is_loss_certificate, defBody s_is_loss_certificate, defScope s_is_loss_certificate, [], []⟩
def d_loss_certificate : He5.DefA := ⟨fun K => He.fAd K ("loss_certificate", none), "loss_certificate", "loss_certificate", defArgs s_loss_certificate, defBody s_loss_certificate, defScope s_loss_certificate, [], []⟩
def d__law_told : He5.DefA := ⟨fun K => He.fAd K ("_law_told", none), "_law_told", "_law_told", defArgs s__law_told, defBody s__law_told, defScope s__law_told, [], []⟩
def d__law_certified : He5.DefA := ⟨fun K => He.fAd K ("_law_certified", none), "_law_certified", "_law_certified", defArgs s__law_certified, defBody s__law_certified, defScope s__law_certified, [], []⟩
def d__law_draw : He5.DefA := ⟨fun K => He.fAd K ("_law_draw", none), "_law_draw", "_law_draw", defArgs s__law_draw, defBody s__law_draw, defScope s__law_draw, [], []⟩
def d__law_lanes : He5.DefA := ⟨fun K => He.fAd K ("_law_lanes", none), "_law_lanes", "_law_lanes", defArgs s__law_lanes, defBody s__law_lanes, defScope s__law_lanes, [], []⟩
def d__law_nodes : He5.DefA := ⟨fun K => He.fAd K ("_law_nodes", none), "_law_nodes", "_law_nodes", defArgs s__law_nodes, defBody s__law_nodes, defScope s__law_nodes, [], []⟩
def d__law_operation : He5.DefA := ⟨fun K => He.fAd K ("_law_operation", none), "_law_operation", "_law_operation", defArgs s__law_operation, defBody s__law_operation, defScope s__law_operation, [], []⟩
def d__law_log : He5.DefA := ⟨fun K => He.fAd K ("_law_log", none), "_law_log", "_law_log", defArgs s__law_log, defBody s__law_log, defScope s__law_log, [], []⟩
def d__law_both_refuse : He5.DefA := ⟨fun K => He.fAd K ("_law_both_refuse", none), "_law_both_refuse", "_law_both_refuse", defArgs s__law_both_refuse, defBody s__law_both_refuse, defScope s__law_both_refuse, [], []⟩
def d__law_refusals : He5.DefA := ⟨fun K => He.fAd K ("_law_refusals", none), "_law_refusals", "_law_refusals", defArgs s__law_refusals, defBody s__law_refusals, defScope s__law_refusals, [], []⟩
def d__law_size : He5.DefA := ⟨fun K => He.fAd K ("_law_size", none), "_law_size", "_law_size", defArgs s__law_size, defBody s__law_size, defScope s__law_size, [], []⟩
def d__law_judged : He5.DefA := ⟨fun K => He.fAd K ("_law_judged", none), "_law_judged", "_law_judged", defArgs s__law_judged, defBody s__law_judged, defScope s__law_judged, [], []⟩
def d__law_pairs : He5.DefA := ⟨fun K => He.fAd K ("_law_pairs", none), "_law_pairs", "_law_pairs", defArgs s__law_pairs, defBody s__law_pairs, defScope s__law_pairs, [], []⟩
def d__law_truth : He5.DefA := ⟨fun K => He.fAd K ("_law_truth", none), "_law_truth", "_law_truth", defArgs s__law_truth, defBody s__law_truth, defScope s__law_truth, [], []⟩
def d__law_values : He5.DefA := ⟨fun K => He.fAd K ("_law_values", none), "_law_values", "_law_values", defArgs s__law_values, defBody s__law_values, defScope s__law_values, [], []⟩
def d__law_values_fit : He5.DefA := ⟨fun K => He.fAd K ("_law_values_fit", none), "_law_values_fit", "_law_values_fit", defArgs s__law_values_fit, defBody s__law_values_fit, defScope s__law_values_fit, [], []⟩
def d_law : He5.DefA := ⟨fun K => He.fAd K ("law", none), "law", "law", defArgs s_law, defBody s_law, defScope s_law, [], []⟩
def d_BadGap___init__ : He5.DefA := ⟨fun K => He.fAd K ("BadGap", some "__init__"), "__init__", "BadGap.__init__", defArgs s_BadGap___init__, defBody s_BadGap___init__, defScope s_BadGap___init__, [], []⟩
def d_BadNode___init__ : He5.DefA := ⟨fun K => He.fAd K ("BadNode", some "__init__"), "__init__", "BadNode.__init__", defArgs s_BadNode___init__, defBody s_BadNode___init__, defScope s_BadNode___init__, [], []⟩
def d_BadSize___init__ : He5.DefA := ⟨fun K => He.fAd K ("BadSize", some "__init__"), "__init__", "BadSize.__init__", defArgs s_BadSize___init__, defBody s_BadSize___init__, defScope s_BadSize___init__, [], []⟩
def d_LogError___init__ : He5.DefA := ⟨fun K => He.fAd K ("LogError", some "__init__"), "__init__", "LogError.__init__", defArgs s_LogError___init__, defBody s_LogError___init__, defScope s_LogError___init__, [], []⟩
def d_NotLost___init__ : He5.DefA := ⟨fun K => He.fAd K ("NotLost", some "__init__"), "__init__", "NotLost.__init__", defArgs s_NotLost___init__, defBody s_NotLost___init__, defScope s_NotLost___init__, [], []⟩
def fnL : List He5.DefA := [d__law_bag, d__law_number, d__law_fits, d__law_is_triple, d__law_state, d__law_step, d__law_whole, d__law_losses, d_check_size, d_Links___init__, d_Links_is_legal, d_check_operation, d_Links_check, d_Links_apply_at, d_Links_left, d_Links_right, d_check_gap, d_gap_state, d_gap_states, d__certificates, d_is_plain_integer, d_is_loss_certificate, d_loss_certificate, d__law_told, d__law_certified, d__law_draw, d__law_lanes, d__law_nodes, d__law_operation, d__law_log, d__law_both_refuse, d__law_refusals, d__law_size, d__law_judged, d__law_pairs, d__law_truth, d__law_values, d__law_values_fit, d_law, d_BadGap___init__, d_BadNode___init__, d_BadSize___init__, d_LogError___init__, d_NotLost___init__]
def chkL : List Chk := [fa_ (.glo "LinkError"),
  fa_ (.glo "LogError"),
  fa_ (.glo "BadOperation"),
  fa_ (.glo "Illegal"),
  fa_ (.glo "BadSize"),
  fa_ (.glo "BadNode"),
  fa_ (.glo "BadGap"),
  fa_ (.glo "BadDump"),
  fa_ (.glo "NotLost"),
  fa_ (.glo "Links"),
  fa_ (.glo "_law_bag"),
  fa_ (.glo "_law_number"),
  fa_ (.glo "_law_fits"),
  fa_ (.glo "_law_is_triple"),
  fa_ (.glo "_law_state"),
  fa_ (.glo "_law_step"),
  fa_ (.glo "_law_whole"),
  fa_ (.glo "_law_losses"),
  fa_ (.glo "check_size"),
  fa_ (.glo "check_operation"),
  fa_ (.glo "check_gap"),
  fa_ (.glo "gap_state"),
  fa_ (.glo "gap_states"),
  fa_ (.glo "_certificates"),
  fa_ (.glo "is_plain_integer"),
  fa_ (.glo "is_loss_certificate"),
  fa_ (.glo "loss_certificate"),
  fa_ (.glo "_law_told"),
  fa_ (.glo "_law_certified"),
  fa_ (.glo "_law_draw"),
  fa_ (.glo "_law_lanes"),
  fa_ (.glo "_law_nodes"),
  fa_ (.glo "_law_operation"),
  fa_ (.glo "_law_log"),
  fa_ (.glo "_law_both_refuse"),
  fa_ (.glo "_law_refusals"),
  fa_ (.glo "_law_size"),
  fa_ (.glo "_law_judged"),
  fa_ (.glo "_law_pairs"),
  fa_ (.glo "_law_truth"),
  fa_ (.glo "_law_values"),
  fa_ (.glo "_law_values_fit"),
  fa_ (.glo "law"),
  fa_ (.free "ValueError"),
  fa_ (.free "abs"),
  fa_ (.free "all"),
  fa_ (.free "bool"),
  fa_ (.free "enumerate"),
  fa_ (.free "int"),
  fa_ (.free "isinstance"),
  fa_ (.free "len"),
  fa_ (.free "list"),
  fa_ (.free "range"),
  fa_ (.free "str"),
  fa_ (.free "tuple"),
  fa_ (.str "DIGITS" "0123456789"),
  fa_ (.int "MOST_DIGITS" 9),
  ccB "Links" "MOST" 60,
  fa_ (.cls "Links"),
  tyB "Links",
  fa_ (.noat "Links" "_lefts"),
  fa_ (.noat "Links" "_out"),
  fa_ (.noat "Links" "_rights"),
  fa_ (.noat "Links" "size"),
  fa_ (.mkr "Links"),
  fa_ (.meth "Links" "is_legal"),
  fa_ (.meth "Links" "check"),
  fa_ (.meth "Links" "apply_at"),
  fa_ (.meth "Links" "left"),
  fa_ (.meth "Links" "right"),
  askB "BadDump",
  askB "BadGap",
  askB "BadNode",
  askB "BadOperation",
  askB "BadSize",
  askB "Illegal",
  askB "LinkError",
  askB "LogError",
  askB "NotLost",
  excB "BadGap" ["gap"],
  iniB "BadGap",
  kitB2 "BadGap" "BadDump" false,
  kitB2 "BadGap" "BadGap" true,
  kitB2 "BadGap" "BadNode" false,
  kitB2 "BadGap" "BadOperation" false,
  kitB2 "BadGap" "BadSize" false,
  kitB2 "BadGap" "Illegal" false,
  kitB2 "BadGap" "LinkError" true,
  exmB "BadGap" "LinkError" true,
  kitB2 "BadGap" "LogError" false,
  kitB2 "BadGap" "NotLost" false,
  kitT2 "BadGap" "ValueError" true,
  excB "BadNode" ["node"],
  iniB "BadNode",
  kitB2 "BadNode" "BadDump" false,
  kitB2 "BadNode" "BadGap" false,
  kitB2 "BadNode" "BadNode" true,
  kitB2 "BadNode" "BadOperation" false,
  kitB2 "BadNode" "BadSize" false,
  kitB2 "BadNode" "Illegal" false,
  kitB2 "BadNode" "LinkError" true,
  exmB "BadNode" "LinkError" true,
  kitB2 "BadNode" "LogError" false,
  kitB2 "BadNode" "NotLost" false,
  kitT2 "BadNode" "ValueError" true,
  excB "BadOperation" ["operation", "index"],
  iniB "BadOperation",
  (fun K => decide (He.ma K (He.ga K "BadOperation") "__init__" = He.ma K (He.ga K "LogError") "__init__")),
  kitB2 "BadOperation" "BadDump" false,
  kitB2 "BadOperation" "BadGap" false,
  kitB2 "BadOperation" "BadNode" false,
  kitB2 "BadOperation" "BadOperation" true,
  kitB2 "BadOperation" "BadSize" false,
  kitB2 "BadOperation" "Illegal" false,
  kitB2 "BadOperation" "LinkError" true,
  exmB "BadOperation" "LinkError" true,
  kitB2 "BadOperation" "LogError" true,
  kitB2 "BadOperation" "NotLost" false,
  kitT2 "BadOperation" "ValueError" true,
  excB "BadSize" ["size"],
  iniB "BadSize",
  kitB2 "BadSize" "BadDump" false,
  kitB2 "BadSize" "BadGap" false,
  kitB2 "BadSize" "BadNode" false,
  kitB2 "BadSize" "BadOperation" false,
  kitB2 "BadSize" "BadSize" true,
  kitB2 "BadSize" "Illegal" false,
  kitB2 "BadSize" "LinkError" true,
  exmB "BadSize" "LinkError" true,
  kitB2 "BadSize" "LogError" false,
  kitB2 "BadSize" "NotLost" false,
  kitT2 "BadSize" "ValueError" true,
  excB "Illegal" ["operation", "index"],
  iniB "Illegal",
  (fun K => decide (He.ma K (He.ga K "Illegal") "__init__" = He.ma K (He.ga K "LogError") "__init__")),
  kitB2 "Illegal" "BadDump" false,
  kitB2 "Illegal" "BadGap" false,
  kitB2 "Illegal" "BadNode" false,
  kitB2 "Illegal" "BadOperation" false,
  kitB2 "Illegal" "BadSize" false,
  kitB2 "Illegal" "Illegal" true,
  kitB2 "Illegal" "LinkError" true,
  exmB "Illegal" "LinkError" true,
  kitB2 "Illegal" "LogError" true,
  kitB2 "Illegal" "NotLost" false,
  kitT2 "Illegal" "ValueError" true,
  excB "NotLost" ["size"],
  iniB "NotLost",
  kitB2 "NotLost" "BadDump" false,
  kitB2 "NotLost" "BadGap" false,
  kitB2 "NotLost" "BadNode" false,
  kitB2 "NotLost" "BadOperation" false,
  kitB2 "NotLost" "BadSize" false,
  kitB2 "NotLost" "Illegal" false,
  kitB2 "NotLost" "LinkError" true,
  exmB "NotLost" "LinkError" true,
  kitB2 "NotLost" "LogError" false,
  kitB2 "NotLost" "NotLost" true,
  kitT2 "NotLost" "ValueError" true]
abbrev R : PySem.W.OpenRow := PySem.W.OpenLaw.row PySem.Challenge.rw_latelink_k21_whole_loss_certificates
abbrev hk : PySem.W.Hook := hookY 6 chkL fnL
def ob (s : PySem.W.SharedT) : He.AlD := obsYG 6 chkL fnL (HandSHeadRun.getT s)
theorem ob_eq (s : PySem.W.SharedT) : ob s = hk.obs s.abs := obsYG_eq (HandSHeadRun.getT_eq s)
def loose0 : List Str := ["_wall", "__name__", "LinkError", "LogError", "BadOperation", "Illegal", "BadSize", "BadNode", "BadGap", "BadDump", "NotLost", "DIGITS", "MOST_DIGITS", "Links", "check_size", "check_operation", "is_positive", "dump_of", "_joined", "_read_numbers"]
def loose1 : List Str := ["_read_rights", "_read_lefts", "_read_outs", "gap_state", "gap_states", "check_gap", "is_plain_integer", "loss_certificate", "is_loss_certificate", "_certificates", "_law_bag", "_law_draw", "_law_whole", "_law_step", "_law_operation", "_law_state", "_law_number", "_law_size", "_law_lanes", "_law_nodes"]
def loose2 : List Str := ["_law_log", "_law_losses", "_law_told", "_law_fits", "_law_is_triple", "_law_certified", "_law_truth", "_law_values", "_law_judged", "_law_pairs", "_law_values_fit", "_law_both_refuse", "_law_refusals"]
def loose : List Str := loose0 ++ loose1 ++ loose2
set_option maxHeartbeats 0 in
theorem run (w : World) : HandSHeadRun.RunEq R (PySem.W.view R.prog [58]) hk ob 8000 loose w := by
  intro os
  kernel_rfl
/-- what the top has written -/
structure Txt (K : PySem.W.Frag) (mg : Str → Option Value) : Prop where
  g_LinkError : mg "LinkError" = some (.ref (He.ga K "LinkError"))
  g_LogError : mg "LogError" = some (.ref (He.ga K "LogError"))
  g_BadOperation : mg "BadOperation" = some (.ref (He.ga K "BadOperation"))
  g_Illegal : mg "Illegal" = some (.ref (He.ga K "Illegal"))
  g_BadSize : mg "BadSize" = some (.ref (He.ga K "BadSize"))
  g_BadNode : mg "BadNode" = some (.ref (He.ga K "BadNode"))
  g_BadGap : mg "BadGap" = some (.ref (He.ga K "BadGap"))
  g_BadDump : mg "BadDump" = some (.ref (He.ga K "BadDump"))
  g_NotLost : mg "NotLost" = some (.ref (He.ga K "NotLost"))
  g_Links : mg "Links" = some (.ref (He.ga K "Links"))
  gf__law_bag : mg "_law_bag" = some (.ref (He.ga K "_law_bag"))
  gf__law_number : mg "_law_number" = some (.ref (He.ga K "_law_number"))
  gf__law_fits : mg "_law_fits" = some (.ref (He.ga K "_law_fits"))
  gf__law_is_triple : mg "_law_is_triple" = some (.ref (He.ga K "_law_is_triple"))
  gf__law_state : mg "_law_state" = some (.ref (He.ga K "_law_state"))
  gf__law_step : mg "_law_step" = some (.ref (He.ga K "_law_step"))
  gf__law_whole : mg "_law_whole" = some (.ref (He.ga K "_law_whole"))
  gf__law_losses : mg "_law_losses" = some (.ref (He.ga K "_law_losses"))
  gf_check_size : mg "check_size" = some (.ref (He.ga K "check_size"))
  gf_check_operation : mg "check_operation" = some (.ref (He.ga K "check_operation"))
  gf_check_gap : mg "check_gap" = some (.ref (He.ga K "check_gap"))
  gf_gap_state : mg "gap_state" = some (.ref (He.ga K "gap_state"))
  gf_gap_states : mg "gap_states" = some (.ref (He.ga K "gap_states"))
  gf__certificates : mg "_certificates" = some (.ref (He.ga K "_certificates"))
  gf_is_plain_integer : mg "is_plain_integer" = some (.ref (He.ga K "is_plain_integer"))
  gf_is_loss_certificate : mg "is_loss_certificate" = some (.ref (He.ga K "is_loss_certificate"))
  gf_loss_certificate : mg "loss_certificate" = some (.ref (He.ga K "loss_certificate"))
  gf__law_told : mg "_law_told" = some (.ref (He.ga K "_law_told"))
  gf__law_certified : mg "_law_certified" = some (.ref (He.ga K "_law_certified"))
  gf__law_draw : mg "_law_draw" = some (.ref (He.ga K "_law_draw"))
  gf__law_lanes : mg "_law_lanes" = some (.ref (He.ga K "_law_lanes"))
  gf__law_nodes : mg "_law_nodes" = some (.ref (He.ga K "_law_nodes"))
  gf__law_operation : mg "_law_operation" = some (.ref (He.ga K "_law_operation"))
  gf__law_log : mg "_law_log" = some (.ref (He.ga K "_law_log"))
  gf__law_both_refuse : mg "_law_both_refuse" = some (.ref (He.ga K "_law_both_refuse"))
  gf__law_refusals : mg "_law_refusals" = some (.ref (He.ga K "_law_refusals"))
  gf__law_size : mg "_law_size" = some (.ref (He.ga K "_law_size"))
  gf__law_judged : mg "_law_judged" = some (.ref (He.ga K "_law_judged"))
  gf__law_pairs : mg "_law_pairs" = some (.ref (He.ga K "_law_pairs"))
  gf__law_truth : mg "_law_truth" = some (.ref (He.ga K "_law_truth"))
  gf__law_values : mg "_law_values" = some (.ref (He.ga K "_law_values"))
  gf__law_values_fit : mg "_law_values_fit" = some (.ref (He.ga K "_law_values_fit"))
  gf_law : mg "law" = some (.ref (He.ga K "law"))
  b_ValueError : mg "ValueError" = none
  b_abs : mg "abs" = none
  b_all : mg "all" = none
  b_bool : mg "bool" = none
  b_enumerate : mg "enumerate" = none
  b_int : mg "int" = none
  b_isinstance : mg "isinstance" = none
  b_len : mg "len" = none
  b_list : mg "list" = none
  b_range : mg "range" = none
  b_str : mg "str" = none
  b_tuple : mg "tuple" = none
  k_DIGITS : ∃ t, mg "DIGITS" = some (.str "0123456789" t)
  k_MOST_DIGITS : ∃ t, mg "MOST_DIGITS" = some (.int 9 t)
  cc_Links_MOST : ∃ mc u, ClX.CRead K (He.ga K "Links") mc ∧ ClX.CVal K (He.ga K "Links") mc "MOST" (.int 60) u
  cl_Links : Cls K (He.ga K "Links")
  ty_Links : PySem.W.findIn K (.ref (He.ga K "Links")) "__class__" = some (some (.builtin "object.__class__")) ∧ PySem.W.mroIn K (He.ga K "Links") (.type "object") = some true
  na_Links__lefts : NoAttr K (He.ga K "Links") "_lefts"
  na_Links__out : NoAttr K (He.ga K "Links") "_out"
  na_Links__rights : NoAttr K (He.ga K "Links") "_rights"
  na_Links_size : NoAttr K (He.ga K "Links") "size"
  mk_Links : Mk K (He.ga K "Links") (He.ma K (He.ga K "Links") "__init__")
  me_Links_is_legal : Meth K (He.ga K "Links") "is_legal" (He.ma K (He.ga K "Links") "is_legal")
  me_Links_check : Meth K (He.ga K "Links") "check" (He.ma K (He.ga K "Links") "check")
  me_Links_apply_at : Meth K (He.ga K "Links") "apply_at" (He.ma K (He.ga K "Links") "apply_at")
  me_Links_left : Meth K (He.ga K "Links") "left" (He.ma K (He.ga K "Links") "left")
  me_Links_right : Meth K (He.ga K "Links") "right" (He.ma K (He.ga K "Links") "right")
  ex_BadDump : ExK K (He.ga K "BadDump")
  ex_BadGap : ExK K (He.ga K "BadGap")
  ex_BadNode : ExK K (He.ga K "BadNode")
  ex_BadOperation : ExK K (He.ga K "BadOperation")
  ex_BadSize : ExK K (He.ga K "BadSize")
  ex_Illegal : ExK K (He.ga K "Illegal")
  ex_LinkError : ExK K (He.ga K "LinkError")
  ex_LogError : ExK K (He.ga K "LogError")
  ex_NotLost : ExK K (He.ga K "NotLost")
  oe_BadGap : OexC K (He.ga K "BadGap") ∧ ∀ f ∈ (["gap"] : List Str), PySem.W.findIn K (.ref (He.ga K "BadGap")) f = some none
  in_BadGap : PySem.W.findIn K (.ref (He.ga K "BadGap")) "__init__" = some (some (.ref (He.ma K (He.ga K "BadGap") "__init__"))) ∧ PySem.W.typeIn K (.ref (He.ma K (He.ga K "BadGap") "__init__")) = some (.type "function")
  kit_BadGap_BadDump : PySem.W.kitOne K (.ref (He.ga K "BadGap")) (.ref (He.ga K "BadDump")) = some false
  kit_BadGap_BadGap : PySem.W.kitOne K (.ref (He.ga K "BadGap")) (.ref (He.ga K "BadGap")) = some true
  kit_BadGap_BadNode : PySem.W.kitOne K (.ref (He.ga K "BadGap")) (.ref (He.ga K "BadNode")) = some false
  kit_BadGap_BadOperation : PySem.W.kitOne K (.ref (He.ga K "BadGap")) (.ref (He.ga K "BadOperation")) = some false
  kit_BadGap_BadSize : PySem.W.kitOne K (.ref (He.ga K "BadGap")) (.ref (He.ga K "BadSize")) = some false
  kit_BadGap_Illegal : PySem.W.kitOne K (.ref (He.ga K "BadGap")) (.ref (He.ga K "Illegal")) = some false
  kit_BadGap_LinkError : PySem.W.kitOne K (.ref (He.ga K "BadGap")) (.ref (He.ga K "LinkError")) = some true
  exm_BadGap_LinkError : PySem.W.exmOne K (.ref (He.ga K "BadGap")) (.ref (He.ga K "LinkError")) = some true
  kit_BadGap_LogError : PySem.W.kitOne K (.ref (He.ga K "BadGap")) (.ref (He.ga K "LogError")) = some false
  kit_BadGap_NotLost : PySem.W.kitOne K (.ref (He.ga K "BadGap")) (.ref (He.ga K "NotLost")) = some false
  kit_BadGap_ValueError : PySem.W.kitOne K (.ref (He.ga K "BadGap")) (.type "ValueError") = some true
  oe_BadNode : OexC K (He.ga K "BadNode") ∧ ∀ f ∈ (["node"] : List Str), PySem.W.findIn K (.ref (He.ga K "BadNode")) f = some none
  in_BadNode : PySem.W.findIn K (.ref (He.ga K "BadNode")) "__init__" = some (some (.ref (He.ma K (He.ga K "BadNode") "__init__"))) ∧ PySem.W.typeIn K (.ref (He.ma K (He.ga K "BadNode") "__init__")) = some (.type "function")
  kit_BadNode_BadDump : PySem.W.kitOne K (.ref (He.ga K "BadNode")) (.ref (He.ga K "BadDump")) = some false
  kit_BadNode_BadGap : PySem.W.kitOne K (.ref (He.ga K "BadNode")) (.ref (He.ga K "BadGap")) = some false
  kit_BadNode_BadNode : PySem.W.kitOne K (.ref (He.ga K "BadNode")) (.ref (He.ga K "BadNode")) = some true
  kit_BadNode_BadOperation : PySem.W.kitOne K (.ref (He.ga K "BadNode")) (.ref (He.ga K "BadOperation")) = some false
  kit_BadNode_BadSize : PySem.W.kitOne K (.ref (He.ga K "BadNode")) (.ref (He.ga K "BadSize")) = some false
  kit_BadNode_Illegal : PySem.W.kitOne K (.ref (He.ga K "BadNode")) (.ref (He.ga K "Illegal")) = some false
  kit_BadNode_LinkError : PySem.W.kitOne K (.ref (He.ga K "BadNode")) (.ref (He.ga K "LinkError")) = some true
  exm_BadNode_LinkError : PySem.W.exmOne K (.ref (He.ga K "BadNode")) (.ref (He.ga K "LinkError")) = some true
  kit_BadNode_LogError : PySem.W.kitOne K (.ref (He.ga K "BadNode")) (.ref (He.ga K "LogError")) = some false
  kit_BadNode_NotLost : PySem.W.kitOne K (.ref (He.ga K "BadNode")) (.ref (He.ga K "NotLost")) = some false
  kit_BadNode_ValueError : PySem.W.kitOne K (.ref (He.ga K "BadNode")) (.type "ValueError") = some true
  oe_BadOperation : OexC K (He.ga K "BadOperation") ∧ ∀ f ∈ (["operation", "index"] : List Str), PySem.W.findIn K (.ref (He.ga K "BadOperation")) f = some none
  in_BadOperation : PySem.W.findIn K (.ref (He.ga K "BadOperation")) "__init__" = some (some (.ref (He.ma K (He.ga K "BadOperation") "__init__"))) ∧ PySem.W.typeIn K (.ref (He.ma K (He.ga K "BadOperation") "__init__")) = some (.type "function")
  sm_BadOperation : He.ma K (He.ga K "BadOperation") "__init__" = He.ma K (He.ga K "LogError") "__init__"
  kit_BadOperation_BadDump : PySem.W.kitOne K (.ref (He.ga K "BadOperation")) (.ref (He.ga K "BadDump")) = some false
  kit_BadOperation_BadGap : PySem.W.kitOne K (.ref (He.ga K "BadOperation")) (.ref (He.ga K "BadGap")) = some false
  kit_BadOperation_BadNode : PySem.W.kitOne K (.ref (He.ga K "BadOperation")) (.ref (He.ga K "BadNode")) = some false
  kit_BadOperation_BadOperation : PySem.W.kitOne K (.ref (He.ga K "BadOperation")) (.ref (He.ga K "BadOperation")) = some true
  kit_BadOperation_BadSize : PySem.W.kitOne K (.ref (He.ga K "BadOperation")) (.ref (He.ga K "BadSize")) = some false
  kit_BadOperation_Illegal : PySem.W.kitOne K (.ref (He.ga K "BadOperation")) (.ref (He.ga K "Illegal")) = some false
  kit_BadOperation_LinkError : PySem.W.kitOne K (.ref (He.ga K "BadOperation")) (.ref (He.ga K "LinkError")) = some true
  exm_BadOperation_LinkError : PySem.W.exmOne K (.ref (He.ga K "BadOperation")) (.ref (He.ga K "LinkError")) = some true
  kit_BadOperation_LogError : PySem.W.kitOne K (.ref (He.ga K "BadOperation")) (.ref (He.ga K "LogError")) = some true
  kit_BadOperation_NotLost : PySem.W.kitOne K (.ref (He.ga K "BadOperation")) (.ref (He.ga K "NotLost")) = some false
  kit_BadOperation_ValueError : PySem.W.kitOne K (.ref (He.ga K "BadOperation")) (.type "ValueError") = some true
  oe_BadSize : OexC K (He.ga K "BadSize") ∧ ∀ f ∈ (["size"] : List Str), PySem.W.findIn K (.ref (He.ga K "BadSize")) f = some none
  in_BadSize : PySem.W.findIn K (.ref (He.ga K "BadSize")) "__init__" = some (some (.ref (He.ma K (He.ga K "BadSize") "__init__"))) ∧ PySem.W.typeIn K (.ref (He.ma K (He.ga K "BadSize") "__init__")) = some (.type "function")
  kit_BadSize_BadDump : PySem.W.kitOne K (.ref (He.ga K "BadSize")) (.ref (He.ga K "BadDump")) = some false
  kit_BadSize_BadGap : PySem.W.kitOne K (.ref (He.ga K "BadSize")) (.ref (He.ga K "BadGap")) = some false
  kit_BadSize_BadNode : PySem.W.kitOne K (.ref (He.ga K "BadSize")) (.ref (He.ga K "BadNode")) = some false
  kit_BadSize_BadOperation : PySem.W.kitOne K (.ref (He.ga K "BadSize")) (.ref (He.ga K "BadOperation")) = some false
  kit_BadSize_BadSize : PySem.W.kitOne K (.ref (He.ga K "BadSize")) (.ref (He.ga K "BadSize")) = some true
  kit_BadSize_Illegal : PySem.W.kitOne K (.ref (He.ga K "BadSize")) (.ref (He.ga K "Illegal")) = some false
  kit_BadSize_LinkError : PySem.W.kitOne K (.ref (He.ga K "BadSize")) (.ref (He.ga K "LinkError")) = some true
  exm_BadSize_LinkError : PySem.W.exmOne K (.ref (He.ga K "BadSize")) (.ref (He.ga K "LinkError")) = some true
  kit_BadSize_LogError : PySem.W.kitOne K (.ref (He.ga K "BadSize")) (.ref (He.ga K "LogError")) = some false
  kit_BadSize_NotLost : PySem.W.kitOne K (.ref (He.ga K "BadSize")) (.ref (He.ga K "NotLost")) = some false
  kit_BadSize_ValueError : PySem.W.kitOne K (.ref (He.ga K "BadSize")) (.type "ValueError") = some true
  oe_Illegal : OexC K (He.ga K "Illegal") ∧ ∀ f ∈ (["operation", "index"] : List Str), PySem.W.findIn K (.ref (He.ga K "Illegal")) f = some none
  in_Illegal : PySem.W.findIn K (.ref (He.ga K "Illegal")) "__init__" = some (some (.ref (He.ma K (He.ga K "Illegal") "__init__"))) ∧ PySem.W.typeIn K (.ref (He.ma K (He.ga K "Illegal") "__init__")) = some (.type "function")
  sm_Illegal : He.ma K (He.ga K "Illegal") "__init__" = He.ma K (He.ga K "LogError") "__init__"
  kit_Illegal_BadDump : PySem.W.kitOne K (.ref (He.ga K "Illegal")) (.ref (He.ga K "BadDump")) = some false
  kit_Illegal_BadGap : PySem.W.kitOne K (.ref (He.ga K "Illegal")) (.ref (He.ga K "BadGap")) = some false
  kit_Illegal_BadNode : PySem.W.kitOne K (.ref (He.ga K "Illegal")) (.ref (He.ga K "BadNode")) = some false
  kit_Illegal_BadOperation : PySem.W.kitOne K (.ref (He.ga K "Illegal")) (.ref (He.ga K "BadOperation")) = some false
  kit_Illegal_BadSize : PySem.W.kitOne K (.ref (He.ga K "Illegal")) (.ref (He.ga K "BadSize")) = some false
  kit_Illegal_Illegal : PySem.W.kitOne K (.ref (He.ga K "Illegal")) (.ref (He.ga K "Illegal")) = some true
  kit_Illegal_LinkError : PySem.W.kitOne K (.ref (He.ga K "Illegal")) (.ref (He.ga K "LinkError")) = some true
  exm_Illegal_LinkError : PySem.W.exmOne K (.ref (He.ga K "Illegal")) (.ref (He.ga K "LinkError")) = some true
  kit_Illegal_LogError : PySem.W.kitOne K (.ref (He.ga K "Illegal")) (.ref (He.ga K "LogError")) = some true
  kit_Illegal_NotLost : PySem.W.kitOne K (.ref (He.ga K "Illegal")) (.ref (He.ga K "NotLost")) = some false
  kit_Illegal_ValueError : PySem.W.kitOne K (.ref (He.ga K "Illegal")) (.type "ValueError") = some true
  oe_NotLost : OexC K (He.ga K "NotLost") ∧ ∀ f ∈ (["size"] : List Str), PySem.W.findIn K (.ref (He.ga K "NotLost")) f = some none
  in_NotLost : PySem.W.findIn K (.ref (He.ga K "NotLost")) "__init__" = some (some (.ref (He.ma K (He.ga K "NotLost") "__init__"))) ∧ PySem.W.typeIn K (.ref (He.ma K (He.ga K "NotLost") "__init__")) = some (.type "function")
  kit_NotLost_BadDump : PySem.W.kitOne K (.ref (He.ga K "NotLost")) (.ref (He.ga K "BadDump")) = some false
  kit_NotLost_BadGap : PySem.W.kitOne K (.ref (He.ga K "NotLost")) (.ref (He.ga K "BadGap")) = some false
  kit_NotLost_BadNode : PySem.W.kitOne K (.ref (He.ga K "NotLost")) (.ref (He.ga K "BadNode")) = some false
  kit_NotLost_BadOperation : PySem.W.kitOne K (.ref (He.ga K "NotLost")) (.ref (He.ga K "BadOperation")) = some false
  kit_NotLost_BadSize : PySem.W.kitOne K (.ref (He.ga K "NotLost")) (.ref (He.ga K "BadSize")) = some false
  kit_NotLost_Illegal : PySem.W.kitOne K (.ref (He.ga K "NotLost")) (.ref (He.ga K "Illegal")) = some false
  kit_NotLost_LinkError : PySem.W.kitOne K (.ref (He.ga K "NotLost")) (.ref (He.ga K "LinkError")) = some true
  exm_NotLost_LinkError : PySem.W.exmOne K (.ref (He.ga K "NotLost")) (.ref (He.ga K "LinkError")) = some true
  kit_NotLost_LogError : PySem.W.kitOne K (.ref (He.ga K "NotLost")) (.ref (He.ga K "LogError")) = some false
  kit_NotLost_NotLost : PySem.W.kitOne K (.ref (He.ga K "NotLost")) (.ref (He.ga K "NotLost")) = some true
  kit_NotLost_ValueError : PySem.W.kitOne K (.ref (He.ga K "NotLost")) (.type "ValueError") = some true
theorem txt_of {K : PySem.W.Frag} {h : Heap} {mg : Str → Option Value} (X : K.In h) (G : h.Ns mainGlobals mg) (c : SaysY chkL fnL K) : Txt K mg where
  g_LinkError := He.glo_ok X G (c.fact 0 (f := fa_ (.glo "LinkError")) rfl)
  g_LogError := He.glo_ok X G (c.fact 1 (f := fa_ (.glo "LogError")) rfl)
  g_BadOperation := He.glo_ok X G (c.fact 2 (f := fa_ (.glo "BadOperation")) rfl)
  g_Illegal := He.glo_ok X G (c.fact 3 (f := fa_ (.glo "Illegal")) rfl)
  g_BadSize := He.glo_ok X G (c.fact 4 (f := fa_ (.glo "BadSize")) rfl)
  g_BadNode := He.glo_ok X G (c.fact 5 (f := fa_ (.glo "BadNode")) rfl)
  g_BadGap := He.glo_ok X G (c.fact 6 (f := fa_ (.glo "BadGap")) rfl)
  g_BadDump := He.glo_ok X G (c.fact 7 (f := fa_ (.glo "BadDump")) rfl)
  g_NotLost := He.glo_ok X G (c.fact 8 (f := fa_ (.glo "NotLost")) rfl)
  g_Links := He.glo_ok X G (c.fact 9 (f := fa_ (.glo "Links")) rfl)
  gf__law_bag := He.glo_ok X G (c.fact 10 (f := fa_ (.glo "_law_bag")) rfl)
  gf__law_number := He.glo_ok X G (c.fact 11 (f := fa_ (.glo "_law_number")) rfl)
  gf__law_fits := He.glo_ok X G (c.fact 12 (f := fa_ (.glo "_law_fits")) rfl)
  gf__law_is_triple := He.glo_ok X G (c.fact 13 (f := fa_ (.glo "_law_is_triple")) rfl)
  gf__law_state := He.glo_ok X G (c.fact 14 (f := fa_ (.glo "_law_state")) rfl)
  gf__law_step := He.glo_ok X G (c.fact 15 (f := fa_ (.glo "_law_step")) rfl)
  gf__law_whole := He.glo_ok X G (c.fact 16 (f := fa_ (.glo "_law_whole")) rfl)
  gf__law_losses := He.glo_ok X G (c.fact 17 (f := fa_ (.glo "_law_losses")) rfl)
  gf_check_size := He.glo_ok X G (c.fact 18 (f := fa_ (.glo "check_size")) rfl)
  gf_check_operation := He.glo_ok X G (c.fact 19 (f := fa_ (.glo "check_operation")) rfl)
  gf_check_gap := He.glo_ok X G (c.fact 20 (f := fa_ (.glo "check_gap")) rfl)
  gf_gap_state := He.glo_ok X G (c.fact 21 (f := fa_ (.glo "gap_state")) rfl)
  gf_gap_states := He.glo_ok X G (c.fact 22 (f := fa_ (.glo "gap_states")) rfl)
  gf__certificates := He.glo_ok X G (c.fact 23 (f := fa_ (.glo "_certificates")) rfl)
  gf_is_plain_integer := He.glo_ok X G (c.fact 24 (f := fa_ (.glo "is_plain_integer")) rfl)
  gf_is_loss_certificate := He.glo_ok X G (c.fact 25 (f := fa_ (.glo "is_loss_certificate")) rfl)
  gf_loss_certificate := He.glo_ok X G (c.fact 26 (f := fa_ (.glo "loss_certificate")) rfl)
  gf__law_told := He.glo_ok X G (c.fact 27 (f := fa_ (.glo "_law_told")) rfl)
  gf__law_certified := He.glo_ok X G (c.fact 28 (f := fa_ (.glo "_law_certified")) rfl)
  gf__law_draw := He.glo_ok X G (c.fact 29 (f := fa_ (.glo "_law_draw")) rfl)
  gf__law_lanes := He.glo_ok X G (c.fact 30 (f := fa_ (.glo "_law_lanes")) rfl)
  gf__law_nodes := He.glo_ok X G (c.fact 31 (f := fa_ (.glo "_law_nodes")) rfl)
  gf__law_operation := He.glo_ok X G (c.fact 32 (f := fa_ (.glo "_law_operation")) rfl)
  gf__law_log := He.glo_ok X G (c.fact 33 (f := fa_ (.glo "_law_log")) rfl)
  gf__law_both_refuse := He.glo_ok X G (c.fact 34 (f := fa_ (.glo "_law_both_refuse")) rfl)
  gf__law_refusals := He.glo_ok X G (c.fact 35 (f := fa_ (.glo "_law_refusals")) rfl)
  gf__law_size := He.glo_ok X G (c.fact 36 (f := fa_ (.glo "_law_size")) rfl)
  gf__law_judged := He.glo_ok X G (c.fact 37 (f := fa_ (.glo "_law_judged")) rfl)
  gf__law_pairs := He.glo_ok X G (c.fact 38 (f := fa_ (.glo "_law_pairs")) rfl)
  gf__law_truth := He.glo_ok X G (c.fact 39 (f := fa_ (.glo "_law_truth")) rfl)
  gf__law_values := He.glo_ok X G (c.fact 40 (f := fa_ (.glo "_law_values")) rfl)
  gf__law_values_fit := He.glo_ok X G (c.fact 41 (f := fa_ (.glo "_law_values_fit")) rfl)
  gf_law := He.glo_ok X G (c.fact 42 (f := fa_ (.glo "law")) rfl)
  b_ValueError := He.free_ok X G (c.fact 43 (f := fa_ (.free "ValueError")) rfl)
  b_abs := He.free_ok X G (c.fact 44 (f := fa_ (.free "abs")) rfl)
  b_all := He.free_ok X G (c.fact 45 (f := fa_ (.free "all")) rfl)
  b_bool := He.free_ok X G (c.fact 46 (f := fa_ (.free "bool")) rfl)
  b_enumerate := He.free_ok X G (c.fact 47 (f := fa_ (.free "enumerate")) rfl)
  b_int := He.free_ok X G (c.fact 48 (f := fa_ (.free "int")) rfl)
  b_isinstance := He.free_ok X G (c.fact 49 (f := fa_ (.free "isinstance")) rfl)
  b_len := He.free_ok X G (c.fact 50 (f := fa_ (.free "len")) rfl)
  b_list := He.free_ok X G (c.fact 51 (f := fa_ (.free "list")) rfl)
  b_range := He.free_ok X G (c.fact 52 (f := fa_ (.free "range")) rfl)
  b_str := He.free_ok X G (c.fact 53 (f := fa_ (.free "str")) rfl)
  b_tuple := He.free_ok X G (c.fact 54 (f := fa_ (.free "tuple")) rfl)
  k_DIGITS := He.str_ok X G (c.fact 55 (f := fa_ (.str "DIGITS" "0123456789")) rfl)
  k_MOST_DIGITS := He.int_ok X G (c.fact 56 (f := fa_ (.int "MOST_DIGITS" 9)) rfl)
  cc_Links_MOST := ccB_ok (c.fact 57 (f := ccB "Links" "MOST" 60) rfl)
  cl_Links := He.cls_ok (c.fact 58 (f := fa_ (.cls "Links")) rfl)
  ty_Links := tyB_ok (c.fact 59 (f := tyB "Links") rfl)
  na_Links__lefts := He.noat_ok (c.fact 60 (f := fa_ (.noat "Links" "_lefts")) rfl)
  na_Links__out := He.noat_ok (c.fact 61 (f := fa_ (.noat "Links" "_out")) rfl)
  na_Links__rights := He.noat_ok (c.fact 62 (f := fa_ (.noat "Links" "_rights")) rfl)
  na_Links_size := He.noat_ok (c.fact 63 (f := fa_ (.noat "Links" "size")) rfl)
  mk_Links := He.mkr_ok (c.fact 64 (f := fa_ (.mkr "Links")) rfl)
  me_Links_is_legal := He.meth_ok (c.fact 65 (f := fa_ (.meth "Links" "is_legal")) rfl)
  me_Links_check := He.meth_ok (c.fact 66 (f := fa_ (.meth "Links" "check")) rfl)
  me_Links_apply_at := He.meth_ok (c.fact 67 (f := fa_ (.meth "Links" "apply_at")) rfl)
  me_Links_left := He.meth_ok (c.fact 68 (f := fa_ (.meth "Links" "left")) rfl)
  me_Links_right := He.meth_ok (c.fact 69 (f := fa_ (.meth "Links" "right")) rfl)
  ex_BadDump := askB_ok (c.fact 70 (f := askB "BadDump") rfl)
  ex_BadGap := askB_ok (c.fact 71 (f := askB "BadGap") rfl)
  ex_BadNode := askB_ok (c.fact 72 (f := askB "BadNode") rfl)
  ex_BadOperation := askB_ok (c.fact 73 (f := askB "BadOperation") rfl)
  ex_BadSize := askB_ok (c.fact 74 (f := askB "BadSize") rfl)
  ex_Illegal := askB_ok (c.fact 75 (f := askB "Illegal") rfl)
  ex_LinkError := askB_ok (c.fact 76 (f := askB "LinkError") rfl)
  ex_LogError := askB_ok (c.fact 77 (f := askB "LogError") rfl)
  ex_NotLost := askB_ok (c.fact 78 (f := askB "NotLost") rfl)
  oe_BadGap := excB_ok (c.fact 79 (f := excB "BadGap" ["gap"]) rfl)
  in_BadGap := iniB_ok (c.fact 80 (f := iniB "BadGap") rfl)
  kit_BadGap_BadDump := of_decide_eq_true (c.fact 81 (f := kitB2 "BadGap" "BadDump" false) rfl)
  kit_BadGap_BadGap := of_decide_eq_true (c.fact 82 (f := kitB2 "BadGap" "BadGap" true) rfl)
  kit_BadGap_BadNode := of_decide_eq_true (c.fact 83 (f := kitB2 "BadGap" "BadNode" false) rfl)
  kit_BadGap_BadOperation := of_decide_eq_true (c.fact 84 (f := kitB2 "BadGap" "BadOperation" false) rfl)
  kit_BadGap_BadSize := of_decide_eq_true (c.fact 85 (f := kitB2 "BadGap" "BadSize" false) rfl)
  kit_BadGap_Illegal := of_decide_eq_true (c.fact 86 (f := kitB2 "BadGap" "Illegal" false) rfl)
  kit_BadGap_LinkError := of_decide_eq_true (c.fact 87 (f := kitB2 "BadGap" "LinkError" true) rfl)
  exm_BadGap_LinkError := of_decide_eq_true (c.fact 88 (f := exmB "BadGap" "LinkError" true) rfl)
  kit_BadGap_LogError := of_decide_eq_true (c.fact 89 (f := kitB2 "BadGap" "LogError" false) rfl)
  kit_BadGap_NotLost := of_decide_eq_true (c.fact 90 (f := kitB2 "BadGap" "NotLost" false) rfl)
  kit_BadGap_ValueError := of_decide_eq_true (c.fact 91 (f := kitT2 "BadGap" "ValueError" true) rfl)
  oe_BadNode := excB_ok (c.fact 92 (f := excB "BadNode" ["node"]) rfl)
  in_BadNode := iniB_ok (c.fact 93 (f := iniB "BadNode") rfl)
  kit_BadNode_BadDump := of_decide_eq_true (c.fact 94 (f := kitB2 "BadNode" "BadDump" false) rfl)
  kit_BadNode_BadGap := of_decide_eq_true (c.fact 95 (f := kitB2 "BadNode" "BadGap" false) rfl)
  kit_BadNode_BadNode := of_decide_eq_true (c.fact 96 (f := kitB2 "BadNode" "BadNode" true) rfl)
  kit_BadNode_BadOperation := of_decide_eq_true (c.fact 97 (f := kitB2 "BadNode" "BadOperation" false) rfl)
  kit_BadNode_BadSize := of_decide_eq_true (c.fact 98 (f := kitB2 "BadNode" "BadSize" false) rfl)
  kit_BadNode_Illegal := of_decide_eq_true (c.fact 99 (f := kitB2 "BadNode" "Illegal" false) rfl)
  kit_BadNode_LinkError := of_decide_eq_true (c.fact 100 (f := kitB2 "BadNode" "LinkError" true) rfl)
  exm_BadNode_LinkError := of_decide_eq_true (c.fact 101 (f := exmB "BadNode" "LinkError" true) rfl)
  kit_BadNode_LogError := of_decide_eq_true (c.fact 102 (f := kitB2 "BadNode" "LogError" false) rfl)
  kit_BadNode_NotLost := of_decide_eq_true (c.fact 103 (f := kitB2 "BadNode" "NotLost" false) rfl)
  kit_BadNode_ValueError := of_decide_eq_true (c.fact 104 (f := kitT2 "BadNode" "ValueError" true) rfl)
  oe_BadOperation := excB_ok (c.fact 105 (f := excB "BadOperation" ["operation", "index"]) rfl)
  in_BadOperation := iniB_ok (c.fact 106 (f := iniB "BadOperation") rfl)
  sm_BadOperation := of_decide_eq_true (c.fact 107 (f := (fun K => decide (He.ma K (He.ga K "BadOperation") "__init__" = He.ma K (He.ga K "LogError") "__init__"))) rfl)
  kit_BadOperation_BadDump := of_decide_eq_true (c.fact 108 (f := kitB2 "BadOperation" "BadDump" false) rfl)
  kit_BadOperation_BadGap := of_decide_eq_true (c.fact 109 (f := kitB2 "BadOperation" "BadGap" false) rfl)
  kit_BadOperation_BadNode := of_decide_eq_true (c.fact 110 (f := kitB2 "BadOperation" "BadNode" false) rfl)
  kit_BadOperation_BadOperation := of_decide_eq_true (c.fact 111 (f := kitB2 "BadOperation" "BadOperation" true) rfl)
  kit_BadOperation_BadSize := of_decide_eq_true (c.fact 112 (f := kitB2 "BadOperation" "BadSize" false) rfl)
  kit_BadOperation_Illegal := of_decide_eq_true (c.fact 113 (f := kitB2 "BadOperation" "Illegal" false) rfl)
  kit_BadOperation_LinkError := of_decide_eq_true (c.fact 114 (f := kitB2 "BadOperation" "LinkError" true) rfl)
  exm_BadOperation_LinkError := of_decide_eq_true (c.fact 115 (f := exmB "BadOperation" "LinkError" true) rfl)
  kit_BadOperation_LogError := of_decide_eq_true (c.fact 116 (f := kitB2 "BadOperation" "LogError" true) rfl)
  kit_BadOperation_NotLost := of_decide_eq_true (c.fact 117 (f := kitB2 "BadOperation" "NotLost" false) rfl)
  kit_BadOperation_ValueError := of_decide_eq_true (c.fact 118 (f := kitT2 "BadOperation" "ValueError" true) rfl)
  oe_BadSize := excB_ok (c.fact 119 (f := excB "BadSize" ["size"]) rfl)
  in_BadSize := iniB_ok (c.fact 120 (f := iniB "BadSize") rfl)
  kit_BadSize_BadDump := of_decide_eq_true (c.fact 121 (f := kitB2 "BadSize" "BadDump" false) rfl)
  kit_BadSize_BadGap := of_decide_eq_true (c.fact 122 (f := kitB2 "BadSize" "BadGap" false) rfl)
  kit_BadSize_BadNode := of_decide_eq_true (c.fact 123 (f := kitB2 "BadSize" "BadNode" false) rfl)
  kit_BadSize_BadOperation := of_decide_eq_true (c.fact 124 (f := kitB2 "BadSize" "BadOperation" false) rfl)
  kit_BadSize_BadSize := of_decide_eq_true (c.fact 125 (f := kitB2 "BadSize" "BadSize" true) rfl)
  kit_BadSize_Illegal := of_decide_eq_true (c.fact 126 (f := kitB2 "BadSize" "Illegal" false) rfl)
  kit_BadSize_LinkError := of_decide_eq_true (c.fact 127 (f := kitB2 "BadSize" "LinkError" true) rfl)
  exm_BadSize_LinkError := of_decide_eq_true (c.fact 128 (f := exmB "BadSize" "LinkError" true) rfl)
  kit_BadSize_LogError := of_decide_eq_true (c.fact 129 (f := kitB2 "BadSize" "LogError" false) rfl)
  kit_BadSize_NotLost := of_decide_eq_true (c.fact 130 (f := kitB2 "BadSize" "NotLost" false) rfl)
  kit_BadSize_ValueError := of_decide_eq_true (c.fact 131 (f := kitT2 "BadSize" "ValueError" true) rfl)
  oe_Illegal := excB_ok (c.fact 132 (f := excB "Illegal" ["operation", "index"]) rfl)
  in_Illegal := iniB_ok (c.fact 133 (f := iniB "Illegal") rfl)
  sm_Illegal := of_decide_eq_true (c.fact 134 (f := (fun K => decide (He.ma K (He.ga K "Illegal") "__init__" = He.ma K (He.ga K "LogError") "__init__"))) rfl)
  kit_Illegal_BadDump := of_decide_eq_true (c.fact 135 (f := kitB2 "Illegal" "BadDump" false) rfl)
  kit_Illegal_BadGap := of_decide_eq_true (c.fact 136 (f := kitB2 "Illegal" "BadGap" false) rfl)
  kit_Illegal_BadNode := of_decide_eq_true (c.fact 137 (f := kitB2 "Illegal" "BadNode" false) rfl)
  kit_Illegal_BadOperation := of_decide_eq_true (c.fact 138 (f := kitB2 "Illegal" "BadOperation" false) rfl)
  kit_Illegal_BadSize := of_decide_eq_true (c.fact 139 (f := kitB2 "Illegal" "BadSize" false) rfl)
  kit_Illegal_Illegal := of_decide_eq_true (c.fact 140 (f := kitB2 "Illegal" "Illegal" true) rfl)
  kit_Illegal_LinkError := of_decide_eq_true (c.fact 141 (f := kitB2 "Illegal" "LinkError" true) rfl)
  exm_Illegal_LinkError := of_decide_eq_true (c.fact 142 (f := exmB "Illegal" "LinkError" true) rfl)
  kit_Illegal_LogError := of_decide_eq_true (c.fact 143 (f := kitB2 "Illegal" "LogError" true) rfl)
  kit_Illegal_NotLost := of_decide_eq_true (c.fact 144 (f := kitB2 "Illegal" "NotLost" false) rfl)
  kit_Illegal_ValueError := of_decide_eq_true (c.fact 145 (f := kitT2 "Illegal" "ValueError" true) rfl)
  oe_NotLost := excB_ok (c.fact 146 (f := excB "NotLost" ["size"]) rfl)
  in_NotLost := iniB_ok (c.fact 147 (f := iniB "NotLost") rfl)
  kit_NotLost_BadDump := of_decide_eq_true (c.fact 148 (f := kitB2 "NotLost" "BadDump" false) rfl)
  kit_NotLost_BadGap := of_decide_eq_true (c.fact 149 (f := kitB2 "NotLost" "BadGap" false) rfl)
  kit_NotLost_BadNode := of_decide_eq_true (c.fact 150 (f := kitB2 "NotLost" "BadNode" false) rfl)
  kit_NotLost_BadOperation := of_decide_eq_true (c.fact 151 (f := kitB2 "NotLost" "BadOperation" false) rfl)
  kit_NotLost_BadSize := of_decide_eq_true (c.fact 152 (f := kitB2 "NotLost" "BadSize" false) rfl)
  kit_NotLost_Illegal := of_decide_eq_true (c.fact 153 (f := kitB2 "NotLost" "Illegal" false) rfl)
  kit_NotLost_LinkError := of_decide_eq_true (c.fact 154 (f := kitB2 "NotLost" "LinkError" true) rfl)
  exm_NotLost_LinkError := of_decide_eq_true (c.fact 155 (f := exmB "NotLost" "LinkError" true) rfl)
  kit_NotLost_LogError := of_decide_eq_true (c.fact 156 (f := kitB2 "NotLost" "LogError" false) rfl)
  kit_NotLost_NotLost := of_decide_eq_true (c.fact 157 (f := kitB2 "NotLost" "NotLost" true) rfl)
  kit_NotLost_ValueError := of_decide_eq_true (c.fact 158 (f := kitT2 "NotLost" "ValueError" true) rfl)
end G

set_option Elab.async false
set_option linter.all false
set_option maxRecDepth 100000
set_option maxHeartbeats 4000000

namespace G
open PySem PySem.Spec PyProof.Rows L2
def t__law_bag (K : PySem.W.Frag) (E : XK) : TS :=
  tRet (tLst (tCons (tSl (rSlL K) (tVar 0) (tNoPart) (tPart (tC (.int 63)))) (tCons (tC (.int 0)) (tCons (tC (.int 0)) (tCons (tC (.int 1)) (tCons (tC (.int 0)) (tNil)))))))
def t__law_number (K : PySem.W.Frag) (E : XK) : TS :=
  tRet (tAndV (tCB (rIsi K) (tCons (tVar 0) (tCons (tC (.ty "int")) (tNil)))) (tNotV (tCB (rIsi K) (tCons (tVar 0) (tCons (tC (.ty "bool")) (tNil))))))
def t__law_fits (K : PySem.W.Frag) (E : XK) : TS :=
  tSeq (tIfS (tOr (tTest (tOp (rNeA K) (tOp (rIx K) (tVar 0) (tC (.int 0))) (tVar 1))) (tOr (tNot (tB (tCl (sp__law_number K) (fun _ => E) (tCons (tOp (rIx K) (tVar 0) (tC (.int 1))) (tNil))))) (tNot (tB (tCl (sp__law_number K) (fun _ => E) (tCons (tOp (rIx K) (tVar 0) (tC (.int 2))) (tNil))))))) (tRet (tC (.bl false))) (tNext)) (tRet (tAndV (tOp (rEqA K) (tOp (rIx K) (tVar 0) (tC (.int 1))) (tVar 2)) (tOp (rEqA K) (tOp (rIx K) (tVar 0) (tC (.int 2))) (tVar 3))))
def t__law_is_triple (K : PySem.W.Frag) (E : XK) : TS :=
  tSeq (tIfS (tOr (tNot (tB (tCB (rIsi K) (tCons (tVar 0) (tCons (tC (.ty "tuple")) (tNil)))))) (tTest (tOp (rNeA K) (tCB (rLenA K) (tCons (tVar 0) (tNil))) (tC (.int 3))))) (tRet (tC (.bl false))) (tNext)) (tRet (tOp (rEqA K) (tLc (iTup K (tVar 0)) (gName 1) (tNot (tB (tCl (sp__law_number K) (fun _ => E0) (tCons (tVar 1) (tNil))))) (tVar 1) [1]) (tLst (tNil))))
def t__law_state (K : PySem.W.Frag) (E : XK) : TS :=
  tSeq (tAsg (tOp (rEqA K) (tOp (rIx K) (tOp (rIx K) (tVar 0) (tC (.int 2))) (tVar 1)) (tOp rAddA (tVar 1) (tC (.int 1)))) (gName 2)) (tSeq (tAsg (tOp (rEqA K) (tOp (rIx K) (tOp (rIx K) (tVar 0) (tC (.int 1))) (tOp rAddA (tVar 1) (tC (.int 1)))) (tVar 1)) (gName 3)) (tSeq (tIfS (tAnd (tB (tVar 2)) (tB (tVar 3))) (tRet (tC (.str "joined"))) (tNext)) (tSeq (tIfS (tB (tVar 2)) (tRet (tC (.str "left"))) (tNext)) (tSeq (tIfS (tB (tVar 3)) (tRet (tC (.str "right"))) (tNext)) (tRet (tC (.str "lost")))))))
def t__law_step (K : PySem.W.Frag) (E : XK) : TS :=
  tSeq (tAsg (tOp (rIx K) (tVar 0) (tC (.int 1))) (gName 2)) (tSeq (tAsg (tOp (rIx K) (tVar 0) (tC (.int 2))) (gName 3)) (tSeq (tAsg (tOp (rIx K) (tVar 0) (tC (.int 3))) (gName 4)) (tSeq (tAsg (tOp (rIx K) (tVar 2) (tVar 1)) (gName 5)) (tSeq (tAsg (tOp (rIx K) (tVar 3) (tVar 1)) (gName 6)) (tSeq (tIfS (tB (tOp (rIx K) (tVar 4) (tVar 1))) (tSeq (tAsg (tVar 1) (gSub (tVar 3) (tVar 5) rSetL)) (tAsg (tVar 1) (gSub (tVar 2) (tVar 6) rSetL))) (tSeq (tAsg (tVar 6) (gSub (tVar 3) (tVar 5) rSetL)) (tAsg (tVar 5) (gSub (tVar 2) (tVar 6) rSetL)))) (tAsg (tNotV (tOp (rIx K) (tVar 4) (tVar 1))) (gSub (tVar 4) (tVar 1) rSetL)))))))
def t__law_whole (K : PySem.W.Frag) (E : XK) : TS :=
  tRet (tLst (tCons (tVar 0) (tCons (tLc (iRng1 (tCons (tOp rAddA (tVar 0) (tC (.int 2))) (tNil))) (gName 1) (tYes) (tOp rSubA (tVar 1) (tC (.int 1))) [1]) (tCons (tLc (iRng1 (tCons (tOp rAddA (tVar 0) (tC (.int 2))) (tNil))) (gName 1) (tYes) (tOp rAddA (tVar 1) (tC (.int 1))) [1]) (tCons (tLc (iRng1 (tCons (tOp rAddA (tVar 0) (tC (.int 2))) (tNil))) (gName 1) (tYes) (tC (.bl false)) [1]) (tNil))))))
def t__law_losses (K : PySem.W.Frag) (E : XK) : TS :=
  tSeq (tAsg (tCl (sp21__law_whole K) (fun _ => E) (tCons (tVar 0) (tNil))) (gName 2)) (tSeq (tAsg (tLc (iRng1 (tCons (tOp rAddA (tVar 0) (tC (.int 1))) (tNil))) (gName 6) (tYes) (tLst (tNil)) [6]) (gName 3)) (tSeq (tAsg (tLc (iRng1 (tCons (tOp rAddA (tVar 0) (tC (.int 1))) (tNil))) (gName 6) (tYes) (tC (.str "joined")) [6]) (gName 4)) (tSeq (tFor (iRng1 (tCons (tCB (rLenA K) (tCons (tVar 1) (tNil))) (tNil))) (gName 5) (tSeq (tDrop (tCl (sp21__law_step K) (fun _ => E) (tCons (tVar 2) (tCons (tCB rAbsA (tCons (tOp (rIx K) (tVar 1) (tVar 5)) (tNil))) (tNil))))) (tFor (iRng1 (tCons (tOp rAddA (tVar 0) (tC (.int 1))) (tNil))) (gName 6) (tSeq (tAsg (tCl (sp21__law_state K) (fun _ => E) (tCons (tVar 2) (tCons (tVar 6) (tNil)))) (gName 7)) (tIfS (tTest (tOp (rNeA K) (tVar 7) (tOp (rIx K) (tVar 4) (tVar 6)))) (tSeq (tAsg (tOp (rIx K) (tVar 3) (tVar 6)) (gName 8)) (tSeq (tDrop (tBM K "list" rAppend (tVar 8) (tCons (tVar 5) (tNil)))) (tAsg (tVar 7) (gSub (tVar 4) (tVar 6) rSetL)))) (tNext)))))) (tRet (tLc (iRng1 (tCons (tOp rAddA (tVar 0) (tC (.int 1))) (tNil))) (gName 6) (tTest (tOp (rEqA K) (tOp (rIx K) (tVar 4) (tVar 6)) (tC (.str "lost")))) (tTup (tCons (tVar 6) (tCons (tOp (rIx K) (tOp (rIx K) (tVar 3) (tVar 6)) (tUn rNegA (tC (.int 2)))) (tCons (tOp (rIx K) (tOp (rIx K) (tVar 3) (tVar 6)) (tUn rNegA (tC (.int 1)))) (tNil))))) [6])))))
def t_check_size (K : PySem.W.Frag) (E : XK) : TS :=
  tIfS (tNot (tTest (tChain rLeA rLeA (tC (.int 0)) (tVar 0) (tC (.int 60))))) (tRz (He.ga K "BadSize") ["size"] (fun cls d _ H => E cls d H) (tCons (tVar 0) (tNil))) (tNext)
def t_Links___init__ (K : PySem.W.Frag) (E : XK) : TS :=
  tSeq (tDrop (tCl (sp_check_size K) (fun _ => E) (tCons (tVar 1) (tNil)))) (tSeq (sFld K (tVar 0) (tVar 1) "size") (tSeq (sFld K (tVar 0) (tLstRg (tRg2 (tC (.int 1)) (tOp rAddA (tVar 1) (tC (.int 2))))) "_rights") (tSeq (sFld K (tVar 0) (tOp rAddA (tLst (tCons (tC (.int 0)) (tNil))) (tLstRg (tRg1 (tOp rAddA (tVar 1) (tC (.int 1)))))) "_lefts") (sFld K (tVar 0) (tOp rMulA (tLst (tCons (tC (.bl false)) (tNil))) (tOp rAddA (tVar 1) (tC (.int 2)))) "_out"))))
def t_Links_is_legal (K : PySem.W.Frag) (E : XK) : TS :=
  tRet (tOp (rEqA K) (tOp (rIx K) (tFld K (tVar 0) "_out") (tCB rAbsA (tCons (tVar 1) (tNil)))) (tOp rGtA (tVar 1) (tC (.int 0))))
def t_check_operation (K : PySem.W.Frag) (E : XK) : TS :=
  tIfS (tNot (tTest (tChain rLeA rLeA (tC (.int 1)) (tCB rAbsA (tCons (tVar 1) (tNil))) (tVar 0)))) (tRz (He.ga K "BadOperation") ["operation", "index"] (fun cls d _ H => E cls d H) (tCons (tVar 1) (tCons (tVar 2) (tNil)))) (tNext)
def t_Links_check (K : PySem.W.Frag) (E : XK) : TS :=
  tSeq (tDrop (tCl (sp_check_operation K) (fun _ => E) (tCons (tFld K (tVar 0) "size") (tCons (tVar 1) (tCons (tVar 2) (tNil)))))) (tIfS (tNot (tB (tMt (He.ga K "Links") "is_legal" (sp_Links_is_legal K) (fun _ => E) (tVar 0) (tCons (tVar 1) (tNil))))) (tRz (He.ga K "Illegal") ["operation", "index"] (fun cls d _ H => E cls d H) (tCons (tVar 1) (tCons (tVar 2) (tNil)))) (tNext))
def t_Links_apply_at (K : PySem.W.Frag) (E : XK) : TS :=
  tSeq (tDrop (tMt (He.ga K "Links") "check" (sp_Links_check K) (fun _ => E) (tVar 0) (tCons (tVar 1) (tCons (tVar 2) (tNil))))) (tSeq (tAsg (tCB rAbsA (tCons (tVar 1) (tNil))) (gName 3)) (tSeq (tAsg (tOp (rIx K) (tFld K (tVar 0) "_lefts") (tVar 3)) (gName 4)) (tSeq (tAsg (tOp (rIx K) (tFld K (tVar 0) "_rights") (tVar 3)) (gName 5)) (tSeq (tAsg (tOp rLtA (tVar 1) (tC (.int 0))) (gName 6)) (tSeq (tAsg (tIf (tB (tVar 6)) (tVar 5) (tVar 3)) (gSub (tFld K (tVar 0) "_rights") (tVar 4) rSetL)) (tSeq (tAsg (tIf (tB (tVar 6)) (tVar 4) (tVar 3)) (gSub (tFld K (tVar 0) "_lefts") (tVar 5) rSetL)) (tAsg (tVar 6) (gSub (tFld K (tVar 0) "_out") (tVar 3) rSetL))))))))
def t_Links_left (K : PySem.W.Frag) (E : XK) : TS :=
  tSeq (tIfS (tNot (tTest (tChain rLeA rLeA (tC (.int 1)) (tVar 1) (tOp rAddA (tFld K (tVar 0) "size") (tC (.int 1)))))) (tRz (He.ga K "BadNode") ["node"] (fun cls d _ H => E cls d H) (tCons (tVar 1) (tNil))) (tNext)) (tRet (tOp (rIx K) (tFld K (tVar 0) "_lefts") (tVar 1)))
def t_Links_right (K : PySem.W.Frag) (E : XK) : TS :=
  tSeq (tIfS (tNot (tTest (tChain rLeA rLeA (tC (.int 0)) (tVar 1) (tFld K (tVar 0) "size")))) (tRz (He.ga K "BadNode") ["node"] (fun cls d _ H => E cls d H) (tCons (tVar 1) (tNil))) (tNext)) (tRet (tOp (rIx K) (tFld K (tVar 0) "_rights") (tVar 1)))
def t_check_gap (K : PySem.W.Frag) (E : XK) : TS :=
  tIfS (tNot (tTest (tChain rLeA rLeA (tC (.int 0)) (tVar 1) (tVar 0)))) (tRz (He.ga K "BadGap") ["gap"] (fun cls d _ H => E cls d H) (tCons (tVar 1) (tNil))) (tNext)
def t_gap_state (K : PySem.W.Frag) (E : XK) : TS :=
  tSeq (tDrop (tCl (sp_check_gap K) (fun _ => E) (tCons (tFld K (tVar 0) "size") (tCons (tVar 1) (tNil))))) (tSeq (tAsg (tOp (rEqA K) (tMt (He.ga K "Links") "right" (sp_Links_right K) (fun _ => E) (tVar 0) (tCons (tVar 1) (tNil))) (tOp rAddA (tVar 1) (tC (.int 1)))) (gName 2)) (tSeq (tAsg (tOp (rEqA K) (tMt (He.ga K "Links") "left" (sp_Links_left K) (fun _ => E) (tVar 0) (tCons (tOp rAddA (tVar 1) (tC (.int 1))) (tNil))) (tVar 1)) (gName 3)) (tSeq (tIfS (tB (tVar 2)) (tRet (tIf (tB (tVar 3)) (tC (.str "joined")) (tC (.str "left")))) (tNext)) (tRet (tIf (tB (tVar 3)) (tC (.str "right")) (tC (.str "lost")))))))
def t_gap_states (K : PySem.W.Frag) (E : XK) : TS :=
  tRet (tLc (iRng1 (tCons (tOp rAddA (tFld K (tVar 0) "size") (tC (.int 1))) (tNil))) (gName 1) (tYes) (tCl (sp_gap_state K) (fun _ => E0) (tCons (tVar 0) (tCons (tVar 1) (tNil)))) [1])
def t__certificates (K : PySem.W.Frag) (E : XK) : TS :=
  tSeq (tAsg (tMk (He.ga K "Links") (sp_Links___init__ K) (fun _ => E) (tCons (tVar 0) (tNil))) (gName 2)) (tSeq (tAsg (tCl (sp_gap_states K) (fun _ => E) (tCons (tVar 2) (tNil))) (gName 3)) (tSeq (tAsg (tLc (iList K (tVar 3)) (gName 10) (tYes) (tLst (tNil)) [10]) (gName 4)) (tSeq (tFor (iEnum K (tCons (tVar 1) (tNil))) (gTup K 2 (gCons (gName 5) (gCons (gName 6) (gNil)))) (tSeq (tDrop (tMt (He.ga K "Links") "apply_at" (sp_Links_apply_at K) (fun _ => E) (tVar 2) (tCons (tVar 6) (tCons (tVar 5) (tNil))))) (tSeq (tAsg (tVar 3) (gName 7)) (tSeq (tAsg (tCl (sp_gap_states K) (fun _ => E) (tCons (tVar 2) (tNil))) (gName 3)) (tFor (iEnum K (tCons (tVar 3) (tNil))) (gTup K 2 (gCons (gName 8) (gCons (gName 9) (gNil)))) (tIfS (tTest (tOp (rNeA K) (tVar 9) (tOp (rIx K) (tVar 7) (tVar 8)))) (tDrop (tBM K "list" rAppend (tOp (rIx K) (tVar 4) (tVar 8)) (tCons (tVar 5) (tNil)))) (tNext))))))) (tRet (tLc (iEnum K (tCons (tVar 3) (tNil))) (gTup K 2 (gCons (gName 8) (gCons (gName 9) (gNil)))) (tTest (tOp (rEqA K) (tVar 9) (tC (.str "lost")))) (tTup (tCons (tVar 8) (tCons (tOp (rIx K) (tOp (rIx K) (tVar 4) (tVar 8)) (tUn rNegA (tC (.int 2)))) (tCons (tOp (rIx K) (tOp (rIx K) (tVar 4) (tVar 8)) (tUn rNegA (tC (.int 1)))) (tNil))))) [8, 9])))))
def t_is_plain_integer (K : PySem.W.Frag) (E : XK) : TS :=
  tRet (tAndV (tCB (rIsi K) (tCons (tVar 0) (tCons (tC (.ty "int")) (tNil)))) (tNotV (tCB (rIsi K) (tCons (tVar 0) (tCons (tC (.ty "bool")) (tNil))))))
def t_is_loss_certificate (K : PySem.W.Frag) (E : XK) : TS :=
  tSeq (tAsg (tCl (sp__certificates K) (fun _ => E) (tCons (tVar 0) (tCons (tVar 1) (tNil)))) (gName 3)) (tSeq (tIfS (tOr (tNot (tB (tCB (rIsi K) (tCons (tVar 2) (tCons (tC (.ty "tuple")) (tNil)))))) (tTest (tOp (rNeA K) (tCB (rLenA K) (tCons (tVar 2) (tNil))) (tC (.int 3))))) (tRet (tC (.bl false))) (tNext)) (tRet (tAndV (tCB (rAll K) (tCons (tLc (iTup K (tVar 2)) (gName 4) (tYes) (tCl (sp_is_plain_integer K) (fun _ => E0) (tCons (tVar 4) (tNil))) [4]) (tNil))) (tOp (rInD K) (tVar 2) (tVar 3)))))
def t_loss_certificate (K : PySem.W.Frag) (E : XK) : TS :=
  tSeq (tAsg (tCl (sp__certificates K) (fun _ => E) (tCons (tVar 0) (tCons (tVar 1) (tNil)))) (gName 2)) (tSeq (tIfS (tNot (tTr K (tVar 2))) (tRz (He.ga K "NotLost") ["size"] (fun cls d _ H => E cls d H) (tCons (tVar 0) (tNil))) (tNext)) (tRet (tOp (rIx K) (tVar 2) (tC (.int 0)))))
def t__law_told (K : PySem.W.Frag) (E : XK) : TS :=
  tSeq ((fun D σ H => (fun (W : WX) => tIfS (tTest (tOp (rEqA K) (tVar 0) (tC (.str "made")))) (tAsg (tCl (sp_loss_certificate K) (WE W) (tCons (tVar 1) (tCons (tVar 2) (tNil)))) (gName 4)) (tAsg (tCl (sp_is_loss_certificate K) (WE W) (tCons (tVar 1) (tCons (tVar 2) (tCons (tVar 3) (tNil))))) (gName 4))) (wAs K (.ref (He.ga K "LinkError")) 5 (fun a cls d => tSeq (tIfS (tNot (tB (tCB (rIsX K cls d a) (tCons (tVar 5) (tCons (tC (.ty "ValueError")) (tNil)))))) (tRet (tTup (tCons (tC (.str "other")) (tCons (tC (.int 0)) (tCons (tC (.int 0)) (tNil)))))) (tNext)) (tSeq (tIfS (tB (tCB (rIsX K cls d a) (tCons (tVar 5) (tCons (tC (.ref (He.ga K "LogError"))) (tNil))))) (tSeq (tIfS (tAnd (tB (tCB (rIsX K cls d a) (tCons (tVar 5) (tCons (tC (.ref (He.ga K "BadOperation"))) (tNil))))) (tNot (tB (tCB (rIsX K cls d a) (tCons (tVar 5) (tCons (tC (.ref (He.ga K "Illegal"))) (tNil))))))) (tRet (tTup (tCons (tC (.str "operation")) (tCons (tXat K a cls d "operation" (tVar 5)) (tCons (tXat K a cls d "index" (tVar 5)) (tNil)))))) (tNext)) (tSeq (tIfS (tAnd (tB (tCB (rIsX K cls d a) (tCons (tVar 5) (tCons (tC (.ref (He.ga K "Illegal"))) (tNil))))) (tNot (tB (tCB (rIsX K cls d a) (tCons (tVar 5) (tCons (tC (.ref (He.ga K "BadOperation"))) (tNil))))))) (tRet (tTup (tCons (tC (.str "illegal")) (tCons (tXat K a cls d "operation" (tVar 5)) (tCons (tXat K a cls d "index" (tVar 5)) (tNil)))))) (tNext)) (tRet (tTup (tCons (tC (.str "other")) (tCons (tC (.int 0)) (tCons (tC (.int 0)) (tNil)))))))) (tNext)) (tSeq (tIfS (tB (tCB (rIsX K cls d a) (tCons (tVar 5) (tCons (tC (.ref (He.ga K "NotLost"))) (tNil))))) (tRet (tTup (tCons (tC (.str "none")) (tCons (tXat K a cls d "size" (tVar 5)) (tCons (tC (.int 0)) (tNil)))))) (tNext)) (tSeq (tIfS (tB (tCB (rIsX K cls d a) (tCons (tVar 5) (tCons (tC (.ref (He.ga K "BadSize"))) (tNil))))) (tRet (tTup (tCons (tC (.str "size")) (tCons (tXat K a cls d "size" (tVar 5)) (tCons (tC (.int 0)) (tNil)))))) (tNext)) (tRet (tTup (tCons (tC (.str "other")) (tCons (tC (.int 0)) (tCons (tC (.int 0)) (tNil)))))))))) (fun cls d _ H => E cls d H) D) D σ H)) (tRet (tTup (tCons (tC (.str "value")) (tCons (tVar 4) (tCons (tC (.int 0)) (tNil))))))
def t__law_certified (K : PySem.W.Frag) (E : XK) : TS :=
  tSeq (tAsg (tCl (sp__law_losses K) (fun _ => E) (tCons (tVar 0) (tCons (tVar 1) (tNil)))) (gName 2)) (tSeq (tAsg (tCB (rListA K) (tCons (tVar 1) (tNil))) (gName 3)) (tSeq (tAsg (tCl (sp21__law_told K) (fun _ => E) (tCons (tC (.str "made")) (tCons (tVar 0) (tCons (tVar 3) (tCons (tC .non) (tNil)))))) (gName 4)) (tSeq (tIfS (tTest (tOp (rNeA K) (tVar 3) (tVar 1))) (tRet (tC (.bl false))) (tNext)) (tSeq (tIfS (tTest (tOp (rEqA K) (tVar 2) (tLst (tNil)))) (tRet (tCl (sp21__law_fits K) (fun _ => E) (tCons (tVar 4) (tCons (tC (.str "none")) (tCons (tVar 0) (tCons (tC (.int 0)) (tNil))))))) (tNext)) (tRet (tAndV (tOp (rEqA K) (tOp (rIx K) (tVar 4) (tC (.int 0))) (tC (.str "value"))) (tAndV (tCl (sp__law_is_triple K) (fun _ => E) (tCons (tOp (rIx K) (tVar 4) (tC (.int 1))) (tNil))) (tOp (rEqA K) (tOp (rIx K) (tVar 4) (tC (.int 1))) (tOp (rIx K) (tVar 2) (tC (.int 0)))))))))))
def t__law_draw (K : PySem.W.Frag) (E : XK) : TS :=
  tSeq (tIfS (tNot (tTr K (tOp (rIx K) (tVar 0) (tC (.int 0))))) (tRet (tC (.int 0))) (tNext)) (tSeq (tAsg (tOp rAddA (tOp (rIx K) (tVar 0) (tC (.int 4))) (tC (.int 1))) (gSub (tVar 0) (tC (.int 4)) rSetL)) (tSeq (tIfS (tAnd (tTest (tOp rLeA (tOp (rIx K) (tVar 0) (tC (.int 2))) (tC (.int 0)))) (tTest (tOp rLtA (tOp (rIx K) (tVar 0) (tC (.int 1))) (tCB (rLenA K) (tCons (tOp (rIx K) (tVar 0) (tC (.int 0))) (tNil)))))) (tSeq (tAsg (tOp (rIx K) (tOp (rIx K) (tVar 0) (tC (.int 0))) (tOp (rIx K) (tVar 0) (tC (.int 1)))) (gName 2)) (tSeq (tAsg (tOp rAddA (tOp (rIx K) (tVar 0) (tC (.int 1))) (tC (.int 1))) (gSub (tVar 0) (tC (.int 1)) rSetL)) (tIfS (tTest (tOp rGeA (tVar 2) (tOp rPowA (tC (.int 10)) (tC (.int 18))))) (tAsg (tVar 2) (gSub (tVar 0) (tC (.int 2)) rSetL)) (tAsg (tOp rModA (tCB rIntA (tCons (tOp rAddA (tOp rAddA (tOp rMulA (tOp (rIx K) (tVar 0) (tC (.int 3))) (tC (.int 48271))) (tOp rMulA (tVar 2) (tC (.int 69621)))) (tC (.int 7))) (tNil))) (tC (.int 2147483647))) (gSub (tVar 0) (tC (.int 3)) rSetL))))) (tNext)) (tSeq (tIfS (tTest (tOp rGtA (tOp (rIx K) (tVar 0) (tC (.int 2))) (tC (.int 0)))) (tSeq (tAsg (tOp rModA (tCB rIntA (tCons (tOp (rIx K) (tVar 0) (tC (.int 2))) (tNil))) (tVar 1)) (gName 3)) (tSeq (tAsg (tOp rDivA (tCB rIntA (tCons (tOp (rIx K) (tVar 0) (tC (.int 2))) (tNil))) (tVar 1)) (gSub (tVar 0) (tC (.int 2)) rSetL)) (tRet (tVar 3)))) (tNext)) (tSeq (tAsg (tOp rModA (tCB rIntA (tCons (tOp rAddA (tOp rAddA (tOp rMulA (tOp (rIx K) (tVar 0) (tC (.int 3))) (tC (.int 16807))) (tOp rMulA (tOp (rIx K) (tVar 0) (tC (.int 4))) (tC (.int 10007)))) (tC (.int 12345))) (tNil))) (tC (.int 2147483647))) (gSub (tVar 0) (tC (.int 3)) rSetL)) (tSeq (tAsg (tOp rModA (tCB rIntA (tCons (tOp rAddA (tOp rMulA (tOp rDivA (tOp (rIx K) (tVar 0) (tC (.int 3))) (tC (.int 16))) (tC (.int 69621))) (tOp (rIx K) (tVar 0) (tC (.int 4)))) (tNil))) (tC (.int 2147483629))) (gName 4)) (tRet (tOp rModA (tCB rIntA (tCons (tOp rDivA (tVar 4) (tC (.int 32))) (tNil))) (tVar 1))))))))
def t__law_lanes (K : PySem.W.Frag) (E : XK) : TS :=
  tSeq (tAsg (tLst (tNil)) (gName 2)) (tSeq (tIfS (tOr (tTest (tOp rLtA (tVar 1) (tC (.int 4)))) (tTest (tOp (rEqA K) (tCl (sp21__law_draw K) (fun _ => E) (tCons (tVar 0) (tCons (tC (.int 8)) (tNil)))) (tC (.int 7))))) (tRet (tVar 2)) (tNext)) (tSeq (tAsg (tCl (sp21__law_draw K) (fun _ => E) (tCons (tVar 0) (tCons (tOp rSubA (tVar 1) (tC (.int 3))) (tNil)))) (gName 3)) (tSeq (tIfS (tTest (tOp (rEqA K) (tCl (sp21__law_draw K) (fun _ => E) (tCons (tVar 0) (tCons (tC (.int 2)) (tNil)))) (tC (.int 1)))) (tAsg (tOp rModA (tCB rIntA (tCons (tVar 3) (tNil))) (tC (.int 5))) (gName 3)) (tNext)) (tSeq (tFor (iRng1 (tCons (tC (.int 3)) (tNil))) (gName 4) (tSeq (tIfS (tAnd (tTest (tOp rLeA (tOp rAddA (tVar 3) (tC (.int 4))) (tVar 1))) (tOr (tTest (tOp (rEqA K) (tVar 4) (tC (.int 0)))) (tTest (tOp rGtA (tCl (sp21__law_draw K) (fun _ => E) (tCons (tVar 0) (tCons (tC (.int 4)) (tNil)))) (tC (.int 0)))))) (tSeq (tAsg (tOp (rIx K) (tLst (tCons (tLst (tCons (tC (.int 2)) (tCons (tC (.int 3)) (tCons (tC (.int 2)) (tCons (tC (.int 1)) (tCons (tC (.int 4)) (tNil))))))) (tCons (tLst (tCons (tC (.int 3)) (tCons (tC (.int 2)) (tCons (tC (.int 3)) (tCons (tC (.int 4)) (tCons (tC (.int 1)) (tNil))))))) (tNil)))) (tCl (sp21__law_draw K) (fun _ => E) (tCons (tVar 0) (tCons (tC (.int 2)) (tNil))))) (gName 5)) (tDrop (tBM K "list" rAppend (tVar 2) (tCons (tLc (iList K (tVar 5)) (gName 6) (tYes) (tOp rAddA (tVar 3) (tVar 6)) [6]) (tNil))))) (tNext)) (tAsg (tOp rAddA (tOp rAddA (tVar 3) (tC (.int 5))) (tCl (sp21__law_draw K) (fun _ => E) (tCons (tVar 0) (tCons (tC (.int 3)) (tNil))))) (gName 3)))) (tRet (tVar 2))))))
def t__law_nodes (K : PySem.W.Frag) (E : XK) : TS :=
  tSeq (tAsg (tLst (tNil)) (gName 2)) (tSeq (tFor (iRng1 (tCons (tCl (sp21__law_draw K) (fun _ => E) (tCons (tVar 0) (tCons (tC (.int 4)) (tNil)))) (tNil))) (gName 3) (tSeq (tAsg (tOp rAddA (tC (.int 1)) (tCl (sp21__law_draw K) (fun _ => E) (tCons (tVar 0) (tCons (tVar 1) (tNil))))) (gName 4)) (tDrop (tBM K "list" rExtend (tVar 2) (tCons (tLst (tCons (tVar 4) (tCons (tVar 4) (tNil)))) (tNil)))))) (tSeq (tAsg (tCl (sp21__law_lanes K) (fun _ => E) (tCons (tVar 0) (tCons (tVar 1) (tNil)))) (gName 5)) (tSeq (tAsg (tLst (tNil)) (gName 6)) (tSeq (tFor (iList K (tVar 5)) (gName 7) (tDrop (tBM K "list" rExtend (tVar 6) (tCons (tVar 7) (tNil))))) (tSeq (tAsg (tLc (iRng2 (tCons (tC (.int 1)) (tCons (tOp rAddA (tVar 1) (tC (.int 1))) (tNil)))) (gName 4) (tTest (tOp (rIn K true) (tVar 4) (tVar 6))) (tVar 4) [4]) (gName 8)) (tSeq (tAsg (tCl (sp21__law_draw K) (fun _ => E) (tCons (tVar 0) (tCons (tVar 1) (tNil)))) (gName 9)) (tSeq (tIfS (tOr (tTest (tOp (rEqA K) (tVar 8) (tLst (tNil)))) (tTest (tOp (rEqA K) (tCl (sp21__law_draw K) (fun _ => E) (tCons (tVar 0) (tCons (tC (.int 3)) (tNil)))) (tC (.int 0))))) (tAsg (tLc (iRng1 (tCons (tC (.int 4)) (tNil))) (gName 12) (tYes) (tOp rAddA (tC (.int 1)) (tOp rModA (tCB rIntA (tCons (tOp rAddA (tVar 9) (tVar 12)) (tNil))) (tVar 1))) [12]) (gName 8)) (tNext)) (tSeq (tAsg (tLc (iRng1 (tCons (tCl (sp21__law_draw K) (fun _ => E) (tCons (tVar 0) (tCons (tC (.int 10)) (tNil)))) (tNil))) (gName 3) (tYes) (tOp (rIx K) (tVar 8) (tCl (sp21__law_draw K) (fun _ => E0) (tCons (tVar 0) (tCons (tCB (rLenA K) (tCons (tVar 8) (tNil))) (tNil))))) [3]) (gName 10)) (tSeq (tIfS (tTest (tOp (rNeA K) (tVar 10) (tLst (tNil)))) (tDrop (tBM K "list" rAppend (tVar 5) (tCons (tVar 10) (tNil)))) (tNext)) (tSeq (tFor (iRng1 (tCons (tC (.int 30)) (tNil))) (gName 3) (tSeq (tAsg (tLc (iList K (tVar 5)) (gName 7) (tTest (tOp (rNeA K) (tVar 7) (tLst (tNil)))) (tVar 7) [7]) (gName 11)) (tIfS (tTest (tOp (rNeA K) (tVar 11) (tLst (tNil)))) (tSeq (tAsg (tOp (rIx K) (tVar 11) (tCl (sp21__law_draw K) (fun _ => E) (tCons (tVar 0) (tCons (tCB (rLenA K) (tCons (tVar 11) (tNil))) (tNil))))) (gName 7)) (tDrop (tBM K "list" rAppend (tVar 2) (tCons (tBM K "list" rPopAt (tVar 7) (tCons (tC (.int 0)) (tNil))) (tNil))))) (tNext)))) (tRet (tVar 2))))))))))))
def t__law_operation (K : PySem.W.Frag) (E : XK) : TS :=
  tSeq (tIfS (tB (tOp (rIx K) (tOp (rIx K) (tVar 0) (tC (.int 3))) (tVar 1))) (tRet (tVar 1)) (tNext)) (tRet (tUn rNegA (tVar 1)))
def t__law_log (K : PySem.W.Frag) (E : XK) : TS :=
  tSeq (tAsg (tCl (sp21__law_whole K) (fun _ => E) (tCons (tVar 1) (tNil))) (gName 2)) (tSeq (tAsg (tLst (tNil)) (gName 3)) (tSeq (tIfS (tTest (tOp (rEqA K) (tVar 1) (tC (.int 0)))) (tRet (tVar 3)) (tNext)) (tSeq (tFor (iList K (tCl (sp21__law_nodes K) (fun _ => E) (tCons (tVar 0) (tCons (tVar 1) (tNil))))) (gName 4) (tSeq (tDrop (tBM K "list" rAppend (tVar 3) (tCons (tCl (sp__law_operation K) (fun _ => E) (tCons (tVar 2) (tCons (tVar 4) (tNil)))) (tNil)))) (tDrop (tCl (sp21__law_step K) (fun _ => E) (tCons (tVar 2) (tCons (tVar 4) (tNil))))))) (tRet (tVar 3)))))
def t__law_both_refuse (K : PySem.W.Frag) (E : XK) : TS :=
  tSeq (tIfS (tNot (tB (tCl (sp21__law_fits K) (fun _ => E) (tCons (tCl (sp21__law_told K) (fun _ => E) (tCons (tC (.str "made")) (tCons (tVar 0) (tCons (tVar 1) (tCons (tC .non) (tNil)))))) (tCons (tVar 2) (tCons (tVar 3) (tCons (tVar 4) (tNil)))))))) (tRet (tC (.bl false))) (tNext)) (tSeq (tIfS (tNot (tB (tCl (sp21__law_fits K) (fun _ => E) (tCons (tCl (sp21__law_told K) (fun _ => E) (tCons (tC (.str "judged")) (tCons (tVar 0) (tCons (tVar 1) (tCons (tC .non) (tNil)))))) (tCons (tVar 2) (tCons (tVar 3) (tCons (tVar 4) (tNil)))))))) (tRet (tC (.bl false))) (tNext)) (tRet (tCl (sp21__law_fits K) (fun _ => E) (tCons (tCl (sp21__law_told K) (fun _ => E) (tCons (tC (.str "judged")) (tCons (tVar 0) (tCons (tVar 1) (tCons (tTup (tCons (tC (.int 1)) (tCons (tC (.int 3)) (tCons (tC (.int 4)) (tNil))))) (tNil)))))) (tCons (tVar 2) (tCons (tVar 3) (tCons (tVar 4) (tNil))))))))
def t__law_refusals (K : PySem.W.Frag) (E : XK) : TS :=
  tSeq (tAsg (tCl (sp21__law_draw K) (fun _ => E) (tCons (tVar 0) (tCons (tOp rAddA (tCB (rLenA K) (tCons (tVar 2) (tNil))) (tC (.int 1))) (tNil)))) (gName 3)) (tSeq (tAsg (tOp (rIx K) (tLst (tCons (tC (.int 0)) (tCons (tOp rAddA (tVar 1) (tC (.int 1))) (tCons (tOp rSubA (tUn rNegA (tC (.int 1))) (tVar 1)) (tCons (tOp rAddA (tVar 1) (tC (.int 40))) (tNil)))))) (tCl (sp21__law_draw K) (fun _ => E) (tCons (tVar 0) (tCons (tC (.int 4)) (tNil))))) (gName 4)) (tSeq (tAsg (tOp rAddA (tOp rAddA (tSl (rSlL K) (tVar 2) (tNoPart) (tPart (tVar 3))) (tLst (tCons (tVar 4) (tNil)))) (tSl (rSlL K) (tVar 2) (tPart (tVar 3)) (tNoPart))) (gName 5)) (tSeq (tIfS (tNot (tB (tCl (sp__law_both_refuse K) (fun _ => E) (tCons (tVar 1) (tCons (tVar 5) (tCons (tC (.str "operation")) (tCons (tVar 4) (tCons (tVar 3) (tNil))))))))) (tRet (tC (.bl false))) (tNext)) (tSeq (tAsg (tOp (rIx K) (tLst (tCons (tC (.int 61)) (tCons (tUn rNegA (tC (.int 1))) (tCons (tOp rAddA (tC (.int 62)) (tCl (sp21__law_draw K) (fun _ => E) (tCons (tVar 0) (tCons (tC (.int 1000)) (tNil))))) (tCons (tOp rSubA (tUn rNegA (tC (.int 2))) (tCl (sp21__law_draw K) (fun _ => E) (tCons (tVar 0) (tCons (tC (.int 1000)) (tNil))))) (tNil)))))) (tCl (sp21__law_draw K) (fun _ => E) (tCons (tVar 0) (tCons (tC (.int 4)) (tNil))))) (gName 6)) (tSeq (tIfS (tNot (tB (tCl (sp__law_both_refuse K) (fun _ => E) (tCons (tVar 6) (tCons (tVar 5) (tCons (tC (.str "size")) (tCons (tVar 6) (tCons (tC (.int 0)) (tNil))))))))) (tRet (tC (.bl false))) (tNext)) (tSeq (tIfS (tTest (tOp (rEqA K) (tVar 2) (tLst (tNil)))) (tRet (tC (.bl true))) (tNext)) (tSeq (tAsg (tCl (sp21__law_draw K) (fun _ => E) (tCons (tVar 0) (tCons (tCB (rLenA K) (tCons (tVar 2) (tNil))) (tNil)))) (gName 3)) (tSeq (tAsg (tOp rAddA (tOp rAddA (tOp rAddA (tSl (rSlL K) (tVar 2) (tNoPart) (tPart (tVar 3))) (tLst (tCons (tUn rNegA (tOp (rIx K) (tVar 2) (tVar 3))) (tNil)))) (tSl (rSlL K) (tVar 2) (tPart (tOp rAddA (tVar 3) (tC (.int 1)))) (tNoPart))) (tLst (tCons (tC (.int 0)) (tNil)))) (gName 5)) (tRet (tCl (sp__law_both_refuse K) (fun _ => E) (tCons (tVar 1) (tCons (tVar 5) (tCons (tC (.str "illegal")) (tCons (tUn rNegA (tOp (rIx K) (tVar 2) (tVar 3))) (tCons (tVar 3) (tNil))))))))))))))))
def t__law_size (K : PySem.W.Frag) (E : XK) : TS :=
  tSeq (tAsg (tOp (rIx K) (tLst (tCons (tC (.int 4)) (tCons (tC (.int 6)) (tCons (tC (.int 9)) (tCons (tC (.int 5)) (tCons (tC (.int 11)) (tCons (tC (.int 8)) (tCons (tC (.int 15)) (tCons (tC (.int 3)) (tCons (tC (.int 2)) (tCons (tC (.int 10)) (tCons (tC (.int 0)) (tCons (tC (.int 20)) (tCons (tC (.int 7)) (tNil))))))))))))))) (tCl (sp21__law_draw K) (fun _ => E) (tCons (tVar 0) (tCons (tC (.int 13)) (tNil))))) (gName 1)) (tSeq (tIfS (tTest (tOp (rEqA K) (tVar 1) (tC (.int 20)))) (tAsg (tOp rAddA (tC (.int 12)) (tCl (sp21__law_draw K) (fun _ => E) (tCons (tVar 0) (tCons (tC (.int 49)) (tNil))))) (gName 1)) (tNext)) (tSeq (tIfS (tTest (tOp (rEqA K) (tVar 1) (tC (.int 3)))) (tAsg (tOp rAddA (tC (.int 1)) (tOp rMulA (tC (.int 2)) (tCl (sp21__law_draw K) (fun _ => E) (tCons (tVar 0) (tCons (tC (.int 2)) (tNil)))))) (gName 1)) (tNext)) (tRet (tVar 1))))
def t__law_judged (K : PySem.W.Frag) (E : XK) : TS :=
  tSeq (tAsg (tCl (sp21__law_told K) (fun _ => E) (tCons (tC (.str "judged")) (tCons (tVar 0) (tCons (tVar 1) (tCons (tVar 3) (tNil)))))) (gName 4)) (tSeq (tIfS (tOr (tTest (tOp (rNeA K) (tOp (rIx K) (tVar 4) (tC (.int 0))) (tC (.str "value")))) (tNot (tB (tCB (rIsi K) (tCons (tOp (rIx K) (tVar 4) (tC (.int 1))) (tCons (tC (.ty "bool")) (tNil))))))) (tRet (tC (.bl false))) (tNext)) (tRet (tOp (rEqA K) (tOp (rIx K) (tVar 4) (tC (.int 1))) (tAndV (tCl (sp__law_is_triple K) (fun _ => E) (tCons (tVar 3) (tNil))) (tOp (rInD K) (tVar 3) (tVar 2))))))
def t__law_pairs (K : PySem.W.Frag) (E : XK) : TS :=
  tSeq (tAsg (tCl (sp21__law_draw K) (fun _ => E) (tCons (tVar 0) (tCons (tOp rAddA (tVar 1) (tC (.int 1))) (tNil)))) (gName 4)) (tSeq (tAsg (tLc (iRng1 (tCons (tCB (rLenA K) (tCons (tVar 2) (tNil))) (tNil))) (gName 8) (tYes) (tVar 8) [8]) (gName 5)) (tSeq (tIfS (tAnd (tTest (tOp (rNeA K) (tVar 3) (tLst (tNil)))) (tTest (tOp (rEqA K) (tCl (sp21__law_draw K) (fun _ => E) (tCons (tVar 0) (tCons (tC (.int 2)) (tNil)))) (tC (.int 0))))) (tAsg (tOp (rIx K) (tOp (rIx K) (tVar 3) (tCl (sp21__law_draw K) (fun _ => E) (tCons (tVar 0) (tCons (tCB (rLenA K) (tCons (tVar 3) (tNil))) (tNil))))) (tC (.int 0))) (gName 4)) (tNext)) (tSeq (tIfS (tTest (tOp rGtA (tCB (rLenA K) (tCons (tVar 2) (tNil))) (tC (.int 7)))) (tAsg (tLc (iList K (tVar 3)) (gName 9) (tTest (tOp (rEqA K) (tOp (rIx K) (tVar 9) (tC (.int 0))) (tVar 4))) (tOp (rIx K) (tVar 9) (tC (.int 2))) [9]) (gName 5)) (tNext)) (tSeq (tFor (iRng1 (tCons (tCB (rLenA K) (tCons (tVar 2) (tNil))) (tNil))) (gName 6) (tFor (iList K (tVar 5)) (gName 7) (tIfS (tNot (tB (tCl (sp21__law_judged K) (fun _ => E) (tCons (tVar 1) (tCons (tVar 2) (tCons (tVar 3) (tCons (tTup (tCons (tVar 4) (tCons (tVar 6) (tCons (tVar 7) (tNil))))) (tNil)))))))) (tRet (tC (.bl false))) (tNext)))) (tRet (tC (.bl true)))))))
def t__law_truth (K : PySem.W.Frag) (E : XK) : TS :=
  tSeq (tIfS (tOr (tTest (tOp (rEqA K) (tVar 0) (tC (.int 0)))) (tTest (tOp (rEqA K) (tVar 0) (tC (.int 1))))) (tRet (tOp (rEqA K) (tVar 0) (tC (.int 1)))) (tNext)) (tRet (tVar 0))
def t__law_values (K : PySem.W.Frag) (E : XK) : TS :=
  tSeq (tAsg (tOp (rIx K) (tVar 0) (tC (.int 0))) (gName 1)) (tSeq (tAsg (tOp (rIx K) (tVar 0) (tC (.int 1))) (gName 2)) (tSeq (tAsg (tOp (rIx K) (tVar 0) (tC (.int 2))) (gName 3)) (tRet (tLst (tCons (tVar 0) (tCons (tTup (tCons (tOp rAddA (tVar 1) (tC (.int 1))) (tCons (tVar 2) (tCons (tVar 3) (tNil))))) (tCons (tTup (tCons (tOp rSubA (tVar 1) (tC (.int 1))) (tCons (tVar 2) (tCons (tVar 3) (tNil))))) (tCons (tTup (tCons (tVar 1) (tCons (tOp rAddA (tVar 2) (tC (.int 1))) (tCons (tVar 3) (tNil))))) (tCons (tTup (tCons (tVar 1) (tCons (tOp rSubA (tVar 2) (tC (.int 1))) (tCons (tVar 3) (tNil))))) (tCons (tTup (tCons (tVar 1) (tCons (tVar 2) (tCons (tOp rAddA (tVar 3) (tC (.int 1))) (tNil))))) (tCons (tTup (tCons (tVar 1) (tCons (tVar 2) (tCons (tOp rSubA (tVar 3) (tC (.int 1))) (tNil))))) (tCons (tTup (tCons (tVar 1) (tCons (tVar 3) (tCons (tVar 2) (tNil))))) (tCons (tTup (tCons (tVar 2) (tCons (tVar 1) (tCons (tVar 3) (tNil))))) (tCons (tTup (tCons (tVar 1) (tCons (tVar 2) (tCons (tVar 2) (tNil))))) (tCons (tTup (tCons (tVar 1) (tCons (tVar 3) (tCons (tVar 3) (tNil))))) (tCons (tTup (tCons (tUn rNegA (tC (.int 1))) (tCons (tVar 2) (tCons (tVar 3) (tNil))))) (tCons (tTup (tCons (tVar 1) (tCons (tUn rNegA (tC (.int 1))) (tCons (tVar 3) (tNil))))) (tCons (tTup (tCons (tVar 1) (tCons (tVar 2) (tCons (tOp rPowA (tC (.int 10)) (tC (.int 20))) (tNil))))) (tCons (tTup (tCons (tCl (sp__law_truth K) (fun _ => E) (tCons (tVar 1) (tNil))) (tCons (tVar 2) (tCons (tVar 3) (tNil))))) (tCons (tTup (tCons (tVar 1) (tCons (tCl (sp__law_truth K) (fun _ => E) (tCons (tVar 2) (tNil))) (tCons (tVar 3) (tNil))))) (tCons (tTup (tCons (tVar 1) (tCons (tVar 2) (tCons (tCl (sp__law_truth K) (fun _ => E) (tCons (tVar 3) (tNil))) (tNil))))) (tCons (tLst (tCons (tVar 1) (tCons (tVar 2) (tCons (tVar 3) (tNil))))) (tCons (tTup (tCons (tVar 1) (tCons (tVar 2) (tNil)))) (tCons (tTup (tCons (tVar 1) (tCons (tVar 2) (tCons (tVar 3) (tCons (tC (.int 0)) (tNil)))))) (tCons (tTup (tNil)) (tCons (tC .non) (tCons (tC (.str "")) (tCons (tC (.str "lost")) (tCons (tVar 1) (tCons (tLst (tNil)) (tCons (tTup (tCons (tC .non) (tCons (tVar 2) (tCons (tVar 3) (tNil))))) (tCons (tTup (tCons (tVar 1) (tCons (tTup (tCons (tVar 2) (tNil))) (tCons (tVar 3) (tNil))))) (tCons (tTup (tCons (tVar 1) (tCons (tVar 2) (tCons (tCB rStrA (tCons (tVar 3) (tNil))) (tNil))))) (tCons (tTup (tCons (tVar 0) (tNil))) (tCons (tTup (tCons (tVar 0) (tCons (tVar 2) (tCons (tVar 3) (tNil))))) (tNil))))))))))))))))))))))))))))))))))))
def t__law_values_fit (K : PySem.W.Frag) (E : XK) : TS :=
  tSeq (tAsg (tCl (sp__law_losses K) (fun _ => E) (tCons (tVar 1) (tCons (tVar 2) (tNil)))) (gName 3)) (tSeq (tAsg (tCB (rListA K) (tCons (tVar 2) (tNil))) (gName 4)) (tSeq (tAsg (tTup (tCons (tCl (sp21__law_draw K) (fun _ => E) (tCons (tVar 0) (tCons (tOp rAddA (tVar 1) (tC (.int 1))) (tNil)))) (tCons (tC (.int 0)) (tCons (tCB (rLenA K) (tCons (tVar 2) (tNil))) (tNil))))) (gName 5)) (tSeq (tIfS (tTest (tOp (rNeA K) (tVar 3) (tLst (tNil)))) (tAsg (tOp (rIx K) (tVar 3) (tCl (sp21__law_draw K) (fun _ => E) (tCons (tVar 0) (tCons (tCB (rLenA K) (tCons (tVar 3) (tNil))) (tNil))))) (gName 5)) (tNext)) (tSeq (tAsg (tCl (sp__law_values K) (fun _ => E) (tCons (tVar 5) (tNil))) (gName 6)) (tSeq (tIfS (tTest (tOp rGtA (tVar 1) (tC (.int 8)))) (tAsg (tSl3 K (tVar 6) (tPart (tCl (sp21__law_draw K) (fun _ => E) (tCons (tVar 0) (tCons (tC (.int 3)) (tNil))))) (tNoPart) (tPart (tC (.int 3)))) (gName 6)) (tNext)) (tSeq (tFor (iList K (tOp rAddA (tVar 6) (tVar 3))) (gName 7) (tIfS (tNot (tB (tCl (sp21__law_judged K) (fun _ => E) (tCons (tVar 1) (tCons (tVar 4) (tCons (tVar 3) (tCons (tVar 7) (tNil)))))))) (tRet (tC (.bl false))) (tNext))) (tRet (tAndV (tCl (sp21__law_pairs K) (fun _ => E) (tCons (tVar 0) (tCons (tVar 1) (tCons (tVar 4) (tCons (tVar 3) (tNil)))))) (tOp (rEqA K) (tVar 4) (tVar 2))))))))))
def t_law (K : PySem.W.Frag) (E : XK) : TS :=
  tSeq (tAsg (tCl (sp21__law_bag K) (fun _ => E) (tCons (tVar 0) (tNil))) (gName 1)) (tSeq (tAsg (tCl (sp21__law_size K) (fun _ => E) (tCons (tVar 1) (tNil))) (gName 2)) (tSeq (tAsg (tCl (sp21__law_log K) (fun _ => E) (tCons (tVar 1) (tCons (tVar 2) (tNil)))) (gName 3)) (tSeq (tAsg (tCl (sp__law_losses K) (fun _ => E) (tCons (tVar 2) (tCons (tVar 3) (tNil)))) (gName 4)) (tSeq (tIfS (tOr (tNot (tB (tCl (sp__law_certified K) (fun _ => E) (tCons (tVar 2) (tCons (tVar 3) (tNil)))))) (tNot (tB (tCl (sp__law_values_fit K) (fun _ => E) (tCons (tVar 1) (tCons (tVar 2) (tCons (tVar 3) (tNil)))))))) (tRet (tC (.bl false))) (tNext)) (tSeq (tIfS (tTest (tOp (rNeA K) (tVar 4) (tLst (tNil)))) (tSeq (tIfS (tNot (tB (tCl (sp__law_certified K) (fun _ => E) (tCons (tVar 2) (tCons (tSl (rSlL K) (tVar 3) (tNoPart) (tPart (tOp (rIx K) (tOp (rIx K) (tVar 4) (tC (.int 0))) (tC (.int 2))))) (tNil)))))) (tRet (tC (.bl false))) (tNext)) (tIfS (tNot (tB (tCl (sp__law_certified K) (fun _ => E) (tCons (tVar 2) (tCons (tSl (rSlL K) (tVar 3) (tNoPart) (tPart (tOp rAddA (tOp (rIx K) (tOp (rIx K) (tVar 4) (tC (.int 0))) (tC (.int 2))) (tC (.int 1))))) (tNil)))))) (tRet (tC (.bl false))) (tNext))) (tNext)) (tSeq (tIfS (tNot (tB (tCl (sp__law_certified K) (fun _ => E) (tCons (tVar 2) (tCons (tSl (rSlL K) (tVar 3) (tNoPart) (tPart (tCl (sp21__law_draw K) (fun _ => E) (tCons (tVar 1) (tCons (tOp rAddA (tCB (rLenA K) (tCons (tVar 3) (tNil))) (tC (.int 1))) (tNil)))))) (tNil)))))) (tRet (tC (.bl false))) (tNext)) (tRet (tCl (sp__law_refusals K) (fun _ => E) (tCons (tVar 1) (tCons (tVar 2) (tCons (tVar 3) (tNil))))))))))))
end G

set_option Elab.async false
set_option linter.all false
set_option maxRecDepth 100000
set_option maxHeartbeats 1000000
namespace G
--#FAM KH
open PySem PySem.Spec PyProof.Rows L2
local macro_rules
  | `(tactic| walk_at "1") => `(tactic| first
    | with_reducible refine w_seq ?_
    | with_reducible refine w_asg ?_
    | with_reducible refine w_asgS ?_
    | with_reducible refine w_asf ?_
    | with_reducible refine w_drop ?_
    | with_reducible refine w_ret ?_
    | with_reducible refine w_if ?_
    | with_reducible refine w_not ?_
    | with_reducible refine w_and ?_
    | with_reducible refine w_or ?_
    | with_reducible refine w_test ?_
    | with_reducible refine w_tb ?_
    | with_reducible refine w_chain ?_
    | with_reducible refine w_op ?_
    | with_reducible refine w_un ?_
    | with_reducible refine w_andV ?_
    | with_reducible refine w_orV ?_
    | with_reducible refine w_notV ?_
    | with_reducible refine w_ifE ?_
    | with_reducible refine w_cons ?_
    | with_reducible refine w_nil ?_
    | with_reducible refine w_cb ?_
    | with_reducible refine w_cl ?_
    | with_reducible refine w_mt ?_
    | with_reducible refine w_fld ?_
    | with_reducible refine w_tupN ?_
    | with_reducible refine w_lstN ?_
    | with_reducible refine w_bm ?_
    | with_reducible refine w_bm0 ?_
    | with_reducible refine w_for ?_
    | with_reducible refine w_lc ?_
    | with_reducible refine w_iR1 ?_
    | with_reducible refine w_iR2 ?_
    | with_reducible refine w_iL ?_
    | with_reducible refine w_iT ?_
    | with_reducible refine w_iE ?_
    | with_reducible refine w_iZ ?_
    | with_reducible refine w_var (by with_unfolding_all rfl) ?_
    | with_reducible refine w_c ?_
    | with_reducible refine w_next ?_
    | with_reducible refine w_i0 ?_
    | with_reducible refine w_u1 ?_
    | with_reducible refine w_addI ?_
    | with_reducible refine w_eqI ?_
    | with_reducible refine w_eqS ?_
    | with_reducible refine w_eqB ?_
    | with_reducible refine w_neI ?_
    | with_reducible refine w_neS ?_
    | with_reducible refine w_neB ?_
    | with_reducible refine w_abs ?_
    | with_reducible refine w_intI ?_
    | with_reducible refine w_min2 ?_
    | with_reducible refine w_max2 ?_
    | with_reducible refine w_isN0 ?_
    | with_reducible refine w_isN1 ref_ne ?_
    | with_reducible refine w_isN1 int_ne ?_
    | with_reducible refine w_notN0 ?_
    | with_reducible refine w_notN1 ref_ne ?_
    | with_reducible refine w_notN1 int_ne ?_
    | with_reducible refine w_ex1 ?_
    | with_reducible refine w_n1 ?_
    | with_reducible refine w_n2 ?_
    | with_reducible refine w_tT ?_
    | with_reducible refine w_tF ?_
    | with_reducible refine w_nT ?_
    | with_reducible refine w_nF ?_
    | with_reducible refine w_rz ?_
    | with_reducible refine w_mkN ?_
    | with_reducible refine w_lrgN ?_
    | with_reducible refine w_rg1 ?_
    | with_reducible refine w_rg2 ?_
    | with_reducible refine w_sl ?_
    | with_reducible refine w_np ?_
    | with_reducible refine w_pt ?_
    | with_reducible refine w_tr ?_
    | with_reducible refine w_gn ?_
    | with_reducible refine w_yes ?_
    | with_reducible refine w_m1 ?_
    | with_reducible refine w_asu ?_
    | with_reducible refine w_exS ?_
    | with_reducible refine w_iS ?_
    | with_reducible refine w_g1 ?_
    | with_reducible refine w_gc ?_
    | with_reducible refine w_gt (SqT.of upd_same) rfl ?_)
local macro_rules
  | `(tactic| walk_at "g") => `(tactic| repeat walk_at "1")
local macro_rules
  | `(tactic| walk_at "j1") => `(tactic| first
    | with_reducible refine w_seqI ?_
    | walk_at "1")
local macro_rules
  | `(tactic| walk_at "j") => `(tactic| repeat walk_at "j1")
section
variable {K : PySem.W.Frag} {mg : Str → Option Value}
theorem len_check_size (K : PySem.W.Frag) : ∀ vs H Q E, sp_check_size K vs H Q E → vs.length = (["size"] : List Str).length := by
  rintro vs H Q E ⟨_, rfl, _⟩
  rfl
theorem rd_check_size (T : Txt K mg) (vs : List V) (H : Hp) (Q : VK) (E : XK) (h : sp_check_size K vs H Q E) : t_check_size K E { nx := fun _ H' => Q .non H', rt := Q } (start ["size"] vs) H := by
  obtain ⟨size, rfl, h1, h2⟩ := h
  unfold t_check_size
  walk_at "g"
  refine w_iteD (fun c1 => ?_) (fun c1 => ?_)
  · walk_at "g"
    refine w_iteN (fun c2 => ?_) (fun c2 => ?_)
    · walk_at "g"
      exact ⟨rfl, Nat.le_of_ble_eq_true rfl, h2 fun z => c2 z.2⟩
    · walk_at "g"
      exact h1 ⟨c1, c2⟩
  · walk_at "g"
    exact ⟨rfl, Nat.le_of_ble_eq_true rfl, h2 fun z => c1 z.1⟩
theorem len_check_operation (K : PySem.W.Frag) : ∀ vs H Q E, sp_check_operation K vs H Q E → vs.length = (["size", "operation", "index"] : List Str).length := by
  rintro vs H Q E ⟨_, _, _, rfl, _⟩
  rfl
theorem rd_check_operation (T : Txt K mg) (vs : List V) (H : Hp) (Q : VK) (E : XK) (h : sp_check_operation K vs H Q E) : t_check_operation K E { nx := fun _ H' => Q .non H', rt := Q } (start ["size", "operation", "index"] vs) H := by
  obtain ⟨n, op, i, rfl, h1, h2⟩ := h
  unfold t_check_operation
  walk_at "g"
  rw [natAbs_if]
  refine w_iteD (fun c1 => ?_) (fun c1 => ?_)
  · walk_at "g"
    refine w_iteN (fun c2 => ?_) (fun c2 => ?_)
    · walk_at "g"
      exact ⟨rfl, Nat.le_of_ble_eq_true rfl, h2 fun z => c2 (by have := z.2; omega)⟩
    · walk_at "g"
      exact h1 ⟨by omega, by omega⟩
  · walk_at "g"
    exact ⟨rfl, Nat.le_of_ble_eq_true rfl, h2 fun z => c1 (by have := z.1; omega)⟩
theorem len_check_gap (K : PySem.W.Frag) : ∀ vs H Q E, sp_check_gap K vs H Q E → vs.length = (["size", "gap"] : List Str).length := by
  rintro vs H Q E ⟨_, _, rfl, _⟩
  rfl
theorem rd_check_gap (T : Txt K mg) (vs : List V) (H : Hp) (Q : VK) (E : XK) (h : sp_check_gap K vs H Q E) : t_check_gap K E { nx := fun _ H' => Q .non H', rt := Q } (start ["size", "gap"] vs) H := by
  obtain ⟨n, g, rfl, h1, h2⟩ := h
  unfold t_check_gap
  walk_at "g"
  refine w_iteD (fun c1 => ?_) (fun c1 => ?_)
  · walk_at "g"
    refine w_iteN (fun c2 => ?_) (fun c2 => ?_)
    · walk_at "g"
      exact ⟨rfl, Nat.le_of_ble_eq_true rfl, h2 fun z => c2 z.2⟩
    · walk_at "g"
      exact h1 ⟨c1, c2⟩
  · walk_at "g"
    exact ⟨rfl, Nat.le_of_ble_eq_true rfl, h2 fun z => c1 z.1⟩
theorem len_Links_is_legal (K : PySem.W.Frag) : ∀ vs H Q E, sp_Links_is_legal K vs H Q E → vs.length = (["self", "operation"] : List Str).length := by
  rintro vs H Q E ⟨_, _, _, _, _, _, rfl, _⟩
  rfl
theorem rd_Links_is_legal (T : Txt K mg) (vs : List V) (H : Hp) (Q : VK) (E : XK) (h : sp_Links_is_legal K vs H Q E) : t_Links_is_legal K E { nx := fun _ H' => Q .non H', rt := Q } (start ["self", "operation"] vs) H := by
  obtain ⟨p, r, l, o, s, op, rfl, a, hi, k⟩ := h
  unfold t_Links_is_legal
  walk_at "g"
  refine w_fO T.cl_Links T.na_Links__out a ?_
  walk_at "g"
  rw [natAbs_if]
  have hlt : (op.natAbs : Int) < (s.O.length : Int) := by
    rw [a.wf.lO]
    have := hi.2
    omega
  refine w_ixL (SqL.of a.ho) (at_B (by omega) hlt) ?_
  walk_at "g"
  exact k
theorem len_Links_check (K : PySem.W.Frag) : ∀ vs H Q E, sp_Links_check K vs H Q E → vs.length = (["self", "operation", "index"] : List Str).length := by
  rintro vs H Q E ⟨_, _, _, _, _, _, _, rfl, _⟩
  rfl
theorem rd_Links_check (T : Txt K mg) (vs : List V) (H : Hp) (Q : VK) (E : XK) (h : sp_Links_check K vs H Q E) : t_Links_check K E { nx := fun _ H' => Q .non H', rt := Q } (start ["self", "operation", "index"] vs) H := by
  obtain ⟨p, r, l, o, s, op, i, rfl, a, h1, h2⟩ := h
  unfold t_Links_check
  walk_at "g"
  refine w_fS T.cl_Links T.na_Links_size a ?_
  walk_at "g"
  refine ⟨s.n, op, i, rfl, fun hi => ?_, fun hi => ?_⟩
  · walk_at "g"
    refine w_me a no_m ?_
    walk_at "g"
    refine ⟨p, r, l, o, s, op, rfl, a, hi, ?_⟩
    walk_at "g"
    refine w_iteN (fun c => ?_) (fun c => ?_)
    · walk_at "g"
      refine ⟨rfl, Nat.le_of_ble_eq_true rfl, ?_⟩
      have e := h2 fun z => c z.2
      unfold OpE at e
      rw [if_pos hi] at e
      exact e
    · walk_at "g"
      exact h1 ⟨hi, c⟩
  · have e := h2 fun z => hi z.1
    unfold OpE at e
    rw [if_neg hi] at e
    exact e
end
end G

set_option Elab.async false
set_option linter.all false
set_option maxRecDepth 100000
set_option maxHeartbeats 1000000
namespace G
--#FAM KH
open PySem PySem.Spec PyProof.Rows L2
local macro_rules
  | `(tactic| walk_at "1") => `(tactic| first
    | with_reducible refine w_seq ?_
    | with_reducible refine w_asg ?_
    | with_reducible refine w_asgS ?_
    | with_reducible refine w_asf ?_
    | with_reducible refine w_drop ?_
    | with_reducible refine w_ret ?_
    | with_reducible refine w_if ?_
    | with_reducible refine w_not ?_
    | with_reducible refine w_and ?_
    | with_reducible refine w_or ?_
    | with_reducible refine w_test ?_
    | with_reducible refine w_tb ?_
    | with_reducible refine w_chain ?_
    | with_reducible refine w_op ?_
    | with_reducible refine w_un ?_
    | with_reducible refine w_andV ?_
    | with_reducible refine w_orV ?_
    | with_reducible refine w_notV ?_
    | with_reducible refine w_ifE ?_
    | with_reducible refine w_cons ?_
    | with_reducible refine w_nil ?_
    | with_reducible refine w_cb ?_
    | with_reducible refine w_cl ?_
    | with_reducible refine w_mt ?_
    | with_reducible refine w_fld ?_
    | with_reducible refine w_tupN ?_
    | with_reducible refine w_lstN ?_
    | with_reducible refine w_bm ?_
    | with_reducible refine w_bm0 ?_
    | with_reducible refine w_for ?_
    | with_reducible refine w_lc ?_
    | with_reducible refine w_iR1 ?_
    | with_reducible refine w_iR2 ?_
    | with_reducible refine w_iL ?_
    | with_reducible refine w_iT ?_
    | with_reducible refine w_iE ?_
    | with_reducible refine w_iZ ?_
    | with_reducible refine w_var (by with_unfolding_all rfl) ?_
    | with_reducible refine w_c ?_
    | with_reducible refine w_next ?_
    | with_reducible refine w_i0 ?_
    | with_reducible refine w_u1 ?_
    | with_reducible refine w_addI ?_
    | with_reducible refine w_eqI ?_
    | with_reducible refine w_eqS ?_
    | with_reducible refine w_eqB ?_
    | with_reducible refine w_neI ?_
    | with_reducible refine w_neS ?_
    | with_reducible refine w_neB ?_
    | with_reducible refine w_abs ?_
    | with_reducible refine w_intI ?_
    | with_reducible refine w_min2 ?_
    | with_reducible refine w_max2 ?_
    | with_reducible refine w_isN0 ?_
    | with_reducible refine w_isN1 ref_ne ?_
    | with_reducible refine w_isN1 int_ne ?_
    | with_reducible refine w_notN0 ?_
    | with_reducible refine w_notN1 ref_ne ?_
    | with_reducible refine w_notN1 int_ne ?_
    | with_reducible refine w_ex1 ?_
    | with_reducible refine w_n1 ?_
    | with_reducible refine w_n2 ?_
    | with_reducible refine w_tT ?_
    | with_reducible refine w_tF ?_
    | with_reducible refine w_nT ?_
    | with_reducible refine w_nF ?_
    | with_reducible refine w_rz ?_
    | with_reducible refine w_mkN ?_
    | with_reducible refine w_lrgN ?_
    | with_reducible refine w_rg1 ?_
    | with_reducible refine w_rg2 ?_
    | with_reducible refine w_sl ?_
    | with_reducible refine w_np ?_
    | with_reducible refine w_pt ?_
    | with_reducible refine w_tr ?_
    | with_reducible refine w_gn ?_
    | with_reducible refine w_yes ?_
    | with_reducible refine w_m1 ?_
    | with_reducible refine w_asu ?_
    | with_reducible refine w_exS ?_
    | with_reducible refine w_iS ?_
    | with_reducible refine w_g1 ?_
    | with_reducible refine w_gc ?_
    | with_reducible refine w_gt (SqT.of upd_same) rfl ?_)
local macro_rules
  | `(tactic| walk_at "g") => `(tactic| repeat walk_at "1")
local macro_rules
  | `(tactic| walk_at "j1") => `(tactic| first
    | with_reducible refine w_seqI ?_
    | walk_at "1")
local macro_rules
  | `(tactic| walk_at "j") => `(tactic| repeat walk_at "j1")
section
variable {K : PySem.W.Frag} {mg : Str → Option Value}
theorem len_Links_apply_at (K : PySem.W.Frag) : ∀ vs H Q E, sp_Links_apply_at K vs H Q E → vs.length = (["self", "operation", "index"] : List Str).length := by
  rintro vs H Q E ⟨_, _, _, _, _, _, _, rfl, _⟩
  rfl
theorem rd_Links_apply_at (T : Txt K mg) (vs : List V) (H : Hp) (Q : VK) (E : XK) (h : sp_Links_apply_at K vs H Q E) : t_Links_apply_at K E { nx := fun _ H' => Q .non H', rt := Q } (start ["self", "operation", "index", "node", "low", "high", "is_unlink"] vs) H := by
  obtain ⟨p, r, l, o, s, op, i, rfl, a, h1, h2⟩ := h
  unfold t_Links_apply_at
  walk_at "g"
  refine w_me a no_m ?_
  walk_at "g"
  refine ⟨p, r, l, o, s, op, i, rfl, a, fun ok => ?_, h2⟩
  have hi := ok.1
  obtain ⟨i1, i2⟩ := hi
  have w := a.wf
  obtain ⟨r1, r2⟩ := w.rb op.natAbs (by omega)
  obtain ⟨l1, l2⟩ := w.lb op.natAbs i1 (by omega)
  obtain ⟨pr, pl, po⟩ := a.pr
  walk_at "g"
  rw [natAbs_if]
  refine w_fL T.cl_Links T.na_Links__lefts a ?_
  walk_at "g"
  refine w_ixL (SqL.of a.hl) (at_I (by omega) (by rw [w.lL]; omega)) ?_
  walk_at "g"
  refine w_fR T.cl_Links T.na_Links__rights a ?_
  walk_at "g"
  refine w_ixL (SqL.of a.hr) (at_I (by omega) (by rw [w.lR]; omega)) ?_
  walk_at "g"
  have fin : ∀ x y : Int, x = (if op < 0 then gI s.R op.natAbs else (op.natAbs : Int)) → y = (if op < 0 then gI s.L op.natAbs else (op.natAbs : Int)) →
      Q .non (upd (upd (upd H r (.lst ((s.R.map V.int).set (gI s.L op.natAbs).toNat (.int x)))) l (.lst ((s.L.map V.int).set (gI s.R op.natAbs).toNat (.int y)))) o (.lst ((s.O.map V.bl).set op.natAbs (.bl (decide (op < 0)))))) := by
    intro x y ex ey
    refine h1 ok _ ((((Kp.refl _ H).trans (Kp.put (by simp))).trans (Kp.put (by simp))).trans (Kp.put (by simp))) ?_
    obtain ⟨dx, ob⟩ := a.ob
    rw [set_I, set_I, set_B]
    refine ⟨⟨dx, ?_⟩, ?_, ?_, ?_, a.rl, a.ro, a.lo, w.step ok.1⟩
    · rw [upd_ne po, upd_ne pl, upd_ne pr]
      exact ob
    · rw [upd_ne a.ro, upd_ne a.rl, upd_same, ex] <;> rfl
    · rw [upd_ne a.lo, upd_same, ey] <;> rfl
    · rw [upd_same] <;> rfl
  obtain ⟨dx, ob⟩ := a.ob
  have e1 : (op.natAbs : Int).toNat = op.natAbs := Int.toNat_natCast _
  have il : ixN (List.map V.int s.R).length (gI s.L op.natAbs) = some (gI s.L op.natAbs).toNat := ixN_pos (by omega) (by rw [List.length_map, w.lR]; omega)
  have ir : ixN (List.map V.int s.L).length (gI s.R op.natAbs) = some (gI s.R op.natAbs).toNat := ixN_pos (by omega) (by rw [List.length_map, w.lL]; omega)
  have io : ixN (List.map V.bl s.O).length (op.natAbs : Int) = some op.natAbs := by
    rw [ixN_pos (by omega) (by rw [List.length_map, w.lO]; omega), e1]
  rw [e1]
  refine w_iteD (fun c => ?_) (fun c => ?_)
  all_goals
    walk_at "g"
    refine w_oR T.cl_Links T.na_Links__rights ob ?_
    walk_at "g"
    refine w_setL a.hr il ?_
    walk_at "g"
    first
      | refine w_iteD (fun _ => ?_) (fun z => absurd c z)
      | refine w_iteD (fun z => absurd z c) (fun _ => ?_)
    walk_at "g"
    refine w_oL T.cl_Links T.na_Links__lefts (H := upd H r _) (by rw [upd_ne pr]; exact ob) ?_
    walk_at "g"
    refine w_setL (H := upd H r _) (by rw [upd_ne (Ne.symm a.rl)]; exact a.hl) ir ?_
    walk_at "g"
    refine w_oO T.cl_Links T.na_Links__out (H := upd (upd H r _) l _) (by rw [upd_ne pl, upd_ne pr]; exact ob) ?_
    walk_at "g"
    refine w_setL (H := upd (upd H r _) l _) (by rw [upd_ne (Ne.symm a.lo), upd_ne (Ne.symm a.ro)]; exact a.ho) io ?_
    walk_at "g"
  · exact fin _ _ (if_pos c).symm (if_pos c).symm
  · exact fin _ _ (if_neg c).symm (if_neg c).symm
theorem len_Links_left (K : PySem.W.Frag) : ∀ vs H Q E, sp_Links_left K vs H Q E → vs.length = (["self", "node"] : List Str).length := by
  rintro vs H Q E ⟨_, _, _, _, _, _, rfl, _⟩
  rfl
theorem rd_Links_left (T : Txt K mg) (vs : List V) (H : Hp) (Q : VK) (E : XK) (h : sp_Links_left K vs H Q E) : t_Links_left K E { nx := fun _ H' => Q .non H', rt := Q } (start ["self", "node"] vs) H := by
  obtain ⟨p, r, l, o, s, v, rfl, a, h1, h2, h3⟩ := h
  unfold t_Links_left
  walk_at "g"
  refine w_iteD (fun c1 => ?_) (fun c1 => absurd (by omega) c1)
  walk_at "g"
  refine w_fS T.cl_Links T.na_Links_size a ?_
  walk_at "g"
  refine w_iteN (fun c1 => absurd (by omega) c1) (fun c1 => ?_)
  walk_at "g"
  refine w_fL T.cl_Links T.na_Links__lefts a ?_
  walk_at "g"
  refine w_ixL (SqL.of a.hl) (at_I (by omega) (by rw [a.wf.lL]; omega)) ?_
  exact h3
theorem len_Links_right (K : PySem.W.Frag) : ∀ vs H Q E, sp_Links_right K vs H Q E → vs.length = (["self", "node"] : List Str).length := by
  rintro vs H Q E ⟨_, _, _, _, _, _, rfl, _⟩
  rfl
theorem rd_Links_right (T : Txt K mg) (vs : List V) (H : Hp) (Q : VK) (E : XK) (h : sp_Links_right K vs H Q E) : t_Links_right K E { nx := fun _ H' => Q .non H', rt := Q } (start ["self", "node"] vs) H := by
  obtain ⟨p, r, l, o, s, v, rfl, a, h2, h3⟩ := h
  unfold t_Links_right
  walk_at "g"
  refine w_iteD (fun c1 => ?_) (fun c1 => absurd (by omega) c1)
  walk_at "g"
  refine w_fS T.cl_Links T.na_Links_size a ?_
  walk_at "g"
  refine w_iteN (fun c1 => absurd (by omega) c1) (fun c1 => ?_)
  walk_at "g"
  refine w_fR T.cl_Links T.na_Links__rights a ?_
  walk_at "g"
  refine w_ixL (SqL.of a.hr) (at_I (by omega) (by rw [a.wf.lR]; omega)) ?_
  exact h3
theorem len_gap_state (K : PySem.W.Frag) : ∀ vs H Q E, sp_gap_state K vs H Q E → vs.length = (["links", "gap"] : List Str).length := by
  rintro vs H Q E ⟨_, _, _, _, _, _, rfl, _⟩
  rfl
theorem rd_gap_state (T : Txt K mg) (vs : List V) (H : Hp) (Q : VK) (E : XK) (h : sp_gap_state K vs H Q E) : t_gap_state K E { nx := fun _ H' => Q .non H', rt := Q } (start ["links", "gap", "is_held_left", "is_held_right"] vs) H := by
  obtain ⟨p, r, l, o, s, g, rfl, a, h1, h2⟩ := h
  unfold t_gap_state
  walk_at "g"
  refine w_fS T.cl_Links T.na_Links_size a ?_
  walk_at "g"
  refine ⟨s.n, g, rfl, fun c => ?_, h2⟩
  obtain ⟨v, rfl⟩ : ∃ v : Nat, g = (v : Int) := ⟨g.toNat, by omega⟩
  walk_at "g"
  refine w_me a no_m ?_
  walk_at "g"
  refine ⟨p, r, l, o, s, v, rfl, a, by omega, ?_⟩
  walk_at "g"
  refine w_me a no_m ?_
  walk_at "g"
  refine ⟨p, r, l, o, s, v + 1, rfl, a, by omega, by omega, ?_⟩
  walk_at "g"
  have k := h1 c
  rw [Int.toNat_natCast] at k
  unfold stT at k
  refine w_iteD (fun c1 => ?_) (fun c1 => ?_)
  · rw [if_pos c1] at k
    walk_at "g"
    refine w_iteD (fun c2 => ?_) (fun c2 => ?_)
    · rw [if_pos c2] at k
      walk_at "g"
      exact k
    · rw [if_neg c2] at k
      walk_at "g"
      exact k
  · rw [if_neg c1] at k
    walk_at "g"
    refine w_iteD (fun c2 => ?_) (fun c2 => ?_)
    · rw [if_pos c2] at k
      walk_at "g"
      exact k
    · rw [if_neg c2] at k
      walk_at "g"
      exact k
end
end G

set_option Elab.async false
set_option linter.all false
set_option maxRecDepth 100000
set_option maxHeartbeats 1000000
namespace G
--#FAM KH
open PySem PySem.Spec PyProof.Rows L2
local macro_rules
  | `(tactic| walk_at "1") => `(tactic| first
    | with_reducible refine w_seq ?_
    | with_reducible refine w_asg ?_
    | with_reducible refine w_asgS ?_
    | with_reducible refine w_asf ?_
    | with_reducible refine w_drop ?_
    | with_reducible refine w_ret ?_
    | with_reducible refine w_if ?_
    | with_reducible refine w_not ?_
    | with_reducible refine w_and ?_
    | with_reducible refine w_or ?_
    | with_reducible refine w_test ?_
    | with_reducible refine w_tb ?_
    | with_reducible refine w_chain ?_
    | with_reducible refine w_op ?_
    | with_reducible refine w_un ?_
    | with_reducible refine w_andV ?_
    | with_reducible refine w_orV ?_
    | with_reducible refine w_notV ?_
    | with_reducible refine w_ifE ?_
    | with_reducible refine w_cons ?_
    | with_reducible refine w_nil ?_
    | with_reducible refine w_cb ?_
    | with_reducible refine w_cl ?_
    | with_reducible refine w_mt ?_
    | with_reducible refine w_fld ?_
    | with_reducible refine w_tupN ?_
    | with_reducible refine w_lstN ?_
    | with_reducible refine w_bm ?_
    | with_reducible refine w_bm0 ?_
    | with_reducible refine w_for ?_
    | with_reducible refine w_lc ?_
    | with_reducible refine w_iR1 ?_
    | with_reducible refine w_iR2 ?_
    | with_reducible refine w_iL ?_
    | with_reducible refine w_iT ?_
    | with_reducible refine w_iE ?_
    | with_reducible refine w_iZ ?_
    | with_reducible refine w_var (by with_unfolding_all rfl) ?_
    | with_reducible refine w_c ?_
    | with_reducible refine w_next ?_
    | with_reducible refine w_i0 ?_
    | with_reducible refine w_u1 ?_
    | with_reducible refine w_addI ?_
    | with_reducible refine w_eqI ?_
    | with_reducible refine w_eqS ?_
    | with_reducible refine w_eqB ?_
    | with_reducible refine w_neI ?_
    | with_reducible refine w_neS ?_
    | with_reducible refine w_neB ?_
    | with_reducible refine w_abs ?_
    | with_reducible refine w_intI ?_
    | with_reducible refine w_min2 ?_
    | with_reducible refine w_max2 ?_
    | with_reducible refine w_isN0 ?_
    | with_reducible refine w_isN1 ref_ne ?_
    | with_reducible refine w_isN1 int_ne ?_
    | with_reducible refine w_notN0 ?_
    | with_reducible refine w_notN1 ref_ne ?_
    | with_reducible refine w_notN1 int_ne ?_
    | with_reducible refine w_ex1 ?_
    | with_reducible refine w_n1 ?_
    | with_reducible refine w_n2 ?_
    | with_reducible refine w_tT ?_
    | with_reducible refine w_tF ?_
    | with_reducible refine w_nT ?_
    | with_reducible refine w_nF ?_
    | with_reducible refine w_rz ?_
    | with_reducible refine w_mkN ?_
    | with_reducible refine w_lrgN ?_
    | with_reducible refine w_rg1 ?_
    | with_reducible refine w_rg2 ?_
    | with_reducible refine w_sl ?_
    | with_reducible refine w_np ?_
    | with_reducible refine w_pt ?_
    | with_reducible refine w_tr ?_
    | with_reducible refine w_gn ?_
    | with_reducible refine w_yes ?_
    | with_reducible refine w_m1 ?_
    | with_reducible refine w_asu ?_
    | with_reducible refine w_exS ?_
    | with_reducible refine w_iS ?_
    | with_reducible refine w_g1 ?_
    | with_reducible refine w_gc ?_
    | with_reducible refine w_gt (SqT.of upd_same) rfl ?_)
local macro_rules
  | `(tactic| walk_at "g") => `(tactic| repeat walk_at "1")
local macro_rules
  | `(tactic| walk_at "j1") => `(tactic| first
    | with_reducible refine w_seqI ?_
    | walk_at "1")
local macro_rules
  | `(tactic| walk_at "j") => `(tactic| repeat walk_at "j1")
section
variable {K : PySem.W.Frag} {mg : Str → Option Value}
theorem rg_nat (n : Nat) : rgV 0 (n : Int) = (rgI 0 n).map V.int := by
  unfold rgV rgI
  rw [show ((n : Int) - 0).toNat = n by omega, List.map_map] <;> rfl
theorem rg_one (n : Nat) : rgV 1 ((n : Int) + 1) = (rgI 1 n).map V.int := by
  unfold rgV rgI
  rw [show ((n : Int) + 1 - 1).toNat = n by omega, List.map_map] <;> rfl
theorem rg_one' (n : Nat) : rgV 1 ((n : Int) + 2) = (rgI 1 (n + 1)).map V.int := by
  rw [← rg_one (n + 1)]
  congr 1
theorem rg_nat' (n : Nat) : rgV 0 ((n : Int) + 1) = (rgI 0 (n + 1)).map V.int := by
  rw [← rg_nat (n + 1)] <;> rfl
theorem rep_flat {α : Type} (n : Nat) (x : α) : (List.replicate n [x]).flatten = List.replicate n x := by
  induction n with
  | zero => rfl
  | succ n ih => rw [List.replicate_succ, List.flatten_cons, ih, List.replicate_succ] <;> rfl
theorem rep_mapB (n : Nat) (x : Bool) : (List.replicate n x).map V.bl = List.replicate n (V.bl x) := by rw [List.map_replicate]
theorem putF_len (f : Str) (v : V) : ∀ fs : List (Str × V), (putF f v fs).length ≤ fs.length + 1
  | [] => Nat.le_refl _
  | (g, w) :: fs => by
    have ih := putF_len f v fs
    unfold putF
    split
    · exact Nat.le_succ _
    · exact Nat.succ_le_succ ih
theorem pl1 (a : Str) (x : V) : (putF a x []).length < 1000 := Nat.lt_of_le_of_lt (putF_len _ _ _) (Nat.le_of_ble_eq_true rfl)
theorem pl2 (a b : Str) (x y : V) : (putF b y (putF a x [])).length < 1000 := Nat.lt_of_le_of_lt (putF_len _ _ _) (by
  have := putF_len a x []
  show (putF a x []).length + 1 < 1000
  have e : ([] : List (Str × V)).length = 0 := rfl
  omega)
theorem pl3 (a b c : Str) (x y z : V) : (putF c z (putF b y (putF a x []))).length < 1000 := Nat.lt_of_le_of_lt (putF_len _ _ _) (by
  have h1 := putF_len b y (putF a x [])
  have h2 := putF_len a x []
  have e : ([] : List (Str × V)).length = 0 := rfl
  omega)
theorem len_Links___init__ (K : PySem.W.Frag) : ∀ vs H Q E, sp_Links___init__ K vs H Q E → vs.length = (["self", "size"] : List Str).length := by
  rintro vs H Q E ⟨_, _, _, rfl, _⟩
  rfl
theorem rd_Links___init__ (T : Txt K mg) (vs : List V) (H : Hp) (Q : VK) (E : XK) (h : sp_Links___init__ K vs H Q E) : t_Links___init__ K E { nx := fun _ H' => Q .non H', rt := Q } (start ["self", "size"] vs) H := by
  obtain ⟨p, dx, size, rfl, hp, h1, h2⟩ := h
  unfold t_Links___init__
  walk_at "g"
  refine ⟨size, rfl, fun ok => ?_, h2⟩
  have h1 := h1 ok
  obtain ⟨ok1, ok2⟩ := ok
  obtain ⟨n, rfl⟩ : ∃ n : Nat, size = (n : Int) := ⟨size.toNat, by omega⟩
  rw [Int.toNat_natCast] at h1
  walk_at "g"
  refine w_sT T.cl_Links T.na_Links_size hp (by decide) fun H1 k1 p1 => ?_
  walk_at "g"
  refine ⟨.of_le (by omega) (by omega) (by omega) (by omega), nw fun r H2 nr k2 hr => ?_⟩
  walk_at "g"
  have pr : p ≠ r := ne_of_none p1 nr
  refine w_sT T.cl_Links T.na_Links__rights (k2.at0 p1) (pl1 _ _) fun H3 k3 p3 => ?_
  have hr3 := k3.at1 (Ne.symm pr) hr
  walk_at "g"
  refine ⟨sz_ok (by show 1 ≤ 1000000; omega), nw fun z H4 nz k4 hz => ?_⟩
  walk_at "g"
  refine ⟨.of_le (by omega) (by omega) (by omega) (by omega), nw fun l0 H5 nl0 k5 hl0 => ?_⟩
  walk_at "g"
  refine w_addLN (k5.at0 hz) hl0 (by rw [rgV_length]; exact sz_ok (by show 1 + _ ≤ _; omega)) fun l H6 nl k6 hl => ?_
  have k46 := (k4.trans k5).trans k6
  walk_at "g"
  have pl : p ≠ l := ne_of_none (k5.at0 (k4.at0 p3)) nl
  have rl : r ≠ l := ne_of_none (k5.at0 (k4.at0 hr3)) nl
  refine w_sT T.cl_Links T.na_Links__lefts (k46.at0 p3) (pl2 _ _ _ _) fun H7 k7 p7 => ?_
  have hr7 := k7.at1 (Ne.symm pr) (k46.at0 hr3)
  have hl7 := k7.at1 (Ne.symm pl) hl
  walk_at "g"
  refine ⟨sz_ok (by show 1 ≤ 1000000; omega), nw fun z2 H8 nz2 k8 hz2 => ?_⟩
  walk_at "g"
  refine w_mulLN hz2 (by omega) (by omega) (sz_ok (by show 1 * _ ≤ _; omega)) fun o H9 no k9 ho => ?_
  walk_at "g"
  have po : p ≠ o := ne_of_none (k8.at0 p7) no
  have ro : r ≠ o := ne_of_none (k8.at0 hr7) no
  have lo : l ≠ o := ne_of_none (k8.at0 hl7) no
  have k89 := k8.trans k9
  refine w_sT T.cl_Links T.na_Links__out (k89.at0 p7) (pl3 _ _ _ _ _ _) fun Hx kx px => ?_
  have k03 : Kp [p] H H3 := k1.trans (k2.all.trans k3)
  have k07 : Kp [p] H H7 := k03.trans (k46.all.trans k7)
  have k0x : Kp [p] H Hx := k07.trans (k89.all.trans kx)
  have mp : ∀ b, H b = none → H3 b = none → True := fun _ _ _ => trivial
  refine h1 r l o Hx (k1.free (by simpa using Ne.symm pr) nr) ?_ ?_ k0x ⟨⟨dx, px⟩, ?_, ?_, ?_, rl, ro, lo, .whole (by omega)⟩
  · exact (k03.trans (k4.trans k5).all).free (by simpa using Ne.symm pl) nl
  · exact (k07.trans k8.all).free (by simpa using Ne.symm po) no
  · rw [kx.at1 (Ne.symm pr) (k89.at0 hr7), rg_one'] <;> rfl
  · rw [kx.at1 (Ne.symm pl) (k89.at0 hl7), rg_nat'] <;> rfl
  · rw [kx.at1 (Ne.symm po) ho, show ((n : Int) + 2).toNat = n + 2 by omega, rep_flat, ← rep_mapB] <;> rfl
end
end G

set_option Elab.async false
set_option linter.all false
set_option maxRecDepth 100000
set_option maxHeartbeats 1000000
namespace G
--#FAM KH
open PySem PySem.Spec PyProof.Rows L2
local macro_rules
  | `(tactic| walk_at "1") => `(tactic| first
    | with_reducible refine w_seq ?_
    | with_reducible refine w_asg ?_
    | with_reducible refine w_asgS ?_
    | with_reducible refine w_asf ?_
    | with_reducible refine w_drop ?_
    | with_reducible refine w_ret ?_
    | with_reducible refine w_if ?_
    | with_reducible refine w_not ?_
    | with_reducible refine w_and ?_
    | with_reducible refine w_or ?_
    | with_reducible refine w_test ?_
    | with_reducible refine w_tb ?_
    | with_reducible refine w_chain ?_
    | with_reducible refine w_op ?_
    | with_reducible refine w_un ?_
    | with_reducible refine w_andV ?_
    | with_reducible refine w_orV ?_
    | with_reducible refine w_notV ?_
    | with_reducible refine w_ifE ?_
    | with_reducible refine w_cons ?_
    | with_reducible refine w_nil ?_
    | with_reducible refine w_cb ?_
    | with_reducible refine w_cl ?_
    | with_reducible refine w_mt ?_
    | with_reducible refine w_fld ?_
    | with_reducible refine w_tupN ?_
    | with_reducible refine w_lstN ?_
    | with_reducible refine w_bm ?_
    | with_reducible refine w_bm0 ?_
    | with_reducible refine w_for ?_
    | with_reducible refine w_lc ?_
    | with_reducible refine w_iR1 ?_
    | with_reducible refine w_iR2 ?_
    | with_reducible refine w_iL ?_
    | with_reducible refine w_iT ?_
    | with_reducible refine w_iE ?_
    | with_reducible refine w_iZ ?_
    | with_reducible refine w_var (by with_unfolding_all rfl) ?_
    | with_reducible refine w_c ?_
    | with_reducible refine w_next ?_
    | with_reducible refine w_i0 ?_
    | with_reducible refine w_u1 ?_
    | with_reducible refine w_addI ?_
    | with_reducible refine w_eqI ?_
    | with_reducible refine w_eqS ?_
    | with_reducible refine w_eqB ?_
    | with_reducible refine w_neI ?_
    | with_reducible refine w_neS ?_
    | with_reducible refine w_neB ?_
    | with_reducible refine w_abs ?_
    | with_reducible refine w_intI ?_
    | with_reducible refine w_min2 ?_
    | with_reducible refine w_max2 ?_
    | with_reducible refine w_isN0 ?_
    | with_reducible refine w_isN1 ref_ne ?_
    | with_reducible refine w_isN1 int_ne ?_
    | with_reducible refine w_notN0 ?_
    | with_reducible refine w_notN1 ref_ne ?_
    | with_reducible refine w_notN1 int_ne ?_
    | with_reducible refine w_ex1 ?_
    | with_reducible refine w_n1 ?_
    | with_reducible refine w_n2 ?_
    | with_reducible refine w_tT ?_
    | with_reducible refine w_tF ?_
    | with_reducible refine w_nT ?_
    | with_reducible refine w_nF ?_
    | with_reducible refine w_rz ?_
    | with_reducible refine w_mkN ?_
    | with_reducible refine w_lrgN ?_
    | with_reducible refine w_rg1 ?_
    | with_reducible refine w_rg2 ?_
    | with_reducible refine w_sl ?_
    | with_reducible refine w_np ?_
    | with_reducible refine w_pt ?_
    | with_reducible refine w_tr ?_
    | with_reducible refine w_gn ?_
    | with_reducible refine w_yes ?_
    | with_reducible refine w_m1 ?_
    | with_reducible refine w_asu ?_
    | with_reducible refine w_exS ?_
    | with_reducible refine w_iS ?_
    | with_reducible refine w_g1 ?_
    | with_reducible refine w_gc ?_
    | with_reducible refine w_gt (SqT.of upd_same) rfl ?_)
local macro_rules
  | `(tactic| walk_at "g") => `(tactic| repeat walk_at "1")
local macro_rules
  | `(tactic| walk_at "j1") => `(tactic| first
    | with_reducible refine w_seqI ?_
    | walk_at "1")
local macro_rules
  | `(tactic| walk_at "j") => `(tactic| repeat walk_at "j1")
section
variable {K : PySem.W.Frag} {mg : Str → Option Value}
theorem Kp.cut {S S' : List Addr} {H H' : Hp} (k : Kp S H H') (h : ∀ b ∈ S, b ∈ S' ∨ H b = none) : Kp S' H H' := fun b o n e => k b o (fun z => by
  rcases h b z with q | q
  · exact n q
  · rw [q] at e
    cases e) e
theorem Kp.cut1 {H H' : Hp} {p : Addr} (k : Kp [p] H H') (h : H p = none) : Kp [] H H' := k.cut (by simp [h])
theorem at_map {α : Type} {f : α → V} {l : List α} {i : Nat} {x : V} (h : (l.map f)[i]? = some x) : ∃ y, l[i]? = some y ∧ f y = x := by
  rw [List.getElem?_map] at h
  cases e : l[i]? with
  | none => rw [e] at h; cases h
  | some y => rw [e] at h; exact ⟨y, rfl, by injection h⟩
theorem take_snoc {α : Type} {l : List α} {i : Nat} {x : α} (h : l[i]? = some x) : l.take (i + 1) = l.take i ++ [x] := by
  rw [List.take_succ, h] <;> rfl
theorem len_gap_states (K : PySem.W.Frag) : ∀ vs H Q E, sp_gap_states K vs H Q E → vs.length = (["links"] : List Str).length := by
  rintro vs H Q E ⟨_, _, _, _, _, rfl, _⟩
  rfl
theorem rd_gap_states (T : Txt K mg) (vs : List V) (H : Hp) (Q : VK) (E : XK) (h : sp_gap_states K vs H Q E) : t_gap_states K E { nx := fun _ H' => Q .non H', rt := Q } (start ["links", "gap"] vs) H := by
  obtain ⟨p, r, l, o, s, rfl, a, g⟩ := h
  unfold t_gap_states
  walk_at "g"
  refine w_fS T.cl_Links T.na_Links_size a ?_
  walk_at "g"
  have n60 := a.wf.n60
  refine w_r1 (by omega) ?_
  rw [show ((s.n : Int) + 1).toNat = s.n + 1 by omega]
  refine cp_rng (fun i => (List.range i).map fun (v : Nat) => V.str (stT s v)) (fun i hi => sz_lt (by rw [List.length_map, List.length_range]; omega)) rfl ?_ (fun D H' n k h => g D H' n k h)
  intro i H' S N hi k y nn
  walk_at "g"
  refine ⟨rfl, ?_⟩
  walk_at "g"
  rw [Int.zero_add]
  refine ⟨p, r, l, o, s, (i : Int), rfl, a.k0 k, fun _ => ?_, fun bad => absurd ⟨by omega, by omega⟩ bad⟩
  refine y _ _ (Kp.refl _ _) ?_
  rw [List.range_succ, List.map_append, Int.toNat_natCast] <;> rfl
end
end G

set_option Elab.async false
set_option linter.all false
set_option maxRecDepth 100000
set_option maxHeartbeats 1000000
namespace G
--#FAM KH
open PySem PySem.Spec PyProof.Rows L2
local macro_rules
  | `(tactic| walk_at "1") => `(tactic| first
    | with_reducible refine w_seq ?_
    | with_reducible refine w_asg ?_
    | with_reducible refine w_asgS ?_
    | with_reducible refine w_asf ?_
    | with_reducible refine w_drop ?_
    | with_reducible refine w_ret ?_
    | with_reducible refine w_if ?_
    | with_reducible refine w_not ?_
    | with_reducible refine w_and ?_
    | with_reducible refine w_or ?_
    | with_reducible refine w_test ?_
    | with_reducible refine w_tb ?_
    | with_reducible refine w_chain ?_
    | with_reducible refine w_op ?_
    | with_reducible refine w_un ?_
    | with_reducible refine w_andV ?_
    | with_reducible refine w_orV ?_
    | with_reducible refine w_notV ?_
    | with_reducible refine w_ifE ?_
    | with_reducible refine w_cons ?_
    | with_reducible refine w_nil ?_
    | with_reducible refine w_cb ?_
    | with_reducible refine w_cl ?_
    | with_reducible refine w_mt ?_
    | with_reducible refine w_fld ?_
    | with_reducible refine w_tupN ?_
    | with_reducible refine w_lstN ?_
    | with_reducible refine w_bm ?_
    | with_reducible refine w_bm0 ?_
    | with_reducible refine w_for ?_
    | with_reducible refine w_lc ?_
    | with_reducible refine w_iR1 ?_
    | with_reducible refine w_iR2 ?_
    | with_reducible refine w_iL ?_
    | with_reducible refine w_iT ?_
    | with_reducible refine w_iE ?_
    | with_reducible refine w_iZ ?_
    | with_reducible refine w_var (by with_unfolding_all rfl) ?_
    | with_reducible refine w_c ?_
    | with_reducible refine w_next ?_
    | with_reducible refine w_i0 ?_
    | with_reducible refine w_u1 ?_
    | with_reducible refine w_addI ?_
    | with_reducible refine w_eqI ?_
    | with_reducible refine w_eqS ?_
    | with_reducible refine w_eqB ?_
    | with_reducible refine w_neI ?_
    | with_reducible refine w_neS ?_
    | with_reducible refine w_neB ?_
    | with_reducible refine w_abs ?_
    | with_reducible refine w_intI ?_
    | with_reducible refine w_min2 ?_
    | with_reducible refine w_max2 ?_
    | with_reducible refine w_isN0 ?_
    | with_reducible refine w_isN1 ref_ne ?_
    | with_reducible refine w_isN1 int_ne ?_
    | with_reducible refine w_notN0 ?_
    | with_reducible refine w_notN1 ref_ne ?_
    | with_reducible refine w_notN1 int_ne ?_
    | with_reducible refine w_ex1 ?_
    | with_reducible refine w_n1 ?_
    | with_reducible refine w_n2 ?_
    | with_reducible refine w_tT ?_
    | with_reducible refine w_tF ?_
    | with_reducible refine w_nT ?_
    | with_reducible refine w_nF ?_
    | with_reducible refine w_rz ?_
    | with_reducible refine w_mkN ?_
    | with_reducible refine w_lrgN ?_
    | with_reducible refine w_rg1 ?_
    | with_reducible refine w_rg2 ?_
    | with_reducible refine w_sl ?_
    | with_reducible refine w_np ?_
    | with_reducible refine w_pt ?_
    | with_reducible refine w_tr ?_
    | with_reducible refine w_gn ?_
    | with_reducible refine w_yes ?_
    | with_reducible refine w_m1 ?_
    | with_reducible refine w_asu ?_
    | with_reducible refine w_exS ?_
    | with_reducible refine w_iS ?_
    | with_reducible refine w_g1 ?_
    | with_reducible refine w_gc ?_
    | with_reducible refine w_gt (SqT.of upd_same) rfl ?_)
local macro_rules
  | `(tactic| walk_at "g") => `(tactic| repeat walk_at "1")
local macro_rules
  | `(tactic| walk_at "j1") => `(tactic| first
    | with_reducible refine w_seqI ?_
    | walk_at "1")
local macro_rules
  | `(tactic| walk_at "j") => `(tactic| repeat walk_at "j1")
section
variable {K : PySem.W.Frag} {mg : Str → Option Value}
theorem cmulR {i j : Int} (h1 : -(2 ^ 64) < j) (h2 : j < 2 ^ 64) : CMul i j := .inr ⟨h1, h2⟩
theorem cmulL {i j : Int} (h1 : -(2 ^ 64) < i) (h2 : i < 2 ^ 64) : CMul i j := .inl ⟨h1, h2⟩
theorem w_isiTu {b : Addr} {H : Hp} {Q : VK} {x : V} {d : PyData} (h : Vl b H x d) (g : Q (.bl (isTu d)) H) : rIsi K [x, .ty "tuple"] H Q := by
  cases h with
  | non => exact ⟨_, _, _, _, false, rfl, .ty _, .base .non, kit_ty (by decide +kernel), g⟩
  | bl k => exact ⟨_, _, _, _, false, rfl, .ty _, .base (.bl k), kit_ty (by decide +kernel), g⟩
  | int i => exact ⟨_, _, _, _, false, rfl, .ty _, .base (.int i), kit_ty (by decide +kernel), g⟩
  | str s => exact ⟨_, _, _, _, false, rfl, .ty _, .base (.str s), kit_ty (by decide +kernel), g⟩
  | lst ne hs ha => exact ⟨_, _, _, _, false, rfl, .ty _, .base (.lst hs), kit_ty (by decide +kernel), g⟩
  | tup ne hs ha => exact ⟨_, _, _, _, true, rfl, .ty _, .base (.tup hs), kit_ty (by decide +kernel), g⟩
def isBo : PyData → Bool
  | .bool _ => true
  | _ => false
def isIB : PyData → Bool
  | .bool _ => true
  | .int _ => true
  | _ => false
theorem w_isiIn {b : Addr} {H : Hp} {Q : VK} {x : V} {d : PyData} (h : Vl b H x d) (g : Q (.bl (isIB d)) H) : rIsi K [x, .ty "int"] H Q := by
  cases h with
  | non => exact ⟨_, _, _, _, false, rfl, .ty _, .base .non, kit_ty (by decide +kernel), g⟩
  | bl k => exact ⟨_, _, _, _, true, rfl, .ty _, .base (.bl k), kit_ty (by decide +kernel), g⟩
  | int i => exact ⟨_, _, _, _, true, rfl, .ty _, .base (.int i), kit_ty (by decide +kernel), g⟩
  | str s => exact ⟨_, _, _, _, false, rfl, .ty _, .base (.str s), kit_ty (by decide +kernel), g⟩
  | lst ne hs ha => exact ⟨_, _, _, _, false, rfl, .ty _, .base (.lst hs), kit_ty (by decide +kernel), g⟩
  | tup ne hs ha => exact ⟨_, _, _, _, false, rfl, .ty _, .base (.tup hs), kit_ty (by decide +kernel), g⟩
theorem w_isiBo {b : Addr} {H : Hp} {Q : VK} {x : V} {d : PyData} (h : Vl b H x d) (g : Q (.bl (isBo d)) H) : rIsi K [x, .ty "bool"] H Q := by
  cases h with
  | non => exact ⟨_, _, _, _, false, rfl, .ty _, .base .non, kit_ty (by decide +kernel), g⟩
  | bl k => exact ⟨_, _, _, _, true, rfl, .ty _, .base (.bl k), kit_ty (by decide +kernel), g⟩
  | int i => exact ⟨_, _, _, _, false, rfl, .ty _, .base (.int i), kit_ty (by decide +kernel), g⟩
  | str s => exact ⟨_, _, _, _, false, rfl, .ty _, .base (.str s), kit_ty (by decide +kernel), g⟩
  | lst ne hs ha => exact ⟨_, _, _, _, false, rfl, .ty _, .base (.lst hs), kit_ty (by decide +kernel), g⟩
  | tup ne hs ha => exact ⟨_, _, _, _, false, rfl, .ty _, .base (.tup hs), kit_ty (by decide +kernel), g⟩
theorem len_is_plain_integer (K : PySem.W.Frag) : ∀ vs H Q E, sp_is_plain_integer K vs H Q E → vs.length = (["value"] : List Str).length := by
  rintro vs H Q E ⟨_, _, _, rfl, _⟩
  rfl
theorem rd_is_plain_integer (T : Txt K mg) (vs : List V) (H : Hp) (Q : VK) (E : XK) (h : sp_is_plain_integer K vs H Q E) : t_is_plain_integer K E { nx := fun _ H' => Q .non H', rt := Q } (start ["value"] vs) H := by
  obtain ⟨b, x, d, rfl, hv, g⟩ := h
  unfold t_is_plain_integer
  walk_at "g"
  refine w_isiIn hv ?_
  have e : isI d = (isIB d && !isBo d) := by cases d <;> rfl
  rw [e] at g
  cases c : isIB d with
  | false =>
    rw [c] at g
    walk_at "g"
    exact g
  | true =>
    rw [c, Bool.true_and] at g
    walk_at "g"
    refine w_isiBo hv ?_
    walk_at "g"
    exact g
theorem len__law_number (K : PySem.W.Frag) : ∀ vs H Q E, sp__law_number K vs H Q E → vs.length = (["told"] : List Str).length := by
  rintro vs H Q E ⟨_, _, _, rfl, _⟩
  rfl
theorem rd__law_number (T : Txt K mg) (vs : List V) (H : Hp) (Q : VK) (E : XK) (h : sp__law_number K vs H Q E) : t__law_number K E { nx := fun _ H' => Q .non H', rt := Q } (start ["told"] vs) H := by
  obtain ⟨b, x, d, rfl, hv, g⟩ := h
  unfold t__law_number
  walk_at "g"
  refine w_isiIn hv ?_
  have e : isI d = (isIB d && !isBo d) := by cases d <;> rfl
  rw [e] at g
  cases c : isIB d with
  | false =>
    rw [c] at g
    walk_at "g"
    exact g
  | true =>
    rw [c, Bool.true_and] at g
    walk_at "g"
    refine w_isiBo hv ?_
    walk_at "g"
    exact g
theorem len__law_bag (K : PySem.W.Frag) : ∀ vs H Q E, sp21__law_bag K vs H Q E → vs.length = (["script"] : List Str).length := by
  rintro vs H Q E ⟨_, _, rfl, _⟩
  rfl
theorem rd__law_bag (T : Txt K mg) (vs : List V) (H : Hp) (Q : VK) (E : XK) (h : sp21__law_bag K vs H Q E) : t__law_bag K E { nx := fun _ H' => Q .non H', rt := Q } (start ["script"] vs) H := by
  obtain ⟨a, ns, rfl, hs, hl, g⟩ := h
  unfold t__law_bag
  have e63 : cutV (ns.map V.int) none (some 63) = ns.map V.int := by
    unfold cutV
    have : HT.sIx (ns.map V.int).length (ns.map V.int).length (some 63) = (ns.map V.int).length := by
      rw [show (63 : Int) = ((63 : Nat) : Int) from rfl, HT.sIx_nat]
      rw [List.length_map]
      omega
    rw [this, HT.sIx_none, List.drop_zero, Nat.sub_zero, List.take_length]
  walk_at "g"
  refine w_slL hs fun q H1 nq k1 hq => ?_
  rw [e63] at hq
  walk_at "g"
  refine ⟨sz_ok (by show 5 ≤ 1000000; omega), nw fun b H2 nb k2 hb => ?_⟩
  exact g b q H2 (k1.free0 nb) nq (k1.trans k2) ⟨⟨_, _, _, _, hb, by omega⟩, ns, k2.at0 hq, hl⟩
theorem len__law_whole (K : PySem.W.Frag) : ∀ vs H Q E, sp21__law_whole K vs H Q E → vs.length = (["size"] : List Str).length := by
  rintro vs H Q E ⟨_, rfl, _⟩
  rfl
theorem rd__law_whole (T : Txt K mg) (vs : List V) (H : Hp) (Q : VK) (E : XK) (h : sp21__law_whole K vs H Q E) : t__law_whole K E { nx := fun _ H' => Q .non H', rt := Q } (start ["size", "node"] vs) H := by
  obtain ⟨n, rfl, hn, g⟩ := h
  unfold t__law_whole
  walk_at "g"
  refine w_r1 (by omega) ?_
  refine cp_rng (fun i => (rgI (-1) i).map V.int) (fun i hi => sz_lt (by rw [List.length_map, rgI_len]; omega)) rfl (fun i H' S N hi k y _ => ?_) (fun l H1 nl k1 hl => ?_)
  · walk_at "g"
    refine ⟨rfl, ?_⟩
    walk_at "g"
    refine y _ _ (Kp.refl _ _) ?_
    unfold rgI
    rw [List.range_succ, List.map_append, List.map_append, show (0 : Int) + (i : Int) - 1 = -1 + (i : Int) by omega] <;> rfl
  rw [show ((n : Int) + 2).toNat = n + 2 by omega] at hl
  walk_at "g"
  refine w_r1 (by omega) ?_
  refine cp_rng (fun i => (rgI 1 i).map V.int) (fun i hi => sz_lt (by rw [List.length_map, rgI_len]; omega)) rfl (fun i H' S N hi k y _ => ?_) (fun r H2 nr k2 hr => ?_)
  · walk_at "g"
    refine ⟨rfl, ?_⟩
    walk_at "g"
    refine y _ _ (Kp.refl _ _) ?_
    unfold rgI
    rw [List.range_succ, List.map_append, List.map_append, show (0 : Int) + (i : Int) + 1 = 1 + (i : Int) by omega] <;> rfl
  rw [show ((n : Int) + 2).toNat = n + 2 by omega] at hr
  walk_at "g"
  refine w_r1 (by omega) ?_
  refine cp_rng (fun i => (List.replicate i false).map V.bl) (fun i hi => sz_lt (by rw [List.length_map, List.length_replicate]; omega)) rfl (fun i H' S N hi k y _ => ?_) (fun o H3 no k3 ho => ?_)
  · walk_at "g"
    refine ⟨rfl, ?_⟩
    walk_at "g"
    refine y _ _ (Kp.refl _ _) ?_
    rw [List.replicate_succ', List.map_append] <;> rfl
  rw [show ((n : Int) + 2).toNat = n + 2 by omega] at ho
  walk_at "g"
  refine ⟨sz_ok (by show 4 ≤ 1000000; omega), nw fun w H4 nw k4 hw => ?_⟩
  have hl3 := (k2.trans k3).at0 hl
  have hr3 := k3.at0 hr
  refine g w l r o H4 (((k1.trans k2).trans k3).free0 nw) nl (k1.free0 nr) ((k1.trans k2).free0 no) (((k1.trans k2).trans k3).trans k4)
    ⟨hw, ⟨_, k4.at0 hl3, by rw [rgI_len] <;> rfl, fun v h1 h2 => ?_⟩, ⟨_, k4.at0 hr3, by rw [rgI_len] <;> rfl, fun v h2 => ?_⟩, k4.at0 ho, ⟨ne_of_none hl nr, ne_of_none (k2.at0 hl) no, ne_of_none hr no, (ne_of_none hl3 nw).symm, (ne_of_none hr3 nw).symm, (ne_of_none ho nw).symm⟩, .whole hn⟩
  · have h2 : v ≤ n + 1 := h2
    show _ = gI (0 :: rgI 0 (n + 1)) v
    obtain ⟨u, rfl⟩ : ∃ u, v = u + 1 := ⟨v - 1, by omega⟩
    show _ = gI (rgI 0 (n + 1)) u
    rw [gI_range (by omega), gI_range (by omega)]
    omega
  · have h2 : v ≤ n := h2
    show _ = gI (rgI 1 (n + 1)) v
    rw [gI_range (by omega), gI_range (by omega)]
theorem len__law_operation (K : PySem.W.Frag) : ∀ vs H Q E, sp__law_operation K vs H Q E → vs.length = (["book", "node"] : List Str).length := by
  rintro vs H Q E ⟨_, _, _, _, _, _, rfl, _⟩
  rfl
theorem rd__law_operation (T : Txt K mg) (vs : List V) (H : Hp) (Q : VK) (E : XK) (h : sp__law_operation K vs H Q E) : t__law_operation K E { nx := fun _ H' => Q .non H', rt := Q } (start ["book", "node"] vs) H := by
  obtain ⟨w, l, r, o, s, v, rfl, a, v1, g⟩ := h
  unfold t__law_operation
  have lO := a.wf.lO
  walk_at "g"
  refine w_ixL (SqL.of a.ob) (i := 3) (v := .ref o) rfl ?_
  walk_at "g"
  refine w_ixL (SqL.of a.ho) (at_B (by omega) (by omega)) ?_
  rw [Int.toNat_natCast]
  unfold legO at g
  walk_at "g"
  refine w_iteB (fun c => ?_) (fun c => ?_)
  · rw [if_pos c] at g
    walk_at "g"
    exact g
  · rw [if_neg (by rw [c]; exact Bool.false_ne_true)] at g
    walk_at "g"
    exact g
theorem len__law_state (K : PySem.W.Frag) : ∀ vs H Q E, sp21__law_state K vs H Q E → vs.length = (["book", "gap"] : List Str).length := by
  rintro vs H Q E ⟨_, _, _, _, _, _, rfl, _⟩
  rfl
theorem rd__law_state (T : Txt K mg) (vs : List V) (H : Hp) (Q : VK) (E : XK) (h : sp21__law_state K vs H Q E) : t__law_state K E { nx := fun _ H' => Q .non H', rt := Q } (start ["book", "gap", "low", "high"] vs) H := by
  obtain ⟨w, l, r, o, s, g', rfl, a, hg, g⟩ := h
  unfold t__law_state
  obtain ⟨L', hL, lL, eL⟩ := a.hl
  obtain ⟨R', hR, lR, eR⟩ := a.hr
  walk_at "g"
  refine w_ixL (SqL.of a.ob) (i := 2) (v := .ref r) rfl ?_
  walk_at "g"
  refine w_ixL (SqL.of hR) (at_I (by omega) (by omega)) ?_
  rw [Int.toNat_natCast, eR _ hg]
  walk_at "g"
  refine w_ixL (SqL.of a.ob) (i := 1) (v := .ref l) rfl ?_
  walk_at "g"
  refine w_ixL (SqL.of hL) (at_I (by omega) (by omega)) ?_
  rw [show ((g' : Int) + 1).toNat = g' + 1 by omega, eL _ (by omega) (by omega)]
  unfold stT at g
  walk_at "g"
  by_cases c1 : gI s.R g' = (g' : Int) + 1
  · rw [if_pos c1] at g
    rw [decide_eq_true c1]
    by_cases c2 : gI s.L (g' + 1) = (g' : Int)
    · rw [if_pos c2] at g
      rw [decide_eq_true c2]
      walk_at "g"
      exact g
    · rw [if_neg c2] at g
      rw [decide_eq_false c2]
      walk_at "g"
      exact g
  · rw [if_neg c1] at g
    rw [decide_eq_false c1]
    by_cases c2 : gI s.L (g' + 1) = (g' : Int)
    · rw [if_pos c2] at g
      rw [decide_eq_true c2]
      walk_at "g"
      exact g
    · rw [if_neg c2] at g
      rw [decide_eq_false c2]
      walk_at "g"
      exact g
theorem len__law_fits (K : PySem.W.Frag) : ∀ vs H Q E, sp21__law_fits K vs H Q E → vs.length = (["told", "word", "first", "second"] : List Str).length := by
  rintro vs H Q E ⟨_, _, _, _, rfl, _⟩
  rfl
theorem rd__law_fits (T : Txt K mg) (vs : List V) (H : Hp) (Q : VK) (E : XK) (h : sp21__law_fits K vs H Q E) : t__law_fits K E { nx := fun _ H' => Q .non H', rt := Q } (start ["told", "word", "first", "second"] vs) H := by
  obtain ⟨t, w, i, j, rfl, ht, g⟩ := h
  unfold t__law_fits
  have vi : ∀ i : Int, Vl t H (.int i) (.int i) := fun i => .int i
  walk_at "g"
  refine w_ixT (SqT.of ht) at_0 ?_
  walk_at "g"
  rw [decide_eq_true rfl]
  walk_at "g"
  refine w_ixT (SqT.of ht) (i := 1) (v := .int i) rfl ?_
  walk_at "g"
  refine ⟨t, _, _, rfl, vi i, ?_⟩
  rw [show isI (PyData.int i) = true from rfl]
  walk_at "g"
  refine w_ixT (SqT.of ht) (i := 2) (v := .int j) rfl ?_
  walk_at "g"
  refine ⟨t, _, _, rfl, vi j, ?_⟩
  rw [show isI (PyData.int j) = true from rfl]
  walk_at "g"
  refine w_ixT (SqT.of ht) (i := 1) (v := .int i) rfl ?_
  walk_at "g"
  rw [decide_eq_true rfl]
  walk_at "g"
  refine w_ixT (SqT.of ht) (i := 2) (v := .int j) rfl ?_
  walk_at "g"
  rw [decide_eq_true rfl]
  exact g
theorem len__law_truth (K : PySem.W.Frag) : ∀ vs H Q E, sp__law_truth K vs H Q E → vs.length = (["number"] : List Str).length := by
  rintro vs H Q E ⟨_, rfl, _⟩
  rfl
theorem rd__law_truth (T : Txt K mg) (vs : List V) (H : Hp) (Q : VK) (E : XK) (h : sp__law_truth K vs H Q E) : t__law_truth K E { nx := fun _ H' => Q .non H', rt := Q } (start ["number"] vs) H := by
  obtain ⟨i, rfl, g⟩ := h
  unfold t__law_truth
  walk_at "g"
  refine w_iteD (fun c => ?_) (fun c => ?_)
  · walk_at "g"
    exact g _ (.inr ⟨_, rfl⟩)
  · walk_at "g"
    refine w_iteD (fun c2 => ?_) (fun c2 => ?_)
    · walk_at "g"
      exact g _ (.inr ⟨_, rfl⟩)
    · walk_at "g"
      exact g _ (.inl rfl)
end
end G

set_option Elab.async false
set_option linter.all false
set_option maxRecDepth 100000
set_option maxHeartbeats 1000000
namespace G
--#FAM KH
open PySem PySem.Spec PyProof.Rows L2
local macro_rules
  | `(tactic| walk_at "1") => `(tactic| first
    | with_reducible refine w_seq ?_
    | with_reducible refine w_asg ?_
    | with_reducible refine w_asgS ?_
    | with_reducible refine w_asf ?_
    | with_reducible refine w_drop ?_
    | with_reducible refine w_ret ?_
    | with_reducible refine w_if ?_
    | with_reducible refine w_not ?_
    | with_reducible refine w_and ?_
    | with_reducible refine w_or ?_
    | with_reducible refine w_test ?_
    | with_reducible refine w_tb ?_
    | with_reducible refine w_chain ?_
    | with_reducible refine w_op ?_
    | with_reducible refine w_un ?_
    | with_reducible refine w_andV ?_
    | with_reducible refine w_orV ?_
    | with_reducible refine w_notV ?_
    | with_reducible refine w_ifE ?_
    | with_reducible refine w_cons ?_
    | with_reducible refine w_nil ?_
    | with_reducible refine w_cb ?_
    | with_reducible refine w_cl ?_
    | with_reducible refine w_mt ?_
    | with_reducible refine w_fld ?_
    | with_reducible refine w_tupN ?_
    | with_reducible refine w_lstN ?_
    | with_reducible refine w_bm ?_
    | with_reducible refine w_bm0 ?_
    | with_reducible refine w_for ?_
    | with_reducible refine w_lc ?_
    | with_reducible refine w_iR1 ?_
    | with_reducible refine w_iR2 ?_
    | with_reducible refine w_iL ?_
    | with_reducible refine w_iT ?_
    | with_reducible refine w_iE ?_
    | with_reducible refine w_iZ ?_
    | with_reducible refine w_var (by with_unfolding_all rfl) ?_
    | with_reducible refine w_c ?_
    | with_reducible refine w_next ?_
    | with_reducible refine w_i0 ?_
    | with_reducible refine w_u1 ?_
    | with_reducible refine w_addI ?_
    | with_reducible refine w_eqI ?_
    | with_reducible refine w_eqS ?_
    | with_reducible refine w_eqB ?_
    | with_reducible refine w_neI ?_
    | with_reducible refine w_neS ?_
    | with_reducible refine w_neB ?_
    | with_reducible refine w_abs ?_
    | with_reducible refine w_intI ?_
    | with_reducible refine w_min2 ?_
    | with_reducible refine w_max2 ?_
    | with_reducible refine w_isN0 ?_
    | with_reducible refine w_isN1 ref_ne ?_
    | with_reducible refine w_isN1 int_ne ?_
    | with_reducible refine w_notN0 ?_
    | with_reducible refine w_notN1 ref_ne ?_
    | with_reducible refine w_notN1 int_ne ?_
    | with_reducible refine w_ex1 ?_
    | with_reducible refine w_n1 ?_
    | with_reducible refine w_n2 ?_
    | with_reducible refine w_tT ?_
    | with_reducible refine w_tF ?_
    | with_reducible refine w_nT ?_
    | with_reducible refine w_nF ?_
    | with_reducible refine w_rz ?_
    | with_reducible refine w_mkN ?_
    | with_reducible refine w_lrgN ?_
    | with_reducible refine w_rg1 ?_
    | with_reducible refine w_rg2 ?_
    | with_reducible refine w_sl ?_
    | with_reducible refine w_np ?_
    | with_reducible refine w_pt ?_
    | with_reducible refine w_tr ?_
    | with_reducible refine w_gn ?_
    | with_reducible refine w_yes ?_
    | with_reducible refine w_m1 ?_
    | with_reducible refine w_asu ?_
    | with_reducible refine w_exS ?_
    | with_reducible refine w_iS ?_
    | with_reducible refine w_g1 ?_
    | with_reducible refine w_gc ?_
    | with_reducible refine w_gt (SqT.of upd_same) rfl ?_)
local macro_rules
  | `(tactic| walk_at "g") => `(tactic| repeat walk_at "1")
local macro_rules
  | `(tactic| walk_at "j1") => `(tactic| first
    | with_reducible refine w_seqI ?_
    | walk_at "1")
local macro_rules
  | `(tactic| walk_at "j") => `(tactic| repeat walk_at "j1")
section
variable {K : PySem.W.Frag} {mg : Str → Option Value}
theorem tsn {l : List Int} {i : Nat} {x : Int} (h : l[i]? = some x) : l.take (i + 1) = l.take i ++ [x] := by
  rw [List.take_succ, h] <;> rfl
theorem atB {l : List Bool} {i : Nat} (h : i < l.length) : atI (l.map V.bl) (i : Int) = some (.bl (gB l i)) := at_B (by omega) (by omega)
theorem len__law_step (K : PySem.W.Frag) : ∀ vs H Q E, sp21__law_step K vs H Q E → vs.length = (["book", "node"] : List Str).length := by
  rintro vs H Q E ⟨_, _, _, _, _, _, rfl, _⟩
  rfl
theorem rd__law_step (T : Txt K mg) (vs : List V) (H : Hp) (Q : VK) (E : XK) (h : sp21__law_step K vs H Q E) : t__law_step K E { nx := fun _ H' => Q .non H', rt := Q } (start ["book", "node", "lefts", "rights", "outs", "low", "high"] vs) H := by
  obtain ⟨w, l, r, o, s, v, rfl, a, v1, v2, g⟩ := h
  unfold t__law_step
  obtain ⟨ok, na⟩ := legO_ok' (s := s) v1 v2
  obtain ⟨L', hL, lL, eL⟩ := a.hl
  obtain ⟨R', hR, lR, eR⟩ := a.hr
  obtain ⟨n1, n2, n3, n4, n5, n6⟩ := a.ne
  have wf := a.wf
  have lO := wf.lO
  obtain ⟨t1, t2, t3, t4, t5⟩ := touch_bd wf ok.1
  have sR := step_gR wf ok.1
  have sL := step_gL wf ok.1
  rw [na] at t1 t2 t4 t5
  have eO : (stepS s (legO s v)).O = s.O.set v (decide (legO s v < 0)) := by
    show s.O.set (legO s v).natAbs _ = _
    rw [na]
  have wf2 : Wf (stepS s (legO s v)) := wf.step ok.1
  have n2' : (stepS s (legO s v)).n = s.n := rfl
  have ir : ixN (R'.map V.int).length (lowN s (legO s v) : Int) = some (lowN s (legO s v)) := by rw [ixN_pos (by omega) (by rw [List.length_map]; omega), Int.toNat_natCast]
  have il : ixN (L'.map V.int).length ((hiN s (legO s v) : Int) + 1) = some (hiN s (legO s v) + 1) := by rw [ixN_pos (by omega) (by rw [List.length_map]; omega), show ((hiN s (legO s v) : Int) + 1).toNat = hiN s (legO s v) + 1 by omega]
  have io : ixN (s.O.map V.bl).length (v : Int) = some v := by rw [ixN_pos (by omega) (by rw [List.length_map]; omega), Int.toNat_natCast]
  walk_at "j"
  refine w_ixL (SqL.of a.ob) (i := 1) (v := .ref l) rfl ?_
  walk_at "j"
  refine w_ixL (SqL.of a.ob) (i := 2) (v := .ref r) rfl ?_
  walk_at "j"
  refine w_ixL (SqL.of a.ob) (i := 3) (v := .ref o) rfl ?_
  walk_at "j"
  refine w_ixL (SqL.of hL) (at_I (by omega) (by omega)) ?_
  rw [Int.toNat_natCast, eL _ v1 (by omega), t4]
  walk_at "j"
  refine w_ixL (SqL.of hR) (at_I (by omega) (by omega)) ?_
  rw [Int.toNat_natCast, eR _ v2, t5]
  walk_at "j"
  refine w_ifK (fun H' => ∃ H1, Kp [r] H H1 ∧ H1 r = some (.lst ((R'.map V.int).set (lowN s (legO s v)) (.int (if legO s v < 0 then (hiN s (legO s v) : Int) + 1 else (v : Int))))) ∧ Kp [l] H1 H' ∧ H' l = some (.lst ((L'.map V.int).set (hiN s (legO s v) + 1) (.int (if legO s v < 0 then (lowN s (legO s v) : Int) else (v : Int)))))) (fun N hN => ?_) (fun H2 ⟨H1, k1, h1, k2, h2⟩ => ?_)
  · walk_at "g"
    refine w_ixL (SqL.of a.ho) (atB (by omega)) ?_
    walk_at "g"
    refine w_iteB (fun c => ?_) (fun c => ?_)
    · have e : ¬ legO s v < 0 := by
        unfold legO
        rw [if_pos c]
        omega
      rw [if_neg e, if_neg e] at hN
      walk_at "g"
      refine w_seT hR ir fun H1 k1 h1 => ?_
      walk_at "g"
      refine w_seT (k1.at1 n1 hL) il fun H2 k2 h2 => ?_
      exact hN _ ⟨H1, k1, h1, k2, h2⟩
    · have e : legO s v < 0 := by
        unfold legO
        rw [if_neg (by rw [c]; exact Bool.false_ne_true)]
        omega
      rw [if_pos e, if_pos e] at hN
      walk_at "g"
      refine w_seT hR ir fun H1 k1 h1 => ?_
      walk_at "g"
      refine w_seT (k1.at1 n1 hL) il fun H2 k2 h2 => ?_
      exact hN _ ⟨H1, k1, h1, k2, h2⟩
  have ho2 := k2.at1 (Ne.symm n2) (k1.at1 (Ne.symm n3) a.ho)
  walk_at "g"
  refine w_ixL (SqL.of ho2) (atB (by omega)) ?_
  walk_at "g"
  refine w_seT ho2 io fun H3 k3 h3 => ?_
  have ev : (!gB s.O v) = decide (legO s v < 0) := by
    unfold legO
    by_cases c : gB s.O v = true
    · rw [if_pos c, c, decide_eq_false (by omega)] <;> rfl
    · rw [if_neg c, decide_eq_true (by omega), (Bool.not_eq_true _).mp c] <;> rfl
  have kk : Kp [l, r, o] H H3 := ((k1.mono (by simp)).trans (k2.mono (by simp))).trans (k3.mono (by simp))
  refine g H3 kk ⟨kk _ _ (by simp [n4, n5, n6]) a.ob, ⟨L'.set (hiN s (legO s v) + 1) (if legO s v < 0 then (lowN s (legO s v) : Int) else (v : Int)), ?_, by rw [List.length_set, lL] <;> rfl, fun u u1 u2 => ?_⟩, ⟨R'.set (lowN s (legO s v)) (if legO s v < 0 then (hiN s (legO s v) : Int) + 1 else (v : Int)), ?_, by rw [List.length_set, lR] <;> rfl, fun u u2 => ?_⟩, ?_, a.ne, wf2⟩
  · rw [k3.at1 n2 h2, set_I]
  · obtain ⟨y, rfl⟩ : ∃ y, u = y + 1 := ⟨u - 1, by omega⟩
    rw [gI_set (by rw [lL]; omega), sL y, na]
    by_cases c : y = hiN s (legO s v)
    · rw [if_pos (by omega), if_pos c]
    · rw [if_neg (by omega), if_neg c]
      exact eL _ (by omega) (by rw [n2'] at u2; omega)
  · rw [k3.at1 n3 (k2.at1 (Ne.symm n1) h1), set_I]
  · rw [gI_set (by rw [lR]; omega), sR u, na]
    by_cases c : u = lowN s (legO s v)
    · rw [if_pos c, if_pos c]
    · rw [if_neg c, if_neg c]
      exact eR _ u2
  · rw [h3, eO, ← ev, List.map_set]
end
end G

set_option Elab.async false
set_option linter.all false
set_option maxRecDepth 100000
set_option maxHeartbeats 1000000
namespace G
--#FAM KH
open PySem PySem.Spec PyProof.Rows L2
local macro_rules
  | `(tactic| walk_at "1") => `(tactic| first
    | with_reducible refine w_seq ?_
    | with_reducible refine w_asg ?_
    | with_reducible refine w_asgS ?_
    | with_reducible refine w_asf ?_
    | with_reducible refine w_drop ?_
    | with_reducible refine w_ret ?_
    | with_reducible refine w_if ?_
    | with_reducible refine w_not ?_
    | with_reducible refine w_and ?_
    | with_reducible refine w_or ?_
    | with_reducible refine w_test ?_
    | with_reducible refine w_tb ?_
    | with_reducible refine w_chain ?_
    | with_reducible refine w_op ?_
    | with_reducible refine w_un ?_
    | with_reducible refine w_andV ?_
    | with_reducible refine w_orV ?_
    | with_reducible refine w_notV ?_
    | with_reducible refine w_ifE ?_
    | with_reducible refine w_cons ?_
    | with_reducible refine w_nil ?_
    | with_reducible refine w_cb ?_
    | with_reducible refine w_cl ?_
    | with_reducible refine w_mt ?_
    | with_reducible refine w_fld ?_
    | with_reducible refine w_tupN ?_
    | with_reducible refine w_lstN ?_
    | with_reducible refine w_bm ?_
    | with_reducible refine w_bm0 ?_
    | with_reducible refine w_for ?_
    | with_reducible refine w_lc ?_
    | with_reducible refine w_iR1 ?_
    | with_reducible refine w_iR2 ?_
    | with_reducible refine w_iL ?_
    | with_reducible refine w_iT ?_
    | with_reducible refine w_iE ?_
    | with_reducible refine w_iZ ?_
    | with_reducible refine w_var (by with_unfolding_all rfl) ?_
    | with_reducible refine w_c ?_
    | with_reducible refine w_next ?_
    | with_reducible refine w_i0 ?_
    | with_reducible refine w_u1 ?_
    | with_reducible refine w_addI ?_
    | with_reducible refine w_eqI ?_
    | with_reducible refine w_eqS ?_
    | with_reducible refine w_eqB ?_
    | with_reducible refine w_neI ?_
    | with_reducible refine w_neS ?_
    | with_reducible refine w_neB ?_
    | with_reducible refine w_abs ?_
    | with_reducible refine w_intI ?_
    | with_reducible refine w_min2 ?_
    | with_reducible refine w_max2 ?_
    | with_reducible refine w_isN0 ?_
    | with_reducible refine w_isN1 ref_ne ?_
    | with_reducible refine w_isN1 int_ne ?_
    | with_reducible refine w_notN0 ?_
    | with_reducible refine w_notN1 ref_ne ?_
    | with_reducible refine w_notN1 int_ne ?_
    | with_reducible refine w_ex1 ?_
    | with_reducible refine w_n1 ?_
    | with_reducible refine w_n2 ?_
    | with_reducible refine w_tT ?_
    | with_reducible refine w_tF ?_
    | with_reducible refine w_nT ?_
    | with_reducible refine w_nF ?_
    | with_reducible refine w_rz ?_
    | with_reducible refine w_mkN ?_
    | with_reducible refine w_lrgN ?_
    | with_reducible refine w_rg1 ?_
    | with_reducible refine w_rg2 ?_
    | with_reducible refine w_sl ?_
    | with_reducible refine w_np ?_
    | with_reducible refine w_pt ?_
    | with_reducible refine w_tr ?_
    | with_reducible refine w_gn ?_
    | with_reducible refine w_yes ?_
    | with_reducible refine w_m1 ?_
    | with_reducible refine w_asu ?_
    | with_reducible refine w_exS ?_
    | with_reducible refine w_iS ?_
    | with_reducible refine w_g1 ?_
    | with_reducible refine w_gc ?_
    | with_reducible refine w_gt (SqT.of upd_same) rfl ?_)
local macro_rules
  | `(tactic| walk_at "g") => `(tactic| repeat walk_at "1")
local macro_rules
  | `(tactic| walk_at "j1") => `(tactic| first
    | with_reducible refine w_seqI ?_
    | walk_at "1")
local macro_rules
  | `(tactic| walk_at "j") => `(tactic| repeat walk_at "j1")
section
variable {K : PySem.W.Frag} {mg : Str → Option Value}
/-- rows of numbers, each at its own place -/
structure RowsAt (H0 H : Hp) (rs : List Addr) (f : Nat → List Int) : Prop where
  nd : rs.Nodup
  at_ : ∀ g a, rs[g]? = some a → H a = some (.lst ((f g).map V.int))
  fr : ∀ a ∈ rs, H0 a = none
theorem RowsAt.congr {H0 H : Hp} {rs : List Addr} {f f' : Nat → List Int} (r : RowsAt H0 H rs f) (e : ∀ g, g < rs.length → f' g = f g) : RowsAt H0 H rs f' := ⟨r.nd, fun g a h => by rw [e g (List.getElem?_eq_some_iff.mp h).1]; exact r.at_ g a h, r.fr⟩
theorem RowsAt.kp {H0 H H' : Hp} {S : List Addr} {rs : List Addr} {f : Nat → List Int} (r : RowsAt H0 H rs f) (k : Kp S H H') (h : ∀ a ∈ rs, a ∉ S) : RowsAt H0 H' rs f := ⟨r.nd, fun g a e => k _ _ (h a (List.mem_of_getElem? e)) (r.at_ g a e), r.fr⟩
theorem RowsAt.k0 {H0 H H' : Hp} {rs : List Addr} {f : Nat → List Int} (r : RowsAt H0 H rs f) (k : Kp [] H H') : RowsAt H0 H' rs f := r.kp k (fun _ _ => by simp)
theorem RowsAt.put {H0 H H' : Hp} {rs : List Addr} {f f' : Nat → List Int} {g : Nat} {a : Addr} (r : RowsAt H0 H rs f) (hg : rs[g]? = some a) (k : Kp [a] H H') (h : H' a = some (.lst ((f' g).map V.int))) (e : ∀ j, j ≠ g → f' j = f j) : RowsAt H0 H' rs f' := by
  refine ⟨r.nd, fun j b hb => ?_, r.fr⟩
  by_cases c : j = g
  · subst c
    rw [hg] at hb
    injection hb with hb
    rw [← hb]
    exact h
  · rw [e j c]
    refine k.at1 ?_ (r.at_ j b hb)
    rintro rfl
    obtain ⟨l1, e1⟩ := List.getElem?_eq_some_iff.mp hb
    obtain ⟨l2, e2⟩ := List.getElem?_eq_some_iff.mp hg
    have nd := List.pairwise_iff_getElem.mp r.nd
    rcases Nat.lt_trichotomy j g with z | z | z
    · exact nd j g l1 l2 z (e1.trans e2.symm)
    · exact c z
    · exact nd g j l2 l1 z (e2.trans e1.symm)
theorem nodup_snoc {rs : List Addr} {x : Addr} (nd : rs.Nodup) (h : x ∉ rs) : (rs ++ [x]).Nodup := by
  rw [List.nodup_append]
  refine ⟨nd, by simp, fun a ha b hb => ?_⟩
  rw [List.mem_singleton] at hb
  rintro rfl
  exact h (hb ▸ ha)
theorem mapr_set {m k : Nat} {f f' : Nat → V} {y : V} (hk : k < m) (h1 : f' k = y) (h2 : ∀ j, j ≠ k → f' j = f j) : ((List.range m).map f).set k y = (List.range m).map f' := by
  refine List.ext_getElem? fun i => ?_
  rw [List.getElem?_set, List.length_map, List.length_range]
  by_cases c : k = i
  · subst c
    rw [if_pos rfl, if_pos hk, List.getElem?_map, List.getElem?_range hk, ← h1] <;> rfl
  · rw [if_neg c, List.getElem?_map, List.getElem?_map]
    by_cases d : i < m
    · rw [List.getElem?_range d]
      show some (f i) = some (f' i)
      rw [h2 i (Ne.symm c)]
    · rw [List.getElem?_eq_none (by rw [List.length_range]; omega)] <;> rfl
theorem at_r {m k : Nat} {f : Nat → V} (h : k < m) : atI ((List.range m).map f) (k : Int) = some (f k) := by
  rw [atI_pos (by omega) (by rw [List.length_map, List.length_range]; omega), Int.toNat_natCast, List.getElem?_map, List.getElem?_range h] <;> rfl
theorem at_neg {l : List Int} {j : Nat} (h1 : 1 ≤ j) (h : j ≤ l.length) : atI (l.map V.int) (-(j : Int)) = some (.int (gI l (l.length - j))) := by
  unfold atI ixN
  rw [List.length_map, if_neg (by omega), if_pos (by omega)]
  show (l.map V.int)[(-(j : Int) + (l.length : Int)).toNat]? = _
  rw [show (-(j : Int) + (l.length : Int)).toNat = l.length - j by omega, List.getElem?_map, gI_at (by omega)] <;> rfl
theorem at_rs {rs : List Addr} {k : Nat} {a : Addr} (h : rs[k]? = some a) : atI (rs.map V.ref) (k : Int) = some (.ref a) := by
  have l := (List.getElem?_eq_some_iff.mp h).1
  rw [atI_pos (by omega) (by rw [List.length_map]; omega), Int.toNat_natCast, List.getElem?_map, h] <;> rfl
theorem CPs.put {H H' : Hp} {D : Addr} {acc : List V} {es : List Ct} {xs : List V} (h : CPs H acc es) (hD : H D = some (.lst xs)) (k : Kp [D] H H') : CPs H' acc es := h.kp k fun b hb ys e => by
  rw [List.mem_singleton] at hb
  subst hb
  rw [hD] at e
  cases e
/-- what a loop over the gaps has done -/
def mixS (n : Nat) (log : List Int) (i k g : Nat) : Str := if g < k then stL n log (i + 1) g else stL n log i g
def mixC (n : Nat) (log : List Int) (i k g : Nat) : List Int := if g < k then chL n log g (i + 1) else chL n log g i
theorem mixS_self (n : Nat) (log : List Int) (i k : Nat) : mixS n log i k k = stL n log i k := if_neg (by omega)
theorem mixS_next (n : Nat) (log : List Int) (i k : Nat) : mixS n log i (k + 1) k = stL n log (i + 1) k := if_pos (by omega)
theorem mixS_ne (n : Nat) (log : List Int) (i k : Nat) {j : Nat} (h : j ≠ k) : mixS n log i (k + 1) j = mixS n log i k j := by
  unfold mixS
  by_cases c : j < k
  · rw [if_pos c, if_pos (by omega)]
  · rw [if_neg c, if_neg (by omega)]
theorem mixC_self (n : Nat) (log : List Int) (i k : Nat) : mixC n log i k k = chL n log k i := if_neg (by omega)
theorem mixC_next (n : Nat) (log : List Int) (i k : Nat) : mixC n log i (k + 1) k = chL n log k (i + 1) := if_pos (by omega)
theorem mixC_ne (n : Nat) (log : List Int) (i k : Nat) {j : Nat} (h : j ≠ k) : mixC n log i (k + 1) j = mixC n log i k j := by
  unfold mixC
  by_cases c : j < k
  · rw [if_pos c, if_pos (by omega)]
  · rw [if_neg c, if_neg (by omega)]
theorem len__law_losses (K : PySem.W.Frag) : ∀ vs H Q E, sp__law_losses K vs H Q E → vs.length = (["size", "moves"] : List Str).length := by
  rintro vs H Q E ⟨_, _, _, rfl, _⟩
  rfl
theorem rd__law_losses (T : Txt K mg) (vs : List V) (H : Hp) (Q : VK) (E : XK) (h : sp__law_losses K vs H Q E) : t__law_losses K E { nx := fun _ H' => Q .non H', rt := Q } (start ["size", "moves", "book", "rows", "states", "place", "gap", "state", "row"] vs) H := by
  obtain ⟨a, n, log, rfl, hn, ha, hlen, le, g⟩ := h
  unfold t__law_losses
  walk_at "g"
  refine ⟨n, rfl, hn, fun w l r o H1 nw nl nr no k1 bk => ?_⟩
  walk_at "g"
  refine w_r1 (by omega) ?_
  rw [show ((n : Int) + 1).toNat = n + 1 by omega]
  refine cp_mut (fun D i acc H' => Kp [] H1 H' ∧ ∃ rs : List Addr, acc = rs.map V.ref ∧ rs.length = i ∧ rs.Nodup ∧ ∀ x ∈ rs, H' x = some (.lst []) ∧ H1 x = none ∧ x ≠ D) (sz_lt (by omega)) (fun D H' nD k hD => ⟨k, [], rfl, rfl, List.nodup_nil, fun x h => by cases h⟩) ?_ ?_
  · intro D i acc H' S N nD hi hD ⟨kk, rs, ea, lr, nd, hrs⟩ yes no
    walk_at "g"
    refine ⟨rfl, ?_⟩
    walk_at "g"
    refine ⟨sz_ok (Nat.zero_le _), G.nw fun x H2 nx k2 hx => ?_⟩
    have xD : x ≠ D := (ne_of_none hD nx).symm
    refine yes _ H2 (k2.at0 hD) fun H3 k3 h3 => ⟨((kk.trans k2).all.trans k3).cut1 nD, rs ++ [x], by rw [ea, List.map_append] <;> rfl, by rw [List.length_append, lr] <;> rfl, nodup_snoc nd fun z => ?_, fun y hy => ?_⟩
    · have := (hrs x z).1
      rw [nx] at this
      cases this
    · rcases List.mem_append.mp hy with hy | hy
      · obtain ⟨y1, y2, y3⟩ := hrs y hy
        exact ⟨k3.at1 y3 (k2.at0 y1), y2, y3⟩
      · rw [List.mem_singleton] at hy
        subst hy
        exact ⟨k3.at1 xD hx, kk.free0 nx, xD⟩
  intro q acc H2 nq hq lacc ⟨k2, rs, ea, lr, nd, hrs⟩
  rw [ea] at hq
  have bk2 := bk.k0 k2
  walk_at "g"
  refine w_r1 (by omega) ?_
  rw [show ((n : Int) + 1).toNat = n + 1 by omega]
  refine cp_rng (fun i => (List.range i).map fun _ => V.str "joined") (fun i hi => sz_lt (by rw [List.length_map, List.length_range]; omega)) rfl (fun i H' S N hi k y _ => ?_) (fun st H3 ns k3 hs => ?_)
  · walk_at "g"
    refine ⟨rfl, ?_⟩
    walk_at "g"
    refine y _ _ (Kp.refl _ _) ?_
    rw [List.range_succ, List.map_append] <;> rfl
  have ra3 : RowsAt H H3 rs (fun g => chL n log g 0) := ⟨nd, fun g x hx => k3.at0 (hrs x (List.mem_of_getElem? hx)).1, fun x hx => k1.free0 (hrs x hx).2.1⟩
  have fq : H q = none := k1.free0 nq
  have fs : H st = none := (k1.trans k2).free0 ns
  have hs3 : H3 st = some (.lst ((List.range (n + 1)).map fun g => V.str (stL n log 0 g))) := by
    rw [hs]
    congr 2
    refine List.map_congr_left fun g hg => ?_
    have := List.mem_range.mp hg
    show V.str "joined" = V.str (stL n log 0 g)
    unfold stL
    rw [List.take_zero]
    show _ = V.str (stT (wholeS n) g)
    rw [whole_joined (by omega)]
  have dis : ∀ x ∈ rs, x ≠ w ∧ x ≠ l ∧ x ≠ r ∧ x ≠ o ∧ x ≠ st ∧ x ≠ q ∧ x ≠ a := by
    intro x hx
    obtain ⟨x1, x2, x3⟩ := hrs x hx
    obtain ⟨y1, y2, y3, y4⟩ := bk.fr x2
    exact ⟨Ne.symm y1, Ne.symm y2, Ne.symm y3, Ne.symm y4, ne_of_none x1 ns, x3, (ne_of_none (k1.at0 ha) x2).symm⟩
  obtain ⟨sw, sl, sr, so⟩ := bk2.fr ns
  obtain ⟨qw, ql, qr, qo⟩ := bk.fr nq
  have sq : q ≠ st := ne_of_none hq ns
  have sa : a ≠ st := ne_of_none ((k1.trans k2).at0 ha) ns
  have al : a ≠ l := by
    rintro rfl
    rw [ha] at nl
    cases nl
  have ar : a ≠ r := by
    rintro rfl
    rw [ha] at nr
    cases nr
  have ao : a ≠ o := by
    rintro rfl
    rw [ha] at no
    cases no
  walk_at "g"
  refine w_lenL (SqL.of ((k1.trans (k2.trans k3)).at0 ha)) ?_
  walk_at "g"
  rw [List.length_map]
  refine w_r1 (by omega) ?_
  refine lp_rng0 (fun i σ H' => (∃ x5 x6 x7 x8, σ = [some (.int n), some (.ref a), some (.ref w), some (.ref q), some (.ref st), x5, x6, x7, x8]) ∧ Kp [] H H' ∧ Bk5 H' w l r o (runS (wholeS n) (log.take i)) ∧ RowsAt H H' rs (fun g => chL n log g i) ∧ H' q = some (.lst (rs.map V.ref)) ∧ H' st = some (.lst ((List.range (n + 1)).map fun g => V.str (stL n log i g))))
    ⟨⟨_, _, _, _, rfl⟩, k1.trans (k2.trans k3), by rw [List.take_zero]; exact bk2.k0 k3, ra3, k3.at0 hq, hs3⟩ ?_ ?_
  · rintro i σ' H4 hi ⟨⟨x5, x6, x7, x8, rfl⟩, k4, bk4, ra4, hq4, hs4⟩
    rw [Int.toNat_natCast] at hi
    obtain ⟨op, hop⟩ : ∃ op, log[i]? = some op := ⟨_, List.getElem?_eq_getElem hi⟩
    have ok := le i op hop
    have sn : ∀ i, (runS (wholeS n) (log.take i)).n = n := fun i => by rw [runS_n] <;> rfl
    have iop := ok.1
    rw [sn] at iop
    walk_at "g"
    refine w_ixL (SqL.of (k4.at0 ha)) (at_I (by omega) (by omega)) ?_
    rw [Int.toNat_natCast, gI_of hop]
    walk_at "g"
    rw [natAbs_if]
    refine ⟨w, l, r, o, _, op.natAbs, rfl, bk4, iop.1, by rw [sn]; exact iop.2, fun H5 k5 bk5 => ?_⟩
    rw [legO_eq ok, ← runS_snoc, ← tsn hop] at bk5
    have dl : ∀ x ∈ rs, x ∉ [l, r, o] := fun x hx => by
      obtain ⟨_, y2, y3, y4, _⟩ := dis x hx
      simp [y2, y3, y4]
    have ra5 := ra4.kp k5 dl
    have hq5 := k5 _ _ (by simp [Ne.symm ql, Ne.symm qr, Ne.symm qo]) hq4
    have hs5 := k5 _ _ (by simp [Ne.symm sl, Ne.symm sr, Ne.symm so]) hs4
    have k05 : Kp [] H H5 := (k4.all.trans k5).cut (by simp [nl, nr, no])
    walk_at "g"
    refine w_r1 (by omega) ?_
    rw [show ((n : Int) + 1).toNat = n + 1 by omega]
    refine lp_rng0 (fun k σ H' => (∃ x6 x7 x8, σ = [some (.int n), some (.ref a), some (.ref w), some (.ref q), some (.ref st), some (.int (i : Int)), x6, x7, x8]) ∧ Kp [] H H' ∧ Bk5 H' w l r o (runS (wholeS n) (log.take (i + 1))) ∧ RowsAt H H' rs (mixC n log i k) ∧ H' q = some (.lst (rs.map V.ref)) ∧ H' st = some (.lst ((List.range (n + 1)).map fun g => V.str (mixS n log i k g))))
      ⟨⟨_, _, _, rfl⟩, k05, bk5, ra5.congr fun g _ => if_neg (by omega), hq5, by
        rw [hs5] <;> rfl⟩ ?_ ?_
    · rintro k σ' H6 hk ⟨⟨x6, x7, x8, rfl⟩, k6, bk6, ra6, hq6, hs6⟩
      obtain ⟨row, hrow⟩ : ∃ row, rs[k]? = some row := ⟨_, List.getElem?_eq_getElem (by omega)⟩
      obtain ⟨d1, d2, d3, d4, d5, d6, d7⟩ := dis row (List.mem_of_getElem? hrow)
      have rk := ra6.at_ k row hrow
      rw [mixC_self] at rk
      walk_at "g"
      refine ⟨w, l, r, o, _, k, rfl, bk6, by rw [sn]; omega, ?_⟩
      rw [show stT (runS (wholeS n) (log.take (i + 1))) k = stL n log (i + 1) k from rfl]
      walk_at "g"
      refine w_ixL (SqL.of hs6) (at_r hk) ?_
      rw [mixS_self]
      walk_at "g"
      have sn2 := chL_snoc n log k i
      refine w_iteN (fun c => ?_) (fun c => ?_)
      · rw [if_pos c] at sn2
        walk_at "g"
        refine w_ixL (SqL.of hq6) (at_rs hrow) ?_
        walk_at "g"
        refine ⟨w_ty (SqL.of rk), ?_⟩
        walk_at "g"
        have cl := chL_len n log k i
        refine w_apT rk (sz_lt (by rw [List.length_map]; omega)) fun H7 k7 h7 => ?_
        walk_at "g"
        have hs7 := k7.at1 (Ne.symm d5) hs6
        refine w_seT hs7 (n := k) (by rw [ixN_pos (by omega) (by rw [List.length_map, List.length_range]; omega), Int.toNat_natCast]) fun H8 k8 h8 => ?_
        have k68 : Kp [row, st] H6 H8 := (k7.mono (by simp)).trans (k8.mono (by simp))
        have ra7 : RowsAt H H7 rs (mixC n log i (k + 1)) := ra6.put hrow k7 (by rw [h7, mixC_next, sn2, List.map_append] <;> rfl) fun j hj => mixC_ne n log i k hj
        walk_at "g"
        refine ⟨⟨_, _, _, rfl⟩, (k6.all.trans k68).cut (by simp [ra6.fr row (List.mem_of_getElem? hrow), fs]), bk6.kp k68 (by simp [Ne.symm d1, sw]) (by simp [Ne.symm d2, sl]) (by simp [Ne.symm d3, sr]) (by simp [Ne.symm d4, so]), ra7.kp k8 (fun x hx => by simpa using (dis x hx).2.2.2.2.1), k68 _ _ (by simp [Ne.symm d6, sq]) hq6, ?_⟩
        rw [h8, mapr_set (f' := fun g => V.str (mixS n log i (k + 1) g)) (by omega) (by show V.str (mixS n log i (k + 1) k) = _; rw [mixS_next]) fun j hj => by show V.str (mixS n log i (k + 1) j) = V.str (mixS n log i k j); rw [mixS_ne n log i k hj]]
      · have c : stL n log (i + 1) k = stL n log i k := c
        rw [if_neg (fun z => z c), List.append_nil] at sn2
        walk_at "g"
        refine ⟨⟨_, _, _, rfl⟩, k6, bk6, ra6.congr fun j _ => ?_, hq6, ?_⟩
        · by_cases e : j = k
          · subst e
            rw [mixC_next, mixC_self, sn2]
          · exact mixC_ne n log i k e
        · rw [hs6]
          congr 2
          refine List.map_congr_left fun j _ => ?_
          by_cases e : j = k
          · subst e
            rw [mixS_next, mixS_self, c]
          · rw [mixS_ne n log i k e]
    · rintro σ' H6 ⟨⟨x6, x7, x8, rfl⟩, k6, bk6, ra6, hq6, hs6⟩
      walk_at "g"
      refine ⟨⟨_, _, _, _, rfl⟩, k6, bk6, ra6.congr fun j hj => (if_pos (by omega)).symm, hq6, ?_⟩
      rw [hs6]
      congr 2
      refine List.map_congr_left fun j hj => ?_
      have := List.mem_range.mp hj
      show V.str (mixS n log i (n + 1) j) = _
      rw [show mixS n log i (n + 1) j = stL n log (i + 1) j from if_pos (by omega)]
  · rintro σ' H4 ⟨⟨x5, x6, x7, x8, rfl⟩, k4, bk4, ra4, hq4, hs4⟩
    rw [Int.toNat_natCast] at ra4 hs4
    walk_at "g"
    refine w_r1 (by omega) ?_
    rw [show ((n : Int) + 1).toNat = n + 1 by omega]
    refine cp_mut (fun D i acc H' => Kp [] H4 H' ∧ CPs H' acc (certK n log i)) (sz_lt (by omega)) (fun D H' nD k hD => ⟨k, CPs.nil⟩) ?_ ?_
    · intro D k acc H' S N nD hk hD ⟨kk, cp⟩ yes no
      obtain ⟨row, hrow⟩ : ∃ row, rs[k]? = some row := ⟨_, List.getElem?_eq_getElem (by omega)⟩
      have rk := kk.at0 (ra4.at_ k row hrow)
      have sn2 := certK_snoc n log k
      walk_at "g"
      rw [Int.zero_add]
      refine ⟨rfl, ?_⟩
      walk_at "g"
      refine w_ixL (SqL.of (kk.at0 hs4)) (at_r hk) ?_
      walk_at "g"
      refine w_iteD (fun c => ?_) (fun c => ?_)
      · rw [if_pos c] at sn2
        have l2 := lost_len hn le (by omega) c
        walk_at "g"
        refine w_ixL (SqL.of (kk.at0 hq4)) (at_rs hrow) ?_
        walk_at "g"
        refine w_ixL (SqL.of rk) (at_neg (j := 2) (by omega) l2) ?_
        walk_at "g"
        refine w_ixL (SqL.of (kk.at0 hq4)) (at_rs hrow) ?_
        walk_at "g"
        refine w_ixL (SqL.of rk) (at_neg (j := 1) (by omega) (by omega)) ?_
        walk_at "g"
        refine ⟨sz_ok (by show 3 ≤ 1000000; omega), G.nw fun t H5 nt k5 ht => ?_⟩
        refine yes _ H5 (k5.at0 hD) fun H6 k6 h6 => ⟨((kk.trans k5).all.trans k6).cut1 nD, ?_⟩
        rw [sn2]
        exact ((cp.k0 k5).app (CPs.one (t := certAt n log k) ht)).put (k5.at0 hD) k6
      · rw [if_neg c, List.append_nil] at sn2
        refine no H' hD ⟨kk, ?_⟩
        rw [sn2]
        exact cp
    · intro D acc H5 nD hD _ ⟨kk, cp⟩
      exact g acc D H5 (k4.free0 nD) (k4.trans kk) hD cp
end
end G

set_option Elab.async false
set_option linter.all false
set_option maxRecDepth 100000
set_option maxHeartbeats 1000000
namespace G
--#FAM KH
open PySem PySem.Spec PyProof.Rows L2
local macro_rules
  | `(tactic| walk_at "1") => `(tactic| first
    | with_reducible refine w_seq ?_
    | with_reducible refine w_asg ?_
    | with_reducible refine w_asgS ?_
    | with_reducible refine w_asf ?_
    | with_reducible refine w_drop ?_
    | with_reducible refine w_ret ?_
    | with_reducible refine w_if ?_
    | with_reducible refine w_not ?_
    | with_reducible refine w_and ?_
    | with_reducible refine w_or ?_
    | with_reducible refine w_test ?_
    | with_reducible refine w_tb ?_
    | with_reducible refine w_chain ?_
    | with_reducible refine w_op ?_
    | with_reducible refine w_un ?_
    | with_reducible refine w_andV ?_
    | with_reducible refine w_orV ?_
    | with_reducible refine w_notV ?_
    | with_reducible refine w_ifE ?_
    | with_reducible refine w_cons ?_
    | with_reducible refine w_nil ?_
    | with_reducible refine w_cb ?_
    | with_reducible refine w_cl ?_
    | with_reducible refine w_mt ?_
    | with_reducible refine w_fld ?_
    | with_reducible refine w_tupN ?_
    | with_reducible refine w_lstN ?_
    | with_reducible refine w_bm ?_
    | with_reducible refine w_bm0 ?_
    | with_reducible refine w_for ?_
    | with_reducible refine w_lc ?_
    | with_reducible refine w_iR1 ?_
    | with_reducible refine w_iR2 ?_
    | with_reducible refine w_iL ?_
    | with_reducible refine w_iT ?_
    | with_reducible refine w_iE ?_
    | with_reducible refine w_iZ ?_
    | with_reducible refine w_var (by with_unfolding_all rfl) ?_
    | with_reducible refine w_c ?_
    | with_reducible refine w_next ?_
    | with_reducible refine w_i0 ?_
    | with_reducible refine w_u1 ?_
    | with_reducible refine w_addI ?_
    | with_reducible refine w_eqI ?_
    | with_reducible refine w_eqS ?_
    | with_reducible refine w_eqB ?_
    | with_reducible refine w_neI ?_
    | with_reducible refine w_neS ?_
    | with_reducible refine w_neB ?_
    | with_reducible refine w_abs ?_
    | with_reducible refine w_intI ?_
    | with_reducible refine w_min2 ?_
    | with_reducible refine w_max2 ?_
    | with_reducible refine w_isN0 ?_
    | with_reducible refine w_isN1 ref_ne ?_
    | with_reducible refine w_isN1 int_ne ?_
    | with_reducible refine w_notN0 ?_
    | with_reducible refine w_notN1 ref_ne ?_
    | with_reducible refine w_notN1 int_ne ?_
    | with_reducible refine w_ex1 ?_
    | with_reducible refine w_n1 ?_
    | with_reducible refine w_n2 ?_
    | with_reducible refine w_tT ?_
    | with_reducible refine w_tF ?_
    | with_reducible refine w_nT ?_
    | with_reducible refine w_nF ?_
    | with_reducible refine w_rz ?_
    | with_reducible refine w_mkN ?_
    | with_reducible refine w_lrgN ?_
    | with_reducible refine w_rg1 ?_
    | with_reducible refine w_rg2 ?_
    | with_reducible refine w_sl ?_
    | with_reducible refine w_np ?_
    | with_reducible refine w_pt ?_
    | with_reducible refine w_tr ?_
    | with_reducible refine w_gn ?_
    | with_reducible refine w_yes ?_
    | with_reducible refine w_m1 ?_
    | with_reducible refine w_asu ?_
    | with_reducible refine w_exS ?_
    | with_reducible refine w_iS ?_
    | with_reducible refine w_g1 ?_
    | with_reducible refine w_gc ?_
    | with_reducible refine w_gt (SqT.of upd_same) rfl ?_)
local macro_rules
  | `(tactic| walk_at "g") => `(tactic| repeat walk_at "1")
local macro_rules
  | `(tactic| walk_at "j1") => `(tactic| first
    | with_reducible refine w_seqI ?_
    | walk_at "1")
local macro_rules
  | `(tactic| walk_at "j") => `(tactic| repeat walk_at "j1")
section
variable {K : PySem.W.Frag} {mg : Str → Option Value}
theorem cp_mutE {σ : L2.St} {H : Hp} {Q : VK} {te : TE} {tt : TT} {g : TG} {vs : List Nat} {a : Addr} {xs : List V} (Pv : Addr → Nat → List V → Hp → Prop) (hn : xs.length < sizeLine)
    (h0 : ∀ D H', H D = none → Kp [] H H' → H' D = some (.lst []) → Pv D 0 [] H')
    (hl : ∀ D i acc H', H D = none → Pv D i acc H' → SqL K H' a xs)
    (hs : ∀ (D : Addr) (i : Nat) (x : V) (acc : List V) (T : Addr) (H' : Hp) (S : V → Hp → Prop) (N : Hp → Prop), H D = none → xs[i]? = some x → H' D = some (.lst acc) → Pv D i acc H' → H' T = none →
      (∀ y H4, H4 D = some (.lst acc) → (∀ H5, Kp [D] H4 H5 → H5 D = some (.lst (acc ++ [y])) → Pv D (i + 1) (acc ++ [y]) H5) → S y H4) → (∀ H4, H4 D = some (.lst acc) → Pv D (i + 1) acc H4 → N H4) →
      g (.ref T) (wipe σ vs) (upd H' T (.tup [.int (i : Int), x])) fun σ2 H2 => wipe σ2 vs = wipe σ vs ∧ tt σ2 H2 fun b H3 => if b = true then te σ2 H3 S else N H3)
    (hd : ∀ D acc H', H D = none → H' D = some (.lst acc) → acc.length ≤ xs.length → Pv D xs.length acc H' → Q (.ref D) H') : CompG (Ite K a) g tt te vs σ Q H := by
  intro D nD
  refine ⟨fun i m H' => m = xs.length - i ∧ i ≤ xs.length ∧ ∃ acc, acc.length ≤ i ∧ H' D = some (.lst acc) ∧ Pv D i acc H', ⟨xs.length, by simp, Nat.zero_le _, [], Nat.le_refl _, upd_same, h0 D _ nD (Kp.new nD) upd_same⟩, ?_⟩
  rintro i m H' ⟨rfl, hi, acc, la, e, p⟩
  have q := hl D i acc H' nD p
  by_cases lt : i < xs.length
  · refine .inr ⟨⟨xs, xs[i], q, by simp [lt]⟩, fun H'' => ∃ acc, acc.length ≤ i + 1 ∧ H'' D = some (.lst acc) ∧ Pv D (i + 1) acc H'', fun H'' p => ⟨xs.length - (i + 1), by omega, rfl, lt, p⟩, fun v H'' y => ?_⟩
    obtain ⟨T, x, rfl, nT, rfl, hx⟩ := y
    refine hs D i x acc T _ _ _ nD (hx xs q) e p nT (fun y H4 h4 k4 => ⟨acc, h4, by omega, acc ++ [y], by rw [List.length_append]; show acc.length + 1 ≤ _; omega, upd_same, k4 _ (Kp.put (by simp)) upd_same⟩) (fun H4 h4 k4 => ⟨acc, by omega, h4, k4⟩)
  · have ei : i = xs.length := by omega
    subst ei
    exact .inl ⟨⟨xs, q, Nat.le_refl _⟩, hd D acc H' nD e la p⟩
theorem len__certificates (K : PySem.W.Frag) : ∀ vs H Q E, sp__certificates K vs H Q E → vs.length = (["size", "log"] : List Str).length := by
  rintro vs H Q E ⟨_, _, _, rfl, _⟩
  rfl
theorem rd__certificates (T : Txt K mg) (vs : List V) (H : Hp) (Q : VK) (E : XK) (h : sp__certificates K vs H Q E) : t__certificates K E { nx := fun _ H' => Q .non H', rt := Q } (start ["size", "log", "links", "states", "changes", "index", "operation", "before", "gap", "state", "_"] vs) H := by
  obtain ⟨a, size, log, rfl, hs, hlen, re, g⟩ := h
  unfold t__certificates
  walk_at "g"
  refine mk fun p dx H1 np hp k1 => ?_
  refine ⟨p, dx, size, rfl, hp, fun ok r l o H2 nr nl no k2 b => ⟨rfl, ?_⟩, fun bad => re.sz bad _ k1⟩
  have k02 : Kp [] H H2 := (k1.all.trans k2).cut1 np
  obtain ⟨n, rfl, hn⟩ : ∃ n : Nat, size = (n : Int) ∧ n ≤ 60 := ⟨size.toNat, by have := ok.1; omega, by have := ok.2; omega⟩
  rw [Int.toNat_natCast] at g b
  have fr : H r = none := k1.free0 nr
  have fl_ : H l = none := k1.free0 nl
  have fo : H o = none := k1.free0 no
  walk_at "g"
  refine ⟨p, r, l, o, _, rfl, b, fun st H3 ns k3 hst => ?_⟩
  have hst : H3 st = some (.lst ((List.range (n + 1)).map fun (v : Nat) => V.str (stT (wholeS n) v))) := hst
  have k03 := k02.trans k3
  have b3 := b.k0 k3
  walk_at "g"
  refine w_l1 (SqL.of hst) ?_
  refine cp_mutL (fun D i acc H' => Kp [] H3 H' ∧ ∃ rs : List Addr, acc = rs.map V.ref ∧ rs.length = i ∧ rs.Nodup ∧ ∀ x ∈ rs, H' x = some (.lst []) ∧ H3 x = none ∧ x ≠ D) (sz_lt (by rw [List.length_map, List.length_range]; omega)) (fun D H' nD k hD => ⟨k, [], rfl, rfl, List.nodup_nil, fun x h => by cases h⟩) (fun D i acc H' nD h => SqL.of (h.1.at0 hst)) ?_ ?_
  · intro D i x acc H' S N nD hi hD ⟨kk, rs, ea, lr, nd, hrs⟩ yes no
    walk_at "g"
    refine ⟨rfl, ?_⟩
    walk_at "g"
    refine ⟨sz_ok (Nat.zero_le _), G.nw fun x H2 nx k2 hx => ?_⟩
    have xD : x ≠ D := (ne_of_none hD nx).symm
    refine yes _ H2 (k2.at0 hD) fun H3 k3 h3 => ⟨((kk.trans k2).all.trans k3).cut1 nD, rs ++ [x], by rw [ea, List.map_append] <;> rfl, by rw [List.length_append, lr] <;> rfl, nodup_snoc nd fun z => ?_, fun y hy => ?_⟩
    · have := (hrs x z).1
      rw [nx] at this
      cases this
    · rcases List.mem_append.mp hy with hy | hy
      · obtain ⟨y1, y2, y3⟩ := hrs y hy
        exact ⟨k3.at1 y3 (k2.at0 y1), y2, y3⟩
      · rw [List.mem_singleton] at hy
        subst hy
        exact ⟨k3.at1 xD hx, kk.free0 nx, xD⟩
  intro q acc H4 nq hq lacc ⟨k4, rs, ea, lr, nd, hrs⟩
  rw [ea] at hq
  rw [List.length_map, List.length_range] at lr
  have k04 := k03.trans k4
  have b4 := b3.k0 k4
  have ra4 : RowsAt H H4 rs (fun g => chL n log g 0) := ⟨nd, fun g x hx => (hrs x (List.mem_of_getElem? hx)).1, fun x hx => k03.free0 (hrs x hx).2.1⟩
  have fq : H q = none := k03.free0 nq
  have hst4 : H4 st = some (.lst ((List.range (n + 1)).map fun g => V.str (stL n log 0 g))) := by
    rw [k4.at0 hst]
    unfold stL
    rw [List.take_zero] <;> rfl
  have fnew : ∀ x, H3 x = none → x ≠ p ∧ x ≠ r ∧ x ≠ l ∧ x ≠ o ∧ x ≠ st := by
    intro x nx
    obtain ⟨dx, ob⟩ := b3.ob
    exact ⟨(ne_of_none ob nx).symm, (ne_of_none b3.hr nx).symm, (ne_of_none b3.hl nx).symm, (ne_of_none b3.ho nx).symm, (ne_of_none hst nx).symm⟩
  have dis : ∀ x ∈ rs, x ≠ p ∧ x ≠ r ∧ x ≠ l ∧ x ≠ o ∧ x ≠ q := by
    intro x hx
    obtain ⟨x1, x2, x3⟩ := hrs x hx
    obtain ⟨y1, y2, y3, y4, y5⟩ := fnew x x2
    exact ⟨y1, y2, y3, y4, x3⟩
  obtain ⟨qp, qr, ql, qo, _⟩ := fnew q nq
  have hs4 := k04.sql (by simp) hs
  walk_at "g"
  refine ⟨a, _, rfl, hs4, lp_enum (xs := log.map V.int) (fun i σ H' => (∃ (st : Addr) (x5 x6 x7 x8 x9 x10 : Option V), σ = [some (.int n), some (.ref a), some (.ref p), some (.ref st), some (.ref q), x5, x6, x7, x8, x9, x10] ∧ H' st = some (.lst ((List.range (n + 1)).map fun g => V.str (stL n log i g))) ∧ ∀ x ∈ rs, x ≠ st) ∧ Kp [] H H' ∧ LinksAt K H' p r l o (runS (wholeS n) (log.take i)) ∧ RowsAt H H' rs (fun g => chL n log g i) ∧ H' q = some (.lst (rs.map V.ref)) ∧ Leg (wholeS n) (log.take i))
    ⟨⟨st, _, _, _, _, _, _, rfl, hst4, fun x hx => (fnew x (hrs x hx).2.1).2.2.2.2⟩, k04, by rw [List.take_zero]; exact b4, ra4, hq, fun i op h => by simp at h⟩ ?_ ?_ ?_⟩
  · rintro i σ' H' hi ⟨_, k, _⟩
    exact k.sql (by simp) hs
  · rintro i x T1 σ' H5 hx ⟨⟨st5, x5, x6, x7, x8, x9, x10, rfl, hst5, rst⟩, k5, la5, ra5, hq5, lg5⟩ nT
    obtain ⟨op, hop, rfl⟩ := at_map hx
    have li : i < log.length := (List.getElem?_eq_some_iff.mp hop).1
    have kT : Kp [] H5 (upd H5 T1 (.tup [.int (i : Int), .int op])) := Kp.new nT
    have hT : (upd H5 T1 (.tup [.int (i : Int), .int op])) T1 = some (.tup [.int (i : Int), .int op]) := upd_same
    generalize upd H5 T1 (.tup [.int (i : Int), .int op]) = HT at kT hT ⊢
    have laT := la5.k0 kT
    have sn : (runS (wholeS n) (log.take i)).n = n := by rw [runS_n] <;> rfl
    refine w_gt (SqT.of hT) rfl ?_
    walk_at "g"
    refine w_me laT no_m ?_
    walk_at "g"
    refine ⟨p, r, l, o, _, op, (i : Int), rfl, laT, fun ok H6 k6 la6 => ?_, fun bad => ?_⟩
    · have dl : ∀ x ∈ rs, x ∉ [r, l, o] := fun x hx => by
        obtain ⟨_, y2, y3, y4, _⟩ := dis x hx
        simp [y2, y3, y4]
      rw [← runS_snoc, ← tsn hop] at la6
      have ra6 := (ra5.k0 kT).kp k6 dl
      have hq6 := k6 _ _ (by simp [qr, ql, qo]) (kT.at0 hq5)
      have k06 : Kp [] H H6 := ((k5.trans kT).all.trans k6).cut (by simp [fr, fl_, fo])
      have s5 : st5 ∉ [r, l, o] := by
        obtain ⟨hr5, hl5, ho5⟩ : (∃ zs : List Int, H5 r = some (.lst (zs.map V.int))) ∧ (∃ zs : List Int, H5 l = some (.lst (zs.map V.int))) ∧ (∃ zs : List Bool, H5 o = some (.lst (zs.map V.bl))) := ⟨⟨_, la5.hr⟩, ⟨_, la5.hl⟩, ⟨_, la5.ho⟩⟩
        have hd5 : ∃ y ys, H5 st5 = some (.lst (V.str y :: ys)) := by
          rw [List.range_succ_eq_map, List.map_cons] at hst5
          exact ⟨_, _, hst5⟩
        obtain ⟨y, ys, hy⟩ := hd5
        intro z
        simp only [List.mem_cons, List.not_mem_nil, or_false] at z
        rcases z with rfl | rfl | rfl
        · obtain ⟨zs, hz⟩ := hr5
          rw [hy] at hz
          cases zs with
          | nil => cases hz
          | cons z zs => cases hz
        · obtain ⟨zs, hz⟩ := hl5
          rw [hy] at hz
          cases zs with
          | nil => cases hz
          | cons z zs => cases hz
        · obtain ⟨zs, hz⟩ := ho5
          rw [hy] at hz
          cases zs with
          | nil => cases hz
          | cons z zs => cases hz
      have hst6 := k6 _ _ s5 (kT.at0 hst5)
      have lg6 : Leg (wholeS n) (log.take (i + 1)) := by
        rw [tsn hop]
        exact lg5.snoc ok
      walk_at "g"
      refine ⟨p, r, l, o, _, rfl, la6, fun st7 H7 n7 k7 hst7 => ?_⟩
      have hst7 : H7 st7 = some (.lst ((List.range (n + 1)).map fun (v : Nat) => V.str (stL n log (i + 1) v))) := by
        rw [hst7, show (runS (wholeS n) (log.take (i + 1))).n = n by rw [runS_n] <;> rfl] <;> rfl
      have la7 := la6.k0 k7
      have d7 : ∀ x ∈ rs, x ≠ st7 := by
        intro x hx
        obtain ⟨j, hj⟩ := List.mem_iff_getElem?.mp hx
        exact ne_of_none (ra6.at_ j x hj) n7
      walk_at "g"
      refine ⟨st7, _, rfl, SqL.of hst7, lp_enum (xs := (List.range (n + 1)).map fun (v : Nat) => V.str (stL n log (i + 1) v)) (fun k σ H' => (∃ x8 x9 x10 : Option V, σ = [some (.int n), some (.ref a), some (.ref p), some (.ref st7), some (.ref q), some (.int (i : Int)), some (.int op), some (.ref st5), x8, x9, x10]) ∧ Kp [] H H' ∧ LinksAt K H' p r l o (runS (wholeS n) (log.take (i + 1))) ∧ RowsAt H H' rs (mixC n log i k) ∧ H' q = some (.lst (rs.map V.ref)) ∧ H' st7 = some (.lst ((List.range (n + 1)).map fun (v : Nat) => V.str (stL n log (i + 1) v))) ∧ H' st5 = some (.lst ((List.range (n + 1)).map fun (v : Nat) => V.str (stL n log i v))))
        ⟨⟨_, _, _, rfl⟩, k06.trans k7, la7, (ra6.k0 k7).congr fun g _ => if_neg (by omega), k7.at0 hq6, hst7, k7.at0 hst6⟩ ?_ ?_ ?_⟩
      · rintro k σ' H' hi ⟨_, _, _, _, _, h, _⟩
        exact SqL.of h
      · rintro k x T2 σ' H8 hx ⟨⟨x8, x9, x10, rfl⟩, k8, la8, ra8, hq8, h7, h5⟩ nT2
        have lk : k < n + 1 := by
          have := (List.getElem?_eq_some_iff.mp hx).1
          rw [List.length_map, List.length_range] at this
          exact this
        have ex : x = V.str (stL n log (i + 1) k) := by
          rw [List.getElem?_map, List.getElem?_range lk] at hx
          injection hx with hx
          exact hx.symm
        subst ex
        have kT2 : Kp [] H8 (upd H8 T2 (.tup [.int (k : Int), V.str (stL n log (i + 1) k)])) := Kp.new nT2
        have hT2 : (upd H8 T2 (.tup [.int (k : Int), V.str (stL n log (i + 1) k)])) T2 = some (.tup [.int (k : Int), V.str (stL n log (i + 1) k)]) := upd_same
        generalize upd H8 T2 (.tup [.int (k : Int), V.str (stL n log (i + 1) k)]) = H9 at kT2 hT2 ⊢
        obtain ⟨row, hrow⟩ : ∃ row, rs[k]? = some row := ⟨_, List.getElem?_eq_getElem (by omega)⟩
        obtain ⟨d1, d2, d3, d4, d5⟩ := dis row (List.mem_of_getElem? hrow)
        have rk := kT2.at0 (ra8.at_ k row hrow)
        rw [mixC_self] at rk
        have sn2 := chL_snoc n log k i
        refine w_gt (SqT.of hT2) rfl ?_
        walk_at "g"
        refine w_ixL (SqL.of (kT2.at0 h5)) (at_r lk) ?_
        walk_at "g"
        refine w_iteN (fun c => ?_) (fun c => ?_)
        · rw [if_pos c] at sn2
          walk_at "g"
          refine w_ixL (SqL.of (kT2.at0 hq8)) (at_rs hrow) ?_
          refine ⟨w_ty (SqL.of rk), ?_⟩
          walk_at "g"
          have cl := chL_len n log k i
          refine w_apT rk (sz_lt (by rw [List.length_map]; omega)) fun Ha ka ha => ?_
          walk_at "g"
          have dr := d7 row (List.mem_of_getElem? hrow)
          have ds := rst row (List.mem_of_getElem? hrow)
          refine ⟨⟨_, _, _, rfl⟩, ((k8.trans kT2).all.trans ka).cut1 (ra8.fr row (List.mem_of_getElem? hrow)), (la8.k0 kT2).kp ka (by simpa using Ne.symm d1) (by simpa using Ne.symm d2) (by simpa using Ne.symm d3) (by simpa using Ne.symm d4), (ra8.k0 kT2).put hrow ka (by rw [ha, mixC_next, sn2, List.map_append] <;> rfl) (fun j hj => mixC_ne n log i k hj), ka.at1 (Ne.symm d5) (kT2.at0 hq8), ka.at1 (Ne.symm dr) (kT2.at0 h7), ka.at1 (Ne.symm ds) (kT2.at0 h5)⟩
        · have c : stL n log (i + 1) k = stL n log i k := c
          rw [if_neg (fun z => z c), List.append_nil] at sn2
          walk_at "g"
          refine ⟨⟨_, _, _, rfl⟩, k8.trans kT2, la8.k0 kT2, (ra8.k0 kT2).congr fun j _ => ?_, kT2.at0 hq8, kT2.at0 h7, kT2.at0 h5⟩
          by_cases e : j = k
          · subst e
            rw [mixC_next, mixC_self, sn2]
          · exact mixC_ne n log i k e
      · rintro σ' H8 ⟨⟨x8, x9, x10, rfl⟩, k8, la8, ra8, hq8, h7, h5⟩
        rw [List.length_map, List.length_range] at ra8
        walk_at "g"
        exact ⟨⟨st7, _, _, _, _, _, _, rfl, h7, d7⟩, k8, la8, ra8.congr fun j hj => (if_pos (by omega)).symm, hq8, lg6⟩
    · have := re.op ⟨by omega, by omega⟩ i op hop (by rw [Int.toNat_natCast]; exact lg5) (by rw [Int.toNat_natCast]; exact bad) HT (k5.trans kT)
      rw [sn]
      exact this
  · rintro σ' H5 ⟨⟨st5, x5, x6, x7, x8, x9, x10, rfl, hst5, rst⟩, k5, la5, ra5, hq5, lg5⟩
    rw [List.length_map] at lg5 hst5 ra5
    rw [List.take_length] at lg5
    walk_at "g"
    refine ⟨st5, _, rfl, SqL.of hst5, cp_mutE (xs := (List.range (n + 1)).map fun (v : Nat) => V.str (stL n log log.length v)) (fun D i acc H' => Kp [] H5 H' ∧ CPs H' acc (certK n log i)) (sz_lt (by rw [List.length_map, List.length_range]; omega)) (fun D H' nD k hD => ⟨k, CPs.nil⟩) (fun D i acc H' nD h => SqL.of (h.1.at0 hst5)) ?_ ?_⟩
    · intro D k x acc T2 H8 S N nD hx hD ⟨kk, cp⟩ nT2 yes no
      have lk : k < n + 1 := by
        have := (List.getElem?_eq_some_iff.mp hx).1
        rw [List.length_map, List.length_range] at this
        exact this
      have ex : x = V.str (stL n log log.length k) := by
        rw [List.getElem?_map, List.getElem?_range lk] at hx
        injection hx with hx
        exact hx.symm
      subst ex
      have kT2 : Kp [] H8 (upd H8 T2 (.tup [.int (k : Int), V.str (stL n log log.length k)])) := Kp.new nT2
      have hT2 : (upd H8 T2 (.tup [.int (k : Int), V.str (stL n log log.length k)])) T2 = some (.tup [.int (k : Int), V.str (stL n log log.length k)]) := upd_same
      generalize upd H8 T2 (.tup [.int (k : Int), V.str (stL n log log.length k)]) = H9 at kT2 hT2 ⊢
      obtain ⟨row, hrow⟩ : ∃ row, rs[k]? = some row := ⟨_, List.getElem?_eq_getElem (by omega)⟩
      have k59 := kk.trans kT2
      have rk := k59.at0 (ra5.at_ k row hrow)
      have sn2 := certK_snoc n log k
      refine w_gt (SqT.of hT2) rfl ?_
      walk_at "g"
      refine ⟨rfl, ?_⟩
      walk_at "g"
      refine w_iteD (fun c => ?_) (fun c => ?_)
      · rw [if_pos c] at sn2
        have l2 := lost_len hn lg5 (by omega) c
        walk_at "g"
        refine w_ixL (SqL.of (k59.at0 hq5)) (at_rs hrow) ?_
        walk_at "g"
        refine w_ixL (SqL.of rk) (at_neg (j := 2) (by omega) l2) ?_
        walk_at "g"
        refine w_ixL (SqL.of (k59.at0 hq5)) (at_rs hrow) ?_
        walk_at "g"
        refine w_ixL (SqL.of rk) (at_neg (j := 1) (by omega) (by omega)) ?_
        walk_at "g"
        refine ⟨sz_ok (by show 3 ≤ 1000000; omega), G.nw fun t H5 nt k5 ht => ?_⟩
        refine yes _ H5 (k5.at0 (kT2.at0 hD)) fun H6 k6 h6 => ⟨((k59.trans k5).all.trans k6).cut1 nD, ?_⟩
        rw [sn2]
        exact (((cp.k0 kT2).k0 k5).app (CPs.one (t := certAt n log k) ht)).put (k5.at0 (kT2.at0 hD)) k6
      · rw [if_neg c, List.append_nil] at sn2
        refine no H9 (kT2.at0 hD) ⟨k59, ?_⟩
        rw [sn2]
        exact cp.k0 kT2
    · intro D acc H6 nD hD _ ⟨kk, cp⟩
      rw [List.length_map, List.length_range] at cp
      exact g ⟨by omega, by omega⟩ lg5 acc D H6 (k5.free0 nD) (k5.trans kk) hD cp
end
end G

set_option Elab.async false
set_option linter.all false
set_option maxRecDepth 100000
set_option maxHeartbeats 1000000
namespace G
--#FAM KH
open PySem PySem.Spec PyProof.Rows L2
local macro_rules
  | `(tactic| walk_at "1") => `(tactic| first
    | with_reducible refine w_seq ?_
    | with_reducible refine w_asg ?_
    | with_reducible refine w_asgS ?_
    | with_reducible refine w_asf ?_
    | with_reducible refine w_drop ?_
    | with_reducible refine w_ret ?_
    | with_reducible refine w_if ?_
    | with_reducible refine w_not ?_
    | with_reducible refine w_and ?_
    | with_reducible refine w_or ?_
    | with_reducible refine w_test ?_
    | with_reducible refine w_tb ?_
    | with_reducible refine w_chain ?_
    | with_reducible refine w_op ?_
    | with_reducible refine w_un ?_
    | with_reducible refine w_andV ?_
    | with_reducible refine w_orV ?_
    | with_reducible refine w_notV ?_
    | with_reducible refine w_ifE ?_
    | with_reducible refine w_cons ?_
    | with_reducible refine w_nil ?_
    | with_reducible refine w_cb ?_
    | with_reducible refine w_cl ?_
    | with_reducible refine w_mt ?_
    | with_reducible refine w_fld ?_
    | with_reducible refine w_tupN ?_
    | with_reducible refine w_lstN ?_
    | with_reducible refine w_bm ?_
    | with_reducible refine w_bm0 ?_
    | with_reducible refine w_for ?_
    | with_reducible refine w_lc ?_
    | with_reducible refine w_iR1 ?_
    | with_reducible refine w_iR2 ?_
    | with_reducible refine w_iL ?_
    | with_reducible refine w_iT ?_
    | with_reducible refine w_iE ?_
    | with_reducible refine w_iZ ?_
    | with_reducible refine w_var (by with_unfolding_all rfl) ?_
    | with_reducible refine w_c ?_
    | with_reducible refine w_next ?_
    | with_reducible refine w_i0 ?_
    | with_reducible refine w_u1 ?_
    | with_reducible refine w_addI ?_
    | with_reducible refine w_eqI ?_
    | with_reducible refine w_eqS ?_
    | with_reducible refine w_eqB ?_
    | with_reducible refine w_neI ?_
    | with_reducible refine w_neS ?_
    | with_reducible refine w_neB ?_
    | with_reducible refine w_abs ?_
    | with_reducible refine w_intI ?_
    | with_reducible refine w_min2 ?_
    | with_reducible refine w_max2 ?_
    | with_reducible refine w_isN0 ?_
    | with_reducible refine w_isN1 ref_ne ?_
    | with_reducible refine w_isN1 int_ne ?_
    | with_reducible refine w_notN0 ?_
    | with_reducible refine w_notN1 ref_ne ?_
    | with_reducible refine w_notN1 int_ne ?_
    | with_reducible refine w_ex1 ?_
    | with_reducible refine w_n1 ?_
    | with_reducible refine w_n2 ?_
    | with_reducible refine w_tT ?_
    | with_reducible refine w_tF ?_
    | with_reducible refine w_nT ?_
    | with_reducible refine w_nF ?_
    | with_reducible refine w_rz ?_
    | with_reducible refine w_mkN ?_
    | with_reducible refine w_lrgN ?_
    | with_reducible refine w_rg1 ?_
    | with_reducible refine w_rg2 ?_
    | with_reducible refine w_sl ?_
    | with_reducible refine w_np ?_
    | with_reducible refine w_pt ?_
    | with_reducible refine w_tr ?_
    | with_reducible refine w_gn ?_
    | with_reducible refine w_yes ?_
    | with_reducible refine w_m1 ?_
    | with_reducible refine w_asu ?_
    | with_reducible refine w_exS ?_
    | with_reducible refine w_iS ?_
    | with_reducible refine w_g1 ?_
    | with_reducible refine w_gc ?_
    | with_reducible refine w_gt (SqT.of upd_same) rfl ?_)
local macro_rules
  | `(tactic| walk_at "g") => `(tactic| repeat walk_at "1")
local macro_rules
  | `(tactic| walk_at "j1") => `(tactic| first
    | with_reducible refine w_seqI ?_
    | walk_at "1")
local macro_rules
  | `(tactic| walk_at "j") => `(tactic| repeat walk_at "j1")
section
variable {K : PySem.W.Frag} {mg : Str → Option Value}
theorem cerD_tu {d : PyData} (h : isTu d = false) (es : List Ct) : cerD d es = false := by
  cases d with
  | tuple ds => cases h
  | _ => rfl
theorem tripD_tu {d : PyData} (h : isTu d = false) : tripD d = false := by
  cases d with
  | tuple ds => cases h
  | _ => rfl
theorem tripD_len {ds : List PyData} (h : ¬ ds.length = 3) : tripD (.tuple ds) = false := by
  match ds, h with
  | [], _ => rfl
  | [_], _ => rfl
  | [_, _], _ => rfl
  | [_, _, _], h => exact absurd rfl h
  | _ :: _ :: _ :: _ :: _, _ => rfl
theorem VlA.len {b : Addr} {H : Hp} : ∀ {xs : List V} {ds : List PyData}, VlA b H xs ds → xs.length = ds.length
  | _, _, .nil => rfl
  | _, _, .cons h1 h2 => by rw [List.length_cons, List.length_cons, VlA.len h2]
theorem all3 (a b c : Bool) : [a, b, c].all id = (a && (b && c)) := by
  cases a <;> cases b <;> cases c <;> rfl
theorem len_is_loss_certificate (K : PySem.W.Frag) : ∀ vs H Q E, sp_is_loss_certificate K vs H Q E → vs.length = (["size", "log", "value"] : List Str).length := by
  rintro vs H Q E ⟨_, _, _, _, _, _, rfl, _⟩
  rfl
theorem rd_is_loss_certificate (T : Txt K mg) (vs : List V) (H : Hp) (Q : VK) (E : XK) (h : sp_is_loss_certificate K vs H Q E) : t_is_loss_certificate K E { nx := fun _ H' => Q .non H', rt := Q } (start ["size", "log", "value", "certificates", "member"] vs) H := by
  obtain ⟨a, b, size, log, x, d, rfl, hs, hlen, hv, hd, re, g⟩ := h
  unfold t_is_loss_certificate
  walk_at "g"
  refine ⟨a, size, log, rfl, hs, hlen, re, fun ok le xs q H1 nq k1 hq cp => ?_⟩
  have g := g ok le
  have hv1 := hv.k0 k1
  generalize certs size.toNat log = es at g cp
  walk_at "g"
  refine w_isiTu hv1 ?_
  cases ct : isTu d with
  | false =>
    walk_at "g"
    rw [cerD_tu ct] at g
    exact g H1 k1
  | true =>
    walk_at "g"
    have hv2 := hv1
    obtain ⟨ds, rfl⟩ : ∃ ds, d = .tuple ds := by
      cases d with
      | tuple ds => exact ⟨ds, rfl⟩
      | _ => cases ct
    cases hv1 with
    | @tup ax xs' ds ne hx ha =>
      refine w_lenT (SqT.of hx) ?_
      have lx := ha.len
      walk_at "g"
      by_cases l3 : ds.length = 3
      · match ds, l3 with
        | [da, db, dc], _ =>
          cases ha with
          | @cons va _ _ _ h1 ha =>
            cases ha with
            | @cons vb _ _ _ h2 ha =>
              cases ha with
              | @cons vc _ _ _ h3 ha =>
                cases ha
                refine w_iteN (fun cc => absurd rfl cc) (fun _ => ?_)
                walk_at "g"
                refine ⟨ax, rfl, ⟨_, SqT.of hx⟩, ?_⟩
                refine cp_tup (SqT.of hx) (fun i => ([isI da, isI db, isI dc].take i).map V.bl) (fun i hi => sz_lt (by rw [List.length_map, List.length_take]; show min _ 3 < _; omega)) rfl (fun i x H' S N hi k y _ => ?_) (fun D H2 nD k2 hD => ?_)
                · walk_at "g"
                  refine ⟨rfl, ?_⟩
                  walk_at "g"
                  match i, hi with
                  | 0, hi =>
                    have e : va = x := by simpa using hi
                    subst e
                    exact ⟨b, va, da, rfl, h1.k0 k, y _ _ (Kp.refl _ _) rfl⟩
                  | 1, hi =>
                    have e : vb = x := by simpa using hi
                    subst e
                    exact ⟨b, vb, db, rfl, h2.k0 k, y _ _ (Kp.refl _ _) rfl⟩
                  | 2, hi =>
                    have e : vc = x := by simpa using hi
                    subst e
                    exact ⟨b, vc, dc, rfl, h3.k0 k, y _ _ (Kp.refl _ _) rfl⟩
                  | i + 3, hi => simp at hi
                have hD : H2 D = some (.lst ([isI da, isI db, isI dc].map V.bl)) := hD
                walk_at "g"
                refine ⟨D, [isI da, isI db, isI dc], rfl, SqL.of hD, ?_⟩
                have g : Any H (.bl ((isI da && (isI db && isI dc)) && inD (.tuple [da, db, dc]) es)) Q := g
                rw [all3]
                cases ei : (isI da && (isI db && isI dc)) with
                | false =>
                  rw [ei] at g
                  walk_at "g"
                  exact g H2 (k1.trans k2)
                | true =>
                  rw [ei] at g
                  walk_at "g"
                  exact ⟨_, _, Vl.dp _ _ (hv2.k0 k2), .lst (SqL.of (k2.at0 hq)) (cp.k0 k2).dp, hd, shCt es, g H2 (k1.trans k2)⟩
      · refine w_iteN (fun cc => ?_) (fun cc => absurd (by omega) l3)
        walk_at "g"
        have e : cerD (.tuple ds) es = false := by
          show (tripD (.tuple ds) && _) = false
          rw [tripD_len l3] <;> rfl
        rw [e] at g
        exact g H1 k1
theorem len_loss_certificate (K : PySem.W.Frag) : ∀ vs H Q E, sp_loss_certificate K vs H Q E → vs.length = (["size", "log"] : List Str).length := by
  rintro vs H Q E ⟨_, _, _, rfl, _⟩
  rfl
theorem rd_loss_certificate (T : Txt K mg) (vs : List V) (H : Hp) (Q : VK) (E : XK) (h : sp_loss_certificate K vs H Q E) : t_loss_certificate K E { nx := fun _ H' => Q .non H', rt := Q } (start ["size", "log", "certificates"] vs) H := by
  obtain ⟨a, size, log, rfl, hs, hlen, re, g1, g2⟩ := h
  unfold t_loss_certificate
  walk_at "g"
  refine ⟨a, size, log, rfl, hs, hlen, re, fun ok le xs q H1 nq k1 hq cp => ?_⟩
  have g1 := g1 ok le
  have g2 := g2 ok le
  generalize certs size.toNat log = es at g1 g2 cp
  have le_ := cp.1
  walk_at "g"
  refine w_truL (SqL.of hq) ?_
  cases es with
  | nil =>
    have e : xs = [] := List.length_eq_zero_iff.mp le_
    subst e
    rw [if_pos (show (!!([] : List V).isEmpty) = true from rfl)]
    walk_at "g"
    exact ⟨rfl, by show 1 ≤ 1000; omega, g1 rfl H1 k1⟩
  | cons e es =>
    obtain ⟨t, h1, h2⟩ := cp.2 0 e rfl
    cases xs with
    | nil => cases h1
    | cons x xs =>
      have ex : x = .ref t := by simpa using h1
      subst ex
      rw [if_neg (show ¬ (!!(V.ref t :: xs).isEmpty) = true from Bool.false_ne_true)]
      walk_at "g"
      refine w_ixL (SqL.of hq) at_0 ?_
      exact g2 e es rfl t H1 k1 h2
theorem lay_sub : ∀ {es ds : List PyData}, es.Sublist ds → PyData.canLayAll0 ds = true → PyData.canLayAll0 es = true ∧ PyData.depthAll es ≤ PyData.depthAll ds
  | _, _, .slnil, _ => ⟨by simp [PyData.canLayAll0], Nat.le_refl _⟩
  | _, _, .cons a s, h => by
    rw [PyData.canLayAll0, Bool.and_eq_true] at h
    obtain ⟨h1, h2⟩ := lay_sub s h.2
    refine ⟨h1, ?_⟩
    rw [PyData.depthAll]
    omega
  | _, _, .cons₂ a s, h => by
    rw [PyData.canLayAll0, Bool.and_eq_true] at h
    obtain ⟨h1, h2⟩ := lay_sub s h.2
    refine ⟨?_, ?_⟩
    · rw [PyData.canLayAll0, h.1, h1] <;> rfl
    · rw [PyData.depthAll, PyData.depthAll]
      omega
theorem sh_sub {es ds : List PyData} (s : es.Sublist ds) (h : SeqAt.shaped (.tuple ds) = true) : SeqAt.shaped (.list es) = true := by
  unfold SeqAt.shaped at h ⊢
  rw [PyData.canLay0, PyData.depth, Bool.and_eq_true] at h
  obtain ⟨h1, h2⟩ := lay_sub s h.1
  have h3 := of_decide_eq_true h.2
  rw [PyData.canLay0, PyData.depth, h1, Bool.true_and]
  exact decide_eq_true (by omega)
theorem vlA_dp {b : Addr} {H : Hp} {xs : List V} {ds : List PyData} (h : VlA b H xs ds) : DpAll K H xs ds := VlA.dp ds xs h
def pk (p : Bool) (v : V) : List V := if p = true then [] else [v]
def pkD (p : Bool) (v : PyData) : List PyData := if p = true then [] else [v]
theorem pk_dp {b : Addr} {H : Hp} {v : V} {d : PyData} (p : Bool) (h : Vl b H v d) {xs : List V} {ds : List PyData} (r : VlA b H xs ds) : VlA b H (pk p v ++ xs) (pkD p d ++ ds) := by
  cases p
  · exact .cons h r
  · exact r
theorem len__law_is_triple (K : PySem.W.Frag) : ∀ vs H Q E, sp__law_is_triple K vs H Q E → vs.length = (["value"] : List Str).length := by
  rintro vs H Q E ⟨_, _, _, rfl, _⟩
  rfl
theorem rd__law_is_triple (T : Txt K mg) (vs : List V) (H : Hp) (Q : VK) (E : XK) (h : sp__law_is_triple K vs H Q E) : t__law_is_triple K E { nx := fun _ H' => Q .non H', rt := Q } (start ["value", "one"] vs) H := by
  obtain ⟨b, x, d, rfl, hv1, hd, g⟩ := h
  unfold t__law_is_triple
  walk_at "g"
  refine w_isiTu hv1 ?_
  cases ct : isTu d with
  | false =>
    walk_at "g"
    rw [tripD_tu ct] at g
    exact g H (Kp.refl _ _)
  | true =>
    walk_at "g"
    have hv2 := hv1
    obtain ⟨ds, rfl⟩ : ∃ ds, d = .tuple ds := by
      cases d with
      | tuple ds => exact ⟨ds, rfl⟩
      | _ => cases ct
    cases hv1 with
    | @tup ax xs' ds ne hx ha =>
      refine w_lenT (SqT.of hx) ?_
      have lx := ha.len
      walk_at "g"
      by_cases l3 : ds.length = 3
      · match ds, l3 with
        | [da, db, dc], _ =>
          cases ha with
          | @cons va _ _ _ h1 ha =>
            cases ha with
            | @cons vb _ _ _ h2 ha =>
              cases ha with
              | @cons vc _ _ _ h3 ha =>
                cases ha
                refine w_iteN (fun cc => absurd rfl cc) (fun _ => ?_)
                walk_at "g"
                refine ⟨ax, rfl, ⟨_, SqT.of hx⟩, ?_⟩
                refine cp_tup (SqT.of hx) (fun i => ([pk (isI da) va, pk (isI db) vb, pk (isI dc) vc].take i).flatten) (fun i hi => ?_) rfl (fun i x H' S N hi k y no => ?_) (fun D H2 nD k2 hD => ?_)
                · have p1 : ∀ p v, (pk p v).length ≤ 1 := fun p v => by cases p <;> simp [pk]
                  have q1 := p1 (isI da) va
                  have q2 := p1 (isI db) vb
                  have q3 := p1 (isI dc) vc
                  match i, hi with
                  | 0, _ => exact sz_lt (by show 0 < 1000000; omega)
                  | 1, _ => exact sz_lt (by simp; omega)
                  | 2, _ => exact sz_lt (by simp; omega)
                  | i + 3, hi => exact absurd hi (by show ¬ i + 3 < 3; omega)
                · have step : ∀ (v : V) (dv : PyData), Vl b H v dv → (∀ (p : Bool), p = isI dv → (p = false → S v H') ∧ (p = true → N H')) →
                      gName 1 v (wipe (L2.start ["value", "one"] [V.ref ax]) [1]) H' fun σ2 H2 => wipe σ2 [1] = wipe (L2.start ["value", "one"] [V.ref ax]) [1] ∧ tNot (tB (tCl (sp__law_number K) (fun _ => E0) (tCons (tVar 1) tNil))) σ2 H2 fun b H3 => if b = true then tVar 1 σ2 H3 S else N H3 := by
                    intro v dv hv sn
                    obtain ⟨s1, s2⟩ := sn _ rfl
                    walk_at "g"
                    refine ⟨rfl, ?_⟩
                    walk_at "g"
                    refine ⟨b, v, dv, rfl, hv.k0 k, ?_⟩
                    cases e : isI dv with
                    | false =>
                      walk_at "g"
                      exact s1 e
                    | true =>
                      walk_at "g"
                      exact s2 e
                  match i, hi with
                  | 0, hi =>
                    have e : va = x := by simpa using hi
                    subst e
                    refine step va da h1 fun p ep => ⟨fun z => y _ _ (Kp.refl _ _) ?_, fun z => no _ (Kp.refl _ _) ?_⟩
                    · rw [← ep, z] <;> rfl
                    · rw [← ep, z] <;> rfl
                  | 1, hi =>
                    have e : vb = x := by simpa using hi
                    subst e
                    refine step vb db h2 fun p ep => ⟨fun z => y _ _ (Kp.refl _ _) ?_, fun z => no _ (Kp.refl _ _) ?_⟩
                    · rw [← ep, z]
                      simp [pk]
                    · rw [← ep, z]
                      simp [pk]
                  | 2, hi =>
                    have e : vc = x := by simpa using hi
                    subst e
                    refine step vc dc h3 fun p ep => ⟨fun z => y _ _ (Kp.refl _ _) ?_, fun z => no _ (Kp.refl _ _) ?_⟩
                    · rw [← ep, z]
                      simp [pk]
                    · rw [← ep, z]
                      simp [pk]
                  | i + 3, hi => simp at hi
                have hD : H2 D = some (.lst (pk (isI da) va ++ (pk (isI db) vb ++ (pk (isI dc) vc ++ [])))) := by
                  rw [hD]
                  simp
                have dp : VlA b H2 (pk (isI da) va ++ (pk (isI db) vb ++ (pk (isI dc) vc ++ []))) (pkD (isI da) da ++ (pkD (isI db) db ++ (pkD (isI dc) dc ++ []))) := pk_dp _ (h1.k0 k2) (pk_dp _ (h2.k0 k2) (pk_dp _ (h3.k0 k2) .nil))
                have sb : (pkD (isI da) da ++ (pkD (isI db) db ++ (pkD (isI dc) dc ++ []))).Sublist [da, db, dc] := by
                  have one : ∀ p v, (pkD p v).Sublist [v] := fun p v => by cases p <;> simp [pkD]
                  exact (one _ da).append ((one _ db).append ((one _ dc).append (List.Sublist.refl [])))
                walk_at "g"
                refine ⟨sz_ok (Nat.zero_le _), G.nw fun z H3 nz k3 hz => ?_⟩
                refine w_eqD (.lst (SqL.of (k3.at0 hD)) (VlA.dp _ _ (VlA.kp k3.all _ _ dp))) (.lst (SqL.of hz) .nil) (sh_sub sb hd) (by simp [SeqAt.shaped, PyData.canLay0, PyData.canLayAll0, PyData.depth, PyData.depthAll]) ?_
                have gg := g H3 (k2.trans k3)
                have e : PyData.eqv (.list (pkD (isI da) da ++ (pkD (isI db) db ++ (pkD (isI dc) dc ++ [])))) (.list []) = tripD (.tuple [da, db, dc]) := by
                  show _ = (isI da && (isI db && isI dc))
                  cases isI da <;> cases isI db <;> cases isI dc <;> simp [pkD, PyData.eqv, PyData.eqvAll]
                rw [e]
                exact gg
      · refine w_iteN (fun cc => ?_) (fun cc => absurd (by omega) l3)
        walk_at "g"
        rw [tripD_len l3] at g
        exact g H (Kp.refl _ _)
end
end G

set_option Elab.async false
set_option linter.all false
set_option maxRecDepth 100000
set_option maxHeartbeats 1000000
namespace G
--#FAM KH
open PySem PySem.Spec PyProof.Rows L2
local macro_rules
  | `(tactic| walk_at "1") => `(tactic| first
    | with_reducible refine w_seq ?_
    | with_reducible refine w_asg ?_
    | with_reducible refine w_asgS ?_
    | with_reducible refine w_asf ?_
    | with_reducible refine w_drop ?_
    | with_reducible refine w_ret ?_
    | with_reducible refine w_if ?_
    | with_reducible refine w_not ?_
    | with_reducible refine w_and ?_
    | with_reducible refine w_or ?_
    | with_reducible refine w_test ?_
    | with_reducible refine w_tb ?_
    | with_reducible refine w_chain ?_
    | with_reducible refine w_op ?_
    | with_reducible refine w_un ?_
    | with_reducible refine w_andV ?_
    | with_reducible refine w_orV ?_
    | with_reducible refine w_notV ?_
    | with_reducible refine w_ifE ?_
    | with_reducible refine w_cons ?_
    | with_reducible refine w_nil ?_
    | with_reducible refine w_cb ?_
    | with_reducible refine w_cl ?_
    | with_reducible refine w_mt ?_
    | with_reducible refine w_fld ?_
    | with_reducible refine w_tupN ?_
    | with_reducible refine w_lstN ?_
    | with_reducible refine w_bm ?_
    | with_reducible refine w_bm0 ?_
    | with_reducible refine w_for ?_
    | with_reducible refine w_lc ?_
    | with_reducible refine w_iR1 ?_
    | with_reducible refine w_iR2 ?_
    | with_reducible refine w_iL ?_
    | with_reducible refine w_iT ?_
    | with_reducible refine w_iE ?_
    | with_reducible refine w_iZ ?_
    | with_reducible refine w_var (by with_unfolding_all rfl) ?_
    | with_reducible refine w_c ?_
    | with_reducible refine w_next ?_
    | with_reducible refine w_i0 ?_
    | with_reducible refine w_u1 ?_
    | with_reducible refine w_addI ?_
    | with_reducible refine w_eqI ?_
    | with_reducible refine w_eqS ?_
    | with_reducible refine w_eqB ?_
    | with_reducible refine w_neI ?_
    | with_reducible refine w_neS ?_
    | with_reducible refine w_neB ?_
    | with_reducible refine w_abs ?_
    | with_reducible refine w_intI ?_
    | with_reducible refine w_min2 ?_
    | with_reducible refine w_max2 ?_
    | with_reducible refine w_isN0 ?_
    | with_reducible refine w_isN1 ref_ne ?_
    | with_reducible refine w_isN1 int_ne ?_
    | with_reducible refine w_notN0 ?_
    | with_reducible refine w_notN1 ref_ne ?_
    | with_reducible refine w_notN1 int_ne ?_
    | with_reducible refine w_ex1 ?_
    | with_reducible refine w_n1 ?_
    | with_reducible refine w_n2 ?_
    | with_reducible refine w_tT ?_
    | with_reducible refine w_tF ?_
    | with_reducible refine w_nT ?_
    | with_reducible refine w_nF ?_
    | with_reducible refine w_rz ?_
    | with_reducible refine w_mkN ?_
    | with_reducible refine w_lrgN ?_
    | with_reducible refine w_rg1 ?_
    | with_reducible refine w_rg2 ?_
    | with_reducible refine w_sl ?_
    | with_reducible refine w_np ?_
    | with_reducible refine w_pt ?_
    | with_reducible refine w_tr ?_
    | with_reducible refine w_gn ?_
    | with_reducible refine w_yes ?_
    | with_reducible refine w_m1 ?_
    | with_reducible refine w_asu ?_
    | with_reducible refine w_exS ?_
    | with_reducible refine w_iS ?_
    | with_reducible refine w_g1 ?_
    | with_reducible refine w_gc ?_
    | with_reducible refine w_gt (SqT.of upd_same) rfl ?_)
local macro_rules
  | `(tactic| walk_at "g") => `(tactic| repeat walk_at "1")
local macro_rules
  | `(tactic| walk_at "j1") => `(tactic| first
    | with_reducible refine w_seqI ?_
    | walk_at "1")
local macro_rules
  | `(tactic| walk_at "j") => `(tactic| repeat walk_at "j1")
section
variable {K : PySem.W.Frag} {mg : Str → Option Value}
abbrev hndT (K : PySem.W.Frag) : Addr → Value → Option Addr → TS := fun a cls d => tSeq (tIfS (tNot (tB (tCB (rIsX K cls d a) (tCons (tVar 5) (tCons (tC (.ty "ValueError")) (tNil)))))) (tRet (tTup (tCons (tC (.str "other")) (tCons (tC (.int 0)) (tCons (tC (.int 0)) (tNil)))))) (tNext)) (tSeq (tIfS (tB (tCB (rIsX K cls d a) (tCons (tVar 5) (tCons (tC (.ref (He.ga K "LogError"))) (tNil))))) (tSeq (tIfS (tAnd (tB (tCB (rIsX K cls d a) (tCons (tVar 5) (tCons (tC (.ref (He.ga K "BadOperation"))) (tNil))))) (tNot (tB (tCB (rIsX K cls d a) (tCons (tVar 5) (tCons (tC (.ref (He.ga K "Illegal"))) (tNil))))))) (tRet (tTup (tCons (tC (.str "operation")) (tCons (tXat K a cls d "operation" (tVar 5)) (tCons (tXat K a cls d "index" (tVar 5)) (tNil)))))) (tNext)) (tSeq (tIfS (tAnd (tB (tCB (rIsX K cls d a) (tCons (tVar 5) (tCons (tC (.ref (He.ga K "Illegal"))) (tNil))))) (tNot (tB (tCB (rIsX K cls d a) (tCons (tVar 5) (tCons (tC (.ref (He.ga K "BadOperation"))) (tNil))))))) (tRet (tTup (tCons (tC (.str "illegal")) (tCons (tXat K a cls d "operation" (tVar 5)) (tCons (tXat K a cls d "index" (tVar 5)) (tNil)))))) (tNext)) (tRet (tTup (tCons (tC (.str "other")) (tCons (tC (.int 0)) (tCons (tC (.int 0)) (tNil)))))))) (tNext)) (tSeq (tIfS (tB (tCB (rIsX K cls d a) (tCons (tVar 5) (tCons (tC (.ref (He.ga K "NotLost"))) (tNil))))) (tRet (tTup (tCons (tC (.str "none")) (tCons (tXat K a cls d "size" (tVar 5)) (tCons (tC (.int 0)) (tNil)))))) (tNext)) (tSeq (tIfS (tB (tCB (rIsX K cls d a) (tCons (tVar 5) (tCons (tC (.ref (He.ga K "BadSize"))) (tNil))))) (tRet (tTup (tCons (tC (.str "size")) (tCons (tXat K a cls d "size" (tVar 5)) (tCons (tC (.int 0)) (tNil)))))) (tNext)) (tRet (tTup (tCons (tC (.str "other")) (tCons (tC (.int 0)) (tCons (tC (.int 0)) (tNil)))))))))
theorem w_isx {H : Hp} {Q : VK} {D dd a : Addr} {fs : List (Str × V)} {c : V} {u : Value} {r : Bool} (hd : H dd = some (.xd fs)) (ex : ExK K D) (k : ClsV c u) (q : PySem.W.kitOne K (.ref D) u = some r) (g : Q (.bl r) H) : rIsX K (.ref D) (some dd) a [.ref a, c] H Q := ⟨D, dd, fs, c, u, r, rfl, rfl, hd, ex, rfl, k, q, g⟩
theorem w_xat {σ : L2.St} {H : Hp} {Q : VK} {D dd a : Addr} {fs : List (Str × V)} {v : V} {f : Str} {te : TE} (hv : ∀ Q, Q (.ref a) H → te σ H Q) (hd : H dd = some (.xd fs)) (ex : ExK K D) (hf : PySem.W.findIn K (.ref D) f = some none) (hl : fs.lookup f = some v) (g : Q v H) : tXat K a (.ref D) (some dd) f te σ H Q := hv _ ⟨D, dd, fs, v, rfl, rfl, hd, ex, rfl, hf, hl, g⟩
theorem lk1 (f : Str) (v : V) (r : List (Str × V)) : ((f, v) :: r).lookup f = some v := by
  simp [List.lookup]
theorem lk_op (i o : V) : ([(("index" : Str), i), ("operation", o)] : List (Str × V)).lookup ("operation" : Str) = some o := by
  have : (("operation" : Str) == ("index" : Str)) = false := by decide +kernel
  simp [List.lookup, this]
section
variable {W0 : WX} {D : Ends} {y0 y1 y2 y3 y4 y5 : Option V} {H : Hp}
theorem hnd_BadSize (T : Txt K mg) {size : Int} (g : ∀ t H', Kp [] H H' → H' t = some (.tup [.str "size", .int size, .int 0]) → D.rt (.ref t) H') : Ex K "BadSize" [("size", .int size)] (WE (wAs K (.ref (He.ga K "LinkError")) 5 (hndT K) W0 D) [y0, y1, y2, y3, y4, y5]) H := by
  intro d nd
  refine ⟨true, T.exm_BadSize_LinkError, fun _ a na => ?_, fun z => by cases z⟩
  have hd : upd H d (.xd [("size", .int size)]) d = some (.xd [("size", .int size)]) := upd_same
  have kd : Kp [] H (upd H d (.xd [("size", .int size)])) := Kp.new nd
  unfold hndT
  generalize upd H d (.xd [("size", .int size)]) = H1 at hd kd na ⊢
  walk_at "g"
  refine w_isx hd T.ex_BadSize (.ty _) T.kit_BadSize_ValueError ?_
  walk_at "g"
  refine w_isx hd T.ex_BadSize (.own _) T.kit_BadSize_LogError ?_
  walk_at "g"
  refine w_isx hd T.ex_BadSize (.own _) T.kit_BadSize_NotLost ?_
  walk_at "g"
  refine w_isx hd T.ex_BadSize (.own _) T.kit_BadSize_BadSize ?_
  walk_at "g"
  refine w_xat (fun Q q => w_var (by with_unfolding_all rfl) q) hd T.ex_BadSize (T.oe_BadSize.2 _ (by simp)) (lk1 _ _ _) ?_
  walk_at "g"
  refine ⟨sz_ok (by show 3 ≤ 1000000; omega), G.nw fun t J nt kj ht => ?_⟩
  exact g t J (kd.trans kj) ht
theorem hnd_NotLost (T : Txt K mg) {size : Int} (g : ∀ t H', Kp [] H H' → H' t = some (.tup [.str "none", .int size, .int 0]) → D.rt (.ref t) H') : Ex K "NotLost" [("size", .int size)] (WE (wAs K (.ref (He.ga K "LinkError")) 5 (hndT K) W0 D) [y0, y1, y2, y3, y4, y5]) H := by
  intro d nd
  refine ⟨true, T.exm_NotLost_LinkError, fun _ a na => ?_, fun z => by cases z⟩
  have hd : upd H d (.xd [("size", .int size)]) d = some (.xd [("size", .int size)]) := upd_same
  have kd : Kp [] H (upd H d (.xd [("size", .int size)])) := Kp.new nd
  unfold hndT
  generalize upd H d (.xd [("size", .int size)]) = H1 at hd kd na ⊢
  walk_at "g"
  refine w_isx hd T.ex_NotLost (.ty _) T.kit_NotLost_ValueError ?_
  walk_at "g"
  refine w_isx hd T.ex_NotLost (.own _) T.kit_NotLost_LogError ?_
  walk_at "g"
  refine w_isx hd T.ex_NotLost (.own _) T.kit_NotLost_NotLost ?_
  walk_at "g"
  refine w_xat (fun Q q => w_var (by with_unfolding_all rfl) q) hd T.ex_NotLost (T.oe_NotLost.2 _ (by simp)) (lk1 _ _ _) ?_
  walk_at "g"
  refine ⟨sz_ok (by show 3 ≤ 1000000; omega), G.nw fun t J nt kj ht => ?_⟩
  exact g t J (kd.trans kj) ht
theorem hnd_Illegal (T : Txt K mg) {i op : Int} (g : ∀ t H', Kp [] H H' → H' t = some (.tup [.str "illegal", .int op, .int i]) → D.rt (.ref t) H') : Ex K "Illegal" [("index", .int i), ("operation", .int op)] (WE (wAs K (.ref (He.ga K "LinkError")) 5 (hndT K) W0 D) [y0, y1, y2, y3, y4, y5]) H := by
  intro d nd
  refine ⟨true, T.exm_Illegal_LinkError, fun _ a na => ?_, fun z => by cases z⟩
  have hd : upd H d (.xd [("index", .int i), ("operation", .int op)]) d = some (.xd [("index", .int i), ("operation", .int op)]) := upd_same
  have kd : Kp [] H (upd H d (.xd [("index", .int i), ("operation", .int op)])) := Kp.new nd
  unfold hndT
  generalize upd H d (.xd [("index", .int i), ("operation", .int op)]) = H1 at hd kd na ⊢
  walk_at "g"
  refine w_isx hd T.ex_Illegal (.ty _) T.kit_Illegal_ValueError ?_
  walk_at "g"
  refine w_isx hd T.ex_Illegal (.own _) T.kit_Illegal_LogError ?_
  walk_at "g"
  refine w_isx hd T.ex_Illegal (.own _) T.kit_Illegal_BadOperation ?_
  walk_at "g"
  refine w_isx hd T.ex_Illegal (.own _) T.kit_Illegal_Illegal ?_
  walk_at "g"
  refine w_isx hd T.ex_Illegal (.own _) T.kit_Illegal_BadOperation ?_
  walk_at "g"
  refine w_xat (fun Q q => w_var (by with_unfolding_all rfl) q) hd T.ex_Illegal (T.oe_Illegal.2 _ (by simp)) (lk_op _ _) ?_
  walk_at "g"
  refine w_xat (fun Q q => w_var (by with_unfolding_all rfl) q) hd T.ex_Illegal (T.oe_Illegal.2 _ (by simp)) (lk1 _ _ _) ?_
  walk_at "g"
  refine ⟨sz_ok (by show 3 ≤ 1000000; omega), G.nw fun t J nt kj ht => ?_⟩
  exact g t J (kd.trans kj) ht
theorem hnd_BadOperation (T : Txt K mg) {i op : Int} (g : ∀ t H', Kp [] H H' → H' t = some (.tup [.str "operation", .int op, .int i]) → D.rt (.ref t) H') : Ex K "BadOperation" [("index", .int i), ("operation", .int op)] (WE (wAs K (.ref (He.ga K "LinkError")) 5 (hndT K) W0 D) [y0, y1, y2, y3, y4, y5]) H := by
  intro d nd
  refine ⟨true, T.exm_BadOperation_LinkError, fun _ a na => ?_, fun z => by cases z⟩
  have hd : upd H d (.xd [("index", .int i), ("operation", .int op)]) d = some (.xd [("index", .int i), ("operation", .int op)]) := upd_same
  have kd : Kp [] H (upd H d (.xd [("index", .int i), ("operation", .int op)])) := Kp.new nd
  unfold hndT
  generalize upd H d (.xd [("index", .int i), ("operation", .int op)]) = H1 at hd kd na ⊢
  walk_at "g"
  refine w_isx hd T.ex_BadOperation (.ty _) T.kit_BadOperation_ValueError ?_
  walk_at "g"
  refine w_isx hd T.ex_BadOperation (.own _) T.kit_BadOperation_LogError ?_
  walk_at "g"
  refine w_isx hd T.ex_BadOperation (.own _) T.kit_BadOperation_BadOperation ?_
  walk_at "g"
  refine w_isx hd T.ex_BadOperation (.own _) T.kit_BadOperation_Illegal ?_
  walk_at "g"
  refine w_xat (fun Q q => w_var (by with_unfolding_all rfl) q) hd T.ex_BadOperation (T.oe_BadOperation.2 _ (by simp)) (lk_op _ _) ?_
  walk_at "g"
  refine w_xat (fun Q q => w_var (by with_unfolding_all rfl) q) hd T.ex_BadOperation (T.oe_BadOperation.2 _ (by simp)) (lk1 _ _ _) ?_
  walk_at "g"
  refine ⟨sz_ok (by show 3 ≤ 1000000; omega), G.nw fun t J nt kj ht => ?_⟩
  exact g t J (kd.trans kj) ht
end
theorem len__law_told (K : PySem.W.Frag) : ∀ vs H Q E, sp21__law_told K vs H Q E → vs.length = (["asks", "size", "moves", "value"] : List Str).length := by
  rintro vs H Q E ⟨_, _, _, _, _, _, _, rfl, _⟩
  rfl
theorem rd__law_told (T : Txt K mg) (vs : List V) (H : Hp) (Q : VK) (E : XK) (h : sp21__law_told K vs H Q E) : t__law_told K E { nx := fun _ H' => Q .non H', rt := Q } (start ["asks", "size", "moves", "value", "told", "fault"] vs) H := by
  obtain ⟨m, a, b, size, log, x, d, e, hs, hlen, hv, hd, g1, g2, g3⟩ := h
  cases m with
  | true =>
    rw [if_pos rfl] at e
    subst e
    unfold t__law_told
    walk_at "g"
    refine w_iteD (fun _ => ?_) (fun c => absurd rfl c)
    walk_at "g"
    refine ⟨a, size, log, rfl, hs, hlen, ⟨fun ok i op hi le bad H' k => ?_, fun bad H' k => ?_⟩, fun ok le ec H' k => ?_, fun ok le e es ec t H' k ht => ?_⟩
    · unfold OpE
      by_cases c : IsOp (wholeS size.toNat).n op
      · rw [if_pos c]
        exact hnd_Illegal T fun t H2 k2 ht => g1 _ _ _ t H2 (.inr (.inl ⟨ok, i, op, hi, le, bad, by rw [if_pos (show IsOp size.toNat op from c)], rfl, rfl⟩)) (k.trans k2) ht
      · rw [if_neg c]
        exact hnd_BadOperation T fun t H2 k2 ht => g1 _ _ _ t H2 (.inr (.inl ⟨ok, i, op, hi, le, bad, by rw [if_neg (show ¬ IsOp size.toNat op from c)], rfl, rfl⟩)) (k.trans k2) ht
    · exact hnd_BadSize T fun t H2 k2 ht => g1 _ _ _ t H2 (.inl ⟨bad, rfl, rfl, rfl⟩) (k.trans k2) ht
    · exact hnd_NotLost T fun t H2 k2 ht => g1 _ _ _ t H2 (.inr (.inr ⟨rfl, ok, le, ec, rfl, rfl, rfl⟩)) (k.trans k2) ht
    · walk_at "g"
      refine ⟨sz_ok (by show 3 ≤ 1000000; omega), G.nw fun u H2 nu k2 hu => ?_⟩
      exact g2 rfl ok le e es ec t u H2 (k.trans k2) (k2.at0 ht) hu
  | false =>
    rw [if_neg Bool.false_ne_true] at e
    subst e
    unfold t__law_told
    walk_at "g"
    refine w_iteD (fun c => absurd c (by decide +kernel)) (fun _ => ?_)
    walk_at "g"
    refine ⟨a, b, size, log, x, d, rfl, hs, hlen, hv, hd, ⟨fun ok i op hi le bad H' k => ?_, fun bad H' k => ?_⟩, fun ok le H' k => ?_⟩
    · unfold OpE
      by_cases c : IsOp (wholeS size.toNat).n op
      · rw [if_pos c]
        exact hnd_Illegal T fun t H2 k2 ht => g1 _ _ _ t H2 (.inr (.inl ⟨ok, i, op, hi, le, bad, by rw [if_pos (show IsOp size.toNat op from c)], rfl, rfl⟩)) (k.trans k2) ht
      · rw [if_neg c]
        exact hnd_BadOperation T fun t H2 k2 ht => g1 _ _ _ t H2 (.inr (.inl ⟨ok, i, op, hi, le, bad, by rw [if_neg (show ¬ IsOp size.toNat op from c)], rfl, rfl⟩)) (k.trans k2) ht
    · exact hnd_BadSize T fun t H2 k2 ht => g1 _ _ _ t H2 (.inl ⟨bad, rfl, rfl, rfl⟩) (k.trans k2) ht
    · walk_at "g"
      refine ⟨sz_ok (by show 3 ≤ 1000000; omega), G.nw fun u H2 nu k2 hu => ?_⟩
      exact g3 rfl ok le u H2 (k.trans k2) hu
end
end G

set_option Elab.async false
set_option linter.all false
set_option maxRecDepth 100000
set_option maxHeartbeats 1000000
namespace G
--#FAM KH
open PySem PySem.Spec PyProof.Rows L2
local macro_rules
  | `(tactic| walk_at "1") => `(tactic| first
    | with_reducible refine w_seq ?_
    | with_reducible refine w_asg ?_
    | with_reducible refine w_asgS ?_
    | with_reducible refine w_asf ?_
    | with_reducible refine w_drop ?_
    | with_reducible refine w_ret ?_
    | with_reducible refine w_if ?_
    | with_reducible refine w_not ?_
    | with_reducible refine w_and ?_
    | with_reducible refine w_or ?_
    | with_reducible refine w_test ?_
    | with_reducible refine w_tb ?_
    | with_reducible refine w_chain ?_
    | with_reducible refine w_op ?_
    | with_reducible refine w_un ?_
    | with_reducible refine w_andV ?_
    | with_reducible refine w_orV ?_
    | with_reducible refine w_notV ?_
    | with_reducible refine w_ifE ?_
    | with_reducible refine w_cons ?_
    | with_reducible refine w_nil ?_
    | with_reducible refine w_cb ?_
    | with_reducible refine w_cl ?_
    | with_reducible refine w_mt ?_
    | with_reducible refine w_fld ?_
    | with_reducible refine w_tupN ?_
    | with_reducible refine w_lstN ?_
    | with_reducible refine w_bm ?_
    | with_reducible refine w_bm0 ?_
    | with_reducible refine w_for ?_
    | with_reducible refine w_lc ?_
    | with_reducible refine w_iR1 ?_
    | with_reducible refine w_iR2 ?_
    | with_reducible refine w_iL ?_
    | with_reducible refine w_iT ?_
    | with_reducible refine w_iE ?_
    | with_reducible refine w_iZ ?_
    | with_reducible refine w_var (by with_unfolding_all rfl) ?_
    | with_reducible refine w_c ?_
    | with_reducible refine w_next ?_
    | with_reducible refine w_i0 ?_
    | with_reducible refine w_u1 ?_
    | with_reducible refine w_addI ?_
    | with_reducible refine w_eqI ?_
    | with_reducible refine w_eqS ?_
    | with_reducible refine w_eqB ?_
    | with_reducible refine w_neI ?_
    | with_reducible refine w_neS ?_
    | with_reducible refine w_neB ?_
    | with_reducible refine w_abs ?_
    | with_reducible refine w_intI ?_
    | with_reducible refine w_min2 ?_
    | with_reducible refine w_max2 ?_
    | with_reducible refine w_isN0 ?_
    | with_reducible refine w_isN1 ref_ne ?_
    | with_reducible refine w_isN1 int_ne ?_
    | with_reducible refine w_notN0 ?_
    | with_reducible refine w_notN1 ref_ne ?_
    | with_reducible refine w_notN1 int_ne ?_
    | with_reducible refine w_ex1 ?_
    | with_reducible refine w_n1 ?_
    | with_reducible refine w_n2 ?_
    | with_reducible refine w_tT ?_
    | with_reducible refine w_tF ?_
    | with_reducible refine w_nT ?_
    | with_reducible refine w_nF ?_
    | with_reducible refine w_rz ?_
    | with_reducible refine w_mkN ?_
    | with_reducible refine w_lrgN ?_
    | with_reducible refine w_rg1 ?_
    | with_reducible refine w_rg2 ?_
    | with_reducible refine w_sl ?_
    | with_reducible refine w_np ?_
    | with_reducible refine w_pt ?_
    | with_reducible refine w_tr ?_
    | with_reducible refine w_gn ?_
    | with_reducible refine w_yes ?_
    | with_reducible refine w_m1 ?_
    | with_reducible refine w_asu ?_
    | with_reducible refine w_exS ?_
    | with_reducible refine w_iS ?_
    | with_reducible refine w_g1 ?_
    | with_reducible refine w_gc ?_
    | with_reducible refine w_gt (SqT.of upd_same) rfl ?_)
local macro_rules
  | `(tactic| walk_at "g") => `(tactic| repeat walk_at "1")
local macro_rules
  | `(tactic| walk_at "j1") => `(tactic| first
    | with_reducible refine w_seqI ?_
    | walk_at "1")
local macro_rules
  | `(tactic| walk_at "j") => `(tactic| repeat walk_at "j1")
section
variable {K : PySem.W.Frag} {mg : Str → Option Value}
theorem w_isiB {H : Hp} {Q : VK} {x : Bool} {t : String} {r : Bool} (h : kitB "bool" t = some r) (g : Q (.bl r) H) : rIsi K [.bl x, .ty t] H Q := ⟨_, _, _, _, r, rfl, .ty t, .base (.bl x), kit_ty h, g⟩
theorem dpI {H : Hp} : ∀ xs : List Int, DpAll K H (xs.map V.int) (xs.map PyData.int)
  | [] => .nil
  | x :: xs => .cons (.int x) (dpI xs)
theorem layI : ∀ xs : List Int, PyData.canLayAll0 (xs.map PyData.int) = true
  | [] => by simp [PyData.canLayAll0]
  | x :: xs => by
    show PyData.canLayAll0 (PyData.int x :: xs.map PyData.int) = true
    rw [PyData.canLayAll0, layI xs]
    simp [PyData.canLay0]
theorem depI : ∀ xs : List Int, PyData.depthAll (xs.map PyData.int) ≤ 1
  | [] => by simp [PyData.depthAll]
  | x :: xs => by
    have := depI xs
    show PyData.depthAll (PyData.int x :: xs.map PyData.int) ≤ 1
    rw [PyData.depthAll]
    simp [PyData.depth]
    omega
theorem shI (xs : List Int) : SeqAt.shaped (.list (xs.map PyData.int)) = true := by
  unfold SeqAt.shaped
  rw [PyData.canLay0, layI, PyData.depth]
  have := depI xs
  simp
  omega
theorem w_eqL {H : Hp} {Q : VK} {p q : Addr} {xs : List Int} (h1 : SqL K H p (xs.map V.int)) (h2 : SqL K H q (xs.map V.int)) (g : Q (.bl true) H) : rEqA K (.ref p) (.ref q) H Q :=
  w_eqD (.lst h1 (dpI xs)) (.lst h2 (dpI xs)) (shI xs) (shI xs) (by
    rw [SeqAt.eqv_refl _ (SeqAt.canLay_of_shaped (shI xs))]
    exact g)
theorem w_neL {H : Hp} {Q : VK} {p q : Addr} {xs : List Int} (h1 : SqL K H p (xs.map V.int)) (h2 : SqL K H q (xs.map V.int)) (g : Q (.bl false) H) : rNeA K (.ref p) (.ref q) H Q :=
  w_neD (.lst h1 (dpI xs)) (.lst h2 (dpI xs)) (shI xs) (shI xs) (by
    rw [SeqAt.eqv_refl _ (SeqAt.canLay_of_shaped (shI xs))]
    exact g)
theorem sh0 : SeqAt.shaped (.list []) = true := by simp [SeqAt.shaped, PyData.canLay0, PyData.canLayAll0, PyData.depth, PyData.depthAll]
theorem shN : SeqAt.shaped .none = true := by simp [SeqAt.shaped, PyData.canLay0, PyData.depth]
theorem sh3 (i j k : Int) : SeqAt.shaped (.tuple [.int i, .int j, .int k]) = true := by simp [SeqAt.shaped, PyData.canLay0, PyData.canLayAll0, PyData.depth, PyData.depthAll]
theorem eqv_nil : ∀ ds : List PyData, PyData.eqv (.list ds) (.list []) = ds.isEmpty
  | [] => by simp [PyData.eqv, PyData.eqvAll]
  | d :: ds => by simp [PyData.eqv, PyData.eqvAll]
/-- is a list empty -/
theorem w_eqN {H : Hp} {Q : VK} {p q : Addr} {xs : List V} {ds : List PyData} (h1 : H p = some (.lst xs)) (d : DpAll K H xs ds) (s : SeqAt.shaped (.list ds) = true) (h2 : H q = some (.lst [])) (g : Q (.bl ds.isEmpty) H) : rEqA K (.ref p) (.ref q) H Q :=
  w_eqD (.lst (SqL.of h1) d) (.lst (SqL.of h2) .nil) s sh0 (by rw [eqv_nil]; exact g)
theorem w_neN {H : Hp} {Q : VK} {p q : Addr} {xs : List V} {ds : List PyData} (h1 : H p = some (.lst xs)) (d : DpAll K H xs ds) (s : SeqAt.shaped (.list ds) = true) (h2 : H q = some (.lst [])) (g : Q (.bl (!ds.isEmpty)) H) : rNeA K (.ref p) (.ref q) H Q :=
  w_neD (.lst (SqL.of h1) d) (.lst (SqL.of h2) .nil) s sh0 (by rw [eqv_nil]; exact g)
theorem len__law_draw (K : PySem.W.Frag) : ∀ vs H Q E, sp21__law_draw K vs H Q E → vs.length = (["bag", "many"] : List Str).length := by
  rintro vs H Q E ⟨_, _, _, rfl, _⟩
  rfl
theorem rd__law_draw (T : Txt K mg) (vs : List V) (H : Hp) (Q : VK) (E : XK) (h : sp21__law_draw K vs H Q E) : t__law_draw K E { nx := fun _ H' => Q .non H', rt := Q } (start ["bag", "many", "cell", "digit", "twice"] vs) H := by
  obtain ⟨b, c, many, rfl, hm, hm2, bx, g⟩ := h
  unfold t__law_draw
  have bc := bx.ne
  obtain ⟨p, q, m, t, hb, p0⟩ := bx.ob
  obtain ⟨ns, hc, lns⟩ := bx.hc
  walk_at "j"
  refine w_ifK (fun H' => H' = H) (fun N hN => ?_) (fun H' eH => ?_)
  · walk_at "g"
    refine w_ixL (SqL.of hb) at_0 ?_
    walk_at "g"
    refine w_truL (SqL.of hc) ?_
    cases ns with
    | nil =>
      rw [if_pos (show (!!(([] : List Int).map V.int).isEmpty) = true from rfl)]
      walk_at "g"
      exact g 0 H (by omega) hm (Kp.refl _ _) bx
    | cons x ns =>
      rw [if_neg (show ¬ (!!((x :: ns).map V.int).isEmpty) = true from Bool.false_ne_true)]
      exact hN _ rfl
  subst H'
  walk_at "j"
  refine w_ixL (SqL.of hb) (i := 4) (v := .int t) rfl ?_
  walk_at "j"
  refine w_seT hb (n := 4) rfl fun H1 k1 h1 => ?_
  have h1 : H1 b = some (.lst [.ref c, .int p, .int q, .int m, .int (t + 1)]) := h1
  have hc1 := k1.at1 (Ne.symm bc) hc
  walk_at "j"
  refine w_ifJ (fun σ' H' => ∃ (p q m : Int) (x2 : Option V), σ' = [some (.ref b), some (.int many), x2, none, none] ∧ Kp [b] H H' ∧ H' b = some (.lst [.ref c, .int p, .int q, .int m, .int (t + 1)]) ∧ 0 ≤ p) (fun N hN => ?_) (fun σ' H2 ⟨p, q, m, x2, es, k2, h2, p0⟩ => ?_)
  · walk_at "g"
    refine w_ixL (SqL.of h1) (i := 2) (v := .int q) rfl ?_
    walk_at "g"
    refine w_iteD (fun c1 => ?_) (fun c1 => ?_)
    · walk_at "g"
      refine w_ixL (SqL.of h1) (i := 1) (v := .int p) rfl ?_
      walk_at "g"
      refine w_ixL (SqL.of h1) at_0 ?_
      walk_at "g"
      refine w_lenL (SqL.of hc1) ?_
      walk_at "g"
      rw [List.length_map]
      refine w_iteD (fun c2 => ?_) (fun c2 => ?_)
      · walk_at "g"
        refine w_ixL (SqL.of h1) at_0 ?_
        walk_at "g"
        refine w_ixL (SqL.of h1) (i := 1) (v := .int p) rfl ?_
        refine w_ixL (SqL.of hc1) (at_I p0 c2) ?_
        walk_at "g"
        refine w_ixL (SqL.of h1) (i := 1) (v := .int p) rfl ?_
        walk_at "g"
        refine w_seT h1 (n := 1) rfl fun H2 k2 h2 => ?_
        have h2 : H2 b = some (.lst [.ref c, .int (p + 1), .int q, .int m, .int (t + 1)]) := h2
        walk_at "g"
        refine w_ic ⟨by omega, by omega, by decide⟩ ?_
        walk_at "g"
        refine w_iteD (fun c3 => ?_) (fun c3 => ?_)
        · walk_at "g"
          refine w_seT h2 (n := 2) rfl fun H3 k3 h3 => ?_
          exact hN _ _ ⟨p + 1, _, m, _, rfl, (k1.trans k2).trans k3, h3, by omega⟩
        · walk_at "g"
          refine w_ixL (SqL.of h2) (i := 3) (v := .int m) rfl ?_
          walk_at "g"
          refine w_mulI (cmulR (by omega) (by omega)) ?_
          walk_at "g"
          refine w_mulI (cmulR (by omega) (by omega)) ?_
          walk_at "g"
          refine w_ic (by omega) ?_
          walk_at "g"
          refine w_seT h2 (n := 3) rfl fun H3 k3 h3 => ?_
          exact hN _ _ ⟨p + 1, q, _, _, rfl, (k1.trans k2).trans k3, h3, by omega⟩
      · walk_at "g"
        exact hN _ _ ⟨p, q, m, _, rfl, k1, h1, p0⟩
    · walk_at "g"
      exact hN _ _ ⟨p, q, m, _, rfl, k1, h1, p0⟩
  subst es
  have hc2 := k2.at1 (Ne.symm bc) hc
  walk_at "j"
  refine w_ifK (fun H' => H' = H2) (fun N hN => ?_) (fun H' eH => ?_)
  · walk_at "g"
    refine w_ixL (SqL.of h2) (i := 2) (v := .int q) rfl ?_
    walk_at "g"
    refine w_iteD (fun c1 => ?_) (fun c1 => ?_)
    · walk_at "g"
      refine w_ixL (SqL.of h2) (i := 2) (v := .int q) rfl ?_
      walk_at "g"
      refine w_ic hm ?_
      walk_at "g"
      refine w_ixL (SqL.of h2) (i := 2) (v := .int q) rfl ?_
      walk_at "g"
      refine w_ic ⟨hm, by omega⟩ ?_
      walk_at "g"
      refine w_seT h2 (n := 2) rfl fun H3 k3 h3 => ?_
      walk_at "g"
      exact g _ H3 (Int.emod_nonneg _ (by omega)) (Int.emod_lt_of_pos _ hm) (k2.trans k3) ⟨⟨_, _, _, _, h3, p0⟩, ns, k3.at1 (Ne.symm bc) hc2, lns⟩
    · exact hN _ rfl
  subst H'
  walk_at "g"
  refine w_ixL (SqL.of h2) (i := 3) (v := .int m) rfl ?_
  walk_at "g"
  refine w_mulI (cmulR (by omega) (by omega)) ?_
  walk_at "g"
  refine w_ixL (SqL.of h2) (i := 4) (v := .int (t + 1)) rfl ?_
  walk_at "g"
  refine w_mulI (cmulR (by omega) (by omega)) ?_
  walk_at "g"
  refine w_ic (by omega) ?_
  walk_at "g"
  refine w_seT h2 (n := 3) rfl fun H3 k3 h3 => ?_
  have h3 : H3 b = some (.lst [.ref c, .int p, .int q, .int ((m * 16807 + (t + 1) * 10007 + 12345) % 2147483647), .int (t + 1)]) := h3
  walk_at "g"
  refine w_ixL (SqL.of h3) (i := 3) (v := .int _) rfl ?_
  walk_at "g"
  refine w_ic ⟨by omega, by omega⟩ ?_
  walk_at "g"
  refine w_mulI (cmulR (by omega) (by omega)) ?_
  walk_at "g"
  refine w_ixL (SqL.of h3) (i := 4) (v := .int (t + 1)) rfl ?_
  walk_at "g"
  refine w_ic (by omega) ?_
  walk_at "g"
  refine w_ic ⟨by omega, by omega⟩ ?_
  walk_at "g"
  refine w_ic hm ?_
  exact g _ H3 (Int.emod_nonneg _ (by omega)) (Int.emod_lt_of_pos _ hm) (k2.trans k3) ⟨⟨_, _, _, _, h3, p0⟩, ns, k3.at1 (Ne.symm bc) hc2, lns⟩
theorem len__law_size (K : PySem.W.Frag) : ∀ vs H Q E, sp21__law_size K vs H Q E → vs.length = (["bag"] : List Str).length := by
  rintro vs H Q E ⟨_, _, rfl, _⟩
  rfl
theorem rd__law_size (T : Txt K mg) (vs : List V) (H : Hp) (Q : VK) (E : XK) (h : sp21__law_size K vs H Q E) : t__law_size K E { nx := fun _ H' => Q .non H', rt := Q } (start ["bag", "size"] vs) H := by
  obtain ⟨b, c, rfl, bx, g⟩ := h
  unfold t__law_size
  walk_at "j"
  refine ⟨sz_ok (by show 13 ≤ 1000000; omega), G.nw fun q H1 nq k1 hq => ?_⟩
  have hq' : H1 q = some (.lst ([4, 6, 9, 5, 11, 8, 15, 3, 2, 10, 0, 20, 7].map V.int)) := hq
  have fq := bx.fr nq
  walk_at "j"
  refine ⟨b, c, 13, rfl, by omega, by omega, bx.k0 k1, fun d H2 d1 d2 k2 b2 => ?_⟩
  refine w_ixL (SqL.of (k2.at1 fq.1 hq')) (at_I d1 (by show d < 13; omega)) ?_
  have bd : ∀ k : Nat, k < 13 → 0 ≤ gI [4, 6, 9, 5, 11, 8, 15, 3, 2, 10, 0, 20, 7] k ∧ gI [4, 6, 9, 5, 11, 8, 15, 3, 2, 10, 0, 20, 7] k ≤ 60 := by decide +kernel
  have b0 := bd d.toNat (by omega)
  generalize gI [4, 6, 9, 5, 11, 8, 15, 3, 2, 10, 0, 20, 7] d.toNat = v at b0 ⊢
  have k02 := k1.all.trans k2
  walk_at "j"
  refine w_ifJ (fun σ' H' => ∃ v : Int, σ' = [some (.ref b), some (.int v)] ∧ (0 ≤ v ∧ v ≤ 60) ∧ Kp [b] H H' ∧ Bag5 H' b c) (fun N hN => ?_) (fun σ' H3 ⟨v, es, b0, k3, b3⟩ => ?_)
  · walk_at "g"
    refine w_iteD (fun c1 => ?_) (fun c1 => ?_)
    · walk_at "g"
      refine ⟨b, c, 49, rfl, by omega, by omega, b2, fun d H3 d1 d2 k3 b3 => ?_⟩
      walk_at "g"
      exact hN _ _ ⟨_, rfl, by omega, k02.trans k3, b3⟩
    · walk_at "g"
      exact hN _ _ ⟨v, rfl, b0, k02, b2⟩
  subst es
  walk_at "j"
  refine w_ifJ (fun σ' H' => ∃ v : Int, σ' = [some (.ref b), some (.int v)] ∧ (0 ≤ v ∧ v ≤ 60) ∧ Kp [b] H H' ∧ Bag5 H' b c) (fun N hN => ?_) (fun σ' H4 ⟨v, es, b0, k4, b4⟩ => ?_)
  · walk_at "g"
    refine w_iteD (fun c1 => ?_) (fun c1 => ?_)
    · walk_at "g"
      refine ⟨b, c, 2, rfl, by omega, by omega, b3, fun d H4 d1 d2 k4 b4 => ?_⟩
      refine w_mulI (cmulL (by omega) (by omega)) ?_
      walk_at "g"
      exact hN _ _ ⟨_, rfl, by omega, k3.trans k4, b4⟩
    · walk_at "g"
      exact hN _ _ ⟨v, rfl, b0, k3, b3⟩
  subst es
  obtain ⟨u, rfl⟩ : ∃ u : Nat, v = (u : Int) := ⟨v.toNat, by omega⟩
  walk_at "g"
  exact g u H4 (by omega) k4 b4
theorem flt_leg {n : Nat} (hn : n ≤ 60) {log : List Int} (le : Leg (wholeS n) log) {m : Bool} {s : Str} {i j : Int} (f : FltC (n : Int) log m s i j) : m = true ∧ certs n log = [] ∧ s = "none" ∧ i = n ∧ j = 0 := by
  rcases f with ⟨bad, _⟩ | ⟨_, k, op, h1, _, h3, _⟩ | ⟨m1, _, _, ec, e1, e2, e3⟩
  · exact absurd ⟨by omega, by omega⟩ bad
  · rw [Int.toNat_natCast] at h3
    exact absurd (le k op h1) h3
  · rw [Int.toNat_natCast] at ec
    exact ⟨m1, ec, e1, e2, e3⟩
theorem len__law_judged (K : PySem.W.Frag) : ∀ vs H Q E, sp21__law_judged K vs H Q E → vs.length = (["size", "moves", "losses", "value"] : List Str).length := by
  rintro vs H Q E ⟨_, _, _, _, _, _, _, _, rfl, _⟩
  rfl
theorem rd__law_judged (T : Txt K mg) (vs : List V) (H : Hp) (Q : VK) (E : XK) (h : sp21__law_judged K vs H Q E) : t__law_judged K E { nx := fun _ H' => Q .non H', rt := Q } (start ["size", "moves", "losses", "value", "told"] vs) H := by
  obtain ⟨a, p, b, n, log, xs, x, d, rfl, hn, ha, hlen, le, hp, cp, hv, hd, g⟩ := h
  unfold t__law_judged
  have tn : (n : Int).toNat = n := Int.toNat_natCast n
  walk_at "g"
  refine ⟨false, a, b, n, log, x, d, rfl, SqL.of ha, hlen, hv, hd, fun s i j t H3 f k3 ht => ?_, fun z => (by cases z), fun _ _ _ t H1 k1 ht => ?_⟩
  · exact absurd (flt_leg hn le f).1 Bool.false_ne_true
  rw [tn] at ht
  walk_at "g"
  refine w_ixT (SqT.of ht) at_0 ?_
  walk_at "g"
  rw [decide_eq_true rfl]
  walk_at "g"
  refine w_ixT (SqT.of ht) (i := 1) (v := .bl _) rfl ?_
  walk_at "g"
  refine w_isiB (r := true) (by decide +kernel) ?_
  walk_at "g"
  refine w_ixT (SqT.of ht) (i := 1) (v := .bl _) rfl ?_
  walk_at "g"
  refine ⟨b, x, d, rfl, hv.k0 k1, hd, fun H2 k2 => ?_⟩
  have ec : cerD d (certs n log) = (tripD d && inD d (certs n log)) := rfl
  rw [ec]
  have gg := g H2 (k1.trans k2)
  cases e : tripD d with
  | false =>
    walk_at "g"
    rw [decide_eq_true (show (false && inD d (certs n log)) = false from rfl)]
    exact gg
  | true =>
    walk_at "g"
    refine ⟨_, _, Vl.dp _ _ (hv.k0 (k1.trans k2)), .lst (SqL.of ((k1.trans k2).at0 hp)) (cp.k0 (k1.trans k2)).dp, hd, shCt _, ?_⟩
    walk_at "g"
    rw [decide_eq_true (show (true && inD d (certs n log)) = ((certs n log).map ctD).any (fun z => PyData.eqv z d) from Bool.true_and _)]
    exact gg
theorem len__law_both_refuse (K : PySem.W.Frag) : ∀ vs H Q E, sp__law_both_refuse K vs H Q E → vs.length = (["size", "moves", "word", "first", "second"] : List Str).length := by
  rintro vs H Q E ⟨_, _, _, _, _, _, rfl, _⟩
  rfl
theorem rd__law_both_refuse (T : Txt K mg) (vs : List V) (H : Hp) (Q : VK) (E : XK) (h : sp__law_both_refuse K vs H Q E) : t__law_both_refuse K E { nx := fun _ H' => Q .non H', rt := Q } (start ["size", "moves", "word", "first", "second"] vs) H := by
  obtain ⟨a, size, log, w, i, j, rfl, ha, hlen, f0, bad, g⟩ := h
  unfold t__law_both_refuse
  walk_at "g"
  refine ⟨true, a, a, size, log, .non, .none, rfl, SqL.of ha, hlen, .non, shN, fun s i' j' t H1 f k1 ht => ?_, fun _ ok le => absurd ⟨ok, le⟩ bad, fun z => (by cases z)⟩
  obtain ⟨rfl, rfl, rfl⟩ := FltC.uniq bad f0 f
  walk_at "g"
  refine ⟨t, _, _, _, rfl, ht, ?_⟩
  walk_at "g"
  refine ⟨false, a, a, size, log, .non, .none, rfl, SqL.of (k1.at0 ha), hlen, .non, shN, fun s i' j' t2 H2 f k2 ht2 => ?_, fun z => (by cases z), fun _ ok le => absurd ⟨ok, le⟩ bad⟩
  obtain ⟨rfl, rfl, rfl⟩ := FltC.uniq bad f0 f
  walk_at "g"
  refine ⟨t2, _, _, _, rfl, ht2, ?_⟩
  walk_at "g"
  refine ⟨sz_ok (by show 3 ≤ 1000000; omega), G.nw fun v H3 nv k3 hv => ?_⟩
  have av : v ≠ a := (ne_of_none ((k1.trans k2).at0 ha) nv).symm
  walk_at "g"
  refine ⟨false, a, a, size, log, .ref v, _, rfl, SqL.of (((k1.trans k2).trans k3).at0 ha), hlen, .tup av hv (.cons (.int _) (.cons (.int _) (.cons (.int _) .nil))), sh3 _ _ _, fun s i' j' t3 H4 f k4 ht3 => ?_, fun z => (by cases z), fun _ ok le => absurd ⟨ok, le⟩ bad⟩
  obtain ⟨rfl, rfl, rfl⟩ := FltC.uniq bad f0 f
  walk_at "g"
  refine ⟨t3, _, _, _, rfl, ht3, ?_⟩
  exact g H4 ((k1.trans k2).trans (k3.trans k4))
theorem len__law_certified (K : PySem.W.Frag) : ∀ vs H Q E, sp__law_certified K vs H Q E → vs.length = (["size", "moves"] : List Str).length := by
  rintro vs H Q E ⟨_, _, _, rfl, _⟩
  rfl
theorem rd__law_certified (T : Txt K mg) (vs : List V) (H : Hp) (Q : VK) (E : XK) (h : sp__law_certified K vs H Q E) : t__law_certified K E { nx := fun _ H' => Q .non H', rt := Q } (start ["size", "moves", "losses", "handed", "told"] vs) H := by
  obtain ⟨a, n, log, rfl, hn, ha, hlen, le, g⟩ := h
  unfold t__law_certified
  have tn : (n : Int).toNat = n := Int.toNat_natCast n
  walk_at "g"
  refine ⟨a, n, log, rfl, hn, ha, hlen, le, fun xs q H1 nq k1 hq cp => ?_⟩
  walk_at "g"
  refine w_listLN (SqL.of (k1.at0 ha)) fun h H2 nh k2 hh => ?_
  have k02 := k1.trans k2
  walk_at "g"
  refine ⟨true, h, h, n, log, .non, .none, rfl, SqL.of hh, hlen, .non, shN, fun s i j t H3 f k3 ht => ?_, fun _ _ _ e es ec u t H3 k3 hu ht => ?_, fun z => (by cases z)⟩
  · obtain ⟨_, ec, rfl, rfl, rfl⟩ := flt_leg hn le f
    have k03 := k02.trans k3
    walk_at "g"
    refine w_neL (SqL.of (k3.at0 hh)) (SqL.of (k03.at0 ha)) ?_
    walk_at "g"
    refine ⟨sz_ok (Nat.zero_le _), G.nw fun z H4 nz k4 hz => ?_⟩
    refine w_eqN (k4.at0 (k3.at0 (k2.at0 hq))) (((cp.k0 k2).k0 k3).k0 k4).dp (shCt _) hz ?_
    rw [ec, show (([] : List Ct).map ctD).isEmpty = true from rfl]
    walk_at "g"
    refine ⟨t, _, _, _, rfl, k4.at0 ht, ?_⟩
    exact g H4 (k03.trans k4)
  · rw [tn] at ec
    have k03 := k02.trans k3
    walk_at "g"
    refine w_neL (SqL.of (k3.at0 hh)) (SqL.of (k03.at0 ha)) ?_
    walk_at "g"
    refine ⟨sz_ok (Nat.zero_le _), G.nw fun z H4 nz k4 hz => ?_⟩
    have cp4 := ((cp.k0 k2).k0 k3).k0 k4
    refine w_eqN (k4.at0 (k3.at0 (k2.at0 hq))) cp4.dp (shCt _) hz ?_
    rw [ec, show ((e :: es).map ctD).isEmpty = false from rfl]
    rw [ec] at cp4
    walk_at "g"
    refine w_ixT (SqT.of (k4.at0 ht)) at_0 ?_
    walk_at "g"
    rw [decide_eq_true rfl]
    walk_at "g"
    refine w_ixT (SqT.of (k4.at0 ht)) (i := 1) (v := .ref u) rfl ?_
    walk_at "g"
    have hu4 := k4.at0 hu
    have ua : u ≠ a := by
      rintro rfl
      have := k03.at0 ha
      rw [hu] at this
      cases this
    refine ⟨a, .ref u, ctD e, rfl, .tup ua hu4 (.cons (.int _) (.cons (.int _) (.cons (.int _) .nil))), sh3 _ _ _, fun H5 k5 => ?_⟩
    rw [show tripD (ctD e) = true from rfl]
    walk_at "g"
    obtain ⟨t0, h1, h2⟩ := cp4.2 0 e rfl
    refine w_ixT (SqT.of (k5.at0 (k4.at0 ht))) (i := 1) (v := .ref u) rfl ?_
    walk_at "g"
    refine w_ixL (SqL.of (k5.at0 (k4.at0 (k3.at0 (k2.at0 hq))))) (v := .ref t0) (by
      have lx : 0 < xs.length := by rw [cp4.1]; show 0 < es.length + 1; omega
      rw [atI_pos (by omega) (by omega)]
      exact h1) ?_
    refine w_eqD (.tup (SqT.of (k5.at0 hu4)) (.cons (.int _) (.cons (.int _) (.cons (.int _) .nil)))) (.tup (SqT.of (k5.at0 h2)) (.cons (.int _) (.cons (.int _) (.cons (.int _) .nil)))) (sh3 _ _ _) (sh3 _ _ _) ?_
    rw [SeqAt.eqv_refl _ (SeqAt.canLay_of_shaped (sh3 _ _ _))]
    exact g H5 (k03.trans (k4.trans k5))
end
end G

set_option Elab.async false
set_option linter.all false
set_option maxRecDepth 100000
set_option maxHeartbeats 1000000
namespace G
--#FAM KH
open PySem PySem.Spec PyProof.Rows L2
local macro_rules
  | `(tactic| walk_at "1") => `(tactic| first
    | with_reducible refine w_seq ?_
    | with_reducible refine w_asg ?_
    | with_reducible refine w_asgS ?_
    | with_reducible refine w_asf ?_
    | with_reducible refine w_drop ?_
    | with_reducible refine w_ret ?_
    | with_reducible refine w_if ?_
    | with_reducible refine w_not ?_
    | with_reducible refine w_and ?_
    | with_reducible refine w_or ?_
    | with_reducible refine w_test ?_
    | with_reducible refine w_tb ?_
    | with_reducible refine w_chain ?_
    | with_reducible refine w_op ?_
    | with_reducible refine w_un ?_
    | with_reducible refine w_andV ?_
    | with_reducible refine w_orV ?_
    | with_reducible refine w_notV ?_
    | with_reducible refine w_ifE ?_
    | with_reducible refine w_cons ?_
    | with_reducible refine w_nil ?_
    | with_reducible refine w_cb ?_
    | with_reducible refine w_cl ?_
    | with_reducible refine w_mt ?_
    | with_reducible refine w_fld ?_
    | with_reducible refine w_tupN ?_
    | with_reducible refine w_lstN ?_
    | with_reducible refine w_bm ?_
    | with_reducible refine w_bm0 ?_
    | with_reducible refine w_for ?_
    | with_reducible refine w_lc ?_
    | with_reducible refine w_iR1 ?_
    | with_reducible refine w_iR2 ?_
    | with_reducible refine w_iL ?_
    | with_reducible refine w_iT ?_
    | with_reducible refine w_iE ?_
    | with_reducible refine w_iZ ?_
    | with_reducible refine w_var (by with_unfolding_all rfl) ?_
    | with_reducible refine w_c ?_
    | with_reducible refine w_next ?_
    | with_reducible refine w_i0 ?_
    | with_reducible refine w_u1 ?_
    | with_reducible refine w_addI ?_
    | with_reducible refine w_eqI ?_
    | with_reducible refine w_eqS ?_
    | with_reducible refine w_eqB ?_
    | with_reducible refine w_neI ?_
    | with_reducible refine w_neS ?_
    | with_reducible refine w_neB ?_
    | with_reducible refine w_abs ?_
    | with_reducible refine w_intI ?_
    | with_reducible refine w_min2 ?_
    | with_reducible refine w_max2 ?_
    | with_reducible refine w_isN0 ?_
    | with_reducible refine w_isN1 ref_ne ?_
    | with_reducible refine w_isN1 int_ne ?_
    | with_reducible refine w_notN0 ?_
    | with_reducible refine w_notN1 ref_ne ?_
    | with_reducible refine w_notN1 int_ne ?_
    | with_reducible refine w_ex1 ?_
    | with_reducible refine w_n1 ?_
    | with_reducible refine w_n2 ?_
    | with_reducible refine w_tT ?_
    | with_reducible refine w_tF ?_
    | with_reducible refine w_nT ?_
    | with_reducible refine w_nF ?_
    | with_reducible refine w_rz ?_
    | with_reducible refine w_mkN ?_
    | with_reducible refine w_lrgN ?_
    | with_reducible refine w_rg1 ?_
    | with_reducible refine w_rg2 ?_
    | with_reducible refine w_sl ?_
    | with_reducible refine w_np ?_
    | with_reducible refine w_pt ?_
    | with_reducible refine w_tr ?_
    | with_reducible refine w_gn ?_
    | with_reducible refine w_yes ?_
    | with_reducible refine w_m1 ?_
    | with_reducible refine w_asu ?_
    | with_reducible refine w_exS ?_
    | with_reducible refine w_iS ?_
    | with_reducible refine w_g1 ?_
    | with_reducible refine w_gc ?_
    | with_reducible refine w_gt (SqT.of upd_same) rfl ?_)
local macro_rules
  | `(tactic| walk_at "g") => `(tactic| repeat walk_at "1")
local macro_rules
  | `(tactic| walk_at "j1") => `(tactic| first
    | with_reducible refine w_seqI ?_
    | walk_at "1")
local macro_rules
  | `(tactic| walk_at "j") => `(tactic| repeat walk_at "j1")
section
variable {K : PySem.W.Frag} {mg : Str → Option Value}
theorem len__law_lanes (K : PySem.W.Frag) : ∀ vs H Q E, sp21__law_lanes K vs H Q E → vs.length = (["bag", "size"] : List Str).length := by
  rintro vs H Q E ⟨_, _, _, rfl, _⟩
  rfl
theorem rd__law_lanes (T : Txt K mg) (vs : List V) (H : Hp) (Q : VK) (E : XK) (h : sp21__law_lanes K vs H Q E) : t__law_lanes K E { nx := fun _ H' => Q .non H', rt := Q } (start ["bag", "size", "lanes", "start", "turn", "lane", "node"] vs) H := by
  obtain ⟨b, c, n, rfl, n1, n60, bx, g⟩ := h
  unfold t__law_lanes
  walk_at "j"
  refine ⟨sz_ok (Nat.zero_le _), G.nw fun q H1 nq k1 hq => ?_⟩
  have fq := bx.fr nq
  have b1 := bx.k0 k1
  walk_at "j"
  refine w_ifK (fun H' => Kp [b] H1 H' ∧ Bag5 H' b c ∧ 4 ≤ n) (fun N hN => ?_) (fun H2 ⟨k2, b2, n4⟩ => ?_)
  · walk_at "g"
    refine w_iteD (fun c1 => ?_) (fun c1 => ?_)
    · walk_at "g"
      exact g [] q H1 nq k1.all b1 hq (Nat.zero_le _) (fun a h => by cases h) (fun a h => by cases h)
    · walk_at "g"
      refine ⟨b, c, 8, rfl, by omega, by omega, b1, fun d H2 d1 d2 k2 b2 => ?_⟩
      walk_at "g"
      refine w_iteD (fun c2 => ?_) (fun c2 => ?_)
      · walk_at "g"
        exact g [] q H2 nq (k1.all.trans k2) b2 (k2.at1 fq.1 hq) (Nat.zero_le _) (fun a h => by cases h) (fun a h => by cases h)
      · exact hN _ ⟨k2, b2, by omega⟩
  walk_at "j"
  refine ⟨b, c, _, rfl, by omega, by omega, b2, fun st H3 s1 s2 k3 b3 => ?_⟩
  walk_at "j"
  refine w_ifJ (fun σ' H' => ∃ st : Int, σ' = [some (.ref b), some (.int n), some (.ref q), some (.int st), none, none, none] ∧ 0 ≤ st ∧ Kp [b] H1 H' ∧ Bag5 H' b c) (fun N hN => ?_) (fun σ' H4 ⟨st, es, s0, k4, b4⟩ => ?_)
  · walk_at "g"
    refine ⟨b, c, 2, rfl, by omega, by omega, b3, fun d H4 d1 d2 k4 b4 => ?_⟩
    walk_at "g"
    refine w_iteD (fun c1 => ?_) (fun c1 => ?_)
    · walk_at "g"
      refine w_ic (by omega) ?_
      walk_at "g"
      exact hN _ _ ⟨_, rfl, Int.emod_nonneg _ (by omega), (k2.trans k3).trans k4, b4⟩
    · walk_at "g"
      exact hN _ _ ⟨st, rfl, s1, (k2.trans k3).trans k4, b4⟩
  subst es
  walk_at "j"
  refine w_r1 (by omega) ?_
  refine lp_rng0 (n := 3) (fun i σ H' => ∃ (st : Int) (x4 x5 x6 : Option V), σ = [some (.ref b), some (.int n), some (.ref q), some (.int st), x4, x5, x6] ∧ 0 ≤ st ∧ Kp [b, q] H1 H' ∧ Bag5 H' b c ∧ ∃ as : List Addr, H' q = some (.lst (as.map V.ref)) ∧ as.length ≤ i ∧ LanesI H' as n ∧ ∀ a ∈ as, H1 a = none ∧ a ≠ q ∧ a ≠ b ∧ a ≠ c)
    ⟨st, _, _, _, rfl, s0, k4.mono (by simp), b4, [], k4.at1 fq.1 hq, Nat.zero_le _, (fun a h => by cases h), fun a h => by cases h⟩ ?_ ?_
  · rintro i σ' H5 hi ⟨st, x4, x5, x6, rfl, s0, k5, b5, as, hq5, las, la5, hfr⟩
    walk_at "j"
    refine w_ifJ (fun σ' H' => ∃ (st : Int) (x4 x5 x6 : Option V), σ' = [some (.ref b), some (.int n), some (.ref q), some (.int st), x4, x5, x6] ∧ 0 ≤ st ∧ Kp [b, q] H1 H' ∧ Bag5 H' b c ∧ ∃ as : List Addr, H' q = some (.lst (as.map V.ref)) ∧ as.length ≤ i + 1 ∧ LanesI H' as n ∧ ∀ a ∈ as, H1 a = none ∧ a ≠ q ∧ a ≠ b ∧ a ≠ c) (fun N hN => ?_) (fun σ' H6 ⟨st, x4, x5, x6, es, s0, k6, b6, as, hq6, las, la6, hfr⟩ => ?_)
    · walk_at "g"
      refine w_iteD (fun c1 => ?_) (fun c1 => ?_)
      · walk_at "g"
        refine w_iteD (fun c2 => ?_) (fun c2 => ?_)
        · walk_at "g"
          refine ⟨sz_ok (by show 5 ≤ 1000000; omega), G.nw fun l1 Ha na1 ka hl1 => ?_⟩
          walk_at "g"
          refine ⟨sz_ok (by show 5 ≤ 1000000; omega), G.nw fun l2 Hb na2 kb hl2 => ?_⟩
          walk_at "g"
          refine ⟨sz_ok (by show 2 ≤ 1000000; omega), G.nw fun l3 Hc na3 kc hl3 => ?_⟩
          walk_at "g"
          have kac := (ka.trans kb).trans kc
          have f1 := (b5).fr na1
          have f2 := ((b5).k0 ka).fr na2
          have f3 := ((b5).k0 (ka.trans kb)).fr na3
          refine ⟨b, c, 2, rfl, by omega, by omega, (b5).k0 kac, fun e Hd e1 e2 kd bd => ?_⟩
          have hl3 : Hd l3 = _ := kd.at1 f3.1 hl3
          obtain ⟨rl, ls, el, hrl, lls, bls⟩ : ∃ (rl : Addr) (ls : List Int), atI [V.ref l1, V.ref l2] e = some (.ref rl) ∧ Hd rl = some (.lst (ls.map V.int)) ∧ ls.length = 5 ∧ ∀ x ∈ ls, 1 ≤ x ∧ x ≤ 4 := by
            have h01 : e = 0 ∨ e = 1 := by omega
            rcases h01 with rfl | rfl
            · exact ⟨l1, [2, 3, 2, 1, 4], rfl, kd.at1 f1.1 ((kb.trans kc).at0 hl1), rfl, by decide⟩
            · exact ⟨l2, [3, 2, 3, 4, 1], rfl, kd.at1 f2.1 (kc.at0 hl2), rfl, by decide⟩
          refine w_ixL (SqL.of hl3) el ?_
          have hqd := kd.at1 fq.1 (kac.at0 hq5)
          walk_at "g"
          refine ⟨w_ty (SqL.of hqd), ?_⟩
          walk_at "g"
          refine w_l1 (SqL.of hrl) ?_
          refine cp_lst (SqL.of hrl) (fun i => ((ls.take i).map fun x => st + x).map V.int) (fun i hi => sz_lt (by rw [List.length_map] at hi; rw [List.length_map, List.length_map, List.length_take]; omega)) rfl (fun i x H' S N hx k y _ => ?_) (fun D He nD ke hD => ?_)
          · obtain ⟨z, hz, rfl⟩ := at_map hx
            walk_at "g"
            refine ⟨rfl, ?_⟩
            walk_at "g"
            refine y _ _ (Kp.refl _ _) ?_
            rw [tsn hz, List.map_append, List.map_append] <;> rfl
          rw [List.length_map, List.take_length] at hD
          walk_at "g"
          refine w_apT (ke.at0 hqd) (sz_lt (by rw [List.length_map]; omega)) fun Hf kf hf => ?_
          walk_at "g"
          have Dq : D ≠ q := (ne_of_none hqd nD).symm
          have kbd : Kp [b, q] H1 Hd := k5.trans (kac.all.trans (kd.mono (by simp)))
          have fD : D ≠ b ∧ D ≠ c := bd.fr nD
          have la4 := la5
          have lad : LanesI Hf as n := fun x hx => by
            obtain ⟨ys, y1, y2, y3⟩ := la4 x hx
            have xb := (hfr x hx).2
            exact ⟨ys, kf.at1 xb.1 (ke.at0 (kd.at1 xb.2.1 (kac.at0 y1))), y2, y3⟩
          refine hN _ _ ⟨st, _, _, _, rfl, s0, kbd.trans (ke.all.trans (kf.mono (by simp))), (bd.k0 ke).kp kf (by simpa using Ne.symm fq.1) (by simpa using Ne.symm fq.2), as ++ [D], by rw [hf, List.map_append] <;> rfl, by rw [List.length_append]; show _ + 1 ≤ _; omega, fun x hx => ?_, fun x hx => ?_⟩
          · rcases List.mem_append.mp hx with hx | hx
            · exact lad x hx
            · rw [List.mem_singleton] at hx
              subst hx
              refine ⟨_, kf.at1 Dq hD, by rw [List.length_map]; omega, fun y hy => ?_⟩
              obtain ⟨z, hz, rfl⟩ := List.mem_map.mp hy
              have := bls z hz
              omega
          · rcases List.mem_append.mp hx with hx | hx
            · exact hfr x hx
            · rw [List.mem_singleton] at hx
              subst hx
              exact ⟨kbd.free (by simp [fD.1, Dq]) nD, Dq, fD.1, fD.2⟩
        · walk_at "g"
          refine ⟨b, c, 4, rfl, by omega, by omega, b5, fun d H6 d1 d2 k6 b6 => ?_⟩
          have hq6 := k6.at1 fq.1 hq5
          have k56 : Kp [b, q] H1 H6 := k5.trans (k6.mono (by simp))
          have la6 : LanesI H6 as n := fun x hx => by
            obtain ⟨ys, y1, y2, y3⟩ := la5 x hx
            exact ⟨ys, k6.at1 (hfr x hx).2.2.1 y1, y2, y3⟩
          walk_at "g"
          refine w_iteD (fun c3 => ?_) (fun c3 => ?_)
          · walk_at "g"
            refine ⟨sz_ok (by show 5 ≤ 1000000; omega), G.nw fun l1 Ha na1 ka hl1 => ?_⟩
            walk_at "g"
            refine ⟨sz_ok (by show 5 ≤ 1000000; omega), G.nw fun l2 Hb na2 kb hl2 => ?_⟩
            walk_at "g"
            refine ⟨sz_ok (by show 2 ≤ 1000000; omega), G.nw fun l3 Hc na3 kc hl3 => ?_⟩
            walk_at "g"
            have kac := (ka.trans kb).trans kc
            have f1 := (b6).fr na1
            have f2 := ((b6).k0 ka).fr na2
            have f3 := ((b6).k0 (ka.trans kb)).fr na3
            refine ⟨b, c, 2, rfl, by omega, by omega, (b6).k0 kac, fun e Hd e1 e2 kd bd => ?_⟩
            have hl3 : Hd l3 = _ := kd.at1 f3.1 hl3
            obtain ⟨rl, ls, el, hrl, lls, bls⟩ : ∃ (rl : Addr) (ls : List Int), atI [V.ref l1, V.ref l2] e = some (.ref rl) ∧ Hd rl = some (.lst (ls.map V.int)) ∧ ls.length = 5 ∧ ∀ x ∈ ls, 1 ≤ x ∧ x ≤ 4 := by
              have h01 : e = 0 ∨ e = 1 := by omega
              rcases h01 with rfl | rfl
              · exact ⟨l1, [2, 3, 2, 1, 4], rfl, kd.at1 f1.1 ((kb.trans kc).at0 hl1), rfl, by decide⟩
              · exact ⟨l2, [3, 2, 3, 4, 1], rfl, kd.at1 f2.1 (kc.at0 hl2), rfl, by decide⟩
            refine w_ixL (SqL.of hl3) el ?_
            have hqd := kd.at1 fq.1 (kac.at0 hq6)
            walk_at "g"
            refine ⟨w_ty (SqL.of hqd), ?_⟩
            walk_at "g"
            refine w_l1 (SqL.of hrl) ?_
            refine cp_lst (SqL.of hrl) (fun i => ((ls.take i).map fun x => st + x).map V.int) (fun i hi => sz_lt (by rw [List.length_map] at hi; rw [List.length_map, List.length_map, List.length_take]; omega)) rfl (fun i x H' S N hx k y _ => ?_) (fun D He nD ke hD => ?_)
            · obtain ⟨z, hz, rfl⟩ := at_map hx
              walk_at "g"
              refine ⟨rfl, ?_⟩
              walk_at "g"
              refine y _ _ (Kp.refl _ _) ?_
              rw [tsn hz, List.map_append, List.map_append] <;> rfl
            rw [List.length_map, List.take_length] at hD
            walk_at "g"
            refine w_apT (ke.at0 hqd) (sz_lt (by rw [List.length_map]; omega)) fun Hf kf hf => ?_
            walk_at "g"
            have Dq : D ≠ q := (ne_of_none hqd nD).symm
            have kbd : Kp [b, q] H1 Hd := k56.trans (kac.all.trans (kd.mono (by simp)))
            have fD : D ≠ b ∧ D ≠ c := bd.fr nD
            have la4 := la6
            have lad : LanesI Hf as n := fun x hx => by
              obtain ⟨ys, y1, y2, y3⟩ := la4 x hx
              have xb := (hfr x hx).2
              exact ⟨ys, kf.at1 xb.1 (ke.at0 (kd.at1 xb.2.1 (kac.at0 y1))), y2, y3⟩
            refine hN _ _ ⟨st, _, _, _, rfl, s0, kbd.trans (ke.all.trans (kf.mono (by simp))), (bd.k0 ke).kp kf (by simpa using Ne.symm fq.1) (by simpa using Ne.symm fq.2), as ++ [D], by rw [hf, List.map_append] <;> rfl, by rw [List.length_append]; show _ + 1 ≤ _; omega, fun x hx => ?_, fun x hx => ?_⟩
            · rcases List.mem_append.mp hx with hx | hx
              · exact lad x hx
              · rw [List.mem_singleton] at hx
                subst hx
                refine ⟨_, kf.at1 Dq hD, by rw [List.length_map]; omega, fun y hy => ?_⟩
                obtain ⟨z, hz, rfl⟩ := List.mem_map.mp hy
                have := bls z hz
                omega
            · rcases List.mem_append.mp hx with hx | hx
              · exact hfr x hx
              · rw [List.mem_singleton] at hx
                subst hx
                exact ⟨kbd.free (by simp [fD.1, Dq]) nD, Dq, fD.1, fD.2⟩
          · walk_at "g"
            exact hN _ _ ⟨st, _, _, _, rfl, s0, k56, b6, as, hq6, by omega, la6, hfr⟩
      · walk_at "g"
        exact hN _ _ ⟨st, _, _, _, rfl, s0, k5, b5, as, hq5, by omega, la5, hfr⟩
    subst es
    walk_at "g"
    refine ⟨b, c, 3, rfl, by omega, by omega, b6, fun d H7 d1 d2 k7 b7 => ?_⟩
    walk_at "g"
    exact ⟨_, _, _, _, rfl, by omega, k6.trans (k7.mono (by simp)), b7, as, k7.at1 fq.1 hq6, las, fun x hx => by
      obtain ⟨ys, y1, y2, y3⟩ := la6 x hx
      exact ⟨ys, k7.at1 (hfr x hx).2.2.1 y1, y2, y3⟩, hfr⟩
  · rintro σ' H5 ⟨st, x4, x5, x6, rfl, s0, k5, b5, as, hq5, las, la5, hfr⟩
    walk_at "g"
    exact g as q H5 nq ((k1.all.trans k5).cut (by simp [nq])) b5 hq5 las la5 fun a ha => ⟨k1.free0 (hfr a ha).1, (hfr a ha).2.1⟩
theorem len__law_log (K : PySem.W.Frag) : ∀ vs H Q E, sp21__law_log K vs H Q E → vs.length = (["bag", "size"] : List Str).length := by
  rintro vs H Q E ⟨_, _, _, rfl, _⟩
  rfl
theorem rd__law_log (T : Txt K mg) (vs : List V) (H : Hp) (Q : VK) (E : XK) (h : sp21__law_log K vs H Q E) : t__law_log K E { nx := fun _ H' => Q .non H', rt := Q } (start ["bag", "size", "book", "moves", "node"] vs) H := by
  obtain ⟨b, c, n, rfl, n60, bx, g⟩ := h
  unfold t__law_log
  walk_at "j"
  refine ⟨n, rfl, n60, fun w l r o H1 nw nl nr no k1 bk => ?_⟩
  walk_at "j"
  refine ⟨sz_ok (Nat.zero_le _), G.nw fun q H2 nq k2 hq => ?_⟩
  have b1 := bx.k0 k1
  have b2 := b1.k0 k2
  have bk2 := bk.k0 k2
  obtain ⟨wq, lq, rq, oq⟩ := bk.fr nq
  have fq := b1.fr nq
  have fw := bx.fr nw
  have fl_ := bx.fr nl
  have fr := bx.fr nr
  have fo := bx.fr no
  have hq0 : H q = none := k1.free0 nq
  walk_at "j"
  refine w_ifK (fun H' => H' = H2 ∧ 1 ≤ n) (fun N hN => ?_) (fun H' ⟨eH, n1⟩ => ?_)
  · walk_at "g"
    refine w_iteD (fun c1 => ?_) (fun c1 => ?_)
    · walk_at "g"
      exact g [] q H2 (fun i op h => by simp at h) (Nat.zero_le _) hq0 (k1.trans k2).all b2 hq
    · exact hN _ ⟨rfl, by omega⟩
  subst H'
  walk_at "g"
  refine ⟨b, c, n, rfl, n1, n60, b2, fun ns p H3 bns lns np k3 b3 hp => ?_⟩
  have fp := b2.fr np
  obtain ⟨wp_, lp_, rp_, op_⟩ := bk2.fr np
  have pq : p ≠ q := (ne_of_none hq np).symm
  have bk3 := bk2.kp k3 (by simpa using fw.1) (by simpa using fl_.1) (by simpa using fr.1) (by simpa using fo.1)
  have k03 : Kp [b] H H3 := (k1.trans k2).all.trans k3
  walk_at "g"
  refine w_l1 (SqL.of hp) ?_
  have sn : ∀ ds : List Int, (runS (wholeS n) ds).n = n := fun ds => by rw [runS_n] <;> rfl
  refine lp_lst (xs := ns.map V.int) (fun i σ H' => (∃ x4 : Option V, σ = [some (.ref b), some (.int n), some (.ref w), some (.ref q), x4]) ∧ Kp [q, l, r, o] H3 H' ∧ ∃ ds : List Int, ds.length = i ∧ Leg (wholeS n) ds ∧ Bk5 H' w l r o (runS (wholeS n) ds) ∧ H' q = some (.lst (ds.map V.int)))
    ⟨⟨_, rfl⟩, Kp.refl _ _, [], rfl, (fun i op h => by simp at h), bk3, k3.at1 fq.1 hq⟩ ?_ ?_ ?_
  · rintro i σ' H' hi ⟨_, k, _⟩
    exact SqL.of (k _ _ (by simp [pq, Ne.symm lp_, Ne.symm rp_, Ne.symm op_]) hp)
  · rintro i x σ' H4 hx ⟨⟨x4, rfl⟩, k4, ds, lds, leg, bk4, hq4⟩
    obtain ⟨z, hz, rfl⟩ := at_map hx
    have bz := bns z (List.mem_of_getElem? hz)
    have li := (List.getElem?_eq_some_iff.mp hz).1
    obtain ⟨v, rfl⟩ : ∃ v : Nat, z = (v : Int) := ⟨z.toNat, by omega⟩
    obtain ⟨ok, na⟩ := legO_ok' (s := runS (wholeS n) ds) (v := v) (by omega) (by rw [sn]; omega)
    walk_at "g"
    refine ⟨w_ty (SqL.of hq4), ?_⟩
    walk_at "g"
    refine ⟨w, l, r, o, _, v, rfl, bk4, by rw [sn]; omega, ?_⟩
    walk_at "g"
    refine w_apT hq4 (sz_lt (by rw [List.length_map]; omega)) fun H5 k5 h5 => ?_
    have bk5 := bk4.kp k5 (by simpa using wq) (by simpa using lq) (by simpa using rq) (by simpa using oq)
    walk_at "g"
    refine ⟨w, l, r, o, _, v, rfl, bk5, by omega, by rw [sn]; omega, fun H6 k6 bk6 => ?_⟩
    walk_at "g"
    refine ⟨⟨_, rfl⟩, k4.trans ((k5.mono (by simp)).trans (k6.mono (by simp))), ds ++ [legO (runS (wholeS n) ds) v], by rw [List.length_append, lds] <;> rfl, leg.snoc ok, by rw [runS_snoc]; exact bk6, ?_⟩
    rw [k6 _ _ (by simp [Ne.symm lq, Ne.symm rq, Ne.symm oq]) h5, List.map_append] <;> rfl
  · rintro σ' H4 ⟨⟨x4, rfl⟩, k4, ds, lds, leg, bk4, hq4⟩
    rw [List.length_map] at lds
    walk_at "g"
    exact g ds q H4 leg (by omega) hq0 (((k03.mono (S' := [b, q, l, r, o]) (by simp)).trans (k4.mono (by simp))).cut (by simp [hq0, nl, nr, no])) (b3.kp k4 (by simp [Ne.symm fq.1, Ne.symm fl_.1, Ne.symm fr.1, Ne.symm fo.1]) (by simp [Ne.symm fq.2, Ne.symm fl_.2, Ne.symm fr.2, Ne.symm fo.2])) hq4
end
end G

set_option Elab.async false
set_option linter.all false
set_option maxRecDepth 100000
set_option maxHeartbeats 1000000
namespace G
--#FAM KH
open PySem PySem.Spec PyProof.Rows L2
local macro_rules
  | `(tactic| walk_at "1") => `(tactic| first
    | with_reducible refine w_seq ?_
    | with_reducible refine w_asg ?_
    | with_reducible refine w_asgS ?_
    | with_reducible refine w_asf ?_
    | with_reducible refine w_drop ?_
    | with_reducible refine w_ret ?_
    | with_reducible refine w_if ?_
    | with_reducible refine w_not ?_
    | with_reducible refine w_and ?_
    | with_reducible refine w_or ?_
    | with_reducible refine w_test ?_
    | with_reducible refine w_tb ?_
    | with_reducible refine w_chain ?_
    | with_reducible refine w_op ?_
    | with_reducible refine w_un ?_
    | with_reducible refine w_andV ?_
    | with_reducible refine w_orV ?_
    | with_reducible refine w_notV ?_
    | with_reducible refine w_ifE ?_
    | with_reducible refine w_cons ?_
    | with_reducible refine w_nil ?_
    | with_reducible refine w_cb ?_
    | with_reducible refine w_cl ?_
    | with_reducible refine w_mt ?_
    | with_reducible refine w_fld ?_
    | with_reducible refine w_tupN ?_
    | with_reducible refine w_lstN ?_
    | with_reducible refine w_bm ?_
    | with_reducible refine w_bm0 ?_
    | with_reducible refine w_for ?_
    | with_reducible refine w_lc ?_
    | with_reducible refine w_iR1 ?_
    | with_reducible refine w_iR2 ?_
    | with_reducible refine w_iL ?_
    | with_reducible refine w_iT ?_
    | with_reducible refine w_iE ?_
    | with_reducible refine w_iZ ?_
    | with_reducible refine w_var (by with_unfolding_all rfl) ?_
    | with_reducible refine w_c ?_
    | with_reducible refine w_next ?_
    | with_reducible refine w_i0 ?_
    | with_reducible refine w_u1 ?_
    | with_reducible refine w_addI ?_
    | with_reducible refine w_eqI ?_
    | with_reducible refine w_eqS ?_
    | with_reducible refine w_eqB ?_
    | with_reducible refine w_neI ?_
    | with_reducible refine w_neS ?_
    | with_reducible refine w_neB ?_
    | with_reducible refine w_abs ?_
    | with_reducible refine w_intI ?_
    | with_reducible refine w_min2 ?_
    | with_reducible refine w_max2 ?_
    | with_reducible refine w_isN0 ?_
    | with_reducible refine w_isN1 ref_ne ?_
    | with_reducible refine w_isN1 int_ne ?_
    | with_reducible refine w_notN0 ?_
    | with_reducible refine w_notN1 ref_ne ?_
    | with_reducible refine w_notN1 int_ne ?_
    | with_reducible refine w_ex1 ?_
    | with_reducible refine w_n1 ?_
    | with_reducible refine w_n2 ?_
    | with_reducible refine w_tT ?_
    | with_reducible refine w_tF ?_
    | with_reducible refine w_nT ?_
    | with_reducible refine w_nF ?_
    | with_reducible refine w_rz ?_
    | with_reducible refine w_mkN ?_
    | with_reducible refine w_lrgN ?_
    | with_reducible refine w_rg1 ?_
    | with_reducible refine w_rg2 ?_
    | with_reducible refine w_sl ?_
    | with_reducible refine w_np ?_
    | with_reducible refine w_pt ?_
    | with_reducible refine w_tr ?_
    | with_reducible refine w_gn ?_
    | with_reducible refine w_yes ?_
    | with_reducible refine w_m1 ?_
    | with_reducible refine w_asu ?_
    | with_reducible refine w_exS ?_
    | with_reducible refine w_iS ?_
    | with_reducible refine w_g1 ?_
    | with_reducible refine w_gc ?_
    | with_reducible refine w_gt (SqT.of upd_same) rfl ?_)
local macro_rules
  | `(tactic| walk_at "g") => `(tactic| repeat walk_at "1")
local macro_rules
  | `(tactic| walk_at "j1") => `(tactic| first
    | with_reducible refine w_seqI ?_
    | walk_at "1")
local macro_rules
  | `(tactic| walk_at "j") => `(tactic| repeat walk_at "j1")
section
variable {K : PySem.W.Frag} {mg : Str → Option Value}
theorem LanesI.kp {H H' : Hp} {S : List Addr} {as : List Addr} {n : Nat} (a : LanesI H as n) (k : Kp S H H') (h : ∀ x ∈ as, x ∉ S) : LanesI H' as n := fun x hx => by
  obtain ⟨ys, y1, y2, y3⟩ := a x hx
  exact ⟨ys, k _ _ (h x hx) y1, y2, y3⟩
theorem lay_cons {d : PyData} {ds : List PyData} {m : Nat} (h1 : PyData.canLay0 d = true) (h2 : d.depth ≤ m) (h3 : PyData.canLayAll0 ds = true) (h4 : PyData.depthAll ds ≤ m) : PyData.canLayAll0 (d :: ds) = true ∧ PyData.depthAll (d :: ds) ≤ m := by
  refine ⟨by rw [PyData.canLayAll0, h1, h3] <;> rfl, by rw [PyData.depthAll]; omega⟩
theorem dp_lanes {H : Hp} : ∀ as : List Addr, (∀ a ∈ as, ∃ xs : List Int, H a = some (.lst (xs.map V.int))) → ∃ ds, DpAll K H (as.map V.ref) ds ∧ (PyData.canLayAll0 ds = true ∧ PyData.depthAll ds ≤ 2) ∧ ds.isEmpty = as.isEmpty
  | [], _ => ⟨[], .nil, ⟨by simp [PyData.canLayAll0], by simp [PyData.depthAll]⟩, rfl⟩
  | a :: as, h => by
    obtain ⟨xs, hx⟩ := h a (by simp)
    obtain ⟨ds, d1, d2, _⟩ := dp_lanes as fun b hb => h b (by simp [hb])
    refine ⟨.list (xs.map PyData.int) :: ds, .cons (.lst (SqL.of hx) (dpI xs)) d1, lay_cons (by rw [PyData.canLay0]; exact layI xs) (by rw [PyData.depth]; have := depI xs; omega) d2.1 d2.2, rfl⟩
theorem sh_lanes {ds : List PyData} (h : PyData.canLayAll0 ds = true ∧ PyData.depthAll ds ≤ 2) : SeqAt.shaped (.list ds) = true := by
  unfold SeqAt.shaped
  rw [PyData.canLay0, h.1, PyData.depth]
  have := h.2
  simp
  omega
theorem len__law_nodes (K : PySem.W.Frag) : ∀ vs H Q E, sp21__law_nodes K vs H Q E → vs.length = (["bag", "size"] : List Str).length := by
  rintro vs H Q E ⟨_, _, _, rfl, _⟩
  rfl
theorem rd__law_nodes (T : Txt K mg) (vs : List V) (H : Hp) (Q : VK) (E : XK) (h : sp21__law_nodes K vs H Q E) : t__law_nodes K E { nx := fun _ H' => Q .non H', rt := Q } (start ["bag", "size", "nodes", "turn", "node", "lanes", "taken", "lane", "spare", "start", "more", "open_lanes", "step"] vs) H := by
  obtain ⟨b, c, n, rfl, n1, n60, bx, g⟩ := h
  unfold t__law_nodes
  walk_at "j"
  refine ⟨sz_ok (Nat.zero_le _), G.nw fun q H1 nq k1 hq => ?_⟩
  have fq := bx.fr nq
  have b1 := bx.k0 k1
  walk_at "j"
  refine ⟨b, c, 4, rfl, by omega, by omega, b1, fun dn H1' dn1 dn2 k1' b1' => ?_⟩
  refine w_r1 (by omega) ?_
  refine lp_rng0 (fun i σ H' => (∃ x3 x4 : Option V, σ = [some (.ref b), some (.int n), some (.ref q), x3, x4, none, none, none, none, none, none, none, none]) ∧ Kp [b, q] H1 H' ∧ Bag5 H' b c ∧ ∃ ns : List Int, H' q = some (.lst (ns.map V.int)) ∧ ns.length ≤ 2 * i ∧ ∀ x ∈ ns, 1 ≤ x ∧ x ≤ n)
    ⟨⟨_, _, rfl⟩, k1'.mono (by simp), b1', [], k1'.at1 fq.1 hq, Nat.zero_le _, fun x h => by cases h⟩ ?_ ?_
  · rintro i σ' H2 hi ⟨⟨x3, x4, rfl⟩, k2, b2, ns, hq2, lns, bns⟩
    walk_at "g"
    refine ⟨b, c, n, rfl, by omega, by omega, b2, fun e H3 e1 e2 k3 b3 => ?_⟩
    have hq3 := k3.at1 fq.1 hq2
    walk_at "g"
    refine ⟨w_ty (SqL.of hq3), ?_⟩
    walk_at "g"
    refine ⟨sz_ok (by show 2 ≤ 1000000; omega), G.nw fun z H4 nz k4 hz => ?_⟩
    have hz : H4 z = some (.lst ([1 + e, 1 + e].map V.int)) := hz
    walk_at "g"
    refine ⟨q, z, _, _, rfl, rfl, k4.at0 hq3, hz, sz_ok (by rw [List.length_map, List.length_map]; show _ + 2 ≤ _; omega), ?_⟩
    have k5 : Kp [q] H4 (upd H4 q (.lst (ns.map V.int ++ [1 + e, 1 + e].map V.int))) := Kp.put (by simp)
    have h5 : (upd H4 q (.lst (ns.map V.int ++ [1 + e, 1 + e].map V.int))) q = some (.lst (ns.map V.int ++ [1 + e, 1 + e].map V.int)) := upd_same
    generalize upd H4 q (.lst (ns.map V.int ++ [1 + e, 1 + e].map V.int)) = H5 at k5 h5 ⊢
    walk_at "g"
    refine ⟨⟨_, _, rfl⟩, k2.trans ((k3.mono (by simp)).trans (k4.all.trans (k5.mono (by simp)))), (b3.k0 k4).kp k5 (by simpa using Ne.symm fq.1) (by simpa using Ne.symm fq.2), ns ++ [1 + e, 1 + e], by rw [h5, List.map_append], by rw [List.length_append]; show _ + 2 ≤ _; omega, fun x hx => ?_⟩
    rcases List.mem_append.mp hx with hx | hx
    · exact bns x hx
    · simp only [List.mem_cons, List.not_mem_nil, or_false] at hx
      rcases hx with rfl | rfl <;> omega
  rintro σ' H2 ⟨⟨x3, x4, rfl⟩, k2, b2, ns, hq2, lns, bns⟩
  have lns : ns.length ≤ 6 := by omega
  walk_at "j"
  refine ⟨b, c, n, rfl, n1, n60, b2, fun as p H3 np k3 b3 hp las la fa => ?_⟩
  have fp := b2.fr np
  have hq3 := k3.at1 fq.1 hq2
  have fab : ∀ x ∈ as, x ≠ b ∧ x ≠ c := fun x hx => b2.fr (fa x hx).1
  have faq : ∀ x ∈ as, x ≠ q := fun x hx => (ne_of_none hq2 (fa x hx).1).symm
  have pq : p ≠ q := (ne_of_none hq2 np).symm
  walk_at "j"
  refine ⟨sz_ok (Nat.zero_le _), G.nw fun t H4 nt k4 ht => ?_⟩
  have tq : q ≠ t := ne_of_none hq3 nt
  have tp : p ≠ t := ne_of_none hp nt
  have fat : ∀ x ∈ as, x ≠ t := fun x hx => by
    obtain ⟨ys, y1, _⟩ := la x hx
    exact ne_of_none y1 nt
  have ft := b3.fr nt
  walk_at "j"
  refine w_l1 (SqL.of (k4.at0 hp)) ?_
  refine lp_lst (xs := as.map V.ref) (fun i σ H' => (∃ x7 : Option V, σ = [some (.ref b), some (.int n), some (.ref q), x3, x4, some (.ref p), some (.ref t), x7, none, none, none, none, none]) ∧ Kp [t] H4 H' ∧ ∃ ts : List Int, H' t = some (.lst (ts.map V.int)) ∧ ts.length ≤ 9 * i)
    ⟨⟨_, rfl⟩, Kp.refl _ _, [], ht, Nat.zero_le _⟩ ?_ ?_ ?_
  · rintro i σ' H' hi ⟨_, k, _⟩
    exact SqL.of (k.at1 tp (k4.at0 hp))
  · rintro i x σ' H5 hx ⟨⟨x7, rfl⟩, k5, ts, ht5, lts⟩
    rw [List.getElem?_map] at hx
    obtain ⟨a, ha, rfl⟩ : ∃ a, as[i]? = some a ∧ V.ref a = x := by
      cases e : as[i]? with
      | none => rw [e] at hx; cases hx
      | some a => rw [e] at hx; exact ⟨a, rfl, by injection hx⟩
    have ma := List.mem_of_getElem? ha
    have li := (List.getElem?_eq_some_iff.mp ha).1
    obtain ⟨ys, y1, y2, y3⟩ := la a ma
    have ya := k5.at1 (fat a ma) (k4.at0 y1)
    walk_at "g"
    refine ⟨w_ty (SqL.of ht5), ?_⟩
    walk_at "g"
    refine ⟨t, a, _, _, rfl, rfl, ht5, ya, sz_ok (by rw [List.length_map, List.length_map]; omega), ?_⟩
    have k6 : Kp [t] H5 (upd H5 t (.lst (ts.map V.int ++ ys.map V.int))) := Kp.put (by simp)
    have h6 : (upd H5 t (.lst (ts.map V.int ++ ys.map V.int))) t = some (.lst (ts.map V.int ++ ys.map V.int)) := upd_same
    generalize upd H5 t (.lst (ts.map V.int ++ ys.map V.int)) = H6 at k6 h6 ⊢
    walk_at "g"
    exact ⟨⟨_, rfl⟩, k5.trans k6, ts ++ ys, by rw [h6, List.map_append], by rw [List.length_append]; omega⟩
  rintro σ' H5 ⟨⟨x7, rfl⟩, k5, ts, ht5, lts⟩
  have k35 : Kp [] H3 H5 := (k4.all.trans k5).cut1 nt
  have b5 := b3.k0 k35
  have hq5 := k35.at0 hq3
  have hp5 := k35.at0 hp
  have la5 : LanesI H5 as n := la.kp k35 (fun _ _ => by simp)
  walk_at "j"
  refine w_r2 (by omega) ?_
  rw [show ((n : Int) + 1 - 1).toNat = n by omega]
  refine cp_mut (fun D i acc H' => Kp [] H5 H' ∧ ∃ ss : List Int, acc = ss.map V.int ∧ ss.length ≤ i ∧ ∀ x ∈ ss, 1 ≤ x ∧ x ≤ n) (sz_lt (by omega)) (fun D H' nD k hD => ⟨k, [], rfl, Nat.zero_le _, fun x h => by cases h⟩) ?_ ?_
  · intro D i acc H' S N nD hi hD ⟨kk, ss, ea, lss, bss⟩ yes no
    walk_at "g"
    refine ⟨rfl, ?_⟩
    walk_at "g"
    refine w_inL (SqL.of (kk.at0 ht5)) rfl (flatI _) ?_
    rw [if_pos rfl, inI]
    walk_at "g"
    refine w_iteN (fun c2 => ?_) (fun c2 => ?_)
    · walk_at "g"
      refine yes _ H' hD fun H6 k6 h6 => ⟨(kk.all.trans k6).cut1 nD, ss ++ [1 + (i : Int)], by rw [ea, List.map_append] <;> rfl, by rw [List.length_append]; show _ + 1 ≤ _; omega, fun x hx => ?_⟩
      rcases List.mem_append.mp hx with hx | hx
      · exact bss x hx
      · rw [List.mem_singleton] at hx
        omega
    · exact no H' hD ⟨kk, ss, ea, by omega, bss⟩
  intro sp acc H6 nsp hsp _ ⟨k6, ss, ea, lss, bss⟩
  rw [ea] at hsp
  have b6 := b5.k0 k6
  have fsp := b5.fr nsp
  walk_at "j"
  refine ⟨b, c, n, rfl, by omega, by omega, b6, fun st H7 st1 st2 k7 b7 => ?_⟩
  have hsp7 := k7.at1 fsp.1 hsp
  walk_at "j"
  refine w_ifJ (fun σ' H' => ∃ (sp : Addr) (ss : List Int) (x12 : Option V), σ' = [some (.ref b), some (.int n), some (.ref q), x3, x4, some (.ref p), some (.ref t), x7, some (.ref sp), some (.int st), none, none, x12] ∧ Kp [b] H7 H' ∧ Bag5 H' b c ∧ H' sp = some (.lst (ss.map V.int)) ∧ ss ≠ [] ∧ ss.length ≤ 60 ∧ ∀ x ∈ ss, 1 ≤ x ∧ x ≤ n)
    (fun N hN => ?_) (fun σ' H8 ⟨sp, ss, x12, es, k8, b8, hsp8, ssn, lss, bss⟩ => ?_)
  · walk_at "g"
    refine ⟨sz_ok (Nat.zero_le _), G.nw fun z H8 nz k8 hz => ?_⟩
    refine w_eqN (k8.at0 hsp7) (dpI ss) (shI ss) hz ?_
    have k78 : Kp [b] H7 H8 := k8.all
    have b8 := b7.k0 k8
    cases ss with
    | nil =>
      rw [show (([] : List Int).map PyData.int).isEmpty = true from rfl]
      walk_at "g"
      refine w_r1 (by omega) ?_
      refine cp_rng (fun i => ((List.range i).map fun (j : Nat) => 1 + (st + (j : Int)) % (n : Int)).map V.int) (fun i hi => sz_lt (by rw [List.length_map, List.length_map, List.length_range]; omega)) rfl (fun i H' S N hi k y _ => ?_) (fun D He nD ke hD => ?_)
      · walk_at "g"
        refine ⟨rfl, ?_⟩
        walk_at "g"
        refine w_ic (by omega) ?_
        walk_at "g"
        refine y _ _ (Kp.refl _ _) ?_
        rw [List.range_succ, List.map_append, List.map_append, Int.zero_add] <;> rfl
      refine hN _ _ ⟨D, _, _, rfl, k78.trans ke.all, (b8).k0 ke, hD, by simp, by rw [List.length_map, List.length_range]; show 4 ≤ 60; omega, fun x hx => ?_⟩
      obtain ⟨j, hj, rfl⟩ := List.mem_map.mp hx
      have e1 := Int.emod_nonneg (st + (j : Int)) (show (n : Int) ≠ 0 by omega)
      have e2 := Int.emod_lt_of_pos (st + (j : Int)) (show (0 : Int) < n by omega)
      omega
    | cons s0 ss =>
      rw [show ((s0 :: ss).map PyData.int).isEmpty = false from rfl]
      walk_at "g"
      refine ⟨b, c, 3, rfl, by omega, by omega, b8, fun d H9 d1 d2 k9 b9 => ?_⟩
      have k79 : Kp [b] H7 H9 := k78.trans k9
      walk_at "g"
      refine w_iteD (fun c3 => ?_) (fun c3 => ?_)
      · walk_at "g"
        refine w_r1 (by omega) ?_
        refine cp_rng (fun i => ((List.range i).map fun (j : Nat) => 1 + (st + (j : Int)) % (n : Int)).map V.int) (fun i hi => sz_lt (by rw [List.length_map, List.length_map, List.length_range]; omega)) rfl (fun i H' S N hi k y _ => ?_) (fun D He nD ke hD => ?_)
        · walk_at "g"
          refine ⟨rfl, ?_⟩
          walk_at "g"
          refine w_ic (by omega) ?_
          walk_at "g"
          refine y _ _ (Kp.refl _ _) ?_
          rw [List.range_succ, List.map_append, List.map_append, Int.zero_add] <;> rfl
        refine hN _ _ ⟨D, _, _, rfl, k79.trans ke.all, (b9).k0 ke, hD, by simp, by rw [List.length_map, List.length_range]; show 4 ≤ 60; omega, fun x hx => ?_⟩
        obtain ⟨j, hj, rfl⟩ := List.mem_map.mp hx
        have e1 := Int.emod_nonneg (st + (j : Int)) (show (n : Int) ≠ 0 by omega)
        have e2 := Int.emod_lt_of_pos (st + (j : Int)) (show (0 : Int) < n by omega)
        omega
      · walk_at "g"
        exact hN _ _ ⟨sp, s0 :: ss, _, rfl, k79, b9, k9.at1 fsp.1 (k8.at0 hsp7), by simp, by omega, bss⟩
  subst es
  have k58 : Kp [b] H5 H8 := (k6.all.trans k7).trans k8
  have spb : sp ≠ b := by
    rintro rfl
    obtain ⟨_, _, _, _, e1, _⟩ := b8.ob
    rw [hsp8] at e1
    injection e1 with e1
    injection e1 with e1
    cases ss with
    | nil => cases e1
    | cons y ys =>
      injection e1 with e1
      cases e1
  walk_at "j"
  refine ⟨b, c, 10, rfl, by omega, by omega, b8, fun dm H9 dm1 dm2 k9 b9 => ?_⟩
  refine w_r1 (by omega) ?_
  refine cp_mut (fun D i acc H' => Kp [b] H9 H' ∧ Bag5 H' b c ∧ ∃ ms : List Int, acc = ms.map V.int ∧ ms.length ≤ i ∧ ∀ x ∈ ms, 1 ≤ x ∧ x ≤ n) (sz_lt (by omega)) (fun D H' nD k hD => ⟨k.all, b9.k0 k, [], rfl, Nat.zero_le _, fun x h => by cases h⟩) ?_ ?_
  · intro D i acc H' S N nD hi hD ⟨kk, bb, ms, ea, lms, bms⟩ yes no
    have fD := b9.fr nD
    have hs9 := kk.at1 spb (k9.at1 spb hsp8)
    walk_at "g"
    refine ⟨rfl, ?_⟩
    walk_at "g"
    refine w_lenL (SqL.of hs9) ?_
    walk_at "g"
    rw [List.length_map]
    have ls0 : 0 < ss.length := List.length_pos_iff.mpr ssn
    refine ⟨b, c, _, rfl, by omega, by omega, bb, fun e Ha e1 e2 ka ba => ?_⟩
    refine w_ixL (SqL.of (ka.at1 spb hs9)) (at_I e1 (by omega)) ?_
    have be := bss _ (List.mem_of_getElem? (gI_at (l := ss) (i := e.toNat) (by omega)))
    refine yes _ Ha (ka.at1 fD.1 hD) fun Hb kb hb => ⟨?_, ba.kp kb (by simpa using Ne.symm fD.1) (by simpa using Ne.symm fD.2), ms ++ [gI ss e.toNat], by rw [ea, List.map_append] <;> rfl, by rw [List.length_append]; show _ + 1 ≤ _; omega, fun x hx => ?_⟩
    · exact ((kk.trans ka).mono (S' := [b, D]) (by simp) |>.trans (kb.mono (by simp))).cut (by simp [nD])
    · rcases List.mem_append.mp hx with hx | hx
      · exact bms x hx
      · rw [List.mem_singleton] at hx
        rw [hx]
        exact be
  intro mr acc Ha nmr hmr lmr ⟨ka, ba, ms, ea, lms, bms⟩
  rw [ea] at hmr
  have k3a : Kp [b] H3 Ha := k35.all.trans (k58.trans (k9.trans ka))
  have fmr := b9.fr nmr
  have nmr3 : H3 mr = none := (k35.all.trans (k58.trans k9)).free (by simpa using fmr.1) nmr
  have mrp : mr ≠ p := (ne_of_none hp nmr3).symm
  have mrq : mr ≠ q := (ne_of_none hq3 nmr3).symm
  have hpa := k3a.at1 fp.1 hp
  have hqa := k3a.at1 fq.1 hq3
  have laa : LanesI Ha as n := la.kp k3a (fun x hx => by simpa using (fab x hx).1)
  walk_at "j"
  refine w_ifK (fun H' => Kp [p] Ha H' ∧ ∃ as : List Addr, H' p = some (.lst (as.map V.ref)) ∧ as.length ≤ 4 ∧ LanesI H' as n ∧ ∀ x ∈ as, (x ≠ b ∧ x ≠ c) ∧ x ≠ q ∧ x ≠ p ∧ H x = none) (fun N hN => ?_) (fun Hb ⟨kb, as, hpb, las, lab, fas⟩ => ?_)
  · have old : ∀ x ∈ as, (x ≠ b ∧ x ≠ c) ∧ x ≠ q ∧ x ≠ p ∧ H x = none := fun x hx => ⟨fab x hx, faq x hx, (fa x hx).2, (k1.all.trans k2).free (by simp [(fab x hx).1, faq x hx]) (fa x hx).1⟩
    walk_at "g"
    refine ⟨sz_ok (Nat.zero_le _), G.nw fun z Hb nz kb hz => ?_⟩
    refine w_neN (kb.at0 hmr) (dpI ms) (shI ms) hz ?_
    walk_at "g"
    cases ms with
    | nil =>
      rw [show (!(([] : List Int).map PyData.int).isEmpty) = false from rfl]
      walk_at "g"
      exact hN _ ⟨kb.all, as, kb.at0 hpa, by omega, laa.kp kb (fun _ _ => by simp), old⟩
    | cons m0 ms =>
      rw [show (!((m0 :: ms).map PyData.int).isEmpty) = true from rfl]
      walk_at "g"
      refine ⟨w_ty (SqL.of (kb.at0 hpa)), ?_⟩
      walk_at "g"
      refine w_apT (kb.at0 hpa) (sz_lt (by rw [List.length_map]; omega)) fun Hc kc hc => ?_
      walk_at "g"
      refine hN _ ⟨kb.all.trans kc, as ++ [mr], by rw [hc, List.map_append] <;> rfl, by rw [List.length_append]; show _ + 1 ≤ _; omega, fun x hx => ?_, fun x hx => ?_⟩
      · rcases List.mem_append.mp hx with hx | hx
        · exact ((laa.kp kb (fun _ _ => by simp)).kp kc (fun y hy => by simpa using (old y hy).2.2.1)) x hx
        · rw [List.mem_singleton] at hx
          subst hx
          exact ⟨m0 :: ms, kc.at1 mrp (kb.at0 hmr), by omega, bms⟩
      · rcases List.mem_append.mp hx with hx | hx
        · exact old x hx
        · rw [List.mem_singleton] at hx
          subst hx
          exact ⟨fmr, mrq, mrp, ((k1.all.trans k2).trans (k3.mono (by simp))).free (by simp [fmr.1, mrq]) nmr3⟩
  have hqb := kb.at1 (Ne.symm pq) hqa
  have bb := ba.kp kb (by simpa using Ne.symm fp.1) (by simpa using Ne.symm fp.2)
  walk_at "g"
  refine w_r1 (by omega) ?_
  refine lp_rng0 (n := 30) (fun i σ H' => (∃ y3 y7 y11 : Option V, σ = [some (.ref b), some (.int n), some (.ref q), y3, x4, some (.ref p), some (.ref t), y7, some (.ref sp), some (.int st), some (.ref mr), y11, x12]) ∧ Kp (b :: q :: as) Hb H' ∧ Bag5 H' b c ∧ LanesI H' as n ∧ ∃ ns : List Int, H' q = some (.lst (ns.map V.int)) ∧ ns.length ≤ 6 + i ∧ ∀ x ∈ ns, 1 ≤ x ∧ x ≤ n)
    ⟨⟨_, _, _, rfl⟩, Kp.refl _ _, bb, lab, ns, hqb, by omega, bns⟩ ?_ ?_
  · rintro i σ' Hc hi ⟨⟨y3, y7, y11, rfl⟩, kc, bc, lac, ns, hqc, lns, bns⟩
    have hpc := kc _ _ (by
      rw [List.mem_cons, List.mem_cons]
      rintro (z | z | z)
      · exact fp.1 z
      · exact pq z
      · exact (fas p z).2.2.1 rfl) hpb
    walk_at "g"
    refine w_l1 (SqL.of hpc) ?_
    refine cp_mutL (fun D j acc H' => Kp [] Hc H' ∧ ∃ os : List Addr, acc = os.map V.ref ∧ os.length ≤ j ∧ ∀ a ∈ os, a ∈ as ∧ ∃ (x : Int) (xs : List Int), Hc a = some (.lst ((x :: xs).map V.int))) (sz_lt (by rw [List.length_map]; omega)) (fun D H' nD k hD => ⟨k, [], rfl, Nat.zero_le _, fun x h => by cases h⟩) (fun D j acc H' nD h => SqL.of (h.1.at0 hpc)) ?_ ?_
    · intro D j x acc H' S N nD hx hD ⟨kk, os, ea, los, bos⟩ yes no
      rw [List.getElem?_map] at hx
      obtain ⟨a, ha, rfl⟩ : ∃ a, as[j]? = some a ∧ V.ref a = x := by
        cases e : as[j]? with
        | none => rw [e] at hx; cases hx
        | some a => rw [e] at hx; exact ⟨a, rfl, by injection hx⟩
      have ma := List.mem_of_getElem? ha
      obtain ⟨ys, y1, y2, yb⟩ := lac a ma
      walk_at "g"
      refine ⟨rfl, ?_⟩
      walk_at "g"
      refine ⟨sz_ok (Nat.zero_le _), G.nw fun z H2 nz k2 hz => ?_⟩
      refine w_neN ((kk.trans k2).at0 y1) (dpI ys) (shI ys) hz ?_
      walk_at "g"
      cases ys with
      | nil =>
        rw [show (!(([] : List Int).map PyData.int).isEmpty) = false from rfl]
        walk_at "g"
        exact no H2 (k2.at0 hD) ⟨kk.trans k2, os, ea, by omega, bos⟩
      | cons y0 ys =>
        rw [show (!((y0 :: ys).map PyData.int).isEmpty) = true from rfl]
        walk_at "g"
        refine yes _ H2 (k2.at0 hD) fun H3 k3 h3 => ⟨((kk.trans k2).all.trans k3).cut1 nD, os ++ [a], by rw [ea, List.map_append] <;> rfl, by rw [List.length_append]; show _ + 1 ≤ _; omega, fun x hx => ?_⟩
        rcases List.mem_append.mp hx with hx | hx
        · exact bos x hx
        · rw [List.mem_singleton] at hx
          subst hx
          exact ⟨ma, y0, ys, y1⟩
    intro ol acc Hd nol hol _ ⟨kd, os, ea, los, bos⟩
    rw [ea] at hol
    have fol := bc.fr nol
    have bd := bc.k0 kd
    obtain ⟨ds, dp, dl, de⟩ := dp_lanes (K := K) (H := Hd) os fun a ha => by
      obtain ⟨_, x, xs, h⟩ := bos a ha
      exact ⟨_, kd.at0 h⟩
    walk_at "g"
    refine ⟨sz_ok (Nat.zero_le _), G.nw fun z He nz ke hz => ?_⟩
    obtain ⟨ds, dp, dl, de⟩ := dp_lanes (K := K) (H := He) os fun a ha => by
      obtain ⟨_, x, xs, h⟩ := bos a ha
      exact ⟨_, ke.at0 (kd.at0 h)⟩
    refine w_neN (ke.at0 hol) dp (sh_lanes dl) hz ?_
    rw [de]
    have kce : Kp [] Hc He := kd.trans ke
    have be := bd.k0 ke
    walk_at "g"
    cases os with
    | nil =>
      rw [show (!([] : List Addr).isEmpty) = false from rfl]
      walk_at "g"
      exact ⟨⟨_, _, _, rfl⟩, kc.trans kce.all, be, lac.kp kce (fun _ _ => by simp), ns, kce.at0 hqc, by omega, bns⟩
    | cons o0 os =>
      rw [show (!(o0 :: os).isEmpty) = true from rfl]
      walk_at "g"
      refine w_lenL (SqL.of (ke.at0 hol)) ?_
      walk_at "g"
      rw [List.length_map]
      rw [List.length_map] at los
      refine ⟨b, c, _, rfl, by rw [List.length_cons]; omega, by omega, be, fun e Hf e1 e2 kf bf => ?_⟩
      obtain ⟨a, ha⟩ : ∃ a, (o0 :: os)[e.toNat]? = some a := ⟨_, List.getElem?_eq_getElem (by omega)⟩
      obtain ⟨ma, x, xs, hx⟩ := bos a (List.mem_of_getElem? ha)
      obtain ⟨⟨ab, ac⟩, aq, ap, aH⟩ := fas a ma
      refine w_ixL (SqL.of (kf.at1 fol.1 (ke.at0 hol))) (v := .ref a) (by rw [atI_pos e1 (by rw [List.length_map]; exact e2), List.getElem?_map, ha] <;> rfl) ?_
      have hxf := kf.at1 ab (kce.at0 hx)
      have hqf := kf.at1 fq.1 (kce.at0 hqc)
      walk_at "g"
      refine ⟨w_ty (SqL.of hqf), ?_⟩
      walk_at "g"
      refine ⟨w_ty (SqL.of hxf), ?_⟩
      walk_at "g"
      refine w_popAt (k := 0) (y := .int x) hxf (by omega) (by omega) (ixN_seq (ixN_pos (by omega) (by rw [List.length_map, List.length_cons]; omega))).1 rfl fun Hg kg hg => ?_
      have hg : Hg a = some (.lst (xs.map V.int)) := hg
      obtain ⟨ys, y1, y2, yb⟩ := lac a ma
      have ey : ys = x :: xs := by
        rw [hx] at y1
        injection y1 with y1
        injection y1 with y1
        have inj : ∀ (l m : List Int), l.map V.int = m.map V.int → l = m := by
          intro l
          induction l with
          | nil => intro m h; cases m with
            | nil => rfl
            | cons => cases h
          | cons u l ih => intro m h; cases m with
            | nil => cases h
            | cons v m =>
              injection h with h1 h2
              injection h1 with h1
              rw [h1, ih m h2]
        exact (inj _ _ y1).symm
      subst ey
      have hqg := kg.at1 (Ne.symm aq) hqf
      walk_at "g"
      refine w_apT hqg (sz_lt (by rw [List.length_map]; omega)) fun Hh kh hh => ?_
      walk_at "g"
      have bx0 := yb x (by simp)
      refine ⟨⟨_, _, _, rfl⟩, ?_, (bf.kp kg (by simpa using Ne.symm ab) (by simpa using Ne.symm ac)).kp kh (by simpa using Ne.symm fq.1) (by simpa using Ne.symm fq.2), fun y hy => ?_, ns ++ [x], by rw [hh, List.map_append] <;> rfl, by rw [List.length_append]; show _ + 1 ≤ _; omega, fun y hy => ?_⟩
      · exact kc.trans (kce.all.trans ((kf.mono (by simp)).trans ((kg.mono (fun z hz => by rw [List.mem_singleton] at hz; subst hz; simp [ma])).trans (kh.mono (by simp)))))
      · obtain ⟨⟨yb1, _⟩, yq, _, _⟩ := fas y hy
        by_cases e : y = a
        · subst e
          exact ⟨xs, kh.at1 yq hg, by rw [List.length_cons] at y2; omega, fun z hz => yb z (by simp [hz])⟩
        · obtain ⟨zs, z1, z2, z3⟩ := lac y hy
          exact ⟨zs, kh.at1 yq (kg.at1 e (kf.at1 yb1 (kce.at0 z1))), z2, z3⟩
      · rcases List.mem_append.mp hy with hy | hy
        · exact bns y hy
        · rw [List.mem_singleton] at hy
          rw [hy]
          exact bx0
  · rintro σ' Hc ⟨⟨y3, y7, y11, rfl⟩, kc, bc, lac, ns, hqc, lns, bns⟩
    walk_at "g"
    refine g ns q Hc bns (by omega) nq ?_ bc hqc
    have np0 : H p = none := (k1.all.trans k2).free (by simp [fp.1, pq]) np
    have kk : Kp (b :: q :: p :: as) H Hc := ((k1.all.trans (k2.mono (by simp))).trans (k3.mono (by simp))).trans ((k3a.mono (by simp)).trans ((kb.mono (by simp)).trans (kc.mono (fun z hz => by
      rcases List.mem_cons.mp hz with e | e
      · simp [e]
      · rcases List.mem_cons.mp e with e | e
        · simp [e]
        · simp [e]))))
    refine kk.cut fun z hz => ?_
    rcases List.mem_cons.mp hz with e | e
    · left; simp [e]
    · rcases List.mem_cons.mp e with e | e
      · right; rw [e]; exact nq
      · rcases List.mem_cons.mp e with e | e
        · right; rw [e]; exact np0
        · right; exact (fas z e).2.2.2
end
end G

set_option Elab.async false
set_option linter.all false
set_option maxRecDepth 100000
set_option maxHeartbeats 2000000
namespace G
--#FAM KH
open PySem PySem.Spec PyProof.Rows L2
local macro_rules
  | `(tactic| walk_at "1") => `(tactic| first
    | with_reducible refine w_seq ?_
    | with_reducible refine w_asg ?_
    | with_reducible refine w_asgS ?_
    | with_reducible refine w_asf ?_
    | with_reducible refine w_drop ?_
    | with_reducible refine w_ret ?_
    | with_reducible refine w_if ?_
    | with_reducible refine w_not ?_
    | with_reducible refine w_and ?_
    | with_reducible refine w_or ?_
    | with_reducible refine w_test ?_
    | with_reducible refine w_tb ?_
    | with_reducible refine w_chain ?_
    | with_reducible refine w_op ?_
    | with_reducible refine w_un ?_
    | with_reducible refine w_andV ?_
    | with_reducible refine w_orV ?_
    | with_reducible refine w_notV ?_
    | with_reducible refine w_ifE ?_
    | with_reducible refine w_cons ?_
    | with_reducible refine w_nil ?_
    | with_reducible refine w_cb ?_
    | with_reducible refine w_cl ?_
    | with_reducible refine w_mt ?_
    | with_reducible refine w_fld ?_
    | with_reducible refine w_tupN ?_
    | with_reducible refine w_lstN ?_
    | with_reducible refine w_bm ?_
    | with_reducible refine w_bm0 ?_
    | with_reducible refine w_for ?_
    | with_reducible refine w_lc ?_
    | with_reducible refine w_iR1 ?_
    | with_reducible refine w_iR2 ?_
    | with_reducible refine w_iL ?_
    | with_reducible refine w_iT ?_
    | with_reducible refine w_iE ?_
    | with_reducible refine w_iZ ?_
    | with_reducible refine w_var (by with_unfolding_all rfl) ?_
    | with_reducible refine w_c ?_
    | with_reducible refine w_next ?_
    | with_reducible refine w_i0 ?_
    | with_reducible refine w_u1 ?_
    | with_reducible refine w_addI ?_
    | with_reducible refine w_eqI ?_
    | with_reducible refine w_eqS ?_
    | with_reducible refine w_eqB ?_
    | with_reducible refine w_neI ?_
    | with_reducible refine w_neS ?_
    | with_reducible refine w_neB ?_
    | with_reducible refine w_abs ?_
    | with_reducible refine w_intI ?_
    | with_reducible refine w_min2 ?_
    | with_reducible refine w_max2 ?_
    | with_reducible refine w_isN0 ?_
    | with_reducible refine w_isN1 ref_ne ?_
    | with_reducible refine w_isN1 int_ne ?_
    | with_reducible refine w_notN0 ?_
    | with_reducible refine w_notN1 ref_ne ?_
    | with_reducible refine w_notN1 int_ne ?_
    | with_reducible refine w_ex1 ?_
    | with_reducible refine w_n1 ?_
    | with_reducible refine w_n2 ?_
    | with_reducible refine w_tT ?_
    | with_reducible refine w_tF ?_
    | with_reducible refine w_nT ?_
    | with_reducible refine w_nF ?_
    | with_reducible refine w_rz ?_
    | with_reducible refine w_mkN ?_
    | with_reducible refine w_lrgN ?_
    | with_reducible refine w_rg1 ?_
    | with_reducible refine w_rg2 ?_
    | with_reducible refine w_sl ?_
    | with_reducible refine w_np ?_
    | with_reducible refine w_pt ?_
    | with_reducible refine w_tr ?_
    | with_reducible refine w_gn ?_
    | with_reducible refine w_yes ?_
    | with_reducible refine w_m1 ?_
    | with_reducible refine w_asu ?_
    | with_reducible refine w_exS ?_
    | with_reducible refine w_iS ?_
    | with_reducible refine w_g1 ?_
    | with_reducible refine w_gc ?_
    | with_reducible refine w_gt (SqT.of upd_same) rfl ?_)
local macro_rules
  | `(tactic| walk_at "g") => `(tactic| repeat walk_at "1")
local macro_rules
  | `(tactic| walk_at "j1") => `(tactic| first
    | with_reducible refine w_seqI ?_
    | walk_at "1")
local macro_rules
  | `(tactic| walk_at "j") => `(tactic| repeat walk_at "j1")
section
variable {K : PySem.W.Frag} {mg : Str → Option Value}
def wordsK : List Str := (List.range 1001).map fun (i : Nat) => numI (i : Int)
theorem strOkK {s : Int} (h1 : 0 ≤ s) (h2 : s ≤ 1000) : PyData.strOk (numI s) = true := by
  have : wordsK.all PyData.strOk = true := by decide +kernel
  refine List.all_eq_true.mp this _ (List.mem_map.mpr ⟨s.toNat, List.mem_range.mpr (by omega), ?_⟩)
  rw [show ((s.toNat : Nat) : Int) = s by omega]
theorem logK {i : Int} (h1 : 0 ≤ i) (h2 : i ≤ 1000) : i.natAbs.log2 < 1920 := by
  by_cases h : i.natAbs = 0
  · rw [h]
    decide
  · have : i.natAbs.log2 < 10 := (Nat.log2_lt h).mpr (by omega)
    omega
theorem so_e : PyData.strOk ("" : Str) = true := by decide +kernel
theorem so_l : PyData.strOk ("lost" : Str) = true := by decide +kernel
theorem vT {b t : Addr} {H : Hp} {xs : List V} {ds : List PyData} (ne : t ≠ b) (h : H t = some (.tup xs)) (a : VlA b H xs ds) (sh : SeqAt.shaped (.tuple ds) = true) : ValS b H (.ref t) := ⟨_, .tup ne h a, sh⟩
theorem vLs {b t : Addr} {H : Hp} {xs : List V} {ds : List PyData} (ne : t ≠ b) (h : H t = some (.lst xs)) (a : VlA b H xs ds) (sh : SeqAt.shaped (.list ds) = true) : ValS b H (.ref t) := ⟨_, .lst ne h a, sh⟩
theorem a_1 {P : V → Prop} {x : V} (h : P x) : ∀ y ∈ [x], P y := fun y hy => by
  rw [List.mem_singleton] at hy
  rw [hy]
  exact h
theorem a_c {P : V → Prop} {x : V} {xs : List V} (h : P x) (h2 : ∀ y ∈ xs, P y) : ∀ y ∈ x :: xs, P y := fun y hy => by
  rcases List.mem_cons.mp hy with e | e
  · rw [e]
    exact h
  · exact h2 y e
theorem x_vl {b : Addr} {H : Hp} {x : V} {i : Int} (hx : x = .int i ∨ ∃ k : Bool, x = .bl k) : ∃ d, Vl b H x d ∧ PyData.canLay0 d = true ∧ d.depth = 0 := by
  rcases hx with rfl | ⟨k, rfl⟩
  · exact ⟨_, .int i, by simp [PyData.canLay0], by simp [PyData.depth]⟩
  · exact ⟨_, .bl k, by simp [PyData.canLay0], by simp [PyData.depth]⟩
theorem w_sl3 {te : TE} {tl th ts : TO} {σ : L2.St} {H : Hp} {Q : VK} (g : te σ H fun x H1 => tl σ H1 fun l H2 => th σ H2 fun u H3 => ts σ H3 fun z H4 => ∃ a xs, x = .ref a ∧ SqL K H4 a xs ∧ z ≠ some 0 ∧
  ∀ p ys, H4 p = none → ys.length ≤ xs.length → (∀ y ∈ ys, y ∈ xs) → Q (.ref p) (upd H4 p (.lst ys))) : tSl3 K te tl th ts σ H Q := g
theorem len__law_values (K : PySem.W.Frag) : ∀ vs H Q E, sp__law_values K vs H Q E → vs.length = (["triple"] : List Str).length := by
  rintro vs H Q E ⟨_, _, _, rfl, _⟩
  rfl
theorem rd__law_values (T : Txt K mg) (vs : List V) (H : Hp) (Q : VK) (E : XK) (h : sp__law_values K vs H Q E) : t__law_values K E { nx := fun _ H' => Q .non H', rt := Q } (start ["triple", "gap", "first", "second"] vs) H := by
  obtain ⟨b, t, e, rfl, ht, tb, ⟨ob, hb⟩, s0, s1, g⟩ := h
  unfold t__law_values
  obtain ⟨ga, fi, se⟩ := e
  have ht : H t = some (.tup [.int ga, .int fi, .int se]) := ht
  have s0 : 0 ≤ se := s0
  have s1 : se ≤ 1000 := s1
  have sok : PyData.strOk (Str.ofString se.repr) = true := strOkK s0 s1
  have k0 : Kp [] H H := Kp.refl _ _
  walk_at "g"
  refine w_ixT (SqT.of ht) at_0 ?_
  walk_at "g"
  refine w_ixT (SqT.of ht) (i := 1) (v := .int fi) rfl ?_
  walk_at "g"
  refine w_ixT (SqT.of ht) (i := 2) (v := .int se) rfl ?_
  walk_at "g"
  refine ⟨sz_ok (by show 3 ≤ 1000000; omega), G.nw fun t1 H1 n1 k1 h1 => ?_⟩
  have e1 : t1 ≠ b := (ne_of_none (k0.at0 hb) n1).symm
  have v1 : ValS b H1 (.ref t1) := vT e1 h1 (.cons (.int _) (.cons (.int _) (.cons (.int _) .nil))) (by simp [so_e, so_l, sok, SeqAt.shaped, PyData.canLay0, PyData.canLayAll0, PyData.depth, PyData.depthAll])
  have k0_1 := k0.trans k1
  walk_at "g"
  refine ⟨sz_ok (by show 3 ≤ 1000000; omega), G.nw fun t2 H2 n2 k2 h2 => ?_⟩
  have e2 : t2 ≠ b := (ne_of_none (k0_1.at0 hb) n2).symm
  have v2 : ValS b H2 (.ref t2) := vT e2 h2 (.cons (.int _) (.cons (.int _) (.cons (.int _) .nil))) (by simp [so_e, so_l, sok, SeqAt.shaped, PyData.canLay0, PyData.canLayAll0, PyData.depth, PyData.depthAll])
  have k0_2 := k0_1.trans k2
  walk_at "g"
  refine ⟨sz_ok (by show 3 ≤ 1000000; omega), G.nw fun t3 H3 n3 k3 h3 => ?_⟩
  have e3 : t3 ≠ b := (ne_of_none (k0_2.at0 hb) n3).symm
  have v3 : ValS b H3 (.ref t3) := vT e3 h3 (.cons (.int _) (.cons (.int _) (.cons (.int _) .nil))) (by simp [so_e, so_l, sok, SeqAt.shaped, PyData.canLay0, PyData.canLayAll0, PyData.depth, PyData.depthAll])
  have k0_3 := k0_2.trans k3
  walk_at "g"
  refine ⟨sz_ok (by show 3 ≤ 1000000; omega), G.nw fun t4 H4 n4 k4 h4 => ?_⟩
  have e4 : t4 ≠ b := (ne_of_none (k0_3.at0 hb) n4).symm
  have v4 : ValS b H4 (.ref t4) := vT e4 h4 (.cons (.int _) (.cons (.int _) (.cons (.int _) .nil))) (by simp [so_e, so_l, sok, SeqAt.shaped, PyData.canLay0, PyData.canLayAll0, PyData.depth, PyData.depthAll])
  have k0_4 := k0_3.trans k4
  walk_at "g"
  refine ⟨sz_ok (by show 3 ≤ 1000000; omega), G.nw fun t5 H5 n5 k5 h5 => ?_⟩
  have e5 : t5 ≠ b := (ne_of_none (k0_4.at0 hb) n5).symm
  have v5 : ValS b H5 (.ref t5) := vT e5 h5 (.cons (.int _) (.cons (.int _) (.cons (.int _) .nil))) (by simp [so_e, so_l, sok, SeqAt.shaped, PyData.canLay0, PyData.canLayAll0, PyData.depth, PyData.depthAll])
  have k0_5 := k0_4.trans k5
  walk_at "g"
  refine ⟨sz_ok (by show 3 ≤ 1000000; omega), G.nw fun t6 H6 n6 k6 h6 => ?_⟩
  have e6 : t6 ≠ b := (ne_of_none (k0_5.at0 hb) n6).symm
  have v6 : ValS b H6 (.ref t6) := vT e6 h6 (.cons (.int _) (.cons (.int _) (.cons (.int _) .nil))) (by simp [so_e, so_l, sok, SeqAt.shaped, PyData.canLay0, PyData.canLayAll0, PyData.depth, PyData.depthAll])
  have k0_6 := k0_5.trans k6
  walk_at "g"
  refine ⟨sz_ok (by show 3 ≤ 1000000; omega), G.nw fun t7 H7 n7 k7 h7 => ?_⟩
  have e7 : t7 ≠ b := (ne_of_none (k0_6.at0 hb) n7).symm
  have v7 : ValS b H7 (.ref t7) := vT e7 h7 (.cons (.int _) (.cons (.int _) (.cons (.int _) .nil))) (by simp [so_e, so_l, sok, SeqAt.shaped, PyData.canLay0, PyData.canLayAll0, PyData.depth, PyData.depthAll])
  have k0_7 := k0_6.trans k7
  walk_at "g"
  refine ⟨sz_ok (by show 3 ≤ 1000000; omega), G.nw fun t8 H8 n8 k8 h8 => ?_⟩
  have e8 : t8 ≠ b := (ne_of_none (k0_7.at0 hb) n8).symm
  have v8 : ValS b H8 (.ref t8) := vT e8 h8 (.cons (.int _) (.cons (.int _) (.cons (.int _) .nil))) (by simp [so_e, so_l, sok, SeqAt.shaped, PyData.canLay0, PyData.canLayAll0, PyData.depth, PyData.depthAll])
  have k0_8 := k0_7.trans k8
  walk_at "g"
  refine ⟨sz_ok (by show 3 ≤ 1000000; omega), G.nw fun t9 H9 n9 k9 h9 => ?_⟩
  have e9 : t9 ≠ b := (ne_of_none (k0_8.at0 hb) n9).symm
  have v9 : ValS b H9 (.ref t9) := vT e9 h9 (.cons (.int _) (.cons (.int _) (.cons (.int _) .nil))) (by simp [so_e, so_l, sok, SeqAt.shaped, PyData.canLay0, PyData.canLayAll0, PyData.depth, PyData.depthAll])
  have k0_9 := k0_8.trans k9
  walk_at "g"
  refine ⟨sz_ok (by show 3 ≤ 1000000; omega), G.nw fun t10 H10 n10 k10 h10 => ?_⟩
  have e10 : t10 ≠ b := (ne_of_none (k0_9.at0 hb) n10).symm
  have v10 : ValS b H10 (.ref t10) := vT e10 h10 (.cons (.int _) (.cons (.int _) (.cons (.int _) .nil))) (by simp [so_e, so_l, sok, SeqAt.shaped, PyData.canLay0, PyData.canLayAll0, PyData.depth, PyData.depthAll])
  have k0_10 := k0_9.trans k10
  walk_at "g"
  refine ⟨sz_ok (by show 3 ≤ 1000000; omega), G.nw fun t11 H11 n11 k11 h11 => ?_⟩
  have e11 : t11 ≠ b := (ne_of_none (k0_10.at0 hb) n11).symm
  have v11 : ValS b H11 (.ref t11) := vT e11 h11 (.cons (.int _) (.cons (.int _) (.cons (.int _) .nil))) (by simp [so_e, so_l, sok, SeqAt.shaped, PyData.canLay0, PyData.canLayAll0, PyData.depth, PyData.depthAll])
  have k0_11 := k0_10.trans k11
  walk_at "g"
  refine ⟨sz_ok (by show 3 ≤ 1000000; omega), G.nw fun t12 H12 n12 k12 h12 => ?_⟩
  have e12 : t12 ≠ b := (ne_of_none (k0_11.at0 hb) n12).symm
  have v12 : ValS b H12 (.ref t12) := vT e12 h12 (.cons (.int _) (.cons (.int _) (.cons (.int _) .nil))) (by simp [so_e, so_l, sok, SeqAt.shaped, PyData.canLay0, PyData.canLayAll0, PyData.depth, PyData.depthAll])
  have k0_12 := k0_11.trans k12
  walk_at "g"
  refine w_ic ⟨by omega, by omega, by decide⟩ ?_
  walk_at "g"
  refine ⟨sz_ok (by show 3 ≤ 1000000; omega), G.nw fun t13 H13 n13 k13 h13 => ?_⟩
  have e13 : t13 ≠ b := (ne_of_none (k0_12.at0 hb) n13).symm
  have v13 : ValS b H13 (.ref t13) := vT e13 h13 (.cons (.int _) (.cons (.int _) (.cons (.int _) .nil))) (by simp [so_e, so_l, sok, SeqAt.shaped, PyData.canLay0, PyData.canLayAll0, PyData.depth, PyData.depthAll])
  have k0_13 := k0_12.trans k13
  walk_at "g"
  refine ⟨ga, rfl, fun x0 hx0 => ?_⟩
  walk_at "g"
  refine ⟨sz_ok (by show 3 ≤ 1000000; omega), G.nw fun t14 H14 n14 k14 h14 => ?_⟩
  have e14 : t14 ≠ b := (ne_of_none (k0_13.at0 hb) n14).symm
  have v14 : ValS b H14 (.ref t14) := by
    obtain ⟨d, q0, c0, p0⟩ := x_vl (b := b) (H := H14) hx0
    exact vT e14 h14 (.cons (q0) (.cons (.int _) (.cons (.int _) .nil))) (by simp [c0, p0, SeqAt.shaped, PyData.canLay0, PyData.canLayAll0, PyData.depth, PyData.depthAll])
  have k0_14 := k0_13.trans k14
  walk_at "g"
  refine ⟨fi, rfl, fun x1 hx1 => ?_⟩
  walk_at "g"
  refine ⟨sz_ok (by show 3 ≤ 1000000; omega), G.nw fun t15 H15 n15 k15 h15 => ?_⟩
  have e15 : t15 ≠ b := (ne_of_none (k0_14.at0 hb) n15).symm
  have v15 : ValS b H15 (.ref t15) := by
    obtain ⟨d, q1, c1, p1⟩ := x_vl (b := b) (H := H15) hx1
    exact vT e15 h15 (.cons (.int _) (.cons (q1) (.cons (.int _) .nil))) (by simp [c1, p1, SeqAt.shaped, PyData.canLay0, PyData.canLayAll0, PyData.depth, PyData.depthAll])
  have k0_15 := k0_14.trans k15
  walk_at "g"
  refine ⟨se, rfl, fun x2 hx2 => ?_⟩
  walk_at "g"
  refine ⟨sz_ok (by show 3 ≤ 1000000; omega), G.nw fun t16 H16 n16 k16 h16 => ?_⟩
  have e16 : t16 ≠ b := (ne_of_none (k0_15.at0 hb) n16).symm
  have v16 : ValS b H16 (.ref t16) := by
    obtain ⟨d, q2, c2, p2⟩ := x_vl (b := b) (H := H16) hx2
    exact vT e16 h16 (.cons (.int _) (.cons (.int _) (.cons (q2) .nil))) (by simp [c2, p2, SeqAt.shaped, PyData.canLay0, PyData.canLayAll0, PyData.depth, PyData.depthAll])
  have k0_16 := k0_15.trans k16
  walk_at "g"
  refine ⟨sz_ok (by show 3 ≤ 1000000; omega), G.nw fun t17 H17 n17 k17 h17 => ?_⟩
  have e17 : t17 ≠ b := (ne_of_none (k0_16.at0 hb) n17).symm
  have v17 : ValS b H17 (.ref t17) := vLs e17 h17 (.cons (.int _) (.cons (.int _) (.cons (.int _) .nil))) (by simp [so_e, so_l, sok, SeqAt.shaped, PyData.canLay0, PyData.canLayAll0, PyData.depth, PyData.depthAll])
  have k0_17 := k0_16.trans k17
  walk_at "g"
  refine ⟨sz_ok (by show 2 ≤ 1000000; omega), G.nw fun t18 H18 n18 k18 h18 => ?_⟩
  have e18 : t18 ≠ b := (ne_of_none (k0_17.at0 hb) n18).symm
  have v18 : ValS b H18 (.ref t18) := vT e18 h18 (.cons (.int _) (.cons (.int _) .nil)) (by simp [so_e, so_l, sok, SeqAt.shaped, PyData.canLay0, PyData.canLayAll0, PyData.depth, PyData.depthAll])
  have k0_18 := k0_17.trans k18
  walk_at "g"
  refine ⟨sz_ok (by show 4 ≤ 1000000; omega), G.nw fun t19 H19 n19 k19 h19 => ?_⟩
  have e19 : t19 ≠ b := (ne_of_none (k0_18.at0 hb) n19).symm
  have v19 : ValS b H19 (.ref t19) := vT e19 h19 (.cons (.int _) (.cons (.int _) (.cons (.int _) (.cons (.int _) .nil)))) (by simp [so_e, so_l, sok, SeqAt.shaped, PyData.canLay0, PyData.canLayAll0, PyData.depth, PyData.depthAll])
  have k0_19 := k0_18.trans k19
  walk_at "g"
  refine ⟨sz_ok (by show 0 ≤ 1000000; omega), G.nw fun t20 H20 n20 k20 h20 => ?_⟩
  have e20 : t20 ≠ b := (ne_of_none (k0_19.at0 hb) n20).symm
  have v20 : ValS b H20 (.ref t20) := vT e20 h20 .nil (by simp [so_e, so_l, sok, SeqAt.shaped, PyData.canLay0, PyData.canLayAll0, PyData.depth, PyData.depthAll])
  have k0_20 := k0_19.trans k20
  walk_at "g"
  refine ⟨sz_ok (by show 0 ≤ 1000000; omega), G.nw fun t21 H21 n21 k21 h21 => ?_⟩
  have e21 : t21 ≠ b := (ne_of_none (k0_20.at0 hb) n21).symm
  have v21 : ValS b H21 (.ref t21) := vLs e21 h21 .nil (by simp [so_e, so_l, sok, SeqAt.shaped, PyData.canLay0, PyData.canLayAll0, PyData.depth, PyData.depthAll])
  have k0_21 := k0_20.trans k21
  walk_at "g"
  refine ⟨sz_ok (by show 3 ≤ 1000000; omega), G.nw fun t22 H22 n22 k22 h22 => ?_⟩
  have e22 : t22 ≠ b := (ne_of_none (k0_21.at0 hb) n22).symm
  have v22 : ValS b H22 (.ref t22) := vT e22 h22 (.cons (.non) (.cons (.int _) (.cons (.int _) .nil))) (by simp [so_e, so_l, sok, SeqAt.shaped, PyData.canLay0, PyData.canLayAll0, PyData.depth, PyData.depthAll])
  have k0_22 := k0_21.trans k22
  walk_at "g"
  refine ⟨sz_ok (by show 1 ≤ 1000000; omega), G.nw fun t23 H23 n23 k23 h23 => ?_⟩
  have e23 : t23 ≠ b := (ne_of_none (k0_22.at0 hb) n23).symm
  have k0_23 := k0_22.trans k23
  walk_at "g"
  refine ⟨sz_ok (by show 3 ≤ 1000000; omega), G.nw fun t24 H24 n24 k24 h24 => ?_⟩
  have e24 : t24 ≠ b := (ne_of_none (k0_23.at0 hb) n24).symm
  have v24 : ValS b H24 (.ref t24) := vT e24 h24 (.cons (.int _) (.cons (.tup e23 (k24.at0 h23) (.cons (.int _) .nil)) (.cons (.int _) .nil))) (by simp [so_e, so_l, sok, SeqAt.shaped, PyData.canLay0, PyData.canLayAll0, PyData.depth, PyData.depthAll])
  have k0_24 := k0_23.trans k24
  walk_at "g"
  refine w_str (logK s0 s1) ?_
  walk_at "g"
  refine ⟨sz_ok (by show 3 ≤ 1000000; omega), G.nw fun t25 H25 n25 k25 h25 => ?_⟩
  have e25 : t25 ≠ b := (ne_of_none (k0_24.at0 hb) n25).symm
  have v25 : ValS b H25 (.ref t25) := vT e25 h25 (.cons (.int _) (.cons (.int _) (.cons (.str _) .nil))) (by simp [so_e, so_l, sok, SeqAt.shaped, PyData.canLay0, PyData.canLayAll0, PyData.depth, PyData.depthAll])
  have k0_25 := k0_24.trans k25
  walk_at "g"
  refine ⟨sz_ok (by show 1 ≤ 1000000; omega), G.nw fun t26 H26 n26 k26 h26 => ?_⟩
  have e26 : t26 ≠ b := (ne_of_none (k0_25.at0 hb) n26).symm
  have v26 : ValS b H26 (.ref t26) := vT e26 h26 (.cons (.tup tb (k0_25.at0 ht |> k26.at0) (.cons (.int _) (.cons (.int _) (.cons (.int _) .nil)))) .nil) (by simp [so_e, so_l, sok, SeqAt.shaped, PyData.canLay0, PyData.canLayAll0, PyData.depth, PyData.depthAll])
  have k0_26 := k0_25.trans k26
  walk_at "g"
  refine ⟨sz_ok (by show 3 ≤ 1000000; omega), G.nw fun t27 H27 n27 k27 h27 => ?_⟩
  have e27 : t27 ≠ b := (ne_of_none (k0_26.at0 hb) n27).symm
  have v27 : ValS b H27 (.ref t27) := vT e27 h27 (.cons (.tup tb (k0_26.at0 ht |> k27.at0) (.cons (.int _) (.cons (.int _) (.cons (.int _) .nil)))) (.cons (.int _) (.cons (.int _) .nil))) (by simp [so_e, so_l, sok, SeqAt.shaped, PyData.canLay0, PyData.canLayAll0, PyData.depth, PyData.depthAll])
  have k0_27 := k0_26.trans k27
  walk_at "g"
  refine ⟨sz_ok (by show 31 ≤ 1000000; omega), G.nw fun q HF nq kF hF => ?_⟩
  have K27 : Kp [] H27 HF := kF
  have K26 : Kp [] H26 HF := k27.trans K27
  have K25 : Kp [] H25 HF := k26.trans K26
  have K24 : Kp [] H24 HF := k25.trans K25
  have K23 : Kp [] H23 HF := k24.trans K24
  have K22 : Kp [] H22 HF := k23.trans K23
  have K21 : Kp [] H21 HF := k22.trans K22
  have K20 : Kp [] H20 HF := k21.trans K21
  have K19 : Kp [] H19 HF := k20.trans K20
  have K18 : Kp [] H18 HF := k19.trans K19
  have K17 : Kp [] H17 HF := k18.trans K18
  have K16 : Kp [] H16 HF := k17.trans K17
  have K15 : Kp [] H15 HF := k16.trans K16
  have K14 : Kp [] H14 HF := k15.trans K15
  have K13 : Kp [] H13 HF := k14.trans K14
  have K12 : Kp [] H12 HF := k13.trans K13
  have K11 : Kp [] H11 HF := k12.trans K12
  have K10 : Kp [] H10 HF := k11.trans K11
  have K9 : Kp [] H9 HF := k10.trans K10
  have K8 : Kp [] H8 HF := k9.trans K9
  have K7 : Kp [] H7 HF := k8.trans K8
  have K6 : Kp [] H6 HF := k7.trans K7
  have K5 : Kp [] H5 HF := k6.trans K6
  have K4 : Kp [] H4 HF := k5.trans K5
  have K3 : Kp [] H3 HF := k4.trans K4
  have K2 : Kp [] H2 HF := k3.trans K3
  have K1 : Kp [] H1 HF := k2.trans K2
  have K0 : Kp [] H HF := k1.trans K1
  exact g _ q HF (k0_27.free0 nq) K0 hF (by show 31 ≤ 31; omega) (a_c (vT tb (K0.at0 ht) (.cons (.int _) (.cons (.int _) (.cons (.int _) .nil))) (by simp [so_e, so_l, sok, SeqAt.shaped, PyData.canLay0, PyData.canLayAll0, PyData.depth, PyData.depthAll])) (a_c (v1.k0 K1) (a_c (v2.k0 K2) (a_c (v3.k0 K3) (a_c (v4.k0 K4) (a_c (v5.k0 K5) (a_c (v6.k0 K6) (a_c (v7.k0 K7) (a_c (v8.k0 K8) (a_c (v9.k0 K9) (a_c (v10.k0 K10) (a_c (v11.k0 K11) (a_c (v12.k0 K12) (a_c (v13.k0 K13) (a_c (v14.k0 K14) (a_c (v15.k0 K15) (a_c (v16.k0 K16) (a_c (v17.k0 K17) (a_c (v18.k0 K18) (a_c (v19.k0 K19) (a_c (v20.k0 K20) (a_c (⟨_, .non, by simp [SeqAt.shaped, PyData.canLay0, PyData.depth]⟩) (a_c (⟨_, .str _, by simp [so_e, SeqAt.shaped, PyData.canLay0, PyData.depth]⟩) (a_c (⟨_, .str _, by simp [so_l, SeqAt.shaped, PyData.canLay0, PyData.depth]⟩) (a_c (⟨_, .int _, by simp [SeqAt.shaped, PyData.canLay0, PyData.depth]⟩) (a_c (v21.k0 K21) (a_c (v22.k0 K22) (a_c (v24.k0 K24) (a_c (v25.k0 K25) (a_c (v26.k0 K26) (a_1 (v27.k0 K27))))))))))))))))))))))))))))))))
theorem CPs.val {b : Addr} {H : Hp} {xs : List V} {es : List Ct} (h : CPs H xs es) (hb : ∃ ys, H b = some (.lst ys)) : ∀ x ∈ xs, ValS b H x := by
  intro x hx
  obtain ⟨i, hi⟩ := List.mem_iff_getElem?.mp hx
  have li := (List.getElem?_eq_some_iff.mp hi).1
  obtain ⟨e, he⟩ : ∃ e, es[i]? = some e := ⟨_, List.getElem?_eq_getElem (by rw [← h.1]; exact li)⟩
  obtain ⟨a, h1, h2⟩ := h.2 i e he
  rw [hi] at h1
  injection h1 with h1
  subst h1
  refine vT ?_ h2 (.cons (.int _) (.cons (.int _) (.cons (.int _) .nil))) (sh3 _ _ _)
  rintro rfl
  obtain ⟨ys, hy⟩ := hb
  rw [hy] at h2
  cases h2
theorem Bag5.lst {H : Hp} {b c : Addr} (h : Bag5 H b c) : ∃ ys, H b = some (.lst ys) := by
  obtain ⟨p, q, m, t, h1, _⟩ := h.ob
  exact ⟨_, h1⟩
theorem CPs.kb {H H' : Hp} {b c : Addr} {xs : List V} {es : List Ct} (h : CPs H xs es) (bx : Bag5 H b c) (k : Kp [b] H H') : CPs H' xs es := h.kp k fun y hy ys e => by
  rw [List.mem_singleton] at hy
  subst hy
  obtain ⟨zs, hz⟩ := bx.lst
  rw [hz] at e
  cases e
theorem CPs.at_ {H : Hp} {xs : List V} {es : List Ct} (h : CPs H xs es) {i : Nat} {x : V} (hx : xs[i]? = some x) : ∃ e a, es[i]? = some e ∧ x = .ref a ∧ H a = some (.tup (ctV e)) := by
  have li := (List.getElem?_eq_some_iff.mp hx).1
  obtain ⟨e, he⟩ : ∃ e, es[i]? = some e := ⟨_, List.getElem?_eq_getElem (by rw [← h.1]; exact li)⟩
  obtain ⟨a, h1, h2⟩ := h.2 i e he
  rw [hx] at h1
  injection h1 with h1
  exact ⟨e, a, he, h1, h2⟩
theorem len__law_pairs (K : PySem.W.Frag) : ∀ vs H Q E, sp21__law_pairs K vs H Q E → vs.length = (["bag", "size", "moves", "losses"] : List Str).length := by
  rintro vs H Q E ⟨_, _, _, _, _, _, _, rfl, _⟩
  rfl
theorem rd__law_pairs (T : Txt K mg) (vs : List V) (H : Hp) (Q : VK) (E : XK) (h : sp21__law_pairs K vs H Q E) : t__law_pairs K E { nx := fun _ H' => Q .non H', rt := Q } (start ["bag", "size", "moves", "losses", "gap", "seconds", "first", "second", "place", "one"] vs) H := by
  obtain ⟨b, c, a, p, n, log, xs, rfl, hn, bx, ab, pb, ha, hlen, le, hp, cp, g⟩ := h
  unfold t__law_pairs
  have lx := cp.1
  have lc := certK_len n log (n + 1)
  have lx3 : xs.length ≤ n + 1 := by rw [lx]; exact lc
  walk_at "j"
  refine ⟨b, c, _, rfl, by omega, by omega, bx, fun gp H1 g1 g2 k1 b1 => ?_⟩
  have ha1 := k1.at1 ab ha
  have hp1 := k1.at1 pb hp
  have cp1 := cp.kb bx k1
  walk_at "j"
  refine w_lenL (SqL.of ha1) ?_
  walk_at "j"
  rw [List.length_map]
  refine w_r1 (by omega) ?_
  refine cp_rng (fun i => (rgI 0 i).map V.int) (fun i hi => sz_lt (by rw [List.length_map, rgI_len]; omega)) rfl (fun i H' S N hi k y _ => ?_) (fun se H2 nse k2 hse => ?_)
  · walk_at "g"
    refine ⟨rfl, ?_⟩
    walk_at "g"
    refine y _ _ (Kp.refl _ _) ?_
    unfold rgI
    rw [List.range_succ, List.map_append, List.map_append] <;> rfl
  have b2 := b1.k0 k2
  have ha2 := k2.at0 ha1
  have hp2 := k2.at0 hp1
  have cp2 := cp1.k0 k2
  have fse := b1.fr nse
  walk_at "j"
  refine w_ifJ (fun σ' H' => ∃ gp : Int, σ' = [some (.ref b), some (.int n), some (.ref a), some (.ref p), some (.int gp), some (.ref se), none, none, none, none] ∧ Kp [b] H2 H' ∧ Bag5 H' b c) (fun N hN => ?_) (fun σ' H3 ⟨gp, es, k3, b3⟩ => ?_)
  · walk_at "g"
    refine ⟨sz_ok (Nat.zero_le _), G.nw fun z H3 nz k3 hz => ?_⟩
    have cp3 := cp2.k0 k3
    refine w_neN (k3.at0 hp2) cp3.dp (shCt _) hz ?_
    walk_at "g"
    generalize certs n log = es at cp3 cp2 lx
    cases es with
    | nil =>
      rw [show (!(([] : List Ct).map ctD).isEmpty) = false from rfl]
      walk_at "g"
      exact hN _ _ ⟨gp, rfl, k3.all, b2.k0 k3⟩
    | cons e0 es =>
      rw [show (!((e0 :: es).map ctD).isEmpty) = true from rfl]
      walk_at "g"
      refine ⟨b, c, 2, rfl, by omega, by omega, b2.k0 k3, fun d H4 d1 d2 k4 b4 => ?_⟩
      walk_at "g"
      refine w_iteD (fun c1 => ?_) (fun c1 => ?_)
      · walk_at "g"
        refine w_lenL (SqL.of (k4.at1 pb (k3.at0 hp2))) ?_
        walk_at "g"
        have lx2 : 0 < xs.length := by rw [lx]; show 0 < es.length + 1; omega
        refine ⟨b, c, _, rfl, by omega, by omega, b4, fun d H5 d1 d2 k5 b5 => ?_⟩
        have cp5 := (cp3.kb (b2.k0 k3) k4).kb b4 k5
        obtain ⟨x, hx⟩ : ∃ x, xs[d.toNat]? = some x := ⟨_, List.getElem?_eq_getElem (by omega)⟩
        obtain ⟨e, t, _, rfl, ht⟩ := cp5.at_ hx
        refine w_ixL (SqL.of (k5.at1 pb (k4.at1 pb (k3.at0 hp2)))) (v := .ref t) (by rw [atI_pos d1 d2]; exact hx) ?_
        walk_at "g"
        refine w_ixT (SqT.of ht) (i := 0) (v := .int e.1) at_0 ?_
        walk_at "g"
        exact hN _ _ ⟨_, rfl, (k3.all.trans k4).trans k5, b5⟩
      · walk_at "g"
        exact hN _ _ ⟨gp, rfl, k3.all.trans k4, b4⟩
  subst es
  have ha3 := k3.at1 ab ha2
  have hp3 := k3.at1 pb hp2
  have cp3 := cp2.kb b2 k3
  walk_at "j"
  refine w_ifJ (fun σ' H' => ∃ (se : Addr) (ss : List Int), σ' = [some (.ref b), some (.int n), some (.ref a), some (.ref p), some (.int gp), some (.ref se), none, none, none, none] ∧ Kp [] H3 H' ∧ H' se = some (.lst (ss.map V.int)) ∧ ss.length ≤ 1000) (fun N hN => ?_) (fun σ' H4 ⟨se, ss, es, k4, hs4, lss⟩ => ?_)
  · walk_at "g"
    refine w_lenL (SqL.of ha3) ?_
    walk_at "g"
    rw [List.length_map]
    refine w_iteD (fun c1 => ?_) (fun c1 => ?_)
    · walk_at "g"
      refine w_l1 (SqL.of hp3) ?_
      refine cp_mutL (fun D j acc H' => Kp [] H3 H' ∧ ∃ ss : List Int, acc = ss.map V.int ∧ ss.length ≤ j) (sz_lt (by rw [lx]; show (certK n log (n + 1)).length < _; omega)) (fun D H' nD k hD => ⟨k, [], rfl, Nat.zero_le _⟩) (fun D j acc H' nD h => SqL.of (h.1.at0 hp3)) ?_ ?_
      · intro D j x acc H' S N nD hx hD ⟨kk, ss, ea, lss⟩ yes no
        obtain ⟨e, t, _, rfl, ht⟩ := (cp3.k0 kk).at_ hx
        walk_at "g"
        refine ⟨rfl, ?_⟩
        walk_at "g"
        refine w_ixT (SqT.of ht) (i := 0) (v := .int e.1) at_0 ?_
        walk_at "g"
        refine w_iteD (fun c1 => ?_) (fun c1 => ?_)
        · walk_at "g"
          refine w_ixT (SqT.of ht) (i := 2) (v := .int e.2.2) rfl ?_
          exact yes _ H' hD fun H6 k6 h6 => ⟨(kk.all.trans k6).cut1 nD, ss ++ [e.2.2], by rw [ea, List.map_append] <;> rfl, by rw [List.length_append]; show _ + 1 ≤ _; omega⟩
        · exact no H' hD ⟨kk, ss, ea, by omega⟩
      · intro D acc H4 nD hD _ ⟨kk, ss, ea, lss⟩
        rw [ea] at hD
        have lx3 : xs.length ≤ n + 1 := by rw [lx]; exact lc
        exact hN _ _ ⟨D, ss, rfl, kk, hD, by omega⟩
    · walk_at "g"
      exact hN _ _ ⟨se, _, rfl, Kp.refl _ _, k3.at1 fse.1 hse, by rw [rgI_len]; omega⟩
  subst es
  have ha4 := k4.at0 ha3
  have hp4 := k4.at0 hp3
  have cp4 := cp3.k0 k4
  have b4 := b3.k0 k4
  walk_at "g"
  refine w_lenL (SqL.of ha4) ?_
  walk_at "g"
  rw [List.length_map]
  refine w_r1 (by omega) ?_
  refine lp_rng0 (fun i σ H' => (∃ y6 y7 : Option V, σ = [some (.ref b), some (.int n), some (.ref a), some (.ref p), some (.int gp), some (.ref se), y6, y7, none, none]) ∧ Kp [] H4 H') ⟨⟨_, _, rfl⟩, Kp.refl _ _⟩ ?_ ?_
  · rintro i σ' H5 hi ⟨⟨y6, y7, rfl⟩, k5⟩
    walk_at "g"
    refine w_l1 (SqL.of (k5.at0 hs4)) ?_
    refine lp_lst (xs := ss.map V.int) (fun j σ H' => (∃ y7 : Option V, σ = [some (.ref b), some (.int n), some (.ref a), some (.ref p), some (.int gp), some (.ref se), some (.int (i : Int)), y7, none, none]) ∧ Kp [] H4 H') ⟨⟨_, rfl⟩, k5⟩ ?_ ?_ ?_
    · rintro j σ' H' hj ⟨_, k⟩
      exact SqL.of (k.at0 hs4)
    · rintro j x σ' H6 hx ⟨⟨y7, rfl⟩, k6⟩
      obtain ⟨z, hz, rfl⟩ := at_map hx
      walk_at "g"
      refine ⟨sz_ok (by show 3 ≤ 1000000; omega), G.nw fun t H7 nt k7 ht => ?_⟩
      have k47 := k6.trans k7
      have tb : t ≠ b := ((b4.k0 k6).fr nt).1
      walk_at "g"
      refine ⟨a, p, b, n, log, xs, .ref t, _, rfl, hn, k47.at0 ha4, hlen, le, k47.at0 hp4, cp4.k0 k47, .tup tb ht (.cons (.int _) (.cons (.int _) (.cons (.int _) .nil))), sh3 _ _ _, fun H8 k8 => ?_⟩
      walk_at "g"
      exact ⟨⟨_, rfl⟩, k47.trans k8⟩
    · rintro σ' H6 ⟨⟨y7, rfl⟩, k6⟩
      walk_at "g"
      exact ⟨⟨_, _, rfl⟩, k6⟩
  · rintro σ' H5 ⟨⟨y6, y7, rfl⟩, k5⟩
    walk_at "g"
    exact g H5 ((k1.trans k2.all).trans (k3.trans (k4.trans k5).all)) (b4.k0 k5)
theorem len__law_values_fit (K : PySem.W.Frag) : ∀ vs H Q E, sp__law_values_fit K vs H Q E → vs.length = (["bag", "size", "moves"] : List Str).length := by
  rintro vs H Q E ⟨_, _, _, _, _, rfl, _⟩
  rfl
theorem rd__law_values_fit (T : Txt K mg) (vs : List V) (H : Hp) (Q : VK) (E : XK) (h : sp__law_values_fit K vs H Q E) : t__law_values_fit K E { nx := fun _ H' => Q .non H', rt := Q } (start ["bag", "size", "moves", "losses", "handed", "triple", "values", "value"] vs) H := by
  obtain ⟨b, c, a, n, log, rfl, hn, bx, ab, ha, hlen, le, g⟩ := h
  unfold t__law_values_fit
  walk_at "j"
  refine ⟨a, n, log, rfl, hn, ha, hlen, le, fun xs p H1 np k1 hp cp => ?_⟩
  have fp := bx.fr np
  have lx := cp.1
  have lc := certK_len n log (n + 1)
  have lx3 : xs.length ≤ n + 1 := by rw [lx]; exact lc
  walk_at "j"
  refine w_listLN (SqL.of (k1.at0 ha)) fun h H2 nh k2 hh => ?_
  have b2 := (bx.k0 k1).k0 k2
  have fh := (bx.k0 k1).fr nh
  have ha2 := k2.at0 (k1.at0 ha)
  walk_at "j"
  refine ⟨b, c, _, rfl, by omega, by omega, b2, fun gp H3 g1 g2 k3 b3 => ?_⟩
  have ha3 := k3.at1 ab ha2
  have hp3 := k3.at1 fp.1 (k2.at0 hp)
  have cp3 := (cp.k0 k2).kb b2 k3
  walk_at "j"
  refine w_lenL (SqL.of ha3) ?_
  walk_at "j"
  rw [List.length_map]
  refine ⟨sz_ok (by show 3 ≤ 1000000; omega), G.nw fun t1 H4 nt1 k4 ht1 => ?_⟩
  have ft1 := b3.fr nt1
  have b4 := b3.k0 k4
  walk_at "j"
  refine w_ifJ (fun σ' H' => ∃ (tr : Addr) (e : Ct), σ' = [some (.ref b), some (.int n), some (.ref a), some (.ref p), some (.ref h), some (.ref tr), none, none] ∧ Kp [b] H4 H' ∧ Bag5 H' b c ∧ H' tr = some (.tup (ctV e)) ∧ 0 ≤ e.2.2 ∧ e.2.2 ≤ 1000) (fun N hN => ?_) (fun σ' H5 ⟨tr, e, es, k5, b5, htr, e0, e1⟩ => ?_)
  · walk_at "g"
    refine ⟨sz_ok (Nat.zero_le _), G.nw fun z H5 nz k5 hz => ?_⟩
    have cp5 := (cp3.k0 k4).k0 k5
    refine w_neN (k5.at0 (k4.at0 hp3)) cp5.dp (shCt _) hz ?_
    walk_at "g"
    by_cases ec : certs n log = []
    · rw [ec, show (!(([] : List Ct).map ctD).isEmpty) = false from rfl]
      walk_at "g"
      exact hN _ _ ⟨t1, (gp, 0, (log.length : Int)), rfl, k5.all, b4.k0 k5, k5.at0 ht1, by show (0 : Int) ≤ (log.length : Int); omega, by show (log.length : Int) ≤ 1000; omega⟩
    · have lx0 : 0 < xs.length := by rw [lx]; exact List.length_pos_iff.mpr ec
      rw [show (!((certs n log).map ctD).isEmpty) = true by
        cases h : certs n log with
        | nil => exact absurd h ec
        | cons => rfl]
      walk_at "g"
      refine w_lenL (SqL.of (k5.at0 (k4.at0 hp3))) ?_
      walk_at "g"
      refine ⟨b, c, _, rfl, by omega, by omega, b4.k0 k5, fun d H6 d1 d2 k6 b6 => ?_⟩
      have cp6 := cp5.kb (b4.k0 k5) k6
      obtain ⟨x, hx⟩ : ∃ x, xs[d.toNat]? = some x := ⟨_, List.getElem?_eq_getElem (by omega)⟩
      obtain ⟨e, t, he, rfl, ht⟩ := cp6.at_ hx
      have be := cert_bd hn le (List.mem_of_getElem? he)
      refine w_ixL (SqL.of (k6.at1 fp.1 (k5.at0 (k4.at0 hp3)))) (v := .ref t) (by rw [atI_pos d1 d2]; exact hx) ?_
      walk_at "g"
      exact hN _ _ ⟨t, e, rfl, k5.all.trans k6, b6, ht, by omega, by omega⟩
  subst es
  have k35 : Kp [b] H3 H5 := k4.all.trans k5
  have ha5 := k35.at1 ab ha3
  have hp5 := k35.at1 fp.1 hp3
  have hh5 := k35.at1 fh.1 (k3.at1 fh.1 hh)
  have cp5 := cp3.kb b3 k35
  have trb : tr ≠ b := by
    rintro rfl
    obtain ⟨ys, hy⟩ := b5.lst
    rw [hy] at htr
    cases htr
  walk_at "j"
  refine ⟨b, tr, e, rfl, htr, trb, by obtain ⟨ys, hy⟩ := b5.lst; exact ⟨_, hy⟩, e0, e1, fun vs v H6 nv k6 hv lv vvs => ?_⟩
  have b6 := b5.k0 k6
  have fv := b5.fr nv
  walk_at "j"
  refine w_ifJ (fun σ' H' => ∃ (v : Addr) (vs : List V), σ' = [some (.ref b), some (.int n), some (.ref a), some (.ref p), some (.ref h), some (.ref tr), some (.ref v), none] ∧ Kp [b] H6 H' ∧ Bag5 H' b c ∧ H' v = some (.lst vs) ∧ vs.length ≤ 31 ∧ ∀ x ∈ vs, ValS b H' x) (fun N hN => ?_) (fun σ' H7 ⟨v, vs, es, k7, b7, hv7, lv, vvs⟩ => ?_)
  · walk_at "g"
    refine w_iteD (fun c1 => ?_) (fun c1 => ?_)
    · walk_at "g"
      refine w_sl3 ?_
      walk_at "g"
      refine ⟨b, c, 3, rfl, by omega, by omega, b6, fun d H7 d1 d2 k7 b7 => ?_⟩
      walk_at "g"
      refine ⟨v, vs, rfl, SqL.of (k7.at1 fv.1 hv), by simp, fun q ys nq ly my => ?_⟩
      have k8 : Kp [] H7 (upd H7 q (.lst ys)) := Kp.new nq
      have h8 : (upd H7 q (.lst ys)) q = some (.lst ys) := upd_same
      generalize upd H7 q (.lst ys) = H8 at k8 h8 ⊢
      walk_at "g"
      exact hN _ _ ⟨q, ys, rfl, k7.trans k8.all, b7.k0 k8, h8, by omega, fun x hx => ((vvs x (my x hx)).k1 k7).k0 k8⟩
    · walk_at "g"
      exact hN _ _ ⟨v, vs, rfl, Kp.refl _ _, b6, hv, lv, vvs⟩
  subst es
  have k57 : Kp [b] H5 H7 := k6.all.trans k7
  have ha7 := k57.at1 ab ha5
  have hp7 := k57.at1 fp.1 hp5
  have hh7 := k57.at1 fh.1 hh5
  have cp7 := cp5.kb b5 k57
  walk_at "g"
  refine w_addLN hv7 hp7 (sz_ok (by omega)) fun q H8 nq k8 hq => ?_
  have b8 := b7.k0 k8
  have all8 : ∀ x ∈ vs ++ xs, ValS b H8 x := fun x hx => by
    rcases List.mem_append.mp hx with hx | hx
    · exact (vvs x hx).k0 k8
    · exact (cp7.val b7.lst x hx).k0 k8
  walk_at "g"
  refine w_l1 (SqL.of hq) ?_
  refine lp_lst (xs := vs ++ xs) (fun i σ H' => (∃ y7 : Option V, σ = [some (.ref b), some (.int n), some (.ref a), some (.ref p), some (.ref h), some (.ref tr), some (.ref v), y7]) ∧ Kp [] H8 H') ⟨⟨_, rfl⟩, Kp.refl _ _⟩ ?_ ?_ ?_
  · rintro i σ' H' hi ⟨_, k⟩
    exact SqL.of (k.at0 hq)
  · rintro i x σ' H9 hx ⟨⟨y7, rfl⟩, k9⟩
    obtain ⟨d, v1, v2⟩ := ((all8 x (List.mem_of_getElem? hx)).k0 k9).ex
    have k79 := k8.trans k9
    walk_at "g"
    refine ⟨h, p, b, n, log, xs, x, d, rfl, hn, k79.at0 hh7, hlen, le, k79.at0 hp7, cp7.k0 k79, v1, v2, fun Ha ka => ?_⟩
    walk_at "g"
    exact ⟨⟨_, rfl⟩, k9.trans ka⟩
  · rintro σ' H9 ⟨⟨y7, rfl⟩, k9⟩
    have k79 := k8.trans k9
    walk_at "g"
    refine ⟨b, c, h, p, n, log, xs, rfl, hn, b8.k0 k9, fh.1, fp.1, k79.at0 hh7, hlen, le, k79.at0 hp7, cp7.k0 k79, fun Ha ka ba => ?_⟩
    walk_at "g"
    refine w_eqL (SqL.of (ka.at1 fh.1 (k79.at0 hh7))) (SqL.of (ka.at1 ab (k79.at0 ha7))) ?_
    have k02 : Kp [b] H H2 := (k1.trans k2).all
    exact g Ha (((k02.trans k3).trans k35).trans ((k57.trans k79.all).trans ka)) ba
end
end G

set_option Elab.async false
set_option linter.all false
set_option maxRecDepth 100000
set_option maxHeartbeats 1000000
namespace G
--#FAM KH
open PySem PySem.Spec PyProof.Rows L2
local macro_rules
  | `(tactic| walk_at "1") => `(tactic| first
    | with_reducible refine w_seq ?_
    | with_reducible refine w_asg ?_
    | with_reducible refine w_asgS ?_
    | with_reducible refine w_asf ?_
    | with_reducible refine w_drop ?_
    | with_reducible refine w_ret ?_
    | with_reducible refine w_if ?_
    | with_reducible refine w_not ?_
    | with_reducible refine w_and ?_
    | with_reducible refine w_or ?_
    | with_reducible refine w_test ?_
    | with_reducible refine w_tb ?_
    | with_reducible refine w_chain ?_
    | with_reducible refine w_op ?_
    | with_reducible refine w_un ?_
    | with_reducible refine w_andV ?_
    | with_reducible refine w_orV ?_
    | with_reducible refine w_notV ?_
    | with_reducible refine w_ifE ?_
    | with_reducible refine w_cons ?_
    | with_reducible refine w_nil ?_
    | with_reducible refine w_cb ?_
    | with_reducible refine w_cl ?_
    | with_reducible refine w_mt ?_
    | with_reducible refine w_fld ?_
    | with_reducible refine w_tupN ?_
    | with_reducible refine w_lstN ?_
    | with_reducible refine w_bm ?_
    | with_reducible refine w_bm0 ?_
    | with_reducible refine w_for ?_
    | with_reducible refine w_lc ?_
    | with_reducible refine w_iR1 ?_
    | with_reducible refine w_iR2 ?_
    | with_reducible refine w_iL ?_
    | with_reducible refine w_iT ?_
    | with_reducible refine w_iE ?_
    | with_reducible refine w_iZ ?_
    | with_reducible refine w_var (by with_unfolding_all rfl) ?_
    | with_reducible refine w_c ?_
    | with_reducible refine w_next ?_
    | with_reducible refine w_i0 ?_
    | with_reducible refine w_u1 ?_
    | with_reducible refine w_addI ?_
    | with_reducible refine w_eqI ?_
    | with_reducible refine w_eqS ?_
    | with_reducible refine w_eqB ?_
    | with_reducible refine w_neI ?_
    | with_reducible refine w_neS ?_
    | with_reducible refine w_neB ?_
    | with_reducible refine w_abs ?_
    | with_reducible refine w_intI ?_
    | with_reducible refine w_min2 ?_
    | with_reducible refine w_max2 ?_
    | with_reducible refine w_isN0 ?_
    | with_reducible refine w_isN1 ref_ne ?_
    | with_reducible refine w_isN1 int_ne ?_
    | with_reducible refine w_notN0 ?_
    | with_reducible refine w_notN1 ref_ne ?_
    | with_reducible refine w_notN1 int_ne ?_
    | with_reducible refine w_ex1 ?_
    | with_reducible refine w_n1 ?_
    | with_reducible refine w_n2 ?_
    | with_reducible refine w_tT ?_
    | with_reducible refine w_tF ?_
    | with_reducible refine w_nT ?_
    | with_reducible refine w_nF ?_
    | with_reducible refine w_rz ?_
    | with_reducible refine w_mkN ?_
    | with_reducible refine w_lrgN ?_
    | with_reducible refine w_rg1 ?_
    | with_reducible refine w_rg2 ?_
    | with_reducible refine w_sl ?_
    | with_reducible refine w_np ?_
    | with_reducible refine w_pt ?_
    | with_reducible refine w_tr ?_
    | with_reducible refine w_gn ?_
    | with_reducible refine w_yes ?_
    | with_reducible refine w_m1 ?_
    | with_reducible refine w_asu ?_
    | with_reducible refine w_exS ?_
    | with_reducible refine w_iS ?_
    | with_reducible refine w_g1 ?_
    | with_reducible refine w_gc ?_
    | with_reducible refine w_gt (SqT.of upd_same) rfl ?_)
local macro_rules
  | `(tactic| walk_at "g") => `(tactic| repeat walk_at "1")
local macro_rules
  | `(tactic| walk_at "j1") => `(tactic| first
    | with_reducible refine w_seqI ?_
    | walk_at "1")
local macro_rules
  | `(tactic| walk_at "j") => `(tactic| repeat walk_at "j1")
section
variable {K : PySem.W.Frag} {mg : Str → Option Value}
theorem mid_at {α : Type} (row t : List α) (x : α) {i : Nat} (h : i ≤ row.length) : (row.take i ++ [x] ++ t)[i]? = some x ∧ (row.take i ++ [x] ++ t).take i = row.take i := by
  have l : (row.take i).length = i := by rw [List.length_take]; omega
  refine ⟨?_, ?_⟩
  · rw [List.append_assoc, List.getElem?_append_right (by omega), l, Nat.sub_self] <;> rfl
  · rw [List.append_assoc, List.take_append_of_le_length (by omega), List.take_take, Nat.min_self]
theorem fltC_op {n : Nat} {row t : List Int} {op : Int} {i : Nat} (hn : n ≤ 60) (h : i ≤ row.length) (le : Leg (wholeS n) row) (bad : ¬ OkOp (runS (wholeS n) (row.take i)) op) {w : Str} (hw : w = if IsOp n op then ("illegal" : Str) else "operation") : FltC (n : Int) (row.take i ++ [op] ++ t) false w op (i : Int) ∧ ¬ (SizeOk (n : Int) ∧ Leg (wholeS (n : Int).toNat) (row.take i ++ [op] ++ t)) := by
  obtain ⟨h1, h2⟩ := mid_at row t op h
  refine ⟨.inr (.inl ⟨⟨by omega, by omega⟩, i, op, h1, ?_, ?_, ?_, rfl, rfl⟩), fun z => ?_⟩
  · rw [Int.toNat_natCast, h2]
    exact le.take i
  · rw [Int.toNat_natCast, h2]
    exact bad
  · rw [Int.toNat_natCast, hw]
  · have := z.2 i op h1
    rw [Int.toNat_natCast, h2] at this
    exact bad this
theorem len__law_refusals (K : PySem.W.Frag) : ∀ vs H Q E, sp__law_refusals K vs H Q E → vs.length = (["bag", "size", "moves"] : List Str).length := by
  rintro vs H Q E ⟨_, _, _, _, _, rfl, _⟩
  rfl
theorem rd__law_refusals (T : Txt K mg) (vs : List V) (H : Hp) (Q : VK) (E : XK) (h : sp__law_refusals K vs H Q E) : t__law_refusals K E { nx := fun _ H' => Q .non H', rt := Q } (start ["bag", "size", "moves", "place", "odd", "wrong", "far"] vs) H := by
  obtain ⟨b, c, a, n, log, rfl, hn, bx, ab, ha, hlen, le, g⟩ := h
  unfold t__law_refusals
  walk_at "j"
  refine w_lenL (SqL.of ha) ?_
  walk_at "j"
  rw [List.length_map]
  refine ⟨b, c, _, rfl, by omega, by omega, bx, fun at_ H1 at1 at2 k1 b1 => ?_⟩
  obtain ⟨i, rfl⟩ : ∃ i : Nat, at_ = (i : Int) := ⟨at_.toNat, by omega⟩
  have ha1 := k1.at1 ab ha
  walk_at "j"
  refine ⟨sz_ok (by show 4 ≤ 1000000; omega), G.nw fun l H2 nl k2 hl => ?_⟩
  have fl := b1.fr nl
  have hl' : H2 l = some (.lst ([0, (n : Int) + 1, -1 - (n : Int), (n : Int) + 40].map V.int)) := hl
  walk_at "j"
  refine ⟨b, c, 4, rfl, by omega, by omega, b1.k0 k2, fun d H3 d1 d2 k3 b3 => ?_⟩
  refine w_ixL (SqL.of (k3.at1 fl.1 hl')) (at_I d1 (by show d < 4; omega)) ?_
  have bad : ¬ IsOp n (gI [0, (n : Int) + 1, -1 - (n : Int), (n : Int) + 40] d.toNat) := by
    have h0123 : d = 0 ∨ d = 1 ∨ d = 2 ∨ d = 3 := by omega
    rcases h0123 with rfl | rfl | rfl | rfl
    · rintro ⟨x1, x2⟩
      have : gI [0, (n : Int) + 1, -1 - (n : Int), (n : Int) + 40] (0 : Int).toNat = 0 := rfl
      omega
    · rintro ⟨x1, x2⟩
      have : gI [0, (n : Int) + 1, -1 - (n : Int), (n : Int) + 40] (1 : Int).toNat = (n : Int) + 1 := rfl
      omega
    · rintro ⟨x1, x2⟩
      have : gI [0, (n : Int) + 1, -1 - (n : Int), (n : Int) + 40] (2 : Int).toNat = -1 - (n : Int) := rfl
      omega
    · rintro ⟨x1, x2⟩
      have : gI [0, (n : Int) + 1, -1 - (n : Int), (n : Int) + 40] (3 : Int).toNat = (n : Int) + 40 := rfl
      omega
  generalize gI [0, (n : Int) + 1, -1 - (n : Int), (n : Int) + 40] d.toNat = odd at bad ⊢
  have ha3 := k3.at1 ab (k2.at0 ha1)
  walk_at "j"
  refine w_slL (SqL.of ha3) fun z1 H4 nz1 k4 hz1 => ?_
  rw [cut_take _ _ (by rw [List.length_map]; omega), ← List.map_take] at hz1
  walk_at "j"
  refine ⟨sz_ok (by show 1 ≤ 1000000; omega), G.nw fun z2 H5 nz2 k5 hz2 => ?_⟩
  have hz2 : H5 z2 = some (.lst ([odd].map V.int)) := hz2
  walk_at "j"
  have lt1 : (log.take i).length ≤ 500 := by rw [List.length_take]; omega
  have lt2 : (log.drop i).length ≤ 500 := by rw [List.length_drop]; omega
  refine w_addLN (k5.at0 hz1) hz2 (sz_ok (by rw [List.length_map, List.length_map]; show _ + 1 ≤ _; omega)) fun z3 H6 nz3 k6 hz3 => ?_
  rw [← List.map_append] at hz3
  walk_at "j"
  refine w_slL (SqL.of (((k4.trans k5).trans k6).at0 ha3)) fun z4 H7 nz4 k7 hz4 => ?_
  rw [cut_drop _ _ (by rw [List.length_map]; omega), ← List.map_drop] at hz4
  refine w_addLN (k7.at0 hz3) hz4 (sz_ok (by rw [List.length_map, List.length_map, List.length_append]; show _ + 1 + _ ≤ _; omega)) fun wr H8 nwr k8 hwr => ?_
  rw [← List.map_append] at hwr
  have k38 := ((k4.trans k5).trans k6).trans (k7.trans k8)
  have lwr : (log.take i ++ [odd] ++ log.drop i).length ≤ 501 := by
    rw [List.length_append, List.length_append, List.length_take, List.length_drop]
    show _ + 1 + _ ≤ _
    omega
  have hop : ¬ OkOp (runS (wholeS n) (log.take i)) odd := fun y => bad (by have := y.1; rwa [runS_n] at this)
  obtain ⟨f1, nb1⟩ := fltC_op (t := log.drop i) hn (show i ≤ log.length by omega) le hop (w := "operation") (by rw [if_neg bad])
  have b8 := b3.k0 k38
  have fwr := ((b3.k0 ((k4.trans k5).trans k6)).k0 k7).fr nwr
  generalize log.take i ++ [odd] ++ log.drop i = wrong at hwr lwr f1 nb1
  walk_at "j"
  refine w_ifK (fun H' => Kp [] H8 H') (fun N hN => ?_) (fun H9 k9 => ?_)
  · walk_at "g"
    refine ⟨wr, n, wrong, "operation", odd, (i : Int), rfl, hwr, by omega, f1, nb1, fun H9 k9 => ?_⟩
    walk_at "g"
    exact hN _ k9
  have b9 := b8.k0 k9
  walk_at "j"
  refine ⟨b, c, 1000, rfl, by omega, by omega, b9, fun r1 Ha r11 r12 ka ba => ?_⟩
  walk_at "j"
  refine ⟨b, c, 1000, rfl, by omega, by omega, ba, fun r2 Hb r21 r22 kb bb => ?_⟩
  walk_at "j"
  refine ⟨sz_ok (by show 4 ≤ 1000000; omega), G.nw fun l2 Hc nl2 kc hl2 => ?_⟩
  have fl2 := bb.fr nl2
  have hl2' : Hc l2 = some (.lst ([61, -1, 62 + r1, -2 - r2].map V.int)) := hl2
  walk_at "j"
  refine ⟨b, c, 4, rfl, by omega, by omega, bb.k0 kc, fun d Hd d1 d2 kd bd => ?_⟩
  refine w_ixL (SqL.of (kd.at1 fl2.1 hl2')) (at_I d1 (by show d < 4; omega)) ?_
  have bads : ¬ SizeOk (gI [61, -1, 62 + r1, -2 - r2] d.toNat) := by
    have h0123 : d = 0 ∨ d = 1 ∨ d = 2 ∨ d = 3 := by omega
    rcases h0123 with rfl | rfl | rfl | rfl
    · rintro ⟨x1, x2⟩
      have : gI [61, -1, 62 + r1, -2 - r2] (0 : Int).toNat = 61 := rfl
      omega
    · rintro ⟨x1, x2⟩
      have : gI [61, -1, 62 + r1, -2 - r2] (1 : Int).toNat = -1 := rfl
      omega
    · rintro ⟨x1, x2⟩
      have : gI [61, -1, 62 + r1, -2 - r2] (2 : Int).toNat = 62 + r1 := rfl
      omega
    · rintro ⟨x1, x2⟩
      have : gI [61, -1, 62 + r1, -2 - r2] (3 : Int).toNat = -2 - r2 := rfl
      omega
  generalize gI [61, -1, 62 + r1, -2 - r2] d.toNat = far at bads ⊢
  have k8d : Kp [b] H8 Hd := ((k9.all.trans ka).trans kb).trans (kc.all.trans kd)
  have hwrd := k8d.at1 fwr.1 hwr
  have had := k8d.at1 ab (k38.at0 ha3)
  walk_at "j"
  refine w_ifK (fun H' => Kp [] Hd H') (fun N hN => ?_) (fun He ke => ?_)
  · walk_at "g"
    refine ⟨wr, far, wrong, "size", far, 0, rfl, hwrd, by omega, .inl ⟨bads, rfl, rfl, rfl⟩, fun z => bads z.1, fun H9 k9 => ?_⟩
    walk_at "g"
    exact hN _ k9
  have hae := ke.at0 had
  have be := bd.k0 ke
  walk_at "j"
  refine w_ifK (fun H' => Kp [] He H' ∧ log ≠ []) (fun N hN => ?_) (fun Hf ⟨kf, ne⟩ => ?_)
  · walk_at "g"
    refine ⟨sz_ok (Nat.zero_le _), G.nw fun z Hf nz kf hz => ?_⟩
    refine w_eqN (kf.at0 hae) (dpI log) (shI log) hz ?_
    cases log with
    | nil =>
      rw [show (([] : List Int).map PyData.int).isEmpty = true from rfl]
      walk_at "g"
      exact g Hf
    | cons x log =>
      rw [show ((x :: log).map PyData.int).isEmpty = false from rfl]
      walk_at "g"
      exact hN _ ⟨kf, by simp⟩
  have haf := kf.at0 hae
  have bf := be.k0 kf
  have l0 : 0 < log.length := List.length_pos_iff.mpr ne
  walk_at "g"
  refine w_lenL (SqL.of haf) ?_
  walk_at "g"
  rw [List.length_map]
  refine ⟨b, c, _, rfl, by omega, by omega, bf, fun at2 Hg at21 at22 kg bg => ?_⟩
  obtain ⟨j, rfl⟩ : ∃ j : Nat, at2 = (j : Int) := ⟨at2.toNat, by omega⟩
  have hag := kg.at1 ab haf
  obtain ⟨op, hopj⟩ : ∃ op, log[j]? = some op := ⟨_, List.getElem?_eq_getElem (by omega)⟩
  have ok := le j op hopj
  have iop := ok.1
  rw [show (runS (wholeS n) (log.take j)).n = n by rw [runS_n] <;> rfl] at iop
  have nop : ¬ OkOp (runS (wholeS n) (log.take j)) (-op) := fun y => by
    have y2 := y.2
    rw [Int.natAbs_neg, ok.2] at y2
    have i1 := iop.1
    by_cases z : 0 < op
    · rw [decide_eq_true z, decide_eq_false (by omega)] at y2
      cases y2
    · rw [decide_eq_false z, decide_eq_true (by omega)] at y2
      cases y2
  have iop2 : IsOp n (-op) := ⟨by rw [Int.natAbs_neg]; exact iop.1, by rw [Int.natAbs_neg]; exact iop.2⟩
  have lj1 : (log.take j).length ≤ 500 := by rw [List.length_take]; omega
  have lj2 : (log.drop (j + 1)).length ≤ 500 := by rw [List.length_drop]; omega
  walk_at "g"
  refine w_slL (SqL.of hag) fun y1 Hh ny1 kh hy1 => ?_
  rw [cut_take _ _ (by rw [List.length_map]; omega), ← List.map_take] at hy1
  walk_at "g"
  refine w_ixL (SqL.of (kh.at0 hag)) (at_I (by omega) (by omega)) ?_
  rw [Int.toNat_natCast, gI_of hopj]
  walk_at "g"
  refine ⟨sz_ok (by show 1 ≤ 1000000; omega), G.nw fun y2 Hi ny2 ki hy2 => ?_⟩
  have hy2 : Hi y2 = some (.lst ([-op].map V.int)) := hy2
  walk_at "g"
  refine w_addLN (ki.at0 hy1) hy2 (sz_ok (by rw [List.length_map, List.length_map]; show _ + 1 ≤ _; omega)) fun y3 Hj ny3 kj hy3 => ?_
  rw [← List.map_append] at hy3
  walk_at "g"
  refine w_slL (SqL.of (((kh.trans ki).trans kj).at0 hag)) fun y4 Hk ny4 kk hy4 => ?_
  rw [show (j : Int) + 1 = ((j + 1 : Nat) : Int) by omega, cut_drop _ _ (by rw [List.length_map]; omega), ← List.map_drop] at hy4
  refine w_addLN (kk.at0 hy3) hy4 (sz_ok (by rw [List.length_map, List.length_map, List.length_append]; show _ + 1 + _ ≤ _; omega)) fun y5 Hl ny5 kl hy5 => ?_
  rw [← List.map_append] at hy5
  walk_at "g"
  refine ⟨sz_ok (by show 1 ≤ 1000000; omega), G.nw fun y6 Hm ny6 km hy6 => ?_⟩
  have hy6 : Hm y6 = some (.lst ([0].map V.int)) := hy6
  walk_at "g"
  refine w_addLN (km.at0 hy5) hy6 (sz_ok (by rw [List.length_map, List.length_map, List.length_append, List.length_append]; show _ + 1 + _ + 1 ≤ _; omega)) fun y7 Hn ny7 kn hy7 => ?_
  rw [← List.map_append, List.append_assoc (log.take j ++ [-op])] at hy7
  have lwr2 : (log.take j ++ [-op] ++ (log.drop (j + 1) ++ [0])).length ≤ 1000 := by
    rw [List.length_append, List.length_append, List.length_append, List.length_take, List.length_drop]
    show _ + 1 + (_ + 1) ≤ _
    omega
  obtain ⟨f2, nb2⟩ := fltC_op (t := log.drop (j + 1) ++ [0]) hn (show j ≤ log.length by omega) le nop (w := "illegal") (by rw [if_pos iop2])
  have kgn := ((kh.trans ki).trans kj).trans ((kk.trans kl).trans (km.trans kn))
  walk_at "g"
  refine w_ixL (SqL.of (kgn.at0 hag)) (at_I (by omega) (by omega)) ?_
  rw [Int.toNat_natCast, gI_of hopj]
  walk_at "g"
  refine ⟨y7, n, _, "illegal", -op, (j : Int), rfl, hy7, lwr2, f2, nb2, fun Ho ko => ?_⟩
  exact g Ho
theorem len_law (K : PySem.W.Frag) : ∀ vs H Q E, sp_law K vs H Q E → vs.length = (["script"] : List Str).length := by
  rintro vs H Q E ⟨_, _, rfl, _⟩
  rfl
theorem rd_law (T : Txt K mg) (vs : List V) (H : Hp) (Q : VK) (E : XK) (h : sp_law K vs H Q E) : t_law K E { nx := fun _ H' => Q .non H', rt := Q } (start ["script", "bag", "size", "moves", "losses"] vs) H := by
  obtain ⟨a, ns, rfl, hs, hl, g⟩ := h
  unfold t_law
  walk_at "j"
  refine ⟨a, ns, rfl, hs, hl, fun b c H1 nb nc k1 b1 => ?_⟩
  walk_at "j"
  refine ⟨b, c, rfl, b1, fun n H2 hn k2 b2 => ?_⟩
  walk_at "j"
  refine ⟨b, c, n, rfl, hn, b2, fun ds q H3 le lds nq k3 b3 hq => ?_⟩
  have fq := b2.fr nq
  walk_at "j"
  refine ⟨q, n, ds, rfl, hn, hq, by omega, le, fun xs p H4 np k4 hp cp => ?_⟩
  have fp := b3.fr np
  have hq4 := k4.at0 hq
  have b4 := b3.k0 k4
  walk_at "j"
  refine w_ifK (fun H' => Kp [b] H4 H' ∧ Bag5 H' b c) (fun N hN => ?_) (fun H5 ⟨k5, b5⟩ => ?_)
  · walk_at "g"
    refine ⟨q, n, ds, rfl, hn, hq4, by omega, le, fun H5 k5 => ?_⟩
    walk_at "g"
    refine ⟨b, c, q, n, ds, rfl, hn, b4.k0 k5, fq.1, k5.at0 hq4, by omega, le, fun H6 k6 b6 => ?_⟩
    walk_at "g"
    exact hN _ ⟨k5.all.trans k6, b6⟩
  have hq5 := k5.at1 fq.1 hq4
  have hp5 := k5.at1 fp.1 hp
  have cp5 := cp.kb b4 k5
  walk_at "j"
  refine w_ifK (fun H' => Kp [] H5 H') (fun N hN => ?_) (fun H6 k6 => ?_)
  · walk_at "g"
    refine ⟨sz_ok (Nat.zero_le _), G.nw fun z H6 nz k6 hz => ?_⟩
    have cp6 := cp5.k0 k6
    refine w_neN (k6.at0 hp5) cp6.dp (shCt _) hz ?_
    walk_at "g"
    by_cases ec : certs n ds = []
    · rw [ec, show (!(([] : List Ct).map ctD).isEmpty) = false from rfl]
      walk_at "g"
      exact hN _ k6
    · have lx0 : 0 < xs.length := by rw [cp.1]; exact List.length_pos_iff.mpr ec
      rw [show (!((certs n ds).map ctD).isEmpty) = true by
        cases h : certs n ds with
        | nil => exact absurd h ec
        | cons => rfl]
      obtain ⟨x, hx⟩ : ∃ x, xs[0]? = some x := ⟨_, List.getElem?_eq_getElem lx0⟩
      obtain ⟨e, t, he, rfl, ht⟩ := cp6.at_ hx
      have be := cert_bd hn le (List.mem_of_getElem? he)
      have ex : atI xs 0 = some (.ref t) := by
        rw [atI_pos (by omega) (by omega)]
        exact hx
      obtain ⟨s, es⟩ : ∃ s : Nat, e.2.2 = (s : Int) := ⟨e.2.2.toNat, by omega⟩
      have ht : H6 t = some (.tup [.int e.1, .int e.2.1, .int (s : Int)]) := by
        rw [ht, ← es] <;> rfl
      walk_at "j"
      refine w_ifK (fun H' => Kp [] H6 H') (fun N' hN' => ?_) (fun H7 k7 => ?_)
      · walk_at "g"
        refine w_ixL (SqL.of (k6.at0 hp5)) ex ?_
        walk_at "g"
        refine w_ixT (SqT.of ht) (i := 2) (v := .int (s : Int)) rfl ?_
        walk_at "g"
        refine w_slL (SqL.of (k6.at0 hq5)) fun z7 H7 nz7 k7 hz7 => ?_
        rw [cut_take _ _ (by rw [List.length_map]; omega), ← List.map_take] at hz7
        refine ⟨z7, n, ds.take s, rfl, hn, hz7, by rw [List.length_take]; omega, le.take s, fun H8 k8 => ?_⟩
        walk_at "g"
        exact hN' _ (k7.trans k8)
      · walk_at "g"
        refine w_ixL (SqL.of (k7.at0 (k6.at0 hp5))) ex ?_
        walk_at "g"
        refine w_ixT (SqT.of (k7.at0 ht)) (i := 2) (v := .int (s : Int)) rfl ?_
        walk_at "g"
        refine w_slL (SqL.of (k7.at0 (k6.at0 hq5))) fun z8 H8 nz8 k8 hz8 => ?_
        rw [show (s : Int) + 1 = ((s + 1 : Nat) : Int) by omega, cut_take _ _ (by rw [List.length_map]; omega), ← List.map_take] at hz8
        refine ⟨z8, n, ds.take (s + 1), rfl, hn, hz8, by rw [List.length_take]; omega, le.take (s + 1), fun H9 k9 => ?_⟩
        walk_at "g"
        exact hN _ ((k6.trans k7).trans (k8.trans k9))
  have hq6 := k6.at0 hq5
  have b6 := b5.k0 k6
  walk_at "j"
  refine w_ifK (fun H' => Kp [b] H6 H' ∧ Bag5 H' b c) (fun N hN => ?_) (fun H7 ⟨k7, b7⟩ => ?_)
  · walk_at "g"
    refine w_lenL (SqL.of hq6) ?_
    walk_at "g"
    rw [List.length_map]
    refine ⟨b, c, _, rfl, by omega, by omega, b6, fun at_ H7 at1 at2 k7 b7 => ?_⟩
    obtain ⟨i, rfl⟩ : ∃ i : Nat, at_ = (i : Int) := ⟨at_.toNat, by omega⟩
    walk_at "g"
    refine w_slL (SqL.of (k7.at1 fq.1 hq6)) fun z8 H8 nz8 k8 hz8 => ?_
    rw [cut_take _ _ (by rw [List.length_map]; omega), ← List.map_take] at hz8
    refine ⟨z8, n, ds.take i, rfl, hn, hz8, by rw [List.length_take]; omega, le.take i, fun H9 k9 => ?_⟩
    walk_at "g"
    exact hN _ ⟨k7.trans (k8.trans k9).all, (b7.k0 k8).k0 k9⟩
  walk_at "g"
  refine ⟨b, c, q, n, ds, rfl, hn, b7, fq.1, k7.at1 fq.1 hq6, by omega, le, fun H8 => ?_⟩
  exact g H8
end
end G

set_option Elab.async false
set_option linter.all false
set_option maxRecDepth 100000
set_option maxHeartbeats 4000000

namespace G
open PySem PySem.Spec PyProof.Rows L2
section
variable {P : Program} {w : World} {K : PySem.W.Frag} {mg : Str → Option Value} {base : Heap}
theorem ok__law_bag {f : Addr} {fd : FuncData} (T : Txt K mg) (F : FunD K "_law_bag" "_law_bag" (defArgs s__law_bag) (defBody s__law_bag) (defScope s__law_bag) [] [] f fd)  : FnOk P w K mg base (L2N.CX P w) 1 f fd ["script"] (sp21__law_bag K) :=
  F.ok sc__law_bag (len__law_bag K) fun cdv A outer s H vs Q E hr h => ⟨t__law_bag K E, pss_one (ps_ret (pe_lst (pa_cons (pe_slice sl_list (pv 0) (po_none) (po_some (pe_int))) (pa_cons (pe_int) (pa_cons (pe_int) (pa_cons (pe_int) (pa_cons (pe_int) (pa_nil)))))))), rd__law_bag T vs H Q E h⟩
theorem ok__law_number {f : Addr} {fd : FuncData} (T : Txt K mg) (F : FunD K "_law_number" "_law_number" (defArgs s__law_number) (defBody s__law_number) (defScope s__law_number) [] [] f fd)  : FnOk P w K mg base (L2N.CX P w) 1 f fd ["told"] (sp__law_number K) :=
  F.ok sc__law_number (len__law_number K) fun cdv A outer s H vs Q E hr h => ⟨t__law_number K E, pss_one (ps_ret (pe_and (pe_callB call_isi (by rfl) T.b_isinstance (by decide +kernel) (pa_cons (pv 0) (pa_cons (pe_ty "int" T.b_int (by decide +kernel)) (pa_nil)))) (pe_one (pe_not (pe_callB call_isi (by rfl) T.b_isinstance (by decide +kernel) (pa_cons (pv 0) (pa_cons (pe_ty "bool" T.b_bool (by decide +kernel)) (pa_nil)))))))), rd__law_number T vs H Q E h⟩
theorem ok__law_fits {f : Addr} {fd : FuncData} (T : Txt K mg) (F : FunD K "_law_fits" "_law_fits" (defArgs s__law_fits) (defBody s__law_fits) (defScope s__law_fits) [] [] f fd) (c__law_number : Cal P w K mg base 1 "_law_number" ["told"] (sp__law_number K)) : FnOk P w K mg base (L2N.CX P w) 2 f fd ["told", "word", "first", "second"] (sp21__law_fits K) :=
  F.ok sc__law_fits (len__law_fits K) fun cdv A outer s H vs Q E hr h => ⟨t__law_fits K E, pss_cons (ps_if ((pw_or (pt_cmpR (op_neA hr) (pe_ix ix_seq (pv 0) (pe_int) (fun _ _ => rfl)) (pv 1) (nomark _)) (pw_or (pt_not (pt_val (pe_cl c__law_number hr (by decide) (pat_of (W := fun cls d _ H => E cls d H) (L2N.takes_of rfl rfl rfl rfl)) (pa_cons (pe_ix ix_seq (pv 0) (pe_int) (fun _ _ => rfl)) (pa_nil))))) (pw_or1 (pt_not (pt_val (pe_cl c__law_number hr (by decide) (pat_of (W := fun cls d _ H => E cls d H) (L2N.takes_of rfl rfl rfl rfl)) (pa_cons (pe_ix ix_seq (pv 0) (pe_int) (fun _ _ => rfl)) (pa_nil)))))))).pt) (pss_one (ps_ret (pe_bl))) (pss_nil)) (pss_one (ps_ret (pe_and (pe_cmpR (op_eqA hr) (pe_ix ix_seq (pv 0) (pe_int) (fun _ _ => rfl)) (pv 2) (nomark _)) (pe_one (pe_cmpR (op_eqA hr) (pe_ix ix_seq (pv 0) (pe_int) (fun _ _ => rfl)) (pv 3) (nomark _)))))), rd__law_fits T vs H Q E h⟩
theorem ok__law_is_triple {f : Addr} {fd : FuncData} (T : Txt K mg) (F : FunD K "_law_is_triple" "_law_is_triple" (defArgs s__law_is_triple) (defBody s__law_is_triple) (defScope s__law_is_triple) [] [] f fd) (c__law_number : Cal P w K mg base 1 "_law_number" ["told"] (sp__law_number K)) : FnOk P w K mg base (L2N.CX P w) 2 f fd ["value"] (sp__law_is_triple K) :=
  F.ok sc__law_is_triple (len__law_is_triple K) fun cdv A outer s H vs Q E hr h => ⟨t__law_is_triple K E, pss_cons (ps_if ((pw_or (pt_not (pt_val (pe_callB call_isi (by rfl) T.b_isinstance (by decide +kernel) (pa_cons (pv 0) (pa_cons (pe_ty "tuple" T.b_tuple (by decide +kernel)) (pa_nil)))))) (pw_or1 (pt_cmpR (op_neA hr) (pe_callB call_lenA (by rfl) T.b_len (by decide +kernel) (pa_cons (pv 0) (pa_nil))) (pe_int) (nomark _)))).pt) (pss_one (ps_ret (pe_bl))) (pss_nil)) (pss_one (ps_ret (pe_cmpR (op_eqA hr) (pe_lc (own := [("one", 1)]) (g := gName 1) (tt := tNot (tB (tCl (sp__law_number K) (fun _ => E0) (tCons (tVar 1) (tNil))))) (te := tVar 1) rfl sc__law_is_triple.nd (pi_tup (pv 0)) (blkOk_by (own := [("one", 1)]) (N := ["value", "one"]) (sc := defScope s__law_is_triple) (by decide +kernel)) (fun _ _ _ _ _ => pg_name (i := 1) sc__law_is_triple.nd rfl (by first | exact Or.inl rfl | exact Or.inr rfl)) (fun _ _ _ _ _ => pts_one (pt_not (pt_val (pe_cl c__law_number hr (by decide) (pat_no) (pa_cons (pv 1) (pa_nil)))))) (fun _ _ _ _ _ => pv 1)) (pe_lst (pa_nil)) (nomark _)))), rd__law_is_triple T vs H Q E h⟩
theorem ok__law_state {f : Addr} {fd : FuncData} (T : Txt K mg) (F : FunD K "_law_state" "_law_state" (defArgs s__law_state) (defBody s__law_state) (defScope s__law_state) [] [] f fd)  : FnOk P w K mg base (L2N.CX P w) 1 f fd ["book", "gap"] (sp21__law_state K) :=
  F.ok sc__law_state (len__law_state K) fun cdv A outer s H vs Q E hr h => ⟨t__law_state K E, pss_cons (ps_set (i := 2) sc__law_state.nd rfl (by first | exact Or.inl rfl | exact Or.inr rfl) (pe_cmpR (op_eqA hr) (pe_ix ix_seq (pe_ix ix_seq (pv 0) (pe_int) (fun _ _ => rfl)) (pv 1) (fun _ _ => rfl)) (pe_op op_addA (pv 1) (pe_int)) (nomark _))) (pss_cons (ps_set (i := 3) sc__law_state.nd rfl (by first | exact Or.inl rfl | exact Or.inr rfl) (pe_cmpR (op_eqA hr) (pe_ix ix_seq (pe_ix ix_seq (pv 0) (pe_int) (fun _ _ => rfl)) (pe_op op_addA (pv 1) (pe_int)) (fun _ _ => rfl)) (pv 1) (nomark _))) (pss_cons (ps_if ((pw_and (pt_val (pv 2)) (pw_and1 (pt_val (pv 3)))).pt) (pss_one (ps_ret (pe_str))) (pss_nil)) (pss_cons (ps_if (pt_val (pv 2)) (pss_one (ps_ret (pe_str))) (pss_nil)) (pss_cons (ps_if (pt_val (pv 3)) (pss_one (ps_ret (pe_str))) (pss_nil)) (pss_one (ps_ret (pe_str))))))), rd__law_state T vs H Q E h⟩
theorem ok__law_step {f : Addr} {fd : FuncData} (T : Txt K mg) (F : FunD K "_law_step" "_law_step" (defArgs s__law_step) (defBody s__law_step) (defScope s__law_step) [] [] f fd)  : FnOk P w K mg base (L2N.CX P w) 1 f fd ["book", "node"] (sp21__law_step K) :=
  F.ok sc__law_step (len__law_step K) fun cdv A outer s H vs Q E hr h => ⟨t__law_step K E, pss_cons (ps_set (i := 2) sc__law_step.nd rfl (by first | exact Or.inl rfl | exact Or.inr rfl) (pe_ix ix_seq (pv 0) (pe_int) (fun _ _ => rfl))) (pss_cons (ps_set (i := 3) sc__law_step.nd rfl (by first | exact Or.inl rfl | exact Or.inr rfl) (pe_ix ix_seq (pv 0) (pe_int) (fun _ _ => rfl))) (pss_cons (ps_set (i := 4) sc__law_step.nd rfl (by first | exact Or.inl rfl | exact Or.inr rfl) (pe_ix ix_seq (pv 0) (pe_int) (fun _ _ => rfl))) (pss_cons (ps_set (i := 5) sc__law_step.nd rfl (by first | exact Or.inl rfl | exact Or.inr rfl) (pe_ix ix_seq (pv 2) (pv 1) (fun _ _ => rfl))) (pss_cons (ps_set (i := 6) sc__law_step.nd rfl (by first | exact Or.inl rfl | exact Or.inr rfl) (pe_ix ix_seq (pv 3) (pv 1) (fun _ _ => rfl))) (pss_cons (ps_if (pt_val (pe_ix ix_seq (pv 4) (pv 1) (fun _ _ => rfl))) (pss_cons (ps_asg (pv 1) (pg_sub (pv 3) (pv 5) set_list)) (pss_one (ps_asg (pv 1) (pg_sub (pv 2) (pv 6) set_list)))) (pss_cons (ps_asg (pv 6) (pg_sub (pv 3) (pv 5) set_list)) (pss_one (ps_asg (pv 5) (pg_sub (pv 2) (pv 6) set_list))))) (pss_one (ps_asg (pe_not (pe_ix ix_seq (pv 4) (pv 1) (fun _ _ => rfl))) (pg_sub (pv 4) (pv 1) set_list)))))))), rd__law_step T vs H Q E h⟩
theorem ok__law_whole {f : Addr} {fd : FuncData} (T : Txt K mg) (F : FunD K "_law_whole" "_law_whole" (defArgs s__law_whole) (defBody s__law_whole) (defScope s__law_whole) [] [] f fd)  : FnOk P w K mg base (L2N.CX P w) 1 f fd ["size"] (sp21__law_whole K) :=
  F.ok sc__law_whole (len__law_whole K) fun cdv A outer s H vs Q E hr h => ⟨t__law_whole K E, pss_one (ps_ret (pe_lst (pa_cons (pv 0) (pa_cons (pe_lc (own := [("node", 1)]) (g := gName 1) (tt := tYes) (te := tOp rSubA (tVar 1) (tC (.int 1))) rfl sc__law_whole.nd (pi_range1 rfl T.b_range (pa_cons (pe_op op_addA (pv 0) (pe_int)) (pa_nil))) (blkOk_by (own := [("node", 1)]) (N := ["size", "node"]) (sc := defScope s__law_whole) (by decide +kernel)) (fun _ _ _ _ _ => pg_name (i := 1) sc__law_whole.nd rfl (by first | exact Or.inl rfl | exact Or.inr rfl)) (fun _ _ _ _ _ => pts_nil) (fun _ _ _ _ _ => pe_op op_sub (pv 1) (pe_int))) (pa_cons (pe_lc (own := [("node", 1)]) (g := gName 1) (tt := tYes) (te := tOp rAddA (tVar 1) (tC (.int 1))) rfl sc__law_whole.nd (pi_range1 rfl T.b_range (pa_cons (pe_op op_addA (pv 0) (pe_int)) (pa_nil))) (blkOk_by (own := [("node", 1)]) (N := ["size", "node"]) (sc := defScope s__law_whole) (by decide +kernel)) (fun _ _ _ _ _ => pg_name (i := 1) sc__law_whole.nd rfl (by first | exact Or.inl rfl | exact Or.inr rfl)) (fun _ _ _ _ _ => pts_nil) (fun _ _ _ _ _ => pe_op op_addA (pv 1) (pe_int))) (pa_cons (pe_lc (own := [("node", 1)]) (g := gName 1) (tt := tYes) (te := tC (.bl false)) rfl sc__law_whole.nd (pi_range1 rfl T.b_range (pa_cons (pe_op op_addA (pv 0) (pe_int)) (pa_nil))) (blkOk_by (own := [("node", 1)]) (N := ["size", "node"]) (sc := defScope s__law_whole) (by decide +kernel)) (fun _ _ _ _ _ => pg_name (i := 1) sc__law_whole.nd rfl (by first | exact Or.inl rfl | exact Or.inr rfl)) (fun _ _ _ _ _ => pts_nil) (fun _ _ _ _ _ => pe_bl)) (pa_nil))))))), rd__law_whole T vs H Q E h⟩
theorem ok__law_losses {f : Addr} {fd : FuncData} (T : Txt K mg) (F : FunD K "_law_losses" "_law_losses" (defArgs s__law_losses) (defBody s__law_losses) (defScope s__law_losses) [] [] f fd) (c__law_state : Cal P w K mg base 1 "_law_state" ["book", "gap"] (sp21__law_state K)) (c__law_step : Cal P w K mg base 1 "_law_step" ["book", "node"] (sp21__law_step K)) (c__law_whole : Cal P w K mg base 1 "_law_whole" ["size"] (sp21__law_whole K)) : FnOk P w K mg base (L2N.CX P w) 2 f fd ["size", "moves"] (sp__law_losses K) :=
  F.ok sc__law_losses (len__law_losses K) fun cdv A outer s H vs Q E hr h => ⟨t__law_losses K E, pss_cons (ps_set (i := 2) sc__law_losses.nd rfl (by first | exact Or.inl rfl | exact Or.inr rfl) (pe_cl c__law_whole hr (by decide) (pat_of (W := fun cls d _ H => E cls d H) (L2N.takes_of rfl rfl rfl rfl)) (pa_cons (pv 0) (pa_nil)))) (pss_cons (ps_set (i := 3) sc__law_losses.nd rfl (by first | exact Or.inl rfl | exact Or.inr rfl) (pe_lc (own := [("gap", 6)]) (g := gName 6) (tt := tYes) (te := tLst (tNil)) rfl sc__law_losses.nd (pi_range1 rfl T.b_range (pa_cons (pe_op op_addA (pv 0) (pe_int)) (pa_nil))) (blkOk_by (own := [("gap", 6)]) (N := ["size", "moves", "book", "rows", "states", "place", "gap", "state", "row"]) (sc := defScope s__law_losses) (by decide +kernel)) (fun _ _ _ _ _ => pg_name (i := 6) sc__law_losses.nd rfl (by first | exact Or.inl rfl | exact Or.inr rfl)) (fun _ _ _ _ _ => pts_nil) (fun _ _ _ _ _ => pe_lst (pa_nil)))) (pss_cons (ps_set (i := 4) sc__law_losses.nd rfl (by first | exact Or.inl rfl | exact Or.inr rfl) (pe_lc (own := [("gap", 6)]) (g := gName 6) (tt := tYes) (te := tC (.str "joined")) rfl sc__law_losses.nd (pi_range1 rfl T.b_range (pa_cons (pe_op op_addA (pv 0) (pe_int)) (pa_nil))) (blkOk_by (own := [("gap", 6)]) (N := ["size", "moves", "book", "rows", "states", "place", "gap", "state", "row"]) (sc := defScope s__law_losses) (by decide +kernel)) (fun _ _ _ _ _ => pg_name (i := 6) sc__law_losses.nd rfl (by first | exact Or.inl rfl | exact Or.inr rfl)) (fun _ _ _ _ _ => pts_nil) (fun _ _ _ _ _ => pe_str))) (pss_cons (ps_for (passes_of rfl) rfl (pi_range1 rfl T.b_range (pa_cons (pe_callB call_lenA (by rfl) T.b_len (by decide +kernel) (pa_cons (pv 1) (pa_nil))) (pa_nil))) (pg_name (i := 5) sc__law_losses.nd rfl (by first | exact Or.inl rfl | exact Or.inr rfl)) (pss_cons (ps_expr (pe_cl c__law_step hr (by decide) (pat_of (W := fun cls d _ H => E cls d H) (L2N.takes_of rfl rfl rfl rfl)) (pa_cons (pv 2) (pa_cons (pe_callB call_absA (by rfl) T.b_abs (by decide +kernel) (pa_cons (pe_ix ix_seq (pv 1) (pv 5) (fun _ _ => rfl)) (pa_nil))) (pa_nil))))) (pss_one (ps_for (passes_of rfl) rfl (pi_range1 rfl T.b_range (pa_cons (pe_op op_addA (pv 0) (pe_int)) (pa_nil))) (pg_name (i := 6) sc__law_losses.nd rfl (by first | exact Or.inl rfl | exact Or.inr rfl)) (pss_cons (ps_set (i := 7) sc__law_losses.nd rfl (by first | exact Or.inl rfl | exact Or.inr rfl) (pe_cl c__law_state hr (by decide) (pat_of (W := fun cls d _ H => E cls d H) (L2N.takes_of rfl rfl rfl rfl)) (pa_cons (pv 2) (pa_cons (pv 6) (pa_nil))))) (pss_one (ps_if (pt_cmpR (op_neA hr) (pv 7) (pe_ix ix_seq (pv 4) (pv 6) (fun _ _ => rfl)) (nomark _)) (pss_cons (ps_set (i := 8) sc__law_losses.nd rfl (by first | exact Or.inl rfl | exact Or.inr rfl) (pe_ix ix_seq (pv 3) (pv 6) (fun _ _ => rfl))) (pss_cons (ps_expr (pe_bm PySem.F.plainAttrs_list PySem.F.slot_list_append PySem.F.type_list_append mt_append (pv 8) (pa_cons (pv 5) (pa_nil)))) (pss_one (ps_asg (pv 7) (pg_sub (pv 4) (pv 6) set_list))))) (pss_nil)))))))) (pss_one (ps_ret (pe_lc (own := [("gap", 6)]) (g := gName 6) (tt := tTest (tOp (rEqA K) (tOp (rIx K) (tVar 4) (tVar 6)) (tC (.str "lost")))) (te := tTup (tCons (tVar 6) (tCons (tOp (rIx K) (tOp (rIx K) (tVar 3) (tVar 6)) (tUn rNegA (tC (.int 2)))) (tCons (tOp (rIx K) (tOp (rIx K) (tVar 3) (tVar 6)) (tUn rNegA (tC (.int 1)))) (tNil))))) rfl sc__law_losses.nd (pi_range1 rfl T.b_range (pa_cons (pe_op op_addA (pv 0) (pe_int)) (pa_nil))) (blkOk_by (own := [("gap", 6)]) (N := ["size", "moves", "book", "rows", "states", "place", "gap", "state", "row"]) (sc := defScope s__law_losses) (by decide +kernel)) (fun _ _ _ _ _ => pg_name (i := 6) sc__law_losses.nd rfl (by first | exact Or.inl rfl | exact Or.inr rfl)) (fun _ _ _ _ _ => pts_one (pt_cmpR (op_eqA hr) (pe_ix ix_seq (pv 4) (pv 6) (fun _ _ => rfl)) (pe_str) (nomark _))) (fun _ _ _ _ _ => pe_tup (pa_cons (pv 6) (pa_cons (pe_ix ix_seq (pe_ix ix_seq (pv 3) (pv 6) (fun _ _ => rfl)) (pe_un un_neg (pe_int)) (fun _ _ => rfl)) (pa_cons (pe_ix ix_seq (pe_ix ix_seq (pv 3) (pv 6) (fun _ _ => rfl)) (pe_un un_neg (pe_int)) (fun _ _ => rfl)) (pa_nil))))))))))), rd__law_losses T vs H Q E h⟩
theorem ok_check_size {f : Addr} {fd : FuncData} (T : Txt K mg) (F : FunD K "check_size" "check_size" (defArgs s_check_size) (defBody s_check_size) (defScope s_check_size) [] [] f fd) (x_BadSize : ExM P w K mg base 1 "BadSize" (He.ga K "BadSize") ["size"]) : FnOk P w K mg base (L2N.CX P w) 3 f fd ["size"] (sp_check_size K) :=
  F.ok sc_check_size (len_check_size K) fun cdv A outer s H vs Q E hr h => ⟨t_check_size K E, pss_one (ps_if (pt_not (pt_chain op_le op_le (pe_int) (pv 0) (pe_cc T.cc_Links_MOST (pe_own T.g_Links)))) (pss_one (ps_rz x_BadSize rfl (L2N.takes_of rfl rfl rfl rfl) hr (by decide) (pa_cons (pv 0) (pa_nil)))) (pss_nil)), rd_check_size T vs H Q E h⟩
theorem ok_Links___init__ {f : Addr} {fd : FuncData} (T : Txt K mg) (F : FunD K "__init__" "Links.__init__" (defArgs s_Links___init__) (defBody s_Links___init__) (defScope s_Links___init__) [] [] f fd) (c_check_size : Cal P w K mg base 3 "check_size" ["size"] (sp_check_size K)) : FnOk P w K mg base (L2N.CX P w) 4 f fd ["self", "size"] (sp_Links___init__ K) :=
  F.ok sc_Links___init__ (len_Links___init__ K) fun cdv A outer s H vs Q E hr h => ⟨t_Links___init__ K E, pss_cons (ps_expr (pe_cl c_check_size hr (by decide) (pat_of (W := fun cls d _ H => E cls d H) (L2N.takes_of rfl rfl rfl rfl)) (pa_cons (pv 1) (pa_nil)))) (pss_cons (ps_fld (pv 0) (pv 1) rfl) (pss_cons (ps_fld (pv 0) (pe_listRg rfl rfl T.b_list (prg_2 rfl T.b_range (pe_int) (pe_op op_addA (pv 1) (pe_int)))) rfl) (pss_cons (ps_fld (pv 0) (pe_op op_addA (pe_lst (pa_cons (pe_int) (pa_nil))) (pe_listRg rfl rfl T.b_list (prg_1 rfl T.b_range (pe_op op_addA (pv 1) (pe_int))))) rfl) (pss_one (ps_fld (pv 0) (pe_op op_mulA (pe_lst (pa_cons (pe_bl) (pa_nil))) (pe_op op_addA (pv 1) (pe_int))) rfl))))), rd_Links___init__ T vs H Q E h⟩
theorem ok_Links_is_legal {f : Addr} {fd : FuncData} (T : Txt K mg) (F : FunD K "is_legal" "Links.is_legal" (defArgs s_Links_is_legal) (defBody s_Links_is_legal) (defScope s_Links_is_legal) [] [] f fd)  : FnOk P w K mg base (L2N.CX P w) 1 f fd ["self", "operation"] (sp_Links_is_legal K) :=
  F.ok sc_Links_is_legal (len_Links_is_legal K) fun cdv A outer s H vs Q E hr h => ⟨t_Links_is_legal K E, pss_one (ps_ret (pe_cmpR (op_eqA hr) (pe_ix ix_seq (pe_fld (pv 0) rfl) (pe_callB call_absA (by rfl) T.b_abs (by decide +kernel) (pa_cons (pv 1) (pa_nil))) (fun _ _ => rfl)) (pe_cmpR op_gt (pv 1) (pe_int) (nomark _)) (nomark _))), rd_Links_is_legal T vs H Q E h⟩
theorem ok_check_operation {f : Addr} {fd : FuncData} (T : Txt K mg) (F : FunD K "check_operation" "check_operation" (defArgs s_check_operation) (defBody s_check_operation) (defScope s_check_operation) [] [] f fd) (x_BadOperation : ExM P w K mg base 1 "BadOperation" (He.ga K "BadOperation") ["operation", "index"]) : FnOk P w K mg base (L2N.CX P w) 3 f fd ["size", "operation", "index"] (sp_check_operation K) :=
  F.ok sc_check_operation (len_check_operation K) fun cdv A outer s H vs Q E hr h => ⟨t_check_operation K E, pss_one (ps_if (pt_not (pt_chain op_le op_le (pe_int) (pe_callB call_absA (by rfl) T.b_abs (by decide +kernel) (pa_cons (pv 1) (pa_nil))) (pv 0))) (pss_one (ps_rz x_BadOperation rfl (L2N.takes_of rfl rfl rfl rfl) hr (by decide) (pa_cons (pv 1) (pa_cons (pv 2) (pa_nil))))) (pss_nil)), rd_check_operation T vs H Q E h⟩
theorem ok_Links_check {f : Addr} {fd : FuncData} (T : Txt K mg) (F : FunD K "check" "Links.check" (defArgs s_Links_check) (defBody s_Links_check) (defScope s_Links_check) [] [] f fd) (c_Links_is_legal : Met P w K mg base 1 (He.ga K "Links") "is_legal" ["self", "operation"] (sp_Links_is_legal K)) (c_check_operation : Cal P w K mg base 3 "check_operation" ["size", "operation", "index"] (sp_check_operation K)) (x_Illegal : ExM P w K mg base 1 "Illegal" (He.ga K "Illegal") ["operation", "index"]) : FnOk P w K mg base (L2N.CX P w) 4 f fd ["self", "operation", "index"] (sp_Links_check K) :=
  F.ok sc_Links_check (len_Links_check K) fun cdv A outer s H vs Q E hr h => ⟨t_Links_check K E, pss_cons (ps_expr (pe_cl c_check_operation hr (by decide) (pat_of (W := fun cls d _ H => E cls d H) (L2N.takes_of rfl rfl rfl rfl)) (pa_cons (pe_fld (pv 0) rfl) (pa_cons (pv 1) (pa_cons (pv 2) (pa_nil)))))) (pss_one (ps_if (pt_not (pt_val (pe_mt c_Links_is_legal T.cl_Links hr (by decide) (pat_of (W := fun cls d _ H => E cls d H) (L2N.takes_of rfl rfl rfl rfl)) (pv 0) (pa_cons (pv 1) (pa_nil))))) (pss_one (ps_rz x_Illegal rfl (L2N.takes_of rfl rfl rfl rfl) hr (by decide) (pa_cons (pv 1) (pa_cons (pv 2) (pa_nil))))) (pss_nil))), rd_Links_check T vs H Q E h⟩
theorem ok_Links_apply_at {f : Addr} {fd : FuncData} (T : Txt K mg) (F : FunD K "apply_at" "Links.apply_at" (defArgs s_Links_apply_at) (defBody s_Links_apply_at) (defScope s_Links_apply_at) [] [] f fd) (c_Links_check : Met P w K mg base 4 (He.ga K "Links") "check" ["self", "operation", "index"] (sp_Links_check K)) : FnOk P w K mg base (L2N.CX P w) 5 f fd ["self", "operation", "index"] (sp_Links_apply_at K) :=
  F.ok sc_Links_apply_at (len_Links_apply_at K) fun cdv A outer s H vs Q E hr h => ⟨t_Links_apply_at K E, pss_cons (ps_expr (pe_mt c_Links_check T.cl_Links hr (by decide) (pat_of (W := fun cls d _ H => E cls d H) (L2N.takes_of rfl rfl rfl rfl)) (pv 0) (pa_cons (pv 1) (pa_cons (pv 2) (pa_nil))))) (pss_cons (ps_set (i := 3) sc_Links_apply_at.nd rfl (by first | exact Or.inl rfl | exact Or.inr rfl) (pe_callB call_absA (by rfl) T.b_abs (by decide +kernel) (pa_cons (pv 1) (pa_nil)))) (pss_cons (ps_set (i := 4) sc_Links_apply_at.nd rfl (by first | exact Or.inl rfl | exact Or.inr rfl) (pe_ix ix_seq (pe_fld (pv 0) rfl) (pv 3) (fun _ _ => rfl))) (pss_cons (ps_set (i := 5) sc_Links_apply_at.nd rfl (by first | exact Or.inl rfl | exact Or.inr rfl) (pe_ix ix_seq (pe_fld (pv 0) rfl) (pv 3) (fun _ _ => rfl))) (pss_cons (ps_set (i := 6) sc_Links_apply_at.nd rfl (by first | exact Or.inl rfl | exact Or.inr rfl) (pe_cmpR op_lt (pv 1) (pe_int) (nomark _))) (pss_cons (ps_asg (pe_ifExp (pt_val (pv 6)) (pv 5) (pv 3)) (pg_sub (pe_fld (pv 0) rfl) (pv 4) set_list)) (pss_cons (ps_asg (pe_ifExp (pt_val (pv 6)) (pv 4) (pv 3)) (pg_sub (pe_fld (pv 0) rfl) (pv 5) set_list)) (pss_one (ps_asg (pv 6) (pg_sub (pe_fld (pv 0) rfl) (pv 3) set_list))))))))), rd_Links_apply_at T vs H Q E h⟩
theorem ok_Links_left {f : Addr} {fd : FuncData} (T : Txt K mg) (F : FunD K "left" "Links.left" (defArgs s_Links_left) (defBody s_Links_left) (defScope s_Links_left) [] [] f fd) (x_BadNode : ExM P w K mg base 1 "BadNode" (He.ga K "BadNode") ["node"]) : FnOk P w K mg base (L2N.CX P w) 3 f fd ["self", "node"] (sp_Links_left K) :=
  F.ok sc_Links_left (len_Links_left K) fun cdv A outer s H vs Q E hr h => ⟨t_Links_left K E, pss_cons (ps_if (pt_not (pt_chain op_le op_le (pe_int) (pv 1) (pe_op op_addA (pe_fld (pv 0) rfl) (pe_int)))) (pss_one (ps_rz x_BadNode rfl (L2N.takes_of rfl rfl rfl rfl) hr (by decide) (pa_cons (pv 1) (pa_nil)))) (pss_nil)) (pss_one (ps_ret (pe_ix ix_seq (pe_fld (pv 0) rfl) (pv 1) (fun _ _ => rfl)))), rd_Links_left T vs H Q E h⟩
theorem ok_Links_right {f : Addr} {fd : FuncData} (T : Txt K mg) (F : FunD K "right" "Links.right" (defArgs s_Links_right) (defBody s_Links_right) (defScope s_Links_right) [] [] f fd) (x_BadNode : ExM P w K mg base 1 "BadNode" (He.ga K "BadNode") ["node"]) : FnOk P w K mg base (L2N.CX P w) 3 f fd ["self", "node"] (sp_Links_right K) :=
  F.ok sc_Links_right (len_Links_right K) fun cdv A outer s H vs Q E hr h => ⟨t_Links_right K E, pss_cons (ps_if (pt_not (pt_chain op_le op_le (pe_int) (pv 1) (pe_fld (pv 0) rfl))) (pss_one (ps_rz x_BadNode rfl (L2N.takes_of rfl rfl rfl rfl) hr (by decide) (pa_cons (pv 1) (pa_nil)))) (pss_nil)) (pss_one (ps_ret (pe_ix ix_seq (pe_fld (pv 0) rfl) (pv 1) (fun _ _ => rfl)))), rd_Links_right T vs H Q E h⟩
theorem ok_check_gap {f : Addr} {fd : FuncData} (T : Txt K mg) (F : FunD K "check_gap" "check_gap" (defArgs s_check_gap) (defBody s_check_gap) (defScope s_check_gap) [] [] f fd) (x_BadGap : ExM P w K mg base 1 "BadGap" (He.ga K "BadGap") ["gap"]) : FnOk P w K mg base (L2N.CX P w) 3 f fd ["size", "gap"] (sp_check_gap K) :=
  F.ok sc_check_gap (len_check_gap K) fun cdv A outer s H vs Q E hr h => ⟨t_check_gap K E, pss_one (ps_if (pt_not (pt_chain op_le op_le (pe_int) (pv 1) (pv 0))) (pss_one (ps_rz x_BadGap rfl (L2N.takes_of rfl rfl rfl rfl) hr (by decide) (pa_cons (pv 1) (pa_nil)))) (pss_nil)), rd_check_gap T vs H Q E h⟩
theorem ok_gap_state {f : Addr} {fd : FuncData} (T : Txt K mg) (F : FunD K "gap_state" "gap_state" (defArgs s_gap_state) (defBody s_gap_state) (defScope s_gap_state) [] [] f fd) (c_Links_left : Met P w K mg base 3 (He.ga K "Links") "left" ["self", "node"] (sp_Links_left K)) (c_Links_right : Met P w K mg base 3 (He.ga K "Links") "right" ["self", "node"] (sp_Links_right K)) (c_check_gap : Cal P w K mg base 3 "check_gap" ["size", "gap"] (sp_check_gap K)) : FnOk P w K mg base (L2N.CX P w) 4 f fd ["links", "gap"] (sp_gap_state K) :=
  F.ok sc_gap_state (len_gap_state K) fun cdv A outer s H vs Q E hr h => ⟨t_gap_state K E, pss_cons (ps_expr (pe_cl c_check_gap hr (by decide) (pat_of (W := fun cls d _ H => E cls d H) (L2N.takes_of rfl rfl rfl rfl)) (pa_cons (pe_fld (pv 0) rfl) (pa_cons (pv 1) (pa_nil))))) (pss_cons (ps_set (i := 2) sc_gap_state.nd rfl (by first | exact Or.inl rfl | exact Or.inr rfl) (pe_cmpR (op_eqA hr) (pe_mt c_Links_right T.cl_Links hr (by decide) (pat_of (W := fun cls d _ H => E cls d H) (L2N.takes_of rfl rfl rfl rfl)) (pv 0) (pa_cons (pv 1) (pa_nil))) (pe_op op_addA (pv 1) (pe_int)) (nomark _))) (pss_cons (ps_set (i := 3) sc_gap_state.nd rfl (by first | exact Or.inl rfl | exact Or.inr rfl) (pe_cmpR (op_eqA hr) (pe_mt c_Links_left T.cl_Links hr (by decide) (pat_of (W := fun cls d _ H => E cls d H) (L2N.takes_of rfl rfl rfl rfl)) (pv 0) (pa_cons (pe_op op_addA (pv 1) (pe_int)) (pa_nil))) (pv 1) (nomark _))) (pss_cons (ps_if (pt_val (pv 2)) (pss_one (ps_ret (pe_ifExp (pt_val (pv 3)) (pe_str) (pe_str)))) (pss_nil)) (pss_one (ps_ret (pe_ifExp (pt_val (pv 3)) (pe_str) (pe_str))))))), rd_gap_state T vs H Q E h⟩
theorem ok_gap_states {f : Addr} {fd : FuncData} (T : Txt K mg) (F : FunD K "gap_states" "gap_states" (defArgs s_gap_states) (defBody s_gap_states) (defScope s_gap_states) [] [] f fd) (c_gap_state : Cal P w K mg base 4 "gap_state" ["links", "gap"] (sp_gap_state K)) : FnOk P w K mg base (L2N.CX P w) 5 f fd ["links"] (sp_gap_states K) :=
  F.ok sc_gap_states (len_gap_states K) fun cdv A outer s H vs Q E hr h => ⟨t_gap_states K E, pss_one (ps_ret (pe_lc (own := [("gap", 1)]) (g := gName 1) (tt := tYes) (te := tCl (sp_gap_state K) (fun _ => E0) (tCons (tVar 0) (tCons (tVar 1) (tNil)))) rfl sc_gap_states.nd (pi_range1 rfl T.b_range (pa_cons (pe_op op_addA (pe_fld (pv 0) rfl) (pe_int)) (pa_nil))) (blkOk_by (own := [("gap", 1)]) (N := ["links", "gap"]) (sc := defScope s_gap_states) (by decide +kernel)) (fun _ _ _ _ _ => pg_name (i := 1) sc_gap_states.nd rfl (by first | exact Or.inl rfl | exact Or.inr rfl)) (fun _ _ _ _ _ => pts_nil) (fun _ _ _ _ _ => pe_cl c_gap_state hr (by decide) (pat_no) (pa_cons (pv 0) (pa_cons (pv 1) (pa_nil)))))), rd_gap_states T vs H Q E h⟩
theorem ok__certificates {f : Addr} {fd : FuncData} (T : Txt K mg) (F : FunD K "_certificates" "_certificates" (defArgs s__certificates) (defBody s__certificates) (defScope s__certificates) [] [] f fd) (m_Links : Mak P w K mg base 4 "Links" (He.ga K "Links") ["self", "size"] (sp_Links___init__ K)) (c_Links_apply_at : Met P w K mg base 5 (He.ga K "Links") "apply_at" ["self", "operation", "index"] (sp_Links_apply_at K)) (c_gap_states : Cal P w K mg base 5 "gap_states" ["links"] (sp_gap_states K)) : FnOk P w K mg base (L2N.CX P w) 6 f fd ["size", "log"] (sp__certificates K) :=
  F.ok sc__certificates (len__certificates K) fun cdv A outer s H vs Q E hr h => ⟨t__certificates K E, pss_cons (ps_set (i := 2) sc__certificates.nd rfl (by first | exact Or.inl rfl | exact Or.inr rfl) (pe_mk m_Links hr (by decide) (pat_of (W := fun cls d _ H => E cls d H) (L2N.takes_of rfl rfl rfl rfl)) (pa_cons (pv 0) (pa_nil)))) (pss_cons (ps_set (i := 3) sc__certificates.nd rfl (by first | exact Or.inl rfl | exact Or.inr rfl) (pe_cl c_gap_states hr (by decide) (pat_of (W := fun cls d _ H => E cls d H) (L2N.takes_of rfl rfl rfl rfl)) (pa_cons (pv 2) (pa_nil)))) (pss_cons (ps_set (i := 4) sc__certificates.nd rfl (by first | exact Or.inl rfl | exact Or.inr rfl) (pe_lc (own := [("_", 10)]) (g := gName 10) (tt := tYes) (te := tLst (tNil)) rfl sc__certificates.nd (pi_list (pv 3)) (blkOk_by (own := [("_", 10)]) (N := ["size", "log", "links", "states", "changes", "index", "operation", "before", "gap", "state", "_"]) (sc := defScope s__certificates) (by decide +kernel)) (fun _ _ _ _ _ => pg_name (i := 10) sc__certificates.nd rfl (by first | exact Or.inl rfl | exact Or.inr rfl)) (fun _ _ _ _ _ => pts_nil) (fun _ _ _ _ _ => pe_lst (pa_nil)))) (pss_cons (ps_for (passes_of rfl) rfl (pi_enum (by rfl) T.b_enumerate (pa_cons (pv 1) (pa_nil))) (pg_tup (by rfl) (pgs_cons (pg_name (i := 5) sc__certificates.nd rfl (by first | exact Or.inl rfl | exact Or.inr rfl)) (pgs_cons (pg_name (i := 6) sc__certificates.nd rfl (by first | exact Or.inl rfl | exact Or.inr rfl)) (pgs_nil)))) (pss_cons (ps_expr (pe_mt c_Links_apply_at T.cl_Links hr (by decide) (pat_of (W := fun cls d _ H => E cls d H) (L2N.takes_of rfl rfl rfl rfl)) (pv 2) (pa_cons (pv 6) (pa_cons (pv 5) (pa_nil))))) (pss_cons (ps_set (i := 7) sc__certificates.nd rfl (by first | exact Or.inl rfl | exact Or.inr rfl) (pv 3)) (pss_cons (ps_set (i := 3) sc__certificates.nd rfl (by first | exact Or.inl rfl | exact Or.inr rfl) (pe_cl c_gap_states hr (by decide) (pat_of (W := fun cls d _ H => E cls d H) (L2N.takes_of rfl rfl rfl rfl)) (pa_cons (pv 2) (pa_nil)))) (pss_one (ps_for (passes_of rfl) rfl (pi_enum (by rfl) T.b_enumerate (pa_cons (pv 3) (pa_nil))) (pg_tup (by rfl) (pgs_cons (pg_name (i := 8) sc__certificates.nd rfl (by first | exact Or.inl rfl | exact Or.inr rfl)) (pgs_cons (pg_name (i := 9) sc__certificates.nd rfl (by first | exact Or.inl rfl | exact Or.inr rfl)) (pgs_nil)))) (pss_one (ps_if (pt_cmpR (op_neA hr) (pv 9) (pe_ix ix_seq (pv 7) (pv 8) (fun _ _ => rfl)) (nomark _)) (pss_one (ps_expr (pe_bm PySem.F.plainAttrs_list PySem.F.slot_list_append PySem.F.type_list_append mt_append (pe_ix ix_seq (pv 4) (pv 8) (fun _ _ => rfl)) (pa_cons (pv 5) (pa_nil))))) (pss_nil))))))))) (pss_one (ps_ret (pe_lc (own := [("gap", 8), ("state", 9)]) (g := gTup K 2 (gCons (gName 8) (gCons (gName 9) (gNil)))) (tt := tTest (tOp (rEqA K) (tVar 9) (tC (.str "lost")))) (te := tTup (tCons (tVar 8) (tCons (tOp (rIx K) (tOp (rIx K) (tVar 4) (tVar 8)) (tUn rNegA (tC (.int 2)))) (tCons (tOp (rIx K) (tOp (rIx K) (tVar 4) (tVar 8)) (tUn rNegA (tC (.int 1)))) (tNil))))) rfl sc__certificates.nd (pi_enum (by rfl) T.b_enumerate (pa_cons (pv 3) (pa_nil))) (blkOk_by (own := [("gap", 8), ("state", 9)]) (N := ["size", "log", "links", "states", "changes", "index", "operation", "before", "gap", "state", "_"]) (sc := defScope s__certificates) (by decide +kernel)) (fun _ _ _ _ _ => pg_tup (by rfl) (pgs_cons (pg_name (i := 8) sc__certificates.nd rfl (by first | exact Or.inl rfl | exact Or.inr rfl)) (pgs_cons (pg_name (i := 9) sc__certificates.nd rfl (by first | exact Or.inl rfl | exact Or.inr rfl)) (pgs_nil)))) (fun _ _ _ _ _ => pts_one (pt_cmpR (op_eqA hr) (pv 9) (pe_str) (nomark _))) (fun _ _ _ _ _ => pe_tup (pa_cons (pv 8) (pa_cons (pe_ix ix_seq (pe_ix ix_seq (pv 4) (pv 8) (fun _ _ => rfl)) (pe_un un_neg (pe_int)) (fun _ _ => rfl)) (pa_cons (pe_ix ix_seq (pe_ix ix_seq (pv 4) (pv 8) (fun _ _ => rfl)) (pe_un un_neg (pe_int)) (fun _ _ => rfl)) (pa_nil))))))))))), rd__certificates T vs H Q E h⟩
theorem ok_is_plain_integer {f : Addr} {fd : FuncData} (T : Txt K mg) (F : FunD K "is_plain_integer" "is_plain_integer" (defArgs s_is_plain_integer) (defBody s_is_plain_integer) (defScope s_is_plain_integer) [] [] f fd)  : FnOk P w K mg base (L2N.CX P w) 1 f fd ["value"] (sp_is_plain_integer K) :=
  F.ok sc_is_plain_integer (len_is_plain_integer K) fun cdv A outer s H vs Q E hr h => ⟨t_is_plain_integer K E, pss_one (ps_ret (pe_and (pe_callB call_isi (by rfl) T.b_isinstance (by decide +kernel) (pa_cons (pv 0) (pa_cons (pe_ty "int" T.b_int (by decide +kernel)) (pa_nil)))) (pe_one (pe_not (pe_callB call_isi (by rfl) T.b_isinstance (by decide +kernel) (pa_cons (pv 0) (pa_cons (pe_ty "bool" T.b_bool (by decide +kernel)) (pa_nil)))))))), rd_is_plain_integer T vs H Q E h⟩
theorem ok_is_loss_certificate {f : Addr} {fd : FuncData} (T : Txt K mg) (F : FunD K "is_loss_certificate" "is_loss_certificate" (defArgs s_is_loss_certificate) (defBody s_is_loss_certificate) (defScope s_is_loss_certificate) [] [] f fd) (c__certificates : Cal P w K mg base 6 "_certificates" ["size", "log"] (sp__certificates K)) (c_is_plain_integer : Cal P w K mg base 1 "is_plain_integer" ["value"] (sp_is_plain_integer K)) : FnOk P w K mg base (L2N.CX P w) 7 f fd ["size", "log", "value"] (sp_is_loss_certificate K) :=
  F.ok sc_is_loss_certificate (len_is_loss_certificate K) fun cdv A outer s H vs Q E hr h => ⟨t_is_loss_certificate K E, pss_cons (ps_set (i := 3) sc_is_loss_certificate.nd rfl (by first | exact Or.inl rfl | exact Or.inr rfl) (pe_cl c__certificates hr (by decide) (pat_of (W := fun cls d _ H => E cls d H) (L2N.takes_of rfl rfl rfl rfl)) (pa_cons (pv 0) (pa_cons (pv 1) (pa_nil))))) (pss_cons (ps_if ((pw_or (pt_not (pt_val (pe_callB call_isi (by rfl) T.b_isinstance (by decide +kernel) (pa_cons (pv 2) (pa_cons (pe_ty "tuple" T.b_tuple (by decide +kernel)) (pa_nil)))))) (pw_or1 (pt_cmpR (op_neA hr) (pe_callB call_lenA (by rfl) T.b_len (by decide +kernel) (pa_cons (pv 2) (pa_nil))) (pe_int) (nomark _)))).pt) (pss_one (ps_ret (pe_bl))) (pss_nil)) (pss_one (ps_ret (pe_and (pe_callB (cr_all rfl) (by rfl) T.b_all (by decide +kernel) (pa_cons (pe_lc (own := [("member", 4)]) (g := gName 4) (tt := tYes) (te := tCl (sp_is_plain_integer K) (fun _ => E0) (tCons (tVar 4) (tNil))) rfl sc_is_loss_certificate.nd (pi_tup (pv 2)) (blkOk_by (own := [("member", 4)]) (N := ["size", "log", "value", "certificates", "member"]) (sc := defScope s_is_loss_certificate) (by decide +kernel)) (fun _ _ _ _ _ => pg_name (i := 4) sc_is_loss_certificate.nd rfl (by first | exact Or.inl rfl | exact Or.inr rfl)) (fun _ _ _ _ _ => pts_nil) (fun _ _ _ _ _ => pe_cl c_is_plain_integer hr (by decide) (pat_no) (pa_cons (pv 4) (pa_nil)))) (pa_nil))) (pe_one (pe_cmpR (op_inDA hr) (pv 2) (pv 3) (rfl))))))), rd_is_loss_certificate T vs H Q E h⟩
theorem ok_loss_certificate {f : Addr} {fd : FuncData} (T : Txt K mg) (F : FunD K "loss_certificate" "loss_certificate" (defArgs s_loss_certificate) (defBody s_loss_certificate) (defScope s_loss_certificate) [] [] f fd) (c__certificates : Cal P w K mg base 6 "_certificates" ["size", "log"] (sp__certificates K)) (x_NotLost : ExM P w K mg base 1 "NotLost" (He.ga K "NotLost") ["size"]) : FnOk P w K mg base (L2N.CX P w) 7 f fd ["size", "log"] (sp_loss_certificate K) :=
  F.ok sc_loss_certificate (len_loss_certificate K) fun cdv A outer s H vs Q E hr h => ⟨t_loss_certificate K E, pss_cons (ps_set (i := 2) sc_loss_certificate.nd rfl (by first | exact Or.inl rfl | exact Or.inr rfl) (pe_cl c__certificates hr (by decide) (pat_of (W := fun cls d _ H => E cls d H) (L2N.takes_of rfl rfl rfl rfl)) (pa_cons (pv 0) (pa_cons (pv 1) (pa_nil))))) (pss_cons (ps_if (pt_not (pt_tr (pv 2) (by intro _; rfl))) (pss_one (ps_rz x_NotLost rfl (L2N.takes_of rfl rfl rfl rfl) hr (by decide) (pa_cons (pv 0) (pa_nil)))) (pss_nil)) (pss_one (ps_ret (pe_ix ix_seq (pv 2) (pe_int) (fun _ _ => rfl))))), rd_loss_certificate T vs H Q E h⟩
theorem ok__law_told {f : Addr} {fd : FuncData} (T : Txt K mg) (F : FunD K "_law_told" "_law_told" (defArgs s__law_told) (defBody s__law_told) (defScope s__law_told) [] [] f fd) (c_is_loss_certificate : Cal P w K mg base 7 "is_loss_certificate" ["size", "log", "value"] (sp_is_loss_certificate K)) (c_loss_certificate : Cal P w K mg base 7 "loss_certificate" ["size", "log"] (sp_loss_certificate K)) : FnOk P w K mg base (L2N.CX P w) 8 f fd ["asks", "size", "moves", "value"] (sp21__law_told K) :=
  F.ok sc__law_told (len__law_told K) fun cdv A outer s H vs Q E hr h => ⟨t__law_told K E, pss_cons (L2N.ps_try_as (i := 5) (tb := fun (W : WX) => tIfS (tTest (tOp (rEqA K) (tVar 0) (tC (.str "made")))) (tAsg (tCl (sp_loss_certificate K) (WE W) (tCons (tVar 1) (tCons (tVar 2) (tNil)))) (gName 4)) (tAsg (tCl (sp_is_loss_certificate K) (WE W) (tCons (tVar 1) (tCons (tVar 2) (tCons (tVar 3) (tNil))))) (gName 4))) (ts := fun a cls d => tSeq (tIfS (tNot (tB (tCB (rIsX K cls d a) (tCons (tVar 5) (tCons (tC (.ty "ValueError")) (tNil)))))) (tRet (tTup (tCons (tC (.str "other")) (tCons (tC (.int 0)) (tCons (tC (.int 0)) (tNil)))))) (tNext)) (tSeq (tIfS (tB (tCB (rIsX K cls d a) (tCons (tVar 5) (tCons (tC (.ref (He.ga K "LogError"))) (tNil))))) (tSeq (tIfS (tAnd (tB (tCB (rIsX K cls d a) (tCons (tVar 5) (tCons (tC (.ref (He.ga K "BadOperation"))) (tNil))))) (tNot (tB (tCB (rIsX K cls d a) (tCons (tVar 5) (tCons (tC (.ref (He.ga K "Illegal"))) (tNil))))))) (tRet (tTup (tCons (tC (.str "operation")) (tCons (tXat K a cls d "operation" (tVar 5)) (tCons (tXat K a cls d "index" (tVar 5)) (tNil)))))) (tNext)) (tSeq (tIfS (tAnd (tB (tCB (rIsX K cls d a) (tCons (tVar 5) (tCons (tC (.ref (He.ga K "Illegal"))) (tNil))))) (tNot (tB (tCB (rIsX K cls d a) (tCons (tVar 5) (tCons (tC (.ref (He.ga K "BadOperation"))) (tNil))))))) (tRet (tTup (tCons (tC (.str "illegal")) (tCons (tXat K a cls d "operation" (tVar 5)) (tCons (tXat K a cls d "index" (tVar 5)) (tNil)))))) (tNext)) (tRet (tTup (tCons (tC (.str "other")) (tCons (tC (.int 0)) (tCons (tC (.int 0)) (tNil)))))))) (tNext)) (tSeq (tIfS (tB (tCB (rIsX K cls d a) (tCons (tVar 5) (tCons (tC (.ref (He.ga K "NotLost"))) (tNil))))) (tRet (tTup (tCons (tC (.str "none")) (tCons (tXat K a cls d "size" (tVar 5)) (tCons (tC (.int 0)) (tNil)))))) (tNext)) (tSeq (tIfS (tB (tCB (rIsX K cls d a) (tCons (tVar 5) (tCons (tC (.ref (He.ga K "BadSize"))) (tNil))))) (tRet (tTup (tCons (tC (.str "size")) (tCons (tXat K a cls d "size" (tVar 5)) (tCons (tC (.int 0)) (tNil)))))) (tNext)) (tRet (tTup (tCons (tC (.str "other")) (tCons (tC (.int 0)) (tCons (tC (.int 0)) (tNil)))))))))) (Wout := fun cls d _ H => E cls d H) rfl rfl sc__law_told.nd rfl rfl ⟨rfl, by decide, .inl T.g_LinkError⟩ (L2N.takes_of rfl rfl rfl rfl) (fun W pn xe tk2 po2 => pss_one (ps_if (pt_cmpR (op_eqA hr) (pv 0) (pe_str) (nomark _)) (pss_one (ps_set (i := 4) sc__law_told.nd rfl (by first | exact Or.inl rfl | exact Or.inr rfl) (pe_cl c_loss_certificate hr (by decide) (pat_of tk2) (pa_cons (pv 1) (pa_cons (pv 2) (pa_nil)))))) (pss_one (ps_set (i := 4) sc__law_told.nd rfl (by first | exact Or.inl rfl | exact Or.inr rfl) (pe_cl c_is_loss_certificate hr (by decide) (pat_of tk2) (pa_cons (pv 1) (pa_cons (pv 2) (pa_cons (pv 3) (pa_nil))))))))) (fun a oe cls d pn hz hf => pss_cons (ps_if (pt_not (pt_val (pe_callB (call_isX hz.zc hf) (by rfl) T.b_isinstance (by decide +kernel) (pa_cons (pv 5) (pa_cons (pe_ty "ValueError" T.b_ValueError (by decide +kernel)) (pa_nil)))))) (pss_one (ps_ret (pe_tup (pa_cons (pe_str) (pa_cons (pe_int) (pa_cons (pe_int) (pa_nil))))))) (pss_nil)) (pss_cons (ps_if (pt_val (pe_callB (call_isX hz.zc hf) (by rfl) T.b_isinstance (by decide +kernel) (pa_cons (pv 5) (pa_cons (pe_own T.g_LogError) (pa_nil))))) (pss_cons (ps_if ((pw_and (pt_val (pe_callB (call_isX hz.zc hf) (by rfl) T.b_isinstance (by decide +kernel) (pa_cons (pv 5) (pa_cons (pe_own T.g_BadOperation) (pa_nil))))) (pw_and1 (pt_not (pt_val (pe_callB (call_isX hz.zc hf) (by rfl) T.b_isinstance (by decide +kernel) (pa_cons (pv 5) (pa_cons (pe_own T.g_Illegal) (pa_nil)))))))).pt) (pss_one (ps_ret (pe_tup (pa_cons (pe_str) (pa_cons (pe_xat hz.zc hf (pv 5)) (pa_cons (pe_xat hz.zc hf (pv 5)) (pa_nil))))))) (pss_nil)) (pss_cons (ps_if ((pw_and (pt_val (pe_callB (call_isX hz.zc hf) (by rfl) T.b_isinstance (by decide +kernel) (pa_cons (pv 5) (pa_cons (pe_own T.g_Illegal) (pa_nil))))) (pw_and1 (pt_not (pt_val (pe_callB (call_isX hz.zc hf) (by rfl) T.b_isinstance (by decide +kernel) (pa_cons (pv 5) (pa_cons (pe_own T.g_BadOperation) (pa_nil)))))))).pt) (pss_one (ps_ret (pe_tup (pa_cons (pe_str) (pa_cons (pe_xat hz.zc hf (pv 5)) (pa_cons (pe_xat hz.zc hf (pv 5)) (pa_nil))))))) (pss_nil)) (pss_one (ps_ret (pe_tup (pa_cons (pe_str) (pa_cons (pe_int) (pa_cons (pe_int) (pa_nil))))))))) (pss_nil)) (pss_cons (ps_if (pt_val (pe_callB (call_isX hz.zc hf) (by rfl) T.b_isinstance (by decide +kernel) (pa_cons (pv 5) (pa_cons (pe_own T.g_NotLost) (pa_nil))))) (pss_one (ps_ret (pe_tup (pa_cons (pe_str) (pa_cons (pe_xat hz.zc hf (pv 5)) (pa_cons (pe_int) (pa_nil))))))) (pss_nil)) (pss_cons (ps_if (pt_val (pe_callB (call_isX hz.zc hf) (by rfl) T.b_isinstance (by decide +kernel) (pa_cons (pv 5) (pa_cons (pe_own T.g_BadSize) (pa_nil))))) (pss_one (ps_ret (pe_tup (pa_cons (pe_str) (pa_cons (pe_xat hz.zc hf (pv 5)) (pa_cons (pe_int) (pa_nil))))))) (pss_nil)) (pss_one (ps_ret (pe_tup (pa_cons (pe_str) (pa_cons (pe_int) (pa_cons (pe_int) (pa_nil)))))))))))) (pss_one (ps_ret (pe_tup (pa_cons (pe_str) (pa_cons (pv 4) (pa_cons (pe_int) (pa_nil))))))), rd__law_told T vs H Q E h⟩
theorem ok__law_certified {f : Addr} {fd : FuncData} (T : Txt K mg) (F : FunD K "_law_certified" "_law_certified" (defArgs s__law_certified) (defBody s__law_certified) (defScope s__law_certified) [] [] f fd) (c__law_fits : Cal P w K mg base 2 "_law_fits" ["told", "word", "first", "second"] (sp21__law_fits K)) (c__law_is_triple : Cal P w K mg base 2 "_law_is_triple" ["value"] (sp__law_is_triple K)) (c__law_losses : Cal P w K mg base 2 "_law_losses" ["size", "moves"] (sp__law_losses K)) (c__law_told : Cal P w K mg base 8 "_law_told" ["asks", "size", "moves", "value"] (sp21__law_told K)) : FnOk P w K mg base (L2N.CX P w) 9 f fd ["size", "moves"] (sp__law_certified K) :=
  F.ok sc__law_certified (len__law_certified K) fun cdv A outer s H vs Q E hr h => ⟨t__law_certified K E, pss_cons (ps_set (i := 2) sc__law_certified.nd rfl (by first | exact Or.inl rfl | exact Or.inr rfl) (pe_cl c__law_losses hr (by decide) (pat_of (W := fun cls d _ H => E cls d H) (L2N.takes_of rfl rfl rfl rfl)) (pa_cons (pv 0) (pa_cons (pv 1) (pa_nil))))) (pss_cons (ps_set (i := 3) sc__law_certified.nd rfl (by first | exact Or.inl rfl | exact Or.inr rfl) (pe_callTy call_listA (by rfl) T.b_list (by decide +kernel) (pa_cons (pv 1) (pa_nil)))) (pss_cons (ps_set (i := 4) sc__law_certified.nd rfl (by first | exact Or.inl rfl | exact Or.inr rfl) (pe_cl c__law_told hr (by decide) (pat_of (W := fun cls d _ H => E cls d H) (L2N.takes_of rfl rfl rfl rfl)) (pa_cons (pe_str) (pa_cons (pv 0) (pa_cons (pv 3) (pa_cons (pe_non) (pa_nil))))))) (pss_cons (ps_if (pt_cmpR (op_neA hr) (pv 3) (pv 1) (nomark _)) (pss_one (ps_ret (pe_bl))) (pss_nil)) (pss_cons (ps_if (pt_cmpR (op_eqA hr) (pv 2) (pe_lst (pa_nil)) (nomark _)) (pss_one (ps_ret (pe_cl c__law_fits hr (by decide) (pat_of (W := fun cls d _ H => E cls d H) (L2N.takes_of rfl rfl rfl rfl)) (pa_cons (pv 4) (pa_cons (pe_str) (pa_cons (pv 0) (pa_cons (pe_int) (pa_nil)))))))) (pss_nil)) (pss_one (ps_ret (pe_and (pe_cmpR (op_eqA hr) (pe_ix ix_seq (pv 4) (pe_int) (fun _ _ => rfl)) (pe_str) (nomark _)) (pe_and (pe_cl c__law_is_triple hr (by decide) (pat_of (W := fun cls d _ H => E cls d H) (L2N.takes_of rfl rfl rfl rfl)) (pa_cons (pe_ix ix_seq (pv 4) (pe_int) (fun _ _ => rfl)) (pa_nil))) (pe_one (pe_cmpR (op_eqA hr) (pe_ix ix_seq (pv 4) (pe_int) (fun _ _ => rfl)) (pe_ix ix_seq (pv 2) (pe_int) (fun _ _ => rfl)) (nomark _))))))))))), rd__law_certified T vs H Q E h⟩
theorem ok__law_draw {f : Addr} {fd : FuncData} (T : Txt K mg) (F : FunD K "_law_draw" "_law_draw" (defArgs s__law_draw) (defBody s__law_draw) (defScope s__law_draw) [] [] f fd)  : FnOk P w K mg base (L2N.CX P w) 1 f fd ["bag", "many"] (sp21__law_draw K) :=
  F.ok sc__law_draw (len__law_draw K) fun cdv A outer s H vs Q E hr h => ⟨t__law_draw K E, pss_cons (ps_if (pt_not (pt_tr (pe_ix ix_seq (pv 0) (pe_int) (fun _ _ => rfl)) (by intro _; rfl))) (pss_one (ps_ret (pe_int))) (pss_nil)) (pss_cons (ps_asg (pe_op op_addA (pe_ix ix_seq (pv 0) (pe_int) (fun _ _ => rfl)) (pe_int)) (pg_sub (pv 0) (pe_int) set_list)) (pss_cons (ps_if ((pw_and (pt_cmpR op_le (pe_ix ix_seq (pv 0) (pe_int) (fun _ _ => rfl)) (pe_int) (nomark _)) (pw_and1 (pt_cmpR op_lt (pe_ix ix_seq (pv 0) (pe_int) (fun _ _ => rfl)) (pe_callB call_lenA (by rfl) T.b_len (by decide +kernel) (pa_cons (pe_ix ix_seq (pv 0) (pe_int) (fun _ _ => rfl)) (pa_nil))) (nomark _)))).pt) (pss_cons (ps_set (i := 2) sc__law_draw.nd rfl (by first | exact Or.inl rfl | exact Or.inr rfl) (pe_ix ix_seq (pe_ix ix_seq (pv 0) (pe_int) (fun _ _ => rfl)) (pe_ix ix_seq (pv 0) (pe_int) (fun _ _ => rfl)) (fun _ _ => rfl))) (pss_cons (ps_asg (pe_op op_addA (pe_ix ix_seq (pv 0) (pe_int) (fun _ _ => rfl)) (pe_int)) (pg_sub (pv 0) (pe_int) set_list)) (pss_one (ps_if (pt_cmpR op_ge (pv 2) (pe_op op_pow (pe_int) (pe_int)) (nomark _)) (pss_one (ps_asg (pv 2) (pg_sub (pv 0) (pe_int) set_list))) (pss_one (ps_asg (pe_op op_mod (pe_callTy call_intA (by rfl) T.b_int (by decide +kernel) (pa_cons (pe_op op_addA (pe_op op_addA (pe_op op_mulA (pe_ix ix_seq (pv 0) (pe_int) (fun _ _ => rfl)) (pe_int)) (pe_op op_mulA (pv 2) (pe_int))) (pe_int)) (pa_nil))) (pe_int)) (pg_sub (pv 0) (pe_int) set_list))))))) (pss_nil)) (pss_cons (ps_if (pt_cmpR op_gt (pe_ix ix_seq (pv 0) (pe_int) (fun _ _ => rfl)) (pe_int) (nomark _)) (pss_cons (ps_set (i := 3) sc__law_draw.nd rfl (by first | exact Or.inl rfl | exact Or.inr rfl) (pe_op op_mod (pe_callTy call_intA (by rfl) T.b_int (by decide +kernel) (pa_cons (pe_ix ix_seq (pv 0) (pe_int) (fun _ _ => rfl)) (pa_nil))) (pv 1))) (pss_cons (ps_asg (pe_op op_fdiv (pe_callTy call_intA (by rfl) T.b_int (by decide +kernel) (pa_cons (pe_ix ix_seq (pv 0) (pe_int) (fun _ _ => rfl)) (pa_nil))) (pv 1)) (pg_sub (pv 0) (pe_int) set_list)) (pss_one (ps_ret (pv 3))))) (pss_nil)) (pss_cons (ps_asg (pe_op op_mod (pe_callTy call_intA (by rfl) T.b_int (by decide +kernel) (pa_cons (pe_op op_addA (pe_op op_addA (pe_op op_mulA (pe_ix ix_seq (pv 0) (pe_int) (fun _ _ => rfl)) (pe_int)) (pe_op op_mulA (pe_ix ix_seq (pv 0) (pe_int) (fun _ _ => rfl)) (pe_int))) (pe_int)) (pa_nil))) (pe_int)) (pg_sub (pv 0) (pe_int) set_list)) (pss_cons (ps_set (i := 4) sc__law_draw.nd rfl (by first | exact Or.inl rfl | exact Or.inr rfl) (pe_op op_mod (pe_callTy call_intA (by rfl) T.b_int (by decide +kernel) (pa_cons (pe_op op_addA (pe_op op_mulA (pe_op op_fdiv (pe_ix ix_seq (pv 0) (pe_int) (fun _ _ => rfl)) (pe_int)) (pe_int)) (pe_ix ix_seq (pv 0) (pe_int) (fun _ _ => rfl))) (pa_nil))) (pe_int))) (pss_one (ps_ret (pe_op op_mod (pe_callTy call_intA (by rfl) T.b_int (by decide +kernel) (pa_cons (pe_op op_fdiv (pv 4) (pe_int)) (pa_nil))) (pv 1))))))))), rd__law_draw T vs H Q E h⟩
theorem ok__law_lanes {f : Addr} {fd : FuncData} (T : Txt K mg) (F : FunD K "_law_lanes" "_law_lanes" (defArgs s__law_lanes) (defBody s__law_lanes) (defScope s__law_lanes) [] [] f fd) (c__law_draw : Cal P w K mg base 1 "_law_draw" ["bag", "many"] (sp21__law_draw K)) : FnOk P w K mg base (L2N.CX P w) 2 f fd ["bag", "size"] (sp21__law_lanes K) :=
  F.ok sc__law_lanes (len__law_lanes K) fun cdv A outer s H vs Q E hr h => ⟨t__law_lanes K E, pss_cons (ps_set (i := 2) sc__law_lanes.nd rfl (by first | exact Or.inl rfl | exact Or.inr rfl) (pe_lst (pa_nil))) (pss_cons (ps_if ((pw_or (pt_cmpR op_lt (pv 1) (pe_int) (nomark _)) (pw_or1 (pt_cmpR (op_eqA hr) (pe_cl c__law_draw hr (by decide) (pat_of (W := fun cls d _ H => E cls d H) (L2N.takes_of rfl rfl rfl rfl)) (pa_cons (pv 0) (pa_cons (pe_int) (pa_nil)))) (pe_int) (nomark _)))).pt) (pss_one (ps_ret (pv 2))) (pss_nil)) (pss_cons (ps_set (i := 3) sc__law_lanes.nd rfl (by first | exact Or.inl rfl | exact Or.inr rfl) (pe_cl c__law_draw hr (by decide) (pat_of (W := fun cls d _ H => E cls d H) (L2N.takes_of rfl rfl rfl rfl)) (pa_cons (pv 0) (pa_cons (pe_op op_sub (pv 1) (pe_int)) (pa_nil))))) (pss_cons (ps_if (pt_cmpR (op_eqA hr) (pe_cl c__law_draw hr (by decide) (pat_of (W := fun cls d _ H => E cls d H) (L2N.takes_of rfl rfl rfl rfl)) (pa_cons (pv 0) (pa_cons (pe_int) (pa_nil)))) (pe_int) (nomark _)) (pss_one (ps_set (i := 3) sc__law_lanes.nd rfl (by first | exact Or.inl rfl | exact Or.inr rfl) (pe_op op_mod (pe_callTy call_intA (by rfl) T.b_int (by decide +kernel) (pa_cons (pv 3) (pa_nil))) (pe_int)))) (pss_nil)) (pss_cons (ps_for (passes_of rfl) rfl (pi_range1 rfl T.b_range (pa_cons (pe_int) (pa_nil))) (pg_name (i := 4) sc__law_lanes.nd rfl (by first | exact Or.inl rfl | exact Or.inr rfl)) (pss_cons (ps_if ((pw_and (pt_cmpR op_le (pe_op op_addA (pv 3) (pe_int)) (pv 1) (nomark _)) (pw_and1 ((pw_or (pt_cmpR (op_eqA hr) (pv 4) (pe_int) (nomark _)) (pw_or1 (pt_cmpR op_gt (pe_cl c__law_draw hr (by decide) (pat_of (W := fun cls d _ H => E cls d H) (L2N.takes_of rfl rfl rfl rfl)) (pa_cons (pv 0) (pa_cons (pe_int) (pa_nil)))) (pe_int) (nomark _)))).pt))).pt) (pss_cons (ps_set (i := 5) sc__law_lanes.nd rfl (by first | exact Or.inl rfl | exact Or.inr rfl) (pe_ix ix_seq (pe_lst (pa_cons (pe_lst (pa_cons (pe_int) (pa_cons (pe_int) (pa_cons (pe_int) (pa_cons (pe_int) (pa_cons (pe_int) (pa_nil))))))) (pa_cons (pe_lst (pa_cons (pe_int) (pa_cons (pe_int) (pa_cons (pe_int) (pa_cons (pe_int) (pa_cons (pe_int) (pa_nil))))))) (pa_nil)))) (pe_cl c__law_draw hr (by decide) (pat_of (W := fun cls d _ H => E cls d H) (L2N.takes_of rfl rfl rfl rfl)) (pa_cons (pv 0) (pa_cons (pe_int) (pa_nil)))) (fun _ _ => rfl))) (pss_one (ps_expr (pe_bm PySem.F.plainAttrs_list PySem.F.slot_list_append PySem.F.type_list_append mt_append (pv 2) (pa_cons (pe_lc (own := [("node", 6)]) (g := gName 6) (tt := tYes) (te := tOp rAddA (tVar 3) (tVar 6)) rfl sc__law_lanes.nd (pi_list (pv 5)) (blkOk_by (own := [("node", 6)]) (N := ["bag", "size", "lanes", "start", "turn", "lane", "node"]) (sc := defScope s__law_lanes) (by decide +kernel)) (fun _ _ _ _ _ => pg_name (i := 6) sc__law_lanes.nd rfl (by first | exact Or.inl rfl | exact Or.inr rfl)) (fun _ _ _ _ _ => pts_nil) (fun _ _ _ _ _ => pe_op op_addA (pv 3) (pv 6))) (pa_nil)))))) (pss_nil)) (pss_one (ps_set (i := 3) sc__law_lanes.nd rfl (by first | exact Or.inl rfl | exact Or.inr rfl) (pe_op op_addA (pe_op op_addA (pv 3) (pe_int)) (pe_cl c__law_draw hr (by decide) (pat_of (W := fun cls d _ H => E cls d H) (L2N.takes_of rfl rfl rfl rfl)) (pa_cons (pv 0) (pa_cons (pe_int) (pa_nil))))))))) (pss_one (ps_ret (pv 2))))))), rd__law_lanes T vs H Q E h⟩
theorem ok__law_nodes {f : Addr} {fd : FuncData} (T : Txt K mg) (F : FunD K "_law_nodes" "_law_nodes" (defArgs s__law_nodes) (defBody s__law_nodes) (defScope s__law_nodes) [] [] f fd) (c__law_draw : Cal P w K mg base 1 "_law_draw" ["bag", "many"] (sp21__law_draw K)) (c__law_lanes : Cal P w K mg base 2 "_law_lanes" ["bag", "size"] (sp21__law_lanes K)) : FnOk P w K mg base (L2N.CX P w) 3 f fd ["bag", "size"] (sp21__law_nodes K) :=
  F.ok sc__law_nodes (len__law_nodes K) fun cdv A outer s H vs Q E hr h => ⟨t__law_nodes K E, pss_cons (ps_set (i := 2) sc__law_nodes.nd rfl (by first | exact Or.inl rfl | exact Or.inr rfl) (pe_lst (pa_nil))) (pss_cons (ps_for (passes_of rfl) rfl (pi_range1 rfl T.b_range (pa_cons (pe_cl c__law_draw hr (by decide) (pat_of (W := fun cls d _ H => E cls d H) (L2N.takes_of rfl rfl rfl rfl)) (pa_cons (pv 0) (pa_cons (pe_int) (pa_nil)))) (pa_nil))) (pg_name (i := 3) sc__law_nodes.nd rfl (by first | exact Or.inl rfl | exact Or.inr rfl)) (pss_cons (ps_set (i := 4) sc__law_nodes.nd rfl (by first | exact Or.inl rfl | exact Or.inr rfl) (pe_op op_addA (pe_int) (pe_cl c__law_draw hr (by decide) (pat_of (W := fun cls d _ H => E cls d H) (L2N.takes_of rfl rfl rfl rfl)) (pa_cons (pv 0) (pa_cons (pv 1) (pa_nil)))))) (pss_one (ps_expr (pe_bm PySem.F.plainAttrs_list PySem.F.slot_list_extend PySem.F.type_list_extend mt_extend (pv 2) (pa_cons (pe_lst (pa_cons (pv 4) (pa_cons (pv 4) (pa_nil)))) (pa_nil))))))) (pss_cons (ps_set (i := 5) sc__law_nodes.nd rfl (by first | exact Or.inl rfl | exact Or.inr rfl) (pe_cl c__law_lanes hr (by decide) (pat_of (W := fun cls d _ H => E cls d H) (L2N.takes_of rfl rfl rfl rfl)) (pa_cons (pv 0) (pa_cons (pv 1) (pa_nil))))) (pss_cons (ps_set (i := 6) sc__law_nodes.nd rfl (by first | exact Or.inl rfl | exact Or.inr rfl) (pe_lst (pa_nil))) (pss_cons (ps_for (passes_of rfl) rfl (pi_list (pv 5)) (pg_name (i := 7) sc__law_nodes.nd rfl (by first | exact Or.inl rfl | exact Or.inr rfl)) (pss_one (ps_expr (pe_bm PySem.F.plainAttrs_list PySem.F.slot_list_extend PySem.F.type_list_extend mt_extend (pv 6) (pa_cons (pv 7) (pa_nil)))))) (pss_cons (ps_set (i := 8) sc__law_nodes.nd rfl (by first | exact Or.inl rfl | exact Or.inr rfl) (pe_lc (own := [("node", 4)]) (g := gName 4) (tt := tTest (tOp (rIn K true) (tVar 4) (tVar 6))) (te := tVar 4) rfl sc__law_nodes.nd (pi_range2 rfl T.b_range (pa_cons (pe_int) (pa_cons (pe_op op_addA (pv 1) (pe_int)) (pa_nil)))) (blkOk_by (own := [("node", 4)]) (N := ["bag", "size", "nodes", "turn", "node", "lanes", "taken", "lane", "spare", "start", "more", "open_lanes", "step"]) (sc := defScope s__law_nodes) (by decide +kernel)) (fun _ _ _ _ _ => pg_name (i := 4) sc__law_nodes.nd rfl (by first | exact Or.inl rfl | exact Or.inr rfl)) (fun _ _ _ _ _ => pts_one (pt_cmpR op_notIn_seq (pv 4) (pv 6) (rfl))) (fun _ _ _ _ _ => pv 4))) (pss_cons (ps_set (i := 9) sc__law_nodes.nd rfl (by first | exact Or.inl rfl | exact Or.inr rfl) (pe_cl c__law_draw hr (by decide) (pat_of (W := fun cls d _ H => E cls d H) (L2N.takes_of rfl rfl rfl rfl)) (pa_cons (pv 0) (pa_cons (pv 1) (pa_nil))))) (pss_cons (ps_if ((pw_or (pt_cmpR (op_eqA hr) (pv 8) (pe_lst (pa_nil)) (nomark _)) (pw_or1 (pt_cmpR (op_eqA hr) (pe_cl c__law_draw hr (by decide) (pat_of (W := fun cls d _ H => E cls d H) (L2N.takes_of rfl rfl rfl rfl)) (pa_cons (pv 0) (pa_cons (pe_int) (pa_nil)))) (pe_int) (nomark _)))).pt) (pss_one (ps_set (i := 8) sc__law_nodes.nd rfl (by first | exact Or.inl rfl | exact Or.inr rfl) (pe_lc (own := [("step", 12)]) (g := gName 12) (tt := tYes) (te := tOp rAddA (tC (.int 1)) (tOp rModA (tCB rIntA (tCons (tOp rAddA (tVar 9) (tVar 12)) (tNil))) (tVar 1))) rfl sc__law_nodes.nd (pi_range1 rfl T.b_range (pa_cons (pe_int) (pa_nil))) (blkOk_by (own := [("step", 12)]) (N := ["bag", "size", "nodes", "turn", "node", "lanes", "taken", "lane", "spare", "start", "more", "open_lanes", "step"]) (sc := defScope s__law_nodes) (by decide +kernel)) (fun _ _ _ _ _ => pg_name (i := 12) sc__law_nodes.nd rfl (by first | exact Or.inl rfl | exact Or.inr rfl)) (fun _ _ _ _ _ => pts_nil) (fun _ _ _ _ _ => pe_op op_addA (pe_int) (pe_op op_mod (pe_callTy call_intA (by rfl) T.b_int (by decide +kernel) (pa_cons (pe_op op_addA (pv 9) (pv 12)) (pa_nil))) (pv 1)))))) (pss_nil)) (pss_cons (ps_setLc (i := 10) (own := [("turn", 3)]) (g := gName 3) (tt := tYes) (te := tOp (rIx K) (tVar 8) (tCl (sp21__law_draw K) (fun _ => E0) (tCons (tVar 0) (tCons (tCB (rLenA K) (tCons (tVar 8) (tNil))) (tNil))))) rfl sc__law_nodes.nd rfl rfl (sw_true rfl rfl rfl (by decide +kernel)) (pi_range1 rfl T.b_range (pa_cons (pe_cl c__law_draw hr (by decide) (pat_of (W := fun cls d _ H => E cls d H) (L2N.takes_of rfl rfl rfl rfl)) (pa_cons (pv 0) (pa_cons (pe_int) (pa_nil)))) (pa_nil))) (blkOk_by (own := [("turn", 3)]) (N := ["bag", "size", "nodes", "turn", "node", "lanes", "taken", "lane", "spare", "start", "more", "open_lanes", "step"]) (sc := defScope s__law_nodes) (by decide +kernel)) (fun _ _ _ _ _ => pg_name (i := 3) sc__law_nodes.nd rfl (by first | exact Or.inl rfl | exact Or.inr rfl)) (fun _ _ _ _ _ => pts_nil) (fun _ _ _ _ _ => pe_ix ix_seq (pv 8) (pe_cl c__law_draw hr (by decide) (pat_no) (pa_cons (pv 0) (pa_cons (pe_callB call_lenA (by rfl) T.b_len (by decide +kernel) (pa_cons (pv 8) (pa_nil))) (pa_nil)))) (fun _ _ => rfl))) (pss_cons (ps_if (pt_cmpR (op_neA hr) (pv 10) (pe_lst (pa_nil)) (nomark _)) (pss_one (ps_expr (pe_bm PySem.F.plainAttrs_list PySem.F.slot_list_append PySem.F.type_list_append mt_append (pv 5) (pa_cons (pv 10) (pa_nil))))) (pss_nil)) (pss_cons (ps_for (passes_of rfl) rfl (pi_range1 rfl T.b_range (pa_cons (pe_int) (pa_nil))) (pg_name (i := 3) sc__law_nodes.nd rfl (by first | exact Or.inl rfl | exact Or.inr rfl)) (pss_cons (ps_setLc (i := 11) (own := [("lane", 7)]) (g := gName 7) (tt := tTest (tOp (rNeA K) (tVar 7) (tLst (tNil)))) (te := tVar 7) rfl sc__law_nodes.nd rfl rfl (sw_true rfl rfl rfl (by decide +kernel)) (pi_list (pv 5)) (blkOk_by (own := [("lane", 7)]) (N := ["bag", "size", "nodes", "turn", "node", "lanes", "taken", "lane", "spare", "start", "more", "open_lanes", "step"]) (sc := defScope s__law_nodes) (by decide +kernel)) (fun _ _ _ _ _ => pg_name (i := 7) sc__law_nodes.nd rfl (by first | exact Or.inl rfl | exact Or.inr rfl)) (fun _ _ _ _ _ => pts_one (pt_cmpR (op_neA hr) (pv 7) (pe_lst (pa_nil)) (nomark _))) (fun _ _ _ _ _ => pv 7)) (pss_one (ps_if (pt_cmpR (op_neA hr) (pv 11) (pe_lst (pa_nil)) (nomark _)) (pss_cons (ps_set (i := 7) sc__law_nodes.nd rfl (by first | exact Or.inl rfl | exact Or.inr rfl) (pe_ix ix_seq (pv 11) (pe_cl c__law_draw hr (by decide) (pat_of (W := fun cls d _ H => E cls d H) (L2N.takes_of rfl rfl rfl rfl)) (pa_cons (pv 0) (pa_cons (pe_callB call_lenA (by rfl) T.b_len (by decide +kernel) (pa_cons (pv 11) (pa_nil))) (pa_nil)))) (fun _ _ => rfl))) (pss_one (ps_expr (pe_bm PySem.F.plainAttrs_list PySem.F.slot_list_append PySem.F.type_list_append mt_append (pv 2) (pa_cons (pe_bm PySem.F.plainAttrs_list PySem.F.slot_list_pop PySem.F.type_list_pop mt_popAt (pv 7) (pa_cons (pe_int) (pa_nil))) (pa_nil)))))) (pss_nil))))) (pss_one (ps_ret (pv 2))))))))))))), rd__law_nodes T vs H Q E h⟩
theorem ok__law_operation {f : Addr} {fd : FuncData} (T : Txt K mg) (F : FunD K "_law_operation" "_law_operation" (defArgs s__law_operation) (defBody s__law_operation) (defScope s__law_operation) [] [] f fd)  : FnOk P w K mg base (L2N.CX P w) 1 f fd ["book", "node"] (sp__law_operation K) :=
  F.ok sc__law_operation (len__law_operation K) fun cdv A outer s H vs Q E hr h => ⟨t__law_operation K E, pss_cons (ps_if (pt_val (pe_ix ix_seq (pe_ix ix_seq (pv 0) (pe_int) (fun _ _ => rfl)) (pv 1) (fun _ _ => rfl))) (pss_one (ps_ret (pv 1))) (pss_nil)) (pss_one (ps_ret (pe_un un_neg (pv 1)))), rd__law_operation T vs H Q E h⟩
theorem ok__law_log {f : Addr} {fd : FuncData} (T : Txt K mg) (F : FunD K "_law_log" "_law_log" (defArgs s__law_log) (defBody s__law_log) (defScope s__law_log) [] [] f fd) (c__law_nodes : Cal P w K mg base 3 "_law_nodes" ["bag", "size"] (sp21__law_nodes K)) (c__law_operation : Cal P w K mg base 1 "_law_operation" ["book", "node"] (sp__law_operation K)) (c__law_step : Cal P w K mg base 1 "_law_step" ["book", "node"] (sp21__law_step K)) (c__law_whole : Cal P w K mg base 1 "_law_whole" ["size"] (sp21__law_whole K)) : FnOk P w K mg base (L2N.CX P w) 4 f fd ["bag", "size"] (sp21__law_log K) :=
  F.ok sc__law_log (len__law_log K) fun cdv A outer s H vs Q E hr h => ⟨t__law_log K E, pss_cons (ps_set (i := 2) sc__law_log.nd rfl (by first | exact Or.inl rfl | exact Or.inr rfl) (pe_cl c__law_whole hr (by decide) (pat_of (W := fun cls d _ H => E cls d H) (L2N.takes_of rfl rfl rfl rfl)) (pa_cons (pv 1) (pa_nil)))) (pss_cons (ps_set (i := 3) sc__law_log.nd rfl (by first | exact Or.inl rfl | exact Or.inr rfl) (pe_lst (pa_nil))) (pss_cons (ps_if (pt_cmpR (op_eqA hr) (pv 1) (pe_int) (nomark _)) (pss_one (ps_ret (pv 3))) (pss_nil)) (pss_cons (ps_for (passes_of rfl) rfl (pi_list (pe_cl c__law_nodes hr (by decide) (pat_of (W := fun cls d _ H => E cls d H) (L2N.takes_of rfl rfl rfl rfl)) (pa_cons (pv 0) (pa_cons (pv 1) (pa_nil))))) (pg_name (i := 4) sc__law_log.nd rfl (by first | exact Or.inl rfl | exact Or.inr rfl)) (pss_cons (ps_expr (pe_bm PySem.F.plainAttrs_list PySem.F.slot_list_append PySem.F.type_list_append mt_append (pv 3) (pa_cons (pe_cl c__law_operation hr (by decide) (pat_of (W := fun cls d _ H => E cls d H) (L2N.takes_of rfl rfl rfl rfl)) (pa_cons (pv 2) (pa_cons (pv 4) (pa_nil)))) (pa_nil)))) (pss_one (ps_expr (pe_cl c__law_step hr (by decide) (pat_of (W := fun cls d _ H => E cls d H) (L2N.takes_of rfl rfl rfl rfl)) (pa_cons (pv 2) (pa_cons (pv 4) (pa_nil)))))))) (pss_one (ps_ret (pv 3)))))), rd__law_log T vs H Q E h⟩
theorem ok__law_both_refuse {f : Addr} {fd : FuncData} (T : Txt K mg) (F : FunD K "_law_both_refuse" "_law_both_refuse" (defArgs s__law_both_refuse) (defBody s__law_both_refuse) (defScope s__law_both_refuse) [] [] f fd) (c__law_fits : Cal P w K mg base 2 "_law_fits" ["told", "word", "first", "second"] (sp21__law_fits K)) (c__law_told : Cal P w K mg base 8 "_law_told" ["asks", "size", "moves", "value"] (sp21__law_told K)) : FnOk P w K mg base (L2N.CX P w) 9 f fd ["size", "moves", "word", "first", "second"] (sp__law_both_refuse K) :=
  F.ok sc__law_both_refuse (len__law_both_refuse K) fun cdv A outer s H vs Q E hr h => ⟨t__law_both_refuse K E, pss_cons (ps_if (pt_not (pt_val (pe_cl c__law_fits hr (by decide) (pat_of (W := fun cls d _ H => E cls d H) (L2N.takes_of rfl rfl rfl rfl)) (pa_cons (pe_cl c__law_told hr (by decide) (pat_of (W := fun cls d _ H => E cls d H) (L2N.takes_of rfl rfl rfl rfl)) (pa_cons (pe_str) (pa_cons (pv 0) (pa_cons (pv 1) (pa_cons (pe_non) (pa_nil)))))) (pa_cons (pv 2) (pa_cons (pv 3) (pa_cons (pv 4) (pa_nil)))))))) (pss_one (ps_ret (pe_bl))) (pss_nil)) (pss_cons (ps_if (pt_not (pt_val (pe_cl c__law_fits hr (by decide) (pat_of (W := fun cls d _ H => E cls d H) (L2N.takes_of rfl rfl rfl rfl)) (pa_cons (pe_cl c__law_told hr (by decide) (pat_of (W := fun cls d _ H => E cls d H) (L2N.takes_of rfl rfl rfl rfl)) (pa_cons (pe_str) (pa_cons (pv 0) (pa_cons (pv 1) (pa_cons (pe_non) (pa_nil)))))) (pa_cons (pv 2) (pa_cons (pv 3) (pa_cons (pv 4) (pa_nil)))))))) (pss_one (ps_ret (pe_bl))) (pss_nil)) (pss_one (ps_ret (pe_cl c__law_fits hr (by decide) (pat_of (W := fun cls d _ H => E cls d H) (L2N.takes_of rfl rfl rfl rfl)) (pa_cons (pe_cl c__law_told hr (by decide) (pat_of (W := fun cls d _ H => E cls d H) (L2N.takes_of rfl rfl rfl rfl)) (pa_cons (pe_str) (pa_cons (pv 0) (pa_cons (pv 1) (pa_cons (pe_tup (pa_cons (pe_int) (pa_cons (pe_int) (pa_cons (pe_int) (pa_nil))))) (pa_nil)))))) (pa_cons (pv 2) (pa_cons (pv 3) (pa_cons (pv 4) (pa_nil))))))))), rd__law_both_refuse T vs H Q E h⟩
theorem ok__law_refusals {f : Addr} {fd : FuncData} (T : Txt K mg) (F : FunD K "_law_refusals" "_law_refusals" (defArgs s__law_refusals) (defBody s__law_refusals) (defScope s__law_refusals) [] [] f fd) (c__law_both_refuse : Cal P w K mg base 9 "_law_both_refuse" ["size", "moves", "word", "first", "second"] (sp__law_both_refuse K)) (c__law_draw : Cal P w K mg base 1 "_law_draw" ["bag", "many"] (sp21__law_draw K)) : FnOk P w K mg base (L2N.CX P w) 10 f fd ["bag", "size", "moves"] (sp__law_refusals K) :=
  F.ok sc__law_refusals (len__law_refusals K) fun cdv A outer s H vs Q E hr h => ⟨t__law_refusals K E, pss_cons (ps_set (i := 3) sc__law_refusals.nd rfl (by first | exact Or.inl rfl | exact Or.inr rfl) (pe_cl c__law_draw hr (by decide) (pat_of (W := fun cls d _ H => E cls d H) (L2N.takes_of rfl rfl rfl rfl)) (pa_cons (pv 0) (pa_cons (pe_op op_addA (pe_callB call_lenA (by rfl) T.b_len (by decide +kernel) (pa_cons (pv 2) (pa_nil))) (pe_int)) (pa_nil))))) (pss_cons (ps_set (i := 4) sc__law_refusals.nd rfl (by first | exact Or.inl rfl | exact Or.inr rfl) (pe_ix ix_seq (pe_lst (pa_cons (pe_int) (pa_cons (pe_op op_addA (pv 1) (pe_int)) (pa_cons (pe_op op_sub (pe_un un_neg (pe_int)) (pv 1)) (pa_cons (pe_op op_addA (pv 1) (pe_int)) (pa_nil)))))) (pe_cl c__law_draw hr (by decide) (pat_of (W := fun cls d _ H => E cls d H) (L2N.takes_of rfl rfl rfl rfl)) (pa_cons (pv 0) (pa_cons (pe_int) (pa_nil)))) (fun _ _ => rfl))) (pss_cons (ps_set (i := 5) sc__law_refusals.nd rfl (by first | exact Or.inl rfl | exact Or.inr rfl) (pe_op op_addA (pe_op op_addA (pe_slice sl_list (pv 2) (po_none) (po_some (pv 3))) (pe_lst (pa_cons (pv 4) (pa_nil)))) (pe_slice sl_list (pv 2) (po_some (pv 3)) (po_none)))) (pss_cons (ps_if (pt_not (pt_val (pe_cl c__law_both_refuse hr (by decide) (pat_of (W := fun cls d _ H => E cls d H) (L2N.takes_of rfl rfl rfl rfl)) (pa_cons (pv 1) (pa_cons (pv 5) (pa_cons (pe_str) (pa_cons (pv 4) (pa_cons (pv 3) (pa_nil))))))))) (pss_one (ps_ret (pe_bl))) (pss_nil)) (pss_cons (ps_set (i := 6) sc__law_refusals.nd rfl (by first | exact Or.inl rfl | exact Or.inr rfl) (pe_ix ix_seq (pe_lst (pa_cons (pe_int) (pa_cons (pe_un un_neg (pe_int)) (pa_cons (pe_op op_addA (pe_int) (pe_cl c__law_draw hr (by decide) (pat_of (W := fun cls d _ H => E cls d H) (L2N.takes_of rfl rfl rfl rfl)) (pa_cons (pv 0) (pa_cons (pe_int) (pa_nil))))) (pa_cons (pe_op op_sub (pe_un un_neg (pe_int)) (pe_cl c__law_draw hr (by decide) (pat_of (W := fun cls d _ H => E cls d H) (L2N.takes_of rfl rfl rfl rfl)) (pa_cons (pv 0) (pa_cons (pe_int) (pa_nil))))) (pa_nil)))))) (pe_cl c__law_draw hr (by decide) (pat_of (W := fun cls d _ H => E cls d H) (L2N.takes_of rfl rfl rfl rfl)) (pa_cons (pv 0) (pa_cons (pe_int) (pa_nil)))) (fun _ _ => rfl))) (pss_cons (ps_if (pt_not (pt_val (pe_cl c__law_both_refuse hr (by decide) (pat_of (W := fun cls d _ H => E cls d H) (L2N.takes_of rfl rfl rfl rfl)) (pa_cons (pv 6) (pa_cons (pv 5) (pa_cons (pe_str) (pa_cons (pv 6) (pa_cons (pe_int) (pa_nil))))))))) (pss_one (ps_ret (pe_bl))) (pss_nil)) (pss_cons (ps_if (pt_cmpR (op_eqA hr) (pv 2) (pe_lst (pa_nil)) (nomark _)) (pss_one (ps_ret (pe_bl))) (pss_nil)) (pss_cons (ps_set (i := 3) sc__law_refusals.nd rfl (by first | exact Or.inl rfl | exact Or.inr rfl) (pe_cl c__law_draw hr (by decide) (pat_of (W := fun cls d _ H => E cls d H) (L2N.takes_of rfl rfl rfl rfl)) (pa_cons (pv 0) (pa_cons (pe_callB call_lenA (by rfl) T.b_len (by decide +kernel) (pa_cons (pv 2) (pa_nil))) (pa_nil))))) (pss_cons (ps_set (i := 5) sc__law_refusals.nd rfl (by first | exact Or.inl rfl | exact Or.inr rfl) (pe_op op_addA (pe_op op_addA (pe_op op_addA (pe_slice sl_list (pv 2) (po_none) (po_some (pv 3))) (pe_lst (pa_cons (pe_un un_neg (pe_ix ix_seq (pv 2) (pv 3) (fun _ _ => rfl))) (pa_nil)))) (pe_slice sl_list (pv 2) (po_some (pe_op op_addA (pv 3) (pe_int))) (po_none))) (pe_lst (pa_cons (pe_int) (pa_nil))))) (pss_one (ps_ret (pe_cl c__law_both_refuse hr (by decide) (pat_of (W := fun cls d _ H => E cls d H) (L2N.takes_of rfl rfl rfl rfl)) (pa_cons (pv 1) (pa_cons (pv 5) (pa_cons (pe_str) (pa_cons (pe_un un_neg (pe_ix ix_seq (pv 2) (pv 3) (fun _ _ => rfl))) (pa_cons (pv 3) (pa_nil))))))))))))))))), rd__law_refusals T vs H Q E h⟩
theorem ok__law_size {f : Addr} {fd : FuncData} (T : Txt K mg) (F : FunD K "_law_size" "_law_size" (defArgs s__law_size) (defBody s__law_size) (defScope s__law_size) [] [] f fd) (c__law_draw : Cal P w K mg base 1 "_law_draw" ["bag", "many"] (sp21__law_draw K)) : FnOk P w K mg base (L2N.CX P w) 2 f fd ["bag"] (sp21__law_size K) :=
  F.ok sc__law_size (len__law_size K) fun cdv A outer s H vs Q E hr h => ⟨t__law_size K E, pss_cons (ps_set (i := 1) sc__law_size.nd rfl (by first | exact Or.inl rfl | exact Or.inr rfl) (pe_ix ix_seq (pe_lst (pa_cons (pe_int) (pa_cons (pe_int) (pa_cons (pe_int) (pa_cons (pe_int) (pa_cons (pe_int) (pa_cons (pe_int) (pa_cons (pe_int) (pa_cons (pe_int) (pa_cons (pe_int) (pa_cons (pe_int) (pa_cons (pe_int) (pa_cons (pe_int) (pa_cons (pe_int) (pa_nil))))))))))))))) (pe_cl c__law_draw hr (by decide) (pat_of (W := fun cls d _ H => E cls d H) (L2N.takes_of rfl rfl rfl rfl)) (pa_cons (pv 0) (pa_cons (pe_int) (pa_nil)))) (fun _ _ => rfl))) (pss_cons (ps_if (pt_cmpR (op_eqA hr) (pv 1) (pe_int) (nomark _)) (pss_one (ps_set (i := 1) sc__law_size.nd rfl (by first | exact Or.inl rfl | exact Or.inr rfl) (pe_op op_addA (pe_int) (pe_cl c__law_draw hr (by decide) (pat_of (W := fun cls d _ H => E cls d H) (L2N.takes_of rfl rfl rfl rfl)) (pa_cons (pv 0) (pa_cons (pe_int) (pa_nil))))))) (pss_nil)) (pss_cons (ps_if (pt_cmpR (op_eqA hr) (pv 1) (pe_int) (nomark _)) (pss_one (ps_set (i := 1) sc__law_size.nd rfl (by first | exact Or.inl rfl | exact Or.inr rfl) (pe_op op_addA (pe_int) (pe_op op_mulA (pe_int) (pe_cl c__law_draw hr (by decide) (pat_of (W := fun cls d _ H => E cls d H) (L2N.takes_of rfl rfl rfl rfl)) (pa_cons (pv 0) (pa_cons (pe_int) (pa_nil)))))))) (pss_nil)) (pss_one (ps_ret (pv 1))))), rd__law_size T vs H Q E h⟩
theorem ok__law_judged {f : Addr} {fd : FuncData} (T : Txt K mg) (F : FunD K "_law_judged" "_law_judged" (defArgs s__law_judged) (defBody s__law_judged) (defScope s__law_judged) [] [] f fd) (c__law_is_triple : Cal P w K mg base 2 "_law_is_triple" ["value"] (sp__law_is_triple K)) (c__law_told : Cal P w K mg base 8 "_law_told" ["asks", "size", "moves", "value"] (sp21__law_told K)) : FnOk P w K mg base (L2N.CX P w) 9 f fd ["size", "moves", "losses", "value"] (sp21__law_judged K) :=
  F.ok sc__law_judged (len__law_judged K) fun cdv A outer s H vs Q E hr h => ⟨t__law_judged K E, pss_cons (ps_set (i := 4) sc__law_judged.nd rfl (by first | exact Or.inl rfl | exact Or.inr rfl) (pe_cl c__law_told hr (by decide) (pat_of (W := fun cls d _ H => E cls d H) (L2N.takes_of rfl rfl rfl rfl)) (pa_cons (pe_str) (pa_cons (pv 0) (pa_cons (pv 1) (pa_cons (pv 3) (pa_nil))))))) (pss_cons (ps_if ((pw_or (pt_cmpR (op_neA hr) (pe_ix ix_seq (pv 4) (pe_int) (fun _ _ => rfl)) (pe_str) (nomark _)) (pw_or1 (pt_not (pt_val (pe_callB call_isi (by rfl) T.b_isinstance (by decide +kernel) (pa_cons (pe_ix ix_seq (pv 4) (pe_int) (fun _ _ => rfl)) (pa_cons (pe_ty "bool" T.b_bool (by decide +kernel)) (pa_nil)))))))).pt) (pss_one (ps_ret (pe_bl))) (pss_nil)) (pss_one (ps_ret (pe_cmpR (op_eqA hr) (pe_ix ix_seq (pv 4) (pe_int) (fun _ _ => rfl)) (pe_and (pe_cl c__law_is_triple hr (by decide) (pat_of (W := fun cls d _ H => E cls d H) (L2N.takes_of rfl rfl rfl rfl)) (pa_cons (pv 3) (pa_nil))) (pe_one (pe_cmpR (op_inDA hr) (pv 3) (pv 2) (rfl)))) (nomark _))))), rd__law_judged T vs H Q E h⟩
theorem ok__law_pairs {f : Addr} {fd : FuncData} (T : Txt K mg) (F : FunD K "_law_pairs" "_law_pairs" (defArgs s__law_pairs) (defBody s__law_pairs) (defScope s__law_pairs) [] [] f fd) (c__law_draw : Cal P w K mg base 1 "_law_draw" ["bag", "many"] (sp21__law_draw K)) (c__law_judged : Cal P w K mg base 9 "_law_judged" ["size", "moves", "losses", "value"] (sp21__law_judged K)) : FnOk P w K mg base (L2N.CX P w) 10 f fd ["bag", "size", "moves", "losses"] (sp21__law_pairs K) :=
  F.ok sc__law_pairs (len__law_pairs K) fun cdv A outer s H vs Q E hr h => ⟨t__law_pairs K E, pss_cons (ps_set (i := 4) sc__law_pairs.nd rfl (by first | exact Or.inl rfl | exact Or.inr rfl) (pe_cl c__law_draw hr (by decide) (pat_of (W := fun cls d _ H => E cls d H) (L2N.takes_of rfl rfl rfl rfl)) (pa_cons (pv 0) (pa_cons (pe_op op_addA (pv 1) (pe_int)) (pa_nil))))) (pss_cons (ps_setLc (i := 5) (own := [("place", 8)]) (g := gName 8) (tt := tYes) (te := tVar 8) rfl sc__law_pairs.nd rfl rfl (sw_true rfl rfl rfl (by decide +kernel)) (pi_range1 rfl T.b_range (pa_cons (pe_callB call_lenA (by rfl) T.b_len (by decide +kernel) (pa_cons (pv 2) (pa_nil))) (pa_nil))) (blkOk_by (own := [("place", 8)]) (N := ["bag", "size", "moves", "losses", "gap", "seconds", "first", "second", "place", "one"]) (sc := defScope s__law_pairs) (by decide +kernel)) (fun _ _ _ _ _ => pg_name (i := 8) sc__law_pairs.nd rfl (by first | exact Or.inl rfl | exact Or.inr rfl)) (fun _ _ _ _ _ => pts_nil) (fun _ _ _ _ _ => pv 8)) (pss_cons (ps_if ((pw_and (pt_cmpR (op_neA hr) (pv 3) (pe_lst (pa_nil)) (nomark _)) (pw_and1 (pt_cmpR (op_eqA hr) (pe_cl c__law_draw hr (by decide) (pat_of (W := fun cls d _ H => E cls d H) (L2N.takes_of rfl rfl rfl rfl)) (pa_cons (pv 0) (pa_cons (pe_int) (pa_nil)))) (pe_int) (nomark _)))).pt) (pss_one (ps_set (i := 4) sc__law_pairs.nd rfl (by first | exact Or.inl rfl | exact Or.inr rfl) (pe_ix ix_seq (pe_ix ix_seq (pv 3) (pe_cl c__law_draw hr (by decide) (pat_of (W := fun cls d _ H => E cls d H) (L2N.takes_of rfl rfl rfl rfl)) (pa_cons (pv 0) (pa_cons (pe_callB call_lenA (by rfl) T.b_len (by decide +kernel) (pa_cons (pv 3) (pa_nil))) (pa_nil)))) (fun _ _ => rfl)) (pe_int) (fun _ _ => rfl)))) (pss_nil)) (pss_cons (ps_if (pt_cmpR op_gt (pe_callB call_lenA (by rfl) T.b_len (by decide +kernel) (pa_cons (pv 2) (pa_nil))) (pe_int) (nomark _)) (pss_one (ps_setLc (i := 5) (own := [("one", 9)]) (g := gName 9) (tt := tTest (tOp (rEqA K) (tOp (rIx K) (tVar 9) (tC (.int 0))) (tVar 4))) (te := tOp (rIx K) (tVar 9) (tC (.int 2))) rfl sc__law_pairs.nd rfl rfl (sw_true rfl rfl rfl (by decide +kernel)) (pi_list (pv 3)) (blkOk_by (own := [("one", 9)]) (N := ["bag", "size", "moves", "losses", "gap", "seconds", "first", "second", "place", "one"]) (sc := defScope s__law_pairs) (by decide +kernel)) (fun _ _ _ _ _ => pg_name (i := 9) sc__law_pairs.nd rfl (by first | exact Or.inl rfl | exact Or.inr rfl)) (fun _ _ _ _ _ => pts_one (pt_cmpR (op_eqA hr) (pe_ix ix_seq (pv 9) (pe_int) (fun _ _ => rfl)) (pv 4) (nomark _))) (fun _ _ _ _ _ => pe_ix ix_seq (pv 9) (pe_int) (fun _ _ => rfl)))) (pss_nil)) (pss_cons (ps_for (passes_of rfl) rfl (pi_range1 rfl T.b_range (pa_cons (pe_callB call_lenA (by rfl) T.b_len (by decide +kernel) (pa_cons (pv 2) (pa_nil))) (pa_nil))) (pg_name (i := 6) sc__law_pairs.nd rfl (by first | exact Or.inl rfl | exact Or.inr rfl)) (pss_one (ps_for (passes_of rfl) rfl (pi_list (pv 5)) (pg_name (i := 7) sc__law_pairs.nd rfl (by first | exact Or.inl rfl | exact Or.inr rfl)) (pss_one (ps_if (pt_not (pt_val (pe_cl c__law_judged hr (by decide) (pat_of (W := fun cls d _ H => E cls d H) (L2N.takes_of rfl rfl rfl rfl)) (pa_cons (pv 1) (pa_cons (pv 2) (pa_cons (pv 3) (pa_cons (pe_tup (pa_cons (pv 4) (pa_cons (pv 6) (pa_cons (pv 7) (pa_nil))))) (pa_nil)))))))) (pss_one (ps_ret (pe_bl))) (pss_nil)))))) (pss_one (ps_ret (pe_bl))))))), rd__law_pairs T vs H Q E h⟩
theorem ok__law_truth {f : Addr} {fd : FuncData} (T : Txt K mg) (F : FunD K "_law_truth" "_law_truth" (defArgs s__law_truth) (defBody s__law_truth) (defScope s__law_truth) [] [] f fd)  : FnOk P w K mg base (L2N.CX P w) 1 f fd ["number"] (sp__law_truth K) :=
  F.ok sc__law_truth (len__law_truth K) fun cdv A outer s H vs Q E hr h => ⟨t__law_truth K E, pss_cons (ps_if ((pw_or (pt_cmpR (op_eqA hr) (pv 0) (pe_int) (nomark _)) (pw_or1 (pt_cmpR (op_eqA hr) (pv 0) (pe_int) (nomark _)))).pt) (pss_one (ps_ret (pe_cmpR (op_eqA hr) (pv 0) (pe_int) (nomark _)))) (pss_nil)) (pss_one (ps_ret (pv 0))), rd__law_truth T vs H Q E h⟩
theorem ok__law_values {f : Addr} {fd : FuncData} (T : Txt K mg) (F : FunD K "_law_values" "_law_values" (defArgs s__law_values) (defBody s__law_values) (defScope s__law_values) [] [] f fd) (c__law_truth : Cal P w K mg base 1 "_law_truth" ["number"] (sp__law_truth K)) : FnOk P w K mg base (L2N.CX P w) 2 f fd ["triple"] (sp__law_values K) :=
  F.ok sc__law_values (len__law_values K) fun cdv A outer s H vs Q E hr h => ⟨t__law_values K E, pss_cons (ps_set (i := 1) sc__law_values.nd rfl (by first | exact Or.inl rfl | exact Or.inr rfl) (pe_ix ix_seq (pv 0) (pe_int) (fun _ _ => rfl))) (pss_cons (ps_set (i := 2) sc__law_values.nd rfl (by first | exact Or.inl rfl | exact Or.inr rfl) (pe_ix ix_seq (pv 0) (pe_int) (fun _ _ => rfl))) (pss_cons (ps_set (i := 3) sc__law_values.nd rfl (by first | exact Or.inl rfl | exact Or.inr rfl) (pe_ix ix_seq (pv 0) (pe_int) (fun _ _ => rfl))) (pss_one (ps_ret (pe_lst (pa_cons (pv 0) (pa_cons (pe_tup (pa_cons (pe_op op_addA (pv 1) (pe_int)) (pa_cons (pv 2) (pa_cons (pv 3) (pa_nil))))) (pa_cons (pe_tup (pa_cons (pe_op op_sub (pv 1) (pe_int)) (pa_cons (pv 2) (pa_cons (pv 3) (pa_nil))))) (pa_cons (pe_tup (pa_cons (pv 1) (pa_cons (pe_op op_addA (pv 2) (pe_int)) (pa_cons (pv 3) (pa_nil))))) (pa_cons (pe_tup (pa_cons (pv 1) (pa_cons (pe_op op_sub (pv 2) (pe_int)) (pa_cons (pv 3) (pa_nil))))) (pa_cons (pe_tup (pa_cons (pv 1) (pa_cons (pv 2) (pa_cons (pe_op op_addA (pv 3) (pe_int)) (pa_nil))))) (pa_cons (pe_tup (pa_cons (pv 1) (pa_cons (pv 2) (pa_cons (pe_op op_sub (pv 3) (pe_int)) (pa_nil))))) (pa_cons (pe_tup (pa_cons (pv 1) (pa_cons (pv 3) (pa_cons (pv 2) (pa_nil))))) (pa_cons (pe_tup (pa_cons (pv 2) (pa_cons (pv 1) (pa_cons (pv 3) (pa_nil))))) (pa_cons (pe_tup (pa_cons (pv 1) (pa_cons (pv 2) (pa_cons (pv 2) (pa_nil))))) (pa_cons (pe_tup (pa_cons (pv 1) (pa_cons (pv 3) (pa_cons (pv 3) (pa_nil))))) (pa_cons (pe_tup (pa_cons (pe_un un_neg (pe_int)) (pa_cons (pv 2) (pa_cons (pv 3) (pa_nil))))) (pa_cons (pe_tup (pa_cons (pv 1) (pa_cons (pe_un un_neg (pe_int)) (pa_cons (pv 3) (pa_nil))))) (pa_cons (pe_tup (pa_cons (pv 1) (pa_cons (pv 2) (pa_cons (pe_op op_pow (pe_int) (pe_int)) (pa_nil))))) (pa_cons (pe_tup (pa_cons (pe_cl c__law_truth hr (by decide) (pat_of (W := fun cls d _ H => E cls d H) (L2N.takes_of rfl rfl rfl rfl)) (pa_cons (pv 1) (pa_nil))) (pa_cons (pv 2) (pa_cons (pv 3) (pa_nil))))) (pa_cons (pe_tup (pa_cons (pv 1) (pa_cons (pe_cl c__law_truth hr (by decide) (pat_of (W := fun cls d _ H => E cls d H) (L2N.takes_of rfl rfl rfl rfl)) (pa_cons (pv 2) (pa_nil))) (pa_cons (pv 3) (pa_nil))))) (pa_cons (pe_tup (pa_cons (pv 1) (pa_cons (pv 2) (pa_cons (pe_cl c__law_truth hr (by decide) (pat_of (W := fun cls d _ H => E cls d H) (L2N.takes_of rfl rfl rfl rfl)) (pa_cons (pv 3) (pa_nil))) (pa_nil))))) (pa_cons (pe_lst (pa_cons (pv 1) (pa_cons (pv 2) (pa_cons (pv 3) (pa_nil))))) (pa_cons (pe_tup (pa_cons (pv 1) (pa_cons (pv 2) (pa_nil)))) (pa_cons (pe_tup (pa_cons (pv 1) (pa_cons (pv 2) (pa_cons (pv 3) (pa_cons (pe_int) (pa_nil)))))) (pa_cons (pe_tup (pa_nil)) (pa_cons (pe_non) (pa_cons (pe_str) (pa_cons (pe_str) (pa_cons (pv 1) (pa_cons (pe_lst (pa_nil)) (pa_cons (pe_tup (pa_cons (pe_non) (pa_cons (pv 2) (pa_cons (pv 3) (pa_nil))))) (pa_cons (pe_tup (pa_cons (pv 1) (pa_cons (pe_tup (pa_cons (pv 2) (pa_nil))) (pa_cons (pv 3) (pa_nil))))) (pa_cons (pe_tup (pa_cons (pv 1) (pa_cons (pv 2) (pa_cons (pe_callTy call_strA (by rfl) T.b_str (by decide +kernel) (pa_cons (pv 3) (pa_nil))) (pa_nil))))) (pa_cons (pe_tup (pa_cons (pv 0) (pa_nil))) (pa_cons (pe_tup (pa_cons (pv 0) (pa_cons (pv 2) (pa_cons (pv 3) (pa_nil))))) (pa_nil))))))))))))))))))))))))))))))))))))), rd__law_values T vs H Q E h⟩
theorem ok__law_values_fit {f : Addr} {fd : FuncData} (T : Txt K mg) (F : FunD K "_law_values_fit" "_law_values_fit" (defArgs s__law_values_fit) (defBody s__law_values_fit) (defScope s__law_values_fit) [] [] f fd) (c__law_draw : Cal P w K mg base 1 "_law_draw" ["bag", "many"] (sp21__law_draw K)) (c__law_judged : Cal P w K mg base 9 "_law_judged" ["size", "moves", "losses", "value"] (sp21__law_judged K)) (c__law_losses : Cal P w K mg base 2 "_law_losses" ["size", "moves"] (sp__law_losses K)) (c__law_pairs : Cal P w K mg base 10 "_law_pairs" ["bag", "size", "moves", "losses"] (sp21__law_pairs K)) (c__law_values : Cal P w K mg base 2 "_law_values" ["triple"] (sp__law_values K)) : FnOk P w K mg base (L2N.CX P w) 11 f fd ["bag", "size", "moves"] (sp__law_values_fit K) :=
  F.ok sc__law_values_fit (len__law_values_fit K) fun cdv A outer s H vs Q E hr h => ⟨t__law_values_fit K E, pss_cons (ps_set (i := 3) sc__law_values_fit.nd rfl (by first | exact Or.inl rfl | exact Or.inr rfl) (pe_cl c__law_losses hr (by decide) (pat_of (W := fun cls d _ H => E cls d H) (L2N.takes_of rfl rfl rfl rfl)) (pa_cons (pv 1) (pa_cons (pv 2) (pa_nil))))) (pss_cons (ps_set (i := 4) sc__law_values_fit.nd rfl (by first | exact Or.inl rfl | exact Or.inr rfl) (pe_callTy call_listA (by rfl) T.b_list (by decide +kernel) (pa_cons (pv 2) (pa_nil)))) (pss_cons (ps_set (i := 5) sc__law_values_fit.nd rfl (by first | exact Or.inl rfl | exact Or.inr rfl) (pe_tup (pa_cons (pe_cl c__law_draw hr (by decide) (pat_of (W := fun cls d _ H => E cls d H) (L2N.takes_of rfl rfl rfl rfl)) (pa_cons (pv 0) (pa_cons (pe_op op_addA (pv 1) (pe_int)) (pa_nil)))) (pa_cons (pe_int) (pa_cons (pe_callB call_lenA (by rfl) T.b_len (by decide +kernel) (pa_cons (pv 2) (pa_nil))) (pa_nil)))))) (pss_cons (ps_if (pt_cmpR (op_neA hr) (pv 3) (pe_lst (pa_nil)) (nomark _)) (pss_one (ps_set (i := 5) sc__law_values_fit.nd rfl (by first | exact Or.inl rfl | exact Or.inr rfl) (pe_ix ix_seq (pv 3) (pe_cl c__law_draw hr (by decide) (pat_of (W := fun cls d _ H => E cls d H) (L2N.takes_of rfl rfl rfl rfl)) (pa_cons (pv 0) (pa_cons (pe_callB call_lenA (by rfl) T.b_len (by decide +kernel) (pa_cons (pv 3) (pa_nil))) (pa_nil)))) (fun _ _ => rfl)))) (pss_nil)) (pss_cons (ps_set (i := 6) sc__law_values_fit.nd rfl (by first | exact Or.inl rfl | exact Or.inr rfl) (pe_cl c__law_values hr (by decide) (pat_of (W := fun cls d _ H => E cls d H) (L2N.takes_of rfl rfl rfl rfl)) (pa_cons (pv 5) (pa_nil)))) (pss_cons (ps_if (pt_cmpR op_gt (pv 1) (pe_int) (nomark _)) (pss_one (ps_set (i := 6) sc__law_values_fit.nd rfl (by first | exact Or.inl rfl | exact Or.inr rfl) (pe_sl3 (pv 6) (po_some (pe_cl c__law_draw hr (by decide) (pat_of (W := fun cls d _ H => E cls d H) (L2N.takes_of rfl rfl rfl rfl)) (pa_cons (pv 0) (pa_cons (pe_int) (pa_nil))))) (po_none) (po_some (pe_int))))) (pss_nil)) (pss_cons (ps_for (passes_of rfl) rfl (pi_list (pe_op op_addA (pv 6) (pv 3))) (pg_name (i := 7) sc__law_values_fit.nd rfl (by first | exact Or.inl rfl | exact Or.inr rfl)) (pss_one (ps_if (pt_not (pt_val (pe_cl c__law_judged hr (by decide) (pat_of (W := fun cls d _ H => E cls d H) (L2N.takes_of rfl rfl rfl rfl)) (pa_cons (pv 1) (pa_cons (pv 4) (pa_cons (pv 3) (pa_cons (pv 7) (pa_nil)))))))) (pss_one (ps_ret (pe_bl))) (pss_nil)))) (pss_one (ps_ret (pe_and (pe_cl c__law_pairs hr (by decide) (pat_of (W := fun cls d _ H => E cls d H) (L2N.takes_of rfl rfl rfl rfl)) (pa_cons (pv 0) (pa_cons (pv 1) (pa_cons (pv 4) (pa_cons (pv 3) (pa_nil)))))) (pe_one (pe_cmpR (op_eqA hr) (pv 4) (pv 2) (nomark _)))))))))))), rd__law_values_fit T vs H Q E h⟩
theorem ok_law {f : Addr} {fd : FuncData} (T : Txt K mg) (F : FunD K "law" "law" (defArgs s_law) (defBody s_law) (defScope s_law) [] [] f fd) (c__law_bag : Cal P w K mg base 1 "_law_bag" ["script"] (sp21__law_bag K)) (c__law_certified : Cal P w K mg base 9 "_law_certified" ["size", "moves"] (sp__law_certified K)) (c__law_draw : Cal P w K mg base 1 "_law_draw" ["bag", "many"] (sp21__law_draw K)) (c__law_log : Cal P w K mg base 4 "_law_log" ["bag", "size"] (sp21__law_log K)) (c__law_losses : Cal P w K mg base 2 "_law_losses" ["size", "moves"] (sp__law_losses K)) (c__law_refusals : Cal P w K mg base 10 "_law_refusals" ["bag", "size", "moves"] (sp__law_refusals K)) (c__law_size : Cal P w K mg base 2 "_law_size" ["bag"] (sp21__law_size K)) (c__law_values_fit : Cal P w K mg base 11 "_law_values_fit" ["bag", "size", "moves"] (sp__law_values_fit K)) : FnOk P w K mg base (L2N.CX P w) 12 f fd ["script"] (sp_law K) :=
  F.ok sc_law (len_law K) fun cdv A outer s H vs Q E hr h => ⟨t_law K E, pss_cons (ps_set (i := 1) sc_law.nd rfl (by first | exact Or.inl rfl | exact Or.inr rfl) (pe_cl c__law_bag hr (by decide) (pat_of (W := fun cls d _ H => E cls d H) (L2N.takes_of rfl rfl rfl rfl)) (pa_cons (pv 0) (pa_nil)))) (pss_cons (ps_set (i := 2) sc_law.nd rfl (by first | exact Or.inl rfl | exact Or.inr rfl) (pe_cl c__law_size hr (by decide) (pat_of (W := fun cls d _ H => E cls d H) (L2N.takes_of rfl rfl rfl rfl)) (pa_cons (pv 1) (pa_nil)))) (pss_cons (ps_set (i := 3) sc_law.nd rfl (by first | exact Or.inl rfl | exact Or.inr rfl) (pe_cl c__law_log hr (by decide) (pat_of (W := fun cls d _ H => E cls d H) (L2N.takes_of rfl rfl rfl rfl)) (pa_cons (pv 1) (pa_cons (pv 2) (pa_nil))))) (pss_cons (ps_set (i := 4) sc_law.nd rfl (by first | exact Or.inl rfl | exact Or.inr rfl) (pe_cl c__law_losses hr (by decide) (pat_of (W := fun cls d _ H => E cls d H) (L2N.takes_of rfl rfl rfl rfl)) (pa_cons (pv 2) (pa_cons (pv 3) (pa_nil))))) (pss_cons (ps_if ((pw_or (pt_not (pt_val (pe_cl c__law_certified hr (by decide) (pat_of (W := fun cls d _ H => E cls d H) (L2N.takes_of rfl rfl rfl rfl)) (pa_cons (pv 2) (pa_cons (pv 3) (pa_nil)))))) (pw_or1 (pt_not (pt_val (pe_cl c__law_values_fit hr (by decide) (pat_of (W := fun cls d _ H => E cls d H) (L2N.takes_of rfl rfl rfl rfl)) (pa_cons (pv 1) (pa_cons (pv 2) (pa_cons (pv 3) (pa_nil))))))))).pt) (pss_one (ps_ret (pe_bl))) (pss_nil)) (pss_cons (ps_if (pt_cmpR (op_neA hr) (pv 4) (pe_lst (pa_nil)) (nomark _)) (pss_cons (ps_if (pt_not (pt_val (pe_cl c__law_certified hr (by decide) (pat_of (W := fun cls d _ H => E cls d H) (L2N.takes_of rfl rfl rfl rfl)) (pa_cons (pv 2) (pa_cons (pe_slice sl_list (pv 3) (po_none) (po_some (pe_ix ix_seq (pe_ix ix_seq (pv 4) (pe_int) (fun _ _ => rfl)) (pe_int) (fun _ _ => rfl)))) (pa_nil)))))) (pss_one (ps_ret (pe_bl))) (pss_nil)) (pss_one (ps_if (pt_not (pt_val (pe_cl c__law_certified hr (by decide) (pat_of (W := fun cls d _ H => E cls d H) (L2N.takes_of rfl rfl rfl rfl)) (pa_cons (pv 2) (pa_cons (pe_slice sl_list (pv 3) (po_none) (po_some (pe_op op_addA (pe_ix ix_seq (pe_ix ix_seq (pv 4) (pe_int) (fun _ _ => rfl)) (pe_int) (fun _ _ => rfl)) (pe_int)))) (pa_nil)))))) (pss_one (ps_ret (pe_bl))) (pss_nil)))) (pss_nil)) (pss_cons (ps_if (pt_not (pt_val (pe_cl c__law_certified hr (by decide) (pat_of (W := fun cls d _ H => E cls d H) (L2N.takes_of rfl rfl rfl rfl)) (pa_cons (pv 2) (pa_cons (pe_slice sl_list (pv 3) (po_none) (po_some (pe_cl c__law_draw hr (by decide) (pat_of (W := fun cls d _ H => E cls d H) (L2N.takes_of rfl rfl rfl rfl)) (pa_cons (pv 1) (pa_cons (pe_op op_addA (pe_callB call_lenA (by rfl) T.b_len (by decide +kernel) (pa_cons (pv 3) (pa_nil))) (pe_int)) (pa_nil)))))) (pa_nil)))))) (pss_one (ps_ret (pe_bl))) (pss_nil)) (pss_one (ps_ret (pe_cl c__law_refusals hr (by decide) (pat_of (W := fun cls d _ H => E cls d H) (L2N.takes_of rfl rfl rfl rfl)) (pa_cons (pv 1) (pa_cons (pv 2) (pa_cons (pv 3) (pa_nil))))))))))))), rd_law T vs H Q E h⟩
end

end G

set_option Elab.async false
set_option linter.all false
set_option maxRecDepth 100000
set_option maxHeartbeats 4000000

namespace G
open PySem PySem.Spec PyProof.Rows L2
theorem facts {P : Program} {w : World} {K : PySem.W.Frag} {h : Heap} {mg : Str → Option Value} {f : Addr} (X : K.In h) (G : h.Ns mainGlobals mg) (hfa : mg ("law" : Str) = some (.ref f)) (c : SaysY chkL fnL K) :
    ∃ fd : FuncData, (∀ (s : Shared) (v : Value), BindsTo s fd ⟨[v], []⟩ [("script", v)]) ∧ ∀ base : Heap, K.In base → base.Ns mainGlobals mg → FnOk P w K mg base (L2N.CX P w) 12 f fd ["script"] (sp_law K) := by
  have T := txt_of X G c
  obtain ⟨fd__law_bag, F__law_bag⟩ := c.def_ 0 (d := d__law_bag) rfl
  obtain ⟨fd__law_number, F__law_number⟩ := c.def_ 1 (d := d__law_number) rfl
  obtain ⟨fd__law_fits, F__law_fits⟩ := c.def_ 2 (d := d__law_fits) rfl
  obtain ⟨fd__law_is_triple, F__law_is_triple⟩ := c.def_ 3 (d := d__law_is_triple) rfl
  obtain ⟨fd__law_state, F__law_state⟩ := c.def_ 4 (d := d__law_state) rfl
  obtain ⟨fd__law_step, F__law_step⟩ := c.def_ 5 (d := d__law_step) rfl
  obtain ⟨fd__law_whole, F__law_whole⟩ := c.def_ 6 (d := d__law_whole) rfl
  obtain ⟨fd__law_losses, F__law_losses⟩ := c.def_ 7 (d := d__law_losses) rfl
  obtain ⟨fd_check_size, F_check_size⟩ := c.def_ 8 (d := d_check_size) rfl
  obtain ⟨fd_Links___init__, F_Links___init__⟩ := c.def_ 9 (d := d_Links___init__) rfl
  obtain ⟨fd_Links_is_legal, F_Links_is_legal⟩ := c.def_ 10 (d := d_Links_is_legal) rfl
  obtain ⟨fd_check_operation, F_check_operation⟩ := c.def_ 11 (d := d_check_operation) rfl
  obtain ⟨fd_Links_check, F_Links_check⟩ := c.def_ 12 (d := d_Links_check) rfl
  obtain ⟨fd_Links_apply_at, F_Links_apply_at⟩ := c.def_ 13 (d := d_Links_apply_at) rfl
  obtain ⟨fd_Links_left, F_Links_left⟩ := c.def_ 14 (d := d_Links_left) rfl
  obtain ⟨fd_Links_right, F_Links_right⟩ := c.def_ 15 (d := d_Links_right) rfl
  obtain ⟨fd_check_gap, F_check_gap⟩ := c.def_ 16 (d := d_check_gap) rfl
  obtain ⟨fd_gap_state, F_gap_state⟩ := c.def_ 17 (d := d_gap_state) rfl
  obtain ⟨fd_gap_states, F_gap_states⟩ := c.def_ 18 (d := d_gap_states) rfl
  obtain ⟨fd__certificates, F__certificates⟩ := c.def_ 19 (d := d__certificates) rfl
  obtain ⟨fd_is_plain_integer, F_is_plain_integer⟩ := c.def_ 20 (d := d_is_plain_integer) rfl
  obtain ⟨fd_is_loss_certificate, F_is_loss_certificate⟩ := c.def_ 21 (d := d_is_loss_certificate) rfl
  obtain ⟨fd_loss_certificate, F_loss_certificate⟩ := c.def_ 22 (d := d_loss_certificate) rfl
  obtain ⟨fd__law_told, F__law_told⟩ := c.def_ 23 (d := d__law_told) rfl
  obtain ⟨fd__law_certified, F__law_certified⟩ := c.def_ 24 (d := d__law_certified) rfl
  obtain ⟨fd__law_draw, F__law_draw⟩ := c.def_ 25 (d := d__law_draw) rfl
  obtain ⟨fd__law_lanes, F__law_lanes⟩ := c.def_ 26 (d := d__law_lanes) rfl
  obtain ⟨fd__law_nodes, F__law_nodes⟩ := c.def_ 27 (d := d__law_nodes) rfl
  obtain ⟨fd__law_operation, F__law_operation⟩ := c.def_ 28 (d := d__law_operation) rfl
  obtain ⟨fd__law_log, F__law_log⟩ := c.def_ 29 (d := d__law_log) rfl
  obtain ⟨fd__law_both_refuse, F__law_both_refuse⟩ := c.def_ 30 (d := d__law_both_refuse) rfl
  obtain ⟨fd__law_refusals, F__law_refusals⟩ := c.def_ 31 (d := d__law_refusals) rfl
  obtain ⟨fd__law_size, F__law_size⟩ := c.def_ 32 (d := d__law_size) rfl
  obtain ⟨fd__law_judged, F__law_judged⟩ := c.def_ 33 (d := d__law_judged) rfl
  obtain ⟨fd__law_pairs, F__law_pairs⟩ := c.def_ 34 (d := d__law_pairs) rfl
  obtain ⟨fd__law_truth, F__law_truth⟩ := c.def_ 35 (d := d__law_truth) rfl
  obtain ⟨fd__law_values, F__law_values⟩ := c.def_ 36 (d := d__law_values) rfl
  obtain ⟨fd__law_values_fit, F__law_values_fit⟩ := c.def_ 37 (d := d__law_values_fit) rfl
  obtain ⟨fd_law, F_law⟩ := c.def_ 38 (d := d_law) rfl
  obtain ⟨fd_BadGap___init__, F_BadGap___init__⟩ := c.def_ 39 (d := d_BadGap___init__) rfl
  obtain ⟨fd_BadNode___init__, F_BadNode___init__⟩ := c.def_ 40 (d := d_BadNode___init__) rfl
  obtain ⟨fd_BadSize___init__, F_BadSize___init__⟩ := c.def_ 41 (d := d_BadSize___init__) rfl
  obtain ⟨fd_LogError___init__, F_LogError___init__⟩ := c.def_ 42 (d := d_LogError___init__) rfl
  obtain ⟨fd_NotLost___init__, F_NotLost___init__⟩ := c.def_ 43 (d := d_NotLost___init__) rfl
  have e := hfa.symm.trans T.gf_law
  cases e
  have bA := FunD.bindsA (ps := ["script"]) F_law fun _ _ _ _ _ _ us hl => match us, hl with | [_], _ => rfl
  refine ⟨fd_law, fun s v => bA s [v] rfl, fun base _ _ => ?_⟩
  have i_BadGap : FnOk P w K mg base (L2N.CX P w) 1 (He.ma K (He.ga K "BadGap") "__init__") fd_BadGap___init__ ["self", "gap"] (spIn K ["gap"]) := FunD.ok F_BadGap___init__ sc_BadGap___init__ (spIn_len rfl) fun cdv A outer s H vs Q E hr h => ⟨_, pss_one (ps_ost (pv 0) (pv 1)), ini1 rfl h⟩
  have i_BadNode : FnOk P w K mg base (L2N.CX P w) 1 (He.ma K (He.ga K "BadNode") "__init__") fd_BadNode___init__ ["self", "node"] (spIn K ["node"]) := FunD.ok F_BadNode___init__ sc_BadNode___init__ (spIn_len rfl) fun cdv A outer s H vs Q E hr h => ⟨_, pss_one (ps_ost (pv 0) (pv 1)), ini1 rfl h⟩
  have i_BadSize : FnOk P w K mg base (L2N.CX P w) 1 (He.ma K (He.ga K "BadSize") "__init__") fd_BadSize___init__ ["self", "size"] (spIn K ["size"]) := FunD.ok F_BadSize___init__ sc_BadSize___init__ (spIn_len rfl) fun cdv A outer s H vs Q E hr h => ⟨_, pss_one (ps_ost (pv 0) (pv 1)), ini1 rfl h⟩
  have i_LogError : FnOk P w K mg base (L2N.CX P w) 1 (He.ma K (He.ga K "LogError") "__init__") fd_LogError___init__ ["self", "operation", "index"] (spIn K ["operation", "index"]) := FunD.ok F_LogError___init__ sc_LogError___init__ (spIn_len rfl) fun cdv A outer s H vs Q E hr h => ⟨_, pss_cons (ps_ost (pv 0) (pv 1)) (pss_one (ps_ost (pv 0) (pv 2))), ini2 rfl h⟩
  have i_NotLost : FnOk P w K mg base (L2N.CX P w) 1 (He.ma K (He.ga K "NotLost") "__init__") fd_NotLost___init__ ["self", "size"] (spIn K ["size"]) := FunD.ok F_NotLost___init__ sc_NotLost___init__ (spIn_len rfl) fun cdv A outer s H vs Q E hr h => ⟨_, pss_one (ps_ost (pv 0) (pv 1)), ini1 rfl h⟩
  have x_BadGap : ExM P w K mg base 1 "BadGap" (He.ga K "BadGap") ["gap"] := ⟨T.oe_BadGap.1, T.oe_BadGap.2, T.g_BadGap, _, fd_BadGap___init__, ["self", "gap"], i_BadGap, T.in_BadGap.1, T.in_BadGap.2, FunD.bindsN (ps := ["self", "gap"]) F_BadGap___init__ fun _ _ _ _ _ _ us hl => match us, hl with | [_, _], _ => rfl⟩
  have x_BadNode : ExM P w K mg base 1 "BadNode" (He.ga K "BadNode") ["node"] := ⟨T.oe_BadNode.1, T.oe_BadNode.2, T.g_BadNode, _, fd_BadNode___init__, ["self", "node"], i_BadNode, T.in_BadNode.1, T.in_BadNode.2, FunD.bindsN (ps := ["self", "node"]) F_BadNode___init__ fun _ _ _ _ _ _ us hl => match us, hl with | [_, _], _ => rfl⟩
  have x_BadOperation : ExM P w K mg base 1 "BadOperation" (He.ga K "BadOperation") ["operation", "index"] := ⟨T.oe_BadOperation.1, T.oe_BadOperation.2, T.g_BadOperation, _, fd_LogError___init__, ["self", "operation", "index"], i_LogError, (T.sm_BadOperation ▸ T.in_BadOperation).1, (T.sm_BadOperation ▸ T.in_BadOperation).2, FunD.bindsN (ps := ["self", "operation", "index"]) F_LogError___init__ fun _ _ _ _ _ _ us hl => match us, hl with | [_, _, _], _ => rfl⟩
  have x_BadSize : ExM P w K mg base 1 "BadSize" (He.ga K "BadSize") ["size"] := ⟨T.oe_BadSize.1, T.oe_BadSize.2, T.g_BadSize, _, fd_BadSize___init__, ["self", "size"], i_BadSize, T.in_BadSize.1, T.in_BadSize.2, FunD.bindsN (ps := ["self", "size"]) F_BadSize___init__ fun _ _ _ _ _ _ us hl => match us, hl with | [_, _], _ => rfl⟩
  have x_Illegal : ExM P w K mg base 1 "Illegal" (He.ga K "Illegal") ["operation", "index"] := ⟨T.oe_Illegal.1, T.oe_Illegal.2, T.g_Illegal, _, fd_LogError___init__, ["self", "operation", "index"], i_LogError, (T.sm_Illegal ▸ T.in_Illegal).1, (T.sm_Illegal ▸ T.in_Illegal).2, FunD.bindsN (ps := ["self", "operation", "index"]) F_LogError___init__ fun _ _ _ _ _ _ us hl => match us, hl with | [_, _, _], _ => rfl⟩
  have x_NotLost : ExM P w K mg base 1 "NotLost" (He.ga K "NotLost") ["size"] := ⟨T.oe_NotLost.1, T.oe_NotLost.2, T.g_NotLost, _, fd_NotLost___init__, ["self", "size"], i_NotLost, T.in_NotLost.1, T.in_NotLost.2, FunD.bindsN (ps := ["self", "size"]) F_NotLost___init__ fun _ _ _ _ _ _ us hl => match us, hl with | [_, _], _ => rfl⟩
  have c__law_bag : Cal P w K mg base 1 "_law_bag" ["script"] (sp21__law_bag K) := ⟨_, fd__law_bag, ok__law_bag T F__law_bag , T.gf__law_bag, F__law_bag.kp, FunD.bindsN (ps := ["script"]) F__law_bag fun _ _ _ _ _ _ us hl => match us, hl with | [_], _ => rfl⟩
  have c__law_number : Cal P w K mg base 1 "_law_number" ["told"] (sp__law_number K) := ⟨_, fd__law_number, ok__law_number T F__law_number , T.gf__law_number, F__law_number.kp, FunD.bindsN (ps := ["told"]) F__law_number fun _ _ _ _ _ _ us hl => match us, hl with | [_], _ => rfl⟩
  have c__law_fits : Cal P w K mg base 2 "_law_fits" ["told", "word", "first", "second"] (sp21__law_fits K) := ⟨_, fd__law_fits, ok__law_fits T F__law_fits c__law_number, T.gf__law_fits, F__law_fits.kp, FunD.bindsN (ps := ["told", "word", "first", "second"]) F__law_fits fun _ _ _ _ _ _ us hl => match us, hl with | [_, _, _, _], _ => rfl⟩
  have c__law_is_triple : Cal P w K mg base 2 "_law_is_triple" ["value"] (sp__law_is_triple K) := ⟨_, fd__law_is_triple, ok__law_is_triple T F__law_is_triple c__law_number, T.gf__law_is_triple, F__law_is_triple.kp, FunD.bindsN (ps := ["value"]) F__law_is_triple fun _ _ _ _ _ _ us hl => match us, hl with | [_], _ => rfl⟩
  have c__law_state : Cal P w K mg base 1 "_law_state" ["book", "gap"] (sp21__law_state K) := ⟨_, fd__law_state, ok__law_state T F__law_state , T.gf__law_state, F__law_state.kp, FunD.bindsN (ps := ["book", "gap"]) F__law_state fun _ _ _ _ _ _ us hl => match us, hl with | [_, _], _ => rfl⟩
  have c__law_step : Cal P w K mg base 1 "_law_step" ["book", "node"] (sp21__law_step K) := ⟨_, fd__law_step, ok__law_step T F__law_step , T.gf__law_step, F__law_step.kp, FunD.bindsN (ps := ["book", "node"]) F__law_step fun _ _ _ _ _ _ us hl => match us, hl with | [_, _], _ => rfl⟩
  have c__law_whole : Cal P w K mg base 1 "_law_whole" ["size"] (sp21__law_whole K) := ⟨_, fd__law_whole, ok__law_whole T F__law_whole , T.gf__law_whole, F__law_whole.kp, FunD.bindsN (ps := ["size"]) F__law_whole fun _ _ _ _ _ _ us hl => match us, hl with | [_], _ => rfl⟩
  have c__law_losses : Cal P w K mg base 2 "_law_losses" ["size", "moves"] (sp__law_losses K) := ⟨_, fd__law_losses, ok__law_losses T F__law_losses c__law_state c__law_step c__law_whole, T.gf__law_losses, F__law_losses.kp, FunD.bindsN (ps := ["size", "moves"]) F__law_losses fun _ _ _ _ _ _ us hl => match us, hl with | [_, _], _ => rfl⟩
  have c_check_size : Cal P w K mg base 3 "check_size" ["size"] (sp_check_size K) := ⟨_, fd_check_size, ok_check_size T F_check_size x_BadSize, T.gf_check_size, F_check_size.kp, FunD.bindsN (ps := ["size"]) F_check_size fun _ _ _ _ _ _ us hl => match us, hl with | [_], _ => rfl⟩
  have m_Links : Mak P w K mg base 4 "Links" (He.ga K "Links") ["self", "size"] (sp_Links___init__ K) := ⟨_, fd_Links___init__, ok_Links___init__ T F_Links___init__ c_check_size, T.mk_Links, T.g_Links, FunD.bindsN (ps := ["self", "size"]) F_Links___init__ fun _ _ _ _ _ _ us hl => match us, hl with | [_, _], _ => rfl⟩
  have c_Links_is_legal : Met P w K mg base 1 (He.ga K "Links") "is_legal" ["self", "operation"] (sp_Links_is_legal K) := ⟨_, fd_Links_is_legal, ok_Links_is_legal T F_Links_is_legal , T.me_Links_is_legal, FunD.bindsN (ps := ["self", "operation"]) F_Links_is_legal fun _ _ _ _ _ _ us hl => match us, hl with | [_, _], _ => rfl⟩
  have c_check_operation : Cal P w K mg base 3 "check_operation" ["size", "operation", "index"] (sp_check_operation K) := ⟨_, fd_check_operation, ok_check_operation T F_check_operation x_BadOperation, T.gf_check_operation, F_check_operation.kp, FunD.bindsN (ps := ["size", "operation", "index"]) F_check_operation fun _ _ _ _ _ _ us hl => match us, hl with | [_, _, _], _ => rfl⟩
  have c_Links_check : Met P w K mg base 4 (He.ga K "Links") "check" ["self", "operation", "index"] (sp_Links_check K) := ⟨_, fd_Links_check, ok_Links_check T F_Links_check c_Links_is_legal c_check_operation x_Illegal, T.me_Links_check, FunD.bindsN (ps := ["self", "operation", "index"]) F_Links_check fun _ _ _ _ _ _ us hl => match us, hl with | [_, _, _], _ => rfl⟩
  have c_Links_apply_at : Met P w K mg base 5 (He.ga K "Links") "apply_at" ["self", "operation", "index"] (sp_Links_apply_at K) := ⟨_, fd_Links_apply_at, ok_Links_apply_at T F_Links_apply_at c_Links_check, T.me_Links_apply_at, FunD.bindsN (ps := ["self", "operation", "index"]) F_Links_apply_at fun _ _ _ _ _ _ us hl => match us, hl with | [_, _, _], _ => rfl⟩
  have c_Links_left : Met P w K mg base 3 (He.ga K "Links") "left" ["self", "node"] (sp_Links_left K) := ⟨_, fd_Links_left, ok_Links_left T F_Links_left x_BadNode, T.me_Links_left, FunD.bindsN (ps := ["self", "node"]) F_Links_left fun _ _ _ _ _ _ us hl => match us, hl with | [_, _], _ => rfl⟩
  have c_Links_right : Met P w K mg base 3 (He.ga K "Links") "right" ["self", "node"] (sp_Links_right K) := ⟨_, fd_Links_right, ok_Links_right T F_Links_right x_BadNode, T.me_Links_right, FunD.bindsN (ps := ["self", "node"]) F_Links_right fun _ _ _ _ _ _ us hl => match us, hl with | [_, _], _ => rfl⟩
  have c_check_gap : Cal P w K mg base 3 "check_gap" ["size", "gap"] (sp_check_gap K) := ⟨_, fd_check_gap, ok_check_gap T F_check_gap x_BadGap, T.gf_check_gap, F_check_gap.kp, FunD.bindsN (ps := ["size", "gap"]) F_check_gap fun _ _ _ _ _ _ us hl => match us, hl with | [_, _], _ => rfl⟩
  have c_gap_state : Cal P w K mg base 4 "gap_state" ["links", "gap"] (sp_gap_state K) := ⟨_, fd_gap_state, ok_gap_state T F_gap_state c_Links_left c_Links_right c_check_gap, T.gf_gap_state, F_gap_state.kp, FunD.bindsN (ps := ["links", "gap"]) F_gap_state fun _ _ _ _ _ _ us hl => match us, hl with | [_, _], _ => rfl⟩
  have c_gap_states : Cal P w K mg base 5 "gap_states" ["links"] (sp_gap_states K) := ⟨_, fd_gap_states, ok_gap_states T F_gap_states c_gap_state, T.gf_gap_states, F_gap_states.kp, FunD.bindsN (ps := ["links"]) F_gap_states fun _ _ _ _ _ _ us hl => match us, hl with | [_], _ => rfl⟩
  have c__certificates : Cal P w K mg base 6 "_certificates" ["size", "log"] (sp__certificates K) := ⟨_, fd__certificates, ok__certificates T F__certificates m_Links c_Links_apply_at c_gap_states, T.gf__certificates, F__certificates.kp, FunD.bindsN (ps := ["size", "log"]) F__certificates fun _ _ _ _ _ _ us hl => match us, hl with | [_, _], _ => rfl⟩
  have c_is_plain_integer : Cal P w K mg base 1 "is_plain_integer" ["value"] (sp_is_plain_integer K) := ⟨_, fd_is_plain_integer, ok_is_plain_integer T F_is_plain_integer , T.gf_is_plain_integer, F_is_plain_integer.kp, FunD.bindsN (ps := ["value"]) F_is_plain_integer fun _ _ _ _ _ _ us hl => match us, hl with | [_], _ => rfl⟩
  have c_is_loss_certificate : Cal P w K mg base 7 "is_loss_certificate" ["size", "log", "value"] (sp_is_loss_certificate K) := ⟨_, fd_is_loss_certificate, ok_is_loss_certificate T F_is_loss_certificate c__certificates c_is_plain_integer, T.gf_is_loss_certificate, F_is_loss_certificate.kp, FunD.bindsN (ps := ["size", "log", "value"]) F_is_loss_certificate fun _ _ _ _ _ _ us hl => match us, hl with | [_, _, _], _ => rfl⟩
  have c_loss_certificate : Cal P w K mg base 7 "loss_certificate" ["size", "log"] (sp_loss_certificate K) := ⟨_, fd_loss_certificate, ok_loss_certificate T F_loss_certificate c__certificates x_NotLost, T.gf_loss_certificate, F_loss_certificate.kp, FunD.bindsN (ps := ["size", "log"]) F_loss_certificate fun _ _ _ _ _ _ us hl => match us, hl with | [_, _], _ => rfl⟩
  have c__law_told : Cal P w K mg base 8 "_law_told" ["asks", "size", "moves", "value"] (sp21__law_told K) := ⟨_, fd__law_told, ok__law_told T F__law_told c_is_loss_certificate c_loss_certificate, T.gf__law_told, F__law_told.kp, FunD.bindsN (ps := ["asks", "size", "moves", "value"]) F__law_told fun _ _ _ _ _ _ us hl => match us, hl with | [_, _, _, _], _ => rfl⟩
  have c__law_certified : Cal P w K mg base 9 "_law_certified" ["size", "moves"] (sp__law_certified K) := ⟨_, fd__law_certified, ok__law_certified T F__law_certified c__law_fits c__law_is_triple c__law_losses c__law_told, T.gf__law_certified, F__law_certified.kp, FunD.bindsN (ps := ["size", "moves"]) F__law_certified fun _ _ _ _ _ _ us hl => match us, hl with | [_, _], _ => rfl⟩
  have c__law_draw : Cal P w K mg base 1 "_law_draw" ["bag", "many"] (sp21__law_draw K) := ⟨_, fd__law_draw, ok__law_draw T F__law_draw , T.gf__law_draw, F__law_draw.kp, FunD.bindsN (ps := ["bag", "many"]) F__law_draw fun _ _ _ _ _ _ us hl => match us, hl with | [_, _], _ => rfl⟩
  have c__law_lanes : Cal P w K mg base 2 "_law_lanes" ["bag", "size"] (sp21__law_lanes K) := ⟨_, fd__law_lanes, ok__law_lanes T F__law_lanes c__law_draw, T.gf__law_lanes, F__law_lanes.kp, FunD.bindsN (ps := ["bag", "size"]) F__law_lanes fun _ _ _ _ _ _ us hl => match us, hl with | [_, _], _ => rfl⟩
  have c__law_nodes : Cal P w K mg base 3 "_law_nodes" ["bag", "size"] (sp21__law_nodes K) := ⟨_, fd__law_nodes, ok__law_nodes T F__law_nodes c__law_draw c__law_lanes, T.gf__law_nodes, F__law_nodes.kp, FunD.bindsN (ps := ["bag", "size"]) F__law_nodes fun _ _ _ _ _ _ us hl => match us, hl with | [_, _], _ => rfl⟩
  have c__law_operation : Cal P w K mg base 1 "_law_operation" ["book", "node"] (sp__law_operation K) := ⟨_, fd__law_operation, ok__law_operation T F__law_operation , T.gf__law_operation, F__law_operation.kp, FunD.bindsN (ps := ["book", "node"]) F__law_operation fun _ _ _ _ _ _ us hl => match us, hl with | [_, _], _ => rfl⟩
  have c__law_log : Cal P w K mg base 4 "_law_log" ["bag", "size"] (sp21__law_log K) := ⟨_, fd__law_log, ok__law_log T F__law_log c__law_nodes c__law_operation c__law_step c__law_whole, T.gf__law_log, F__law_log.kp, FunD.bindsN (ps := ["bag", "size"]) F__law_log fun _ _ _ _ _ _ us hl => match us, hl with | [_, _], _ => rfl⟩
  have c__law_both_refuse : Cal P w K mg base 9 "_law_both_refuse" ["size", "moves", "word", "first", "second"] (sp__law_both_refuse K) := ⟨_, fd__law_both_refuse, ok__law_both_refuse T F__law_both_refuse c__law_fits c__law_told, T.gf__law_both_refuse, F__law_both_refuse.kp, FunD.bindsN (ps := ["size", "moves", "word", "first", "second"]) F__law_both_refuse fun _ _ _ _ _ _ us hl => match us, hl with | [_, _, _, _, _], _ => rfl⟩
  have c__law_refusals : Cal P w K mg base 10 "_law_refusals" ["bag", "size", "moves"] (sp__law_refusals K) := ⟨_, fd__law_refusals, ok__law_refusals T F__law_refusals c__law_both_refuse c__law_draw, T.gf__law_refusals, F__law_refusals.kp, FunD.bindsN (ps := ["bag", "size", "moves"]) F__law_refusals fun _ _ _ _ _ _ us hl => match us, hl with | [_, _, _], _ => rfl⟩
  have c__law_size : Cal P w K mg base 2 "_law_size" ["bag"] (sp21__law_size K) := ⟨_, fd__law_size, ok__law_size T F__law_size c__law_draw, T.gf__law_size, F__law_size.kp, FunD.bindsN (ps := ["bag"]) F__law_size fun _ _ _ _ _ _ us hl => match us, hl with | [_], _ => rfl⟩
  have c__law_judged : Cal P w K mg base 9 "_law_judged" ["size", "moves", "losses", "value"] (sp21__law_judged K) := ⟨_, fd__law_judged, ok__law_judged T F__law_judged c__law_is_triple c__law_told, T.gf__law_judged, F__law_judged.kp, FunD.bindsN (ps := ["size", "moves", "losses", "value"]) F__law_judged fun _ _ _ _ _ _ us hl => match us, hl with | [_, _, _, _], _ => rfl⟩
  have c__law_pairs : Cal P w K mg base 10 "_law_pairs" ["bag", "size", "moves", "losses"] (sp21__law_pairs K) := ⟨_, fd__law_pairs, ok__law_pairs T F__law_pairs c__law_draw c__law_judged, T.gf__law_pairs, F__law_pairs.kp, FunD.bindsN (ps := ["bag", "size", "moves", "losses"]) F__law_pairs fun _ _ _ _ _ _ us hl => match us, hl with | [_, _, _, _], _ => rfl⟩
  have c__law_truth : Cal P w K mg base 1 "_law_truth" ["number"] (sp__law_truth K) := ⟨_, fd__law_truth, ok__law_truth T F__law_truth , T.gf__law_truth, F__law_truth.kp, FunD.bindsN (ps := ["number"]) F__law_truth fun _ _ _ _ _ _ us hl => match us, hl with | [_], _ => rfl⟩
  have c__law_values : Cal P w K mg base 2 "_law_values" ["triple"] (sp__law_values K) := ⟨_, fd__law_values, ok__law_values T F__law_values c__law_truth, T.gf__law_values, F__law_values.kp, FunD.bindsN (ps := ["triple"]) F__law_values fun _ _ _ _ _ _ us hl => match us, hl with | [_], _ => rfl⟩
  have c__law_values_fit : Cal P w K mg base 11 "_law_values_fit" ["bag", "size", "moves"] (sp__law_values_fit K) := ⟨_, fd__law_values_fit, ok__law_values_fit T F__law_values_fit c__law_draw c__law_judged c__law_losses c__law_pairs c__law_values, T.gf__law_values_fit, F__law_values_fit.kp, FunD.bindsN (ps := ["bag", "size", "moves"]) F__law_values_fit fun _ _ _ _ _ _ us hl => match us, hl with | [_, _, _], _ => rfl⟩
  exact ok_law T F_law c__law_bag c__law_certified c__law_draw c__law_log c__law_losses c__law_refusals c__law_size c__law_values_fit
end G
open PySem PySem.W PySem.Calls PyProof.Rows
set_option maxRecDepth 100000 in
set_option maxHeartbeats 0 in
theorem PySem.Challenge.cw_latelink_k21_whole_loss_certificates_holds : PySem.Challenge.rw_latelink_k21_whole_loss_certificates.Holds := by
  w_on; o_law
  refine HandSHeadRun.head_any (r := OpenLaw.row PySem.Challenge.rw_latelink_k21_whole_loss_certificates) (q := view (OpenLaw.row PySem.Challenge.rw_latelink_k21_whole_loss_certificates).prog [58]) (H := G.hk) (ob := G.ob) (M := 8000) (loose := G.loose) (d := HandSHeadRun.topDef (OpenLaw.row PySem.Challenge.rw_latelink_k21_whole_loss_certificates).prog 58) (kwd := []) G.ob_eq
    (by kernel_rfl) (fun s => by kernel_rfl) G.run (by kernel_rfl) (by kernel_rfl) (by kernel_rfl) (by rfl) (by first | assumption | decide +kernel) (by decide +kernel) ⟨rfl, rfl, rfl, rfl, rfl, by decide +kernel⟩ ?hw ?hc
  case hw => w_witness2
  case hc =>
    refine L2.walk_ofE (l := PySem.Challenge.rw_latelink_k21_whole_loss_certificates) (n := 63) (k := 12) (x := "script") (CX := L2.CX0) rfl (by decide) (by kernel_rfl) ⟨rfl, by decide, by decide⟩ ?F (fun _ _ _ _ z => z)
    case F =>
      intro w mg fa h Y Gm hmg0
      obtain ⟨K, KX, c⟩ := Y
      have hmg : mg ("law" : PySem.Str) = some (.ref fa) := by
        have e : (HandSHeadRun.topDef (OpenLaw.row PySem.Challenge.rw_latelink_k21_whole_loss_certificates).prog 58).name = ("law" : PySem.Str) := by kernel_rfl
        rw [← e]
        exact hmg0
      obtain ⟨fd, hb, hF⟩ := G.facts (P := (PySem.Challenge.rw_latelink_k21_whole_loss_certificates).prog) (w := w) KX Gm hmg c
      exact ⟨K, fd, _, KX, hb, fun H a ns hl _ hS => ⟨a, ns, rfl, hS, hl, fun _ => rfl⟩, fun base h1 h2 => G.noX (hF base h1 h2)⟩
