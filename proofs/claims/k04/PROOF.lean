import PyProof.Rows.All
import Wide.All
import OpenK.AllK
import Wide.FinOn
import KE.KStateDown
import KE.KExcIs
import HandS.ForMost
import HandS.Exc
import HandS.ExcOwn
import HandS.ExcCtx
import HandS.ExcInit
import HandS.ExcField
import HandS.HotCalls
import HandS.WordsExc
import HandS.IsInst
import HandS.Conv
import HandS.Defaults
import HandS.Evl
import HandS.Head0
import HandS.Head1
import HandS.Head2
import HandS.HeadEnd
import HandS.HeadHook1
import HandS.HeadHook2
import HandS.ClsMeth
import HandS.ExcInitHot
import HandS.OwnEq
import HandS.HeadNt
import HandS.NoneIn
import HandS.Text
import HandS.Steps
import HandS.Strs
import HandS.TupAny
import HandS.Deep
import PyProof.FString3
import PyProof.Rows.StrIntSpec
import HandS.RaiseMore
import KE.KCallOwn
import PyProof.ListRange
import HandS.GenList
import HandS.GenYield
import HandS.Rev
import PySem.Challenge.RW_latelink_k04_whole_walks
set_option Elab.async false
set_option linter.all false
set_option maxRecDepth 100000
set_option maxHeartbeats 4000000
/-! Calls by bundles, own exceptions with fields, raised, caught, asked. -/
namespace G
open PySem PySem.Spec PyProof.Rows L2

/-! ### a def, a method of the text, ready to be called -/
structure Cal (P : Program) (w : World) (K : PySem.W.Frag) (mg : Str → Option Value) (base : Heap) (k : Nat) (x : Str) (ps : List Str) (sp : Sp) : Prop where
  ex : ∃ (f : Addr) (fd : FuncData), FnOk P w K mg base (L2N.CX P w) k f fd ps sp ∧ mg x = some (.ref f) ∧ PySem.W.keepIn K (.ref f) = true ∧ Binds K fd ps []
structure Met (P : Program) (w : World) (K : PySem.W.Frag) (mg : Str → Option Value) (base : Heap) (k : Nat) (C : Addr) (m : Str) (ps : List Str) (sp : Sp) : Prop where
  ex : ∃ (f : Addr) (fd : FuncData), FnOk P w K mg base (L2N.CX P w) k f fd ps sp ∧ Meth K C m f ∧ Binds K fd ps []
structure Mak (P : Program) (w : World) (K : PySem.W.Frag) (mg : Str → Option Value) (base : Heap) (k : Nat) (x : Str) (C : Addr) (ps : List Str) (sp : Sp) : Prop where
  ex : ∃ (f : Addr) (fd : FuncData), FnOk P w K mg base (L2N.CX P w) k f fd ps sp ∧ Mk K C f ∧ mg x = some (.ref C) ∧ Binds K fd ps []
/-- the same where an exception is handled -/
structure CalH (P : Program) (w : World) (K : PySem.W.Frag) (mg : Str → Option Value) (base : Heap) (k : Nat) (x : Str) (ps : List Str) (sp : Sp) : Prop where
  ex : ∃ (f : Addr) (fd : FuncData), L2H.FnH P w K mg base (L2N.CX P w) k f fd ps sp ∧ mg x = some (.ref f) ∧ PySem.W.keepIn K (.ref f) = true ∧ Binds K fd ps []
section
variable {X : Cx} {j k : Nat} {x m : Str} {ps : List Str} {sp : Sp} {E : XK} {C : Addr} {p pos apos : Pos} {e o : Expr} {es : List Expr} {t : TA} {ta : TE}
/-- f(..): what leaves it as an exception is wished for by E -/
def tCl (sp : Sp) (E : L2.St → XK) (t : TA) : TE := fun σ H Q => t σ H fun vs H1 => sp vs H1 Q (E σ)
def tMt (C : Addr) (m : Str) (sp : Sp) (E : L2.St → XK) (ta : TE) (t : TA) : TE := fun σ H Q => ta σ H fun x H1 => ∃ a dx fs, x = .ref a ∧ H1 a = some (.ins C dx fs) ∧ fs.lookup m = none ∧ t σ H1 fun vs H2 => sp (x :: vs) H2 Q (E σ)
def tMk (C : Addr) (sp : Sp) (E : L2.St → XK) (t : TA) : TE := fun σ H Q => t σ H fun vs H1 => ∀ x dx, H1 x = none → H1 dx = none → dx ≠ x → sp (.ref x :: vs) (upd (upd H1 dx (.own x)) x (.ins C dx [])) (fun v H2 => v = .non ∧ Q (.ref x) H2) (E σ)
abbrev PAt (X : Cx) (E : L2.St → XK) : Prop := ∀ σ, PassesAt (L2N.CX X.prog X.w) X σ (E σ)
theorem pat_of {X : Cx} {W : WX} (tk : L2N.Takes X W) : PAt X (WE W) := fun σ => L2N.passAt tk σ
/-- where nothing may be let out -/
theorem pat_no {X : Cx} : PAt X (fun _ => L2.E0) := fun σ pins H s e s' I c => by
  obtain ⟨_, _, _, _, _, _, _, _, _, _, _, _, z⟩ := c
  exact z.elim
variable {E : L2.St → XK}
theorem pe_cl (c : Cal X.prog X.w X.K X.mg X.base k x ps sp) (hr : Room j X.A) (hk : k ≤ j) (hx : PAt X E) (ha : PA X (e :: es) t) (hg : Gl X x := by rfl) (hdb : (x == ("__debug__" : Str)) = false := by decide)
    (he : starEach (e :: es) X.env = (false, eval e X.env) :: starEach es X.env := by rfl) (hpl : (backTo pos (starEach es X.env)).any (·.1) = false := by rfl) : PE X (.Call (.Name x p) (e :: es) [] pos) (tCl sp E t) := by
  obtain ⟨f, fd, F, hm, kp, hb⟩ := c.ex
  refine ⟨fun pins s σ H Q I h => ?_⟩
  exact (pe_callS (E := E) F (hr.mono hk) hg hm kp hb hx ha hdb he hpl).run pins s σ H Q I h
theorem pe_cl0 (c : Cal X.prog X.w X.K X.mg X.base k x ps sp) (hr : Room j X.A) (hk : k ≤ j) (hx : PAt X E) (hg : Gl X x := by rfl) (hdb : (x == ("__debug__" : Str)) = false := by decide) : PE X (.Call (.Name x p) [] [] pos) (tCl sp E tNil) := by
  obtain ⟨f, fd, F, hm, kp, hb⟩ := c.ex
  refine ⟨fun pins s σ H Q I h => wpAny_Call_Name_kw (ld_glob I hg hm ?_ hdb)⟩
  exact PySem.W.callWith_K0 I.kIn kp (run_fnS (E := E) (us := []) (vs := []) F (hr.mono hk) hb (hx σ) I .nil h)
theorem run_mt {pins : List (Addr × Obj)} {s : Shared} {σ : L2.St} {H : Hp} {Q : VK} {f : Addr} {fd : FuncData} {us : List Value} {vs : List V} (F : FnOk X.prog X.w X.K X.mg X.base (L2N.CX X.prog X.w) k f fd ps sp) (hr : Room k X.A) (hb : Binds X.K fd ps []) (hx : PAt X E) (I : Inv X pins σ H s) (r : Vals vs us)
    (h : sp vs H Q (E σ)) : wpAny (model X.prog X.w) X.A (call (.ref f) us) (EP X pins σ Q) X.xe s := run_fnS F hr hb (hx σ) I r h
theorem pe_mt {pl : Sem Bool} (c : Met X.prog X.w X.K X.mg X.base k C m ps sp) (cl : Cls X.K C) (hr : Room j X.A) (hk : k ≤ j) (hx : PAt X E) (he : PE X o ta) (ha : PA X (e :: es) t)
    (hst : starEach (e :: es) X.env = (false, eval e X.env) :: starEach es X.env := by rfl) (hpl : (backTo pos (starEach es X.env)).any (·.1) = false := by rfl)
    (ht : eval (.Call (.Attribute o m apos) (e :: es) [] pos) X.env = (do
      let ov ← eval o X.env
      standAt apos.atName
      let (f, first) ← holding [ov] (getMethod ov m pl)
      callWith pos f first (backTo pos (starEach (e :: es) X.env)) (backToKw pos (keywordEach [] X.env))) := by rfl) : PE X (.Call (.Attribute o m apos) (e :: es) [] pos) (tMt C m sp E ta t) := by
  obtain ⟨f, fd, F, hm, hb⟩ := c.ex
  refine ⟨fun pins s σ H Q I h => PySem.W.methodCall_KW (pl := pl) (thn (he.run pins s σ H _ I h) fun u s1 hh => ?_) ht⟩
  obtain ⟨x, H1, I1, rx, a, dx, fs, ex, ea, l, q⟩ := hh
  subst ex
  obtain rfl : u = Value.ref a := rx
  refine getmeth_ok I1 ea cl hm l (PySem.W.callWith_K (first := [.ref a]) (h₀ := X.base) I.ok.mod.kin hm.kp (thn (ha.run pos pins s1 σ H1 _ I1 q) fun us s2 hh => ?_) hst hpl)
  obtain ⟨vs, H2, I2, r, q2⟩ := hh
  exact ⟨I2.kIn, run_fnS (us := .ref a :: us) (vs := .ref a :: vs) F (hr.mono hk) hb (hx σ) I2 (.cons rfl r) q2⟩
theorem pe_mt0 {pl : Sem Bool} (c : Met X.prog X.w X.K X.mg X.base k C m ps sp) (cl : Cls X.K C) (hr : Room j X.A) (hk : k ≤ j) (hx : PAt X E) (he : PE X o ta)
    (ht : eval (.Call (.Attribute o m apos) [] [] pos) X.env = (do
      let ov ← eval o X.env
      standAt apos.atName
      let (f, first) ← holding [ov] (getMethod ov m pl)
      callWith pos f first (backTo pos (starEach [] X.env)) (backToKw pos (keywordEach [] X.env))) := by rfl) : PE X (.Call (.Attribute o m apos) [] [] pos) (tMt C m sp E ta tNil) := by
  obtain ⟨f, fd, F, hm, hb⟩ := c.ex
  refine ⟨fun pins s σ H Q I h => PySem.W.methodCall_KW (pl := pl) (thn (he.run pins s σ H _ I h) fun u s1 hh => ?_) ht⟩
  obtain ⟨x, H1, I1, rx, a, dx, fs, ex, ea, l, q⟩ := hh
  subst ex
  obtain rfl : u = Value.ref a := rx
  refine getmeth_ok I1 ea cl hm l ?_
  exact PySem.W.callWith_K0 (first := [.ref a]) I1.kIn hm.kp (run_fnS (us := [.ref a]) (vs := [.ref a]) F (hr.mono hk) hb (hx σ) I1 (.cons rfl .nil) q)
/-- an instance is made, what its __init__ lets out is wished for at the slots σ -/
theorem run_mk {pn : List (Addr × Obj)} {τ : L2.St} {H0 : Hp} {sh : Shared} {R : VK} {f : Addr} {fd : FuncData} {uu : List Value} {vv : List V} (M : Mk X.K C f) (F : FnOk X.prog X.w X.K X.mg X.base (L2N.CX X.prog X.w) k f fd ps sp)
    (hr : Room (k + 1) X.A) (hb : Binds X.K fd ps []) (hx : PAt X E) (I : Inv X pn τ H0 sh) (r : Vals vv uu)
    (h : ∀ x dx, H0 x = none → H0 dx = none → dx ≠ x → sp (.ref x :: vv) (upd (upd H0 dx (.own x)) x (.ins C dx [])) (fun v H2 => v = .non ∧ R (.ref x) H2) (E τ)) :
    wpAny (model X.prog X.w) X.A (call (.ref C) uu) (EP X pn τ R) X.xe sh := by
  have q0 := h (sh.heap.objs.size + 1) sh.heap.objs.size (I.hok.fresh (Nat.le_succ _)) (I.hok.fresh (Nat.le_refl _)) (Nat.ne_of_lt (Nat.lt_succ_self _))
  have J := Inv.made (C := C) I
  have rr : Vals (V.ref (sh.heap.objs.size + 1) :: vv) (Value.ref (sh.heap.objs.size + 1) :: uu) := .cons rfl r
  have ln : (Value.ref (sh.heap.objs.size + 1) :: uu ++ []).length = ps.length := by
    rw [List.append_nil, ← rr.length]
    exact F.len _ _ _ _ q0
  have bb := hb _ (Value.ref (sh.heap.objs.size + 1) :: uu) J.kIn ln
  rw [List.append_nil] at bb
  have go := F.run _ X.stack _ _ ⟨Value.ref (sh.heap.objs.size + 1) :: uu, []⟩ _ _ _ (E τ) (hr.make C uu []) (J.env0.make C uu []) bb rr q0
  refine wpAny_call (make_map (f := f) I.kIn M.makes M.init (beq_iff_eq.mp M.fn) (codeAny_mono go fun rs s2 w => ?_))
  cases rs with
  | error er => exact hx τ pn _ _ er s2 J w
  | ok fl =>
    cases fl with
    | ret u =>
      obtain ⟨v, H2, J2, rv, ev, w2⟩ := J.after w
      subst ev
      exact ⟨rv, V.ref (sh.heap.objs.size + 1), H2, J2, rfl, w2⟩
    | next => exact w.elim
    | brk => exact w.elim
    | cont => exact w.elim
theorem pe_mk (c : Mak X.prog X.w X.K X.mg X.base k x C ps sp) (hr : Room j X.A) (hk : k + 1 ≤ j) (hx : PAt X E) (ha : PA X (e :: es) t) (hg : Gl X x := by rfl) (hdb : (x == ("__debug__" : Str)) = false := by decide)
    (he : starEach (e :: es) X.env = (false, eval e X.env) :: starEach es X.env := by rfl) (hpl : (backTo pos (starEach es X.env)).any (·.1) = false := by rfl) : PE X (.Call (.Name x p) (e :: es) [] pos) (tMk C sp E t) := by
  obtain ⟨f, fd, F, M, hm, hb⟩ := c.ex
  refine ⟨fun pn s τ H Q I h => wpAny_Call_Name_kw (ld_glob I hg hm ?_ hdb)⟩
  refine PySem.W.callWith_K (h₀ := X.base) I.ok.mod.kin M.kp (thn (ha.run pos pn s τ H _ I h) fun us s1 hh => ?_) he hpl
  obtain ⟨vs, H1, I1, r, q⟩ := hh
  exact ⟨I1.kIn, run_mk M F (hr.mono hk) hb hx I1 r q⟩
end

/-! ### calls where an exception is handled -/
section
variable {X : Cx} {j k : Nat} {x : Str} {ps : List Str} {sp : Sp} {p pos : Pos} {e : Expr} {es : List Expr} {t : TA} {E : L2.St → XK}
theorem pe_clH (c : CalH X.prog X.w X.K X.mg X.base k x ps sp) (hr : L2H.RoomH j X.A) (hk : k ≤ j) (hc : L2H.HotC X) (hx : PAt X E) (ha : PA X (e :: es) t) (hg : Gl X x := by rfl) (hdb : (x == ("__debug__" : Str)) = false := by decide)
    (he : starEach (e :: es) X.env = (false, eval e X.env) :: starEach es X.env := by rfl) (hpl : (backTo pos (starEach es X.env)).any (·.1) = false := by rfl) : PE X (.Call (.Name x p) (e :: es) [] pos) (tCl sp E t) := by
  obtain ⟨f, fd, F, hm, kp, hb⟩ := c.ex
  refine ⟨fun pins s σ H Q I h => ?_⟩
  exact (L2H.pe_callH (E := E) F (hr.mono hk) hc hg hm kp hb hx ha hdb he hpl).run pins s σ H Q I h
/-- the suite of a clause is such a place -/
theorem hot_suite {X : Cx} {a : Addr} {oe : Obj} {cls : Value} {d : Option Addr} {pn : List (Addr × Obj)} (hz : L2N.Zn cls d oe) (hf : ∃ vs, oe.data = .fields vs) : L2H.HotC (X.suite a ((a, oe) :: pn)) := by
  obtain ⟨vs, hv⟩ := hf
  exact ⟨(a, oe), ⟨rfl, vs, hv, hz.2.2 vs hv⟩, List.mem_cons_self⟩
end

/-! ### own exceptions with fields -/
/-- what a class of errors must be for its instances to be asked and read -/
structure ExK (K : PySem.W.Frag) (C : Addr) : Prop where
  cl : (PySem.W.clsIn K C).isSome = true
  ga : PySem.W.findIn K (.ref C) "__getattribute__" = some (some (.builtin "BaseException.__getattribute__"))
  gg : PySem.W.findIn K (.ref C) "__getattr__" = some none
  be : PySem.W.subIn K (.ref C) (.type "BaseException") = some true
  hd : PySem.W.hasDictIn K C = true
  cc : PySem.W.findIn K (.ref C) "__class__" = some (some (.builtin "object.__class__"))
  gs : PySem.W.specialIn K (.builtin "object.__class__") "__get__" = some (some (.builtin "getset_descriptor.__get__"))
  tk : PySem.W.takesIn K (.builtin "object.__class__") = some true
  mo : PySem.W.mroIn K C (.type "object") = some true
/-- isinstance(raised, c) -/
def rIsX (K : PySem.W.Frag) (cls : Value) (d : Option Addr) (a : Addr) : List V → Hp → VK → Prop := fun xs H Q => ∃ (D dd : Addr) (fs : List (Str × V)) (c : V) (u : Value) (b : Bool),
  cls = .ref D ∧ d = some dd ∧ H dd = some (.xd fs) ∧ ExK K D ∧ xs = [.ref a, c] ∧ ClsV c u ∧ PySem.W.kitOne K (.ref D) u = some b ∧ Q (.bl b) H
section
variable {X : Cx} {a : Addr} {oe : Obj} {cls : Value} {d : Option Addr} {pn : List (Addr × Obj)}
theorem exc_at {pins : List (Addr × Obj)} {s : Shared} {σ : L2.St} {H : Hp} {D dd : Addr} {fs : List (Str × V)} (I : Inv (X.suite a ((a, oe) :: pn)) pins σ H s) (hz : Zc cls d oe) (hf : ∃ vs, oe.data = .fields vs) (ec : cls = .ref D) (ed : d = some dd)
    (hd : H dd = some (.xd fs)) : ∃ (od : Obj) (mA : Str → Option Value), PySem.W.InstAt s.heap a oe D (some od) ∧ (∀ f, RelO (fs.lookup f) (mA f)) ∧ ∀ n, PySem.W.lookIn n od = some (mA n) := by
  obtain ⟨hget, _⟩ := I.pin (a, oe) (List.mem_append_left _ List.mem_cons_self)
  obtain ⟨vs, hv⟩ := hf
  obtain ⟨mA, hns, hr⟩ := (show ObjOk X.prog X.w H s.heap dd (.xd fs) from I.hok dd _ hd)
  obtain ⟨od, ho, hl⟩ := lookIn_ns hns
  refine ⟨od, mA, ⟨hget, hz.1.trans ec, ?_, ?_⟩, hr, hl⟩
  · unfold PySem.W.notCls
    rw [hv] <;> rfl
  · rw [hz.2, ed]
    exact ho
theorem call_isX (hz : Zc cls d oe) (hf : ∃ vs, oe.data = .fields vs) : CallR (X.suite a ((a, oe) :: pn)) (.builtin "isinstance") (rIsX X.K cls d a) := by
  intro pins s σ H xs us Q I r h
  obtain ⟨D, dd, fs, c, u, b, ec, ed, hd, T, rfl, k, e, q⟩ := h
  obtain ⟨u1, u2, rfl, r1, r2⟩ := vals2 r
  cases (show u1 = Value.ref a from r1)
  have e2 := k.eq r2
  subst e2
  obtain ⟨od, mA, J, _, _⟩ := exc_at I hz hf ec ed hd
  exact PySem.W.kia_one (PySem.W.kitx_exc T.cl T.ga T.gg T.be T.cc T.gs T.tk T.mo) I.kIn J e (fun z => nomatch z) fun tk => ⟨.bl b, H, I.tok tk, rfl, q⟩
/-- raised.f -/
def tXat (K : PySem.W.Frag) (a : Addr) (cls : Value) (d : Option Addr) (f : Str) (te : TE) : TE := fun σ H Q => te σ H fun x H1 => ∃ (D dd : Addr) (fs : List (Str × V)) (v : V),
  cls = .ref D ∧ d = some dd ∧ H1 dd = some (.xd fs) ∧ ExK K D ∧ x = .ref a ∧ PySem.W.findIn K (.ref D) f = some none ∧ fs.lookup f = some v ∧ Q v H1
theorem pe_xat {e : Expr} {te : TE} {pos : Pos} {n : Str} (hz : Zc cls d oe) (hf : ∃ vs, oe.data = .fields vs) (he : PE (X.suite a ((a, oe) :: pn)) e te) (hb : attributeBase e n X.env (eval e X.env) = eval e X.env := by rfl) :
    PE (X.suite a ((a, oe) :: pn)) (.Attribute e n pos) (tXat X.K a cls d n te) := by
  refine ⟨fun pins s σ H Q I h => attr_of hb (thn (he.run pins s σ H _ I h) fun u s1 hh => ?_)⟩
  obtain ⟨x, H1, I1, rx, D, dd, fs, v, ec, ed, hd, T, ex, hno, l, q⟩ := hh
  subst ex
  obtain rfl : u = Value.ref a := rx
  obtain ⟨od, mA, J, hr, hl⟩ := exc_at I1 hz hf ec ed hd
  obtain ⟨u, hu, ru⟩ := RelO.some_of (v := v) (o := mA n) (by rw [← l]; exact hr n)
  exact HandSPX.exc_get I1.kIn J T.ga T.gg T.be (PySem.W.findObj_own T.hd hno rfl (by rw [hl, hu])) (handed_of ru) ⟨v, H1, I1.tok _, ru, q⟩
end
end G

set_option Elab.async false
set_option linter.all false
set_option maxRecDepth 100000
set_option maxHeartbeats 4000000
/-! Own errors made and raised where nothing is handled. -/
namespace G
open PySem PySem.Spec PyProof.Rows L2

/-- what an error's __init__ leaves: its fields fs hold the values us -/
def spIn (K : PySem.W.Frag) (fs : List Str) : Sp := fun vs H Q _ => ∃ (a C : Addr) (us : List V), vs = .ref a :: us ∧ us.length = fs.length ∧ OexC K C ∧ (∀ f ∈ fs, PySem.W.findIn K (.ref C) f = some none) ∧ H a = some (exo a C none) ∧
  ∀ (dx : Addr) (H' : Hp), H dx = none → dx ≠ a → H' a = some (exo a C (some dx)) → H' dx = some (exd dx (fs.zip us).reverse) → (∀ b, b ≠ a → b ≠ dx → H' b = H b) → Q .non H'
theorem spIn_len {K : PySem.W.Frag} {fs ps : List Str} (h : ps.length = fs.length + 1) : ∀ vs H Q E, spIn K fs vs H Q E → vs.length = ps.length := by
  rintro vs H Q E ⟨a, C, us, rfl, hl, _⟩
  rw [h, List.length_cons, hl]
/-- an own class of errors -/
structure ExM (P : Program) (w : World) (K : PySem.W.Frag) (mg : Str → Option Value) (base : Heap) (k : Nat) (x : Str) (C : Addr) (fs : List Str) : Prop where
  oex : OexC K C
  no : ∀ f ∈ fs, PySem.W.findIn K (.ref C) f = some none
  gl : mg x = some (.ref C)
  ex : ∃ (fI : Addr) (fd : FuncData) (ps : List Str), FnOk P w K mg base (L2N.CX P w) k fI fd ps (spIn K fs) ∧ PySem.W.findIn K (.ref C) "__init__" = some (some (.ref fI)) ∧ PySem.W.typeIn K (.ref fI) = some (.type "function") ∧ Binds K fd ps []
theorem heap_mk {H H2 : Hp} {a d : Addr} {o : HO} (ha : H a = none) (hd : d ≠ a) (k : ∀ b, b ≠ a → b ≠ d → H2 b = H b) : upd (del H2 a) d o = upd H d o := by
  funext b
  by_cases hb : b = d
  · rw [hb, upd_same, upd_same]
  · rw [upd_ne hb, upd_ne hb]
    by_cases hba : b = a
    · rw [hba, del_same, ha]
    · rw [del_ne hba, k b hba hb]
theorem mk_go {K : PySem.W.Frag} {C : Addr} {fs : List Str} {us : List V} {H : Hp} {Q : XK} (T : OexC K C) (hf : ∀ f ∈ fs, PySem.W.findIn K (.ref C) f = some none) (hl : us.length = fs.length) (h : ∀ d, H d = none → Q (.ref C) (some d) (upd H d (.xd (fs.zip us).reverse))) :
    ∀ a, H a = none → spIn K fs (.ref a :: us) (upd H a (exo a C none)) (fun v H2 => v = .non ∧ ∃ (d : Addr) (gs : List (Str × V)), H2 a = some (exo a C (some d)) ∧ H2 d = some (exd d gs) ∧ H d = none ∧ Q (.ref C) (some d) (upd (del H2 a) d (.xd gs))) (fun _ _ _ => False) := by
  intro a ha
  refine ⟨a, C, us, rfl, hl, T, hf, upd_same, fun dx H' nd ne e1 e2 k => ⟨rfl, dx, _, e1, e2, ?_, ?_⟩⟩
  · rw [upd_ne ne] at nd
    exact nd
  · have nd' : H dx = none := by
      rw [upd_ne ne] at nd
      exact nd
    rw [heap_mk ha ne fun b h1 h2 => (k b h1 h2).trans (upd_ne h1)]
    exact h dx nd'
/-- x(e, ..), x a class of errors -/
def tRz (C : Addr) (fs : List Str) (W : WX) (ta : TA) : TS := fun _ σ H => ta σ H fun us H1 => us.length = fs.length ∧ us.length ≤ 1000 ∧ ∀ d, H1 d = none → W (.ref C) (some d) σ (upd H1 d (.xd (fs.zip us).reverse))
section
variable {X : Cx} {j k : Nat} {x : Str} {C : Addr} {fs : List Str} {p pos pos2 : Pos} {e : Expr} {es : List Expr} {ta : TA}
theorem pmk_x (c : ExM X.prog X.w X.K X.mg X.base k x C fs) (hr : Room j X.A) (hk : k + 1 ≤ j) (ha : PA X (e :: es) ta) (hg : Gl X x) (hdb : (x == ("__debug__" : Str)) = false)
    (he : starEach (e :: es) X.env = (false, eval e X.env) :: starEach es X.env) (hpl : (backTo pos (starEach es X.env)).any (·.1) = false) :
    L2N.PMk X (.Call (.Name x p) (e :: es) [] pos) (fun σ H Q => ta σ H fun us H1 => us.length = fs.length ∧ us.length ≤ 1000 ∧ ∀ d, H1 d = none → Q (.ref C) (some d) (upd H1 d (.xd (fs.zip us).reverse))) := by
  obtain ⟨T, hno, hm, fI, fd, ps, F1, iC, tI, hb⟩ := c
  intro pn s τ H Q I h
  obtain ⟨nm, qn, N, bs, bm, sn, sub, ab, col, dd, k0, k1, k2, k3, k5, hC, hbm⟩ := T.cls
  refine wpAny_Call_Name_kw (ld_glob I hg hm (PySem.W.callWith_K (h₀ := X.base) I.ok.mod.kin T.kC (thn (ha.run pos pn s τ H _ I h) fun us s1 hh => ?_) he hpl) hdb)
  obtain ⟨vs, H1, I1, r1, hl, hz, q1⟩ := hh
  refine ⟨I1.kIn, ?_⟩
  obtain ⟨hp, g, dr, tk, os⟩ := s1
  show wpAny _ _ (call (.ref C) us) _ _ _
  have hle := Nat.le_succ hp.objs.size
  have hn : H1 (hp.objs.size + 1) = none := I1.hok.fresh hle
  have hq := mk_go (Q := Q) T hno hl q1 (hp.objs.size + 1) hn
  have up : ∀ b o, hp.get? b = some o → ((hp.push (PySem.W.kdv_tup us)).push (PySem.HandSPX.excO C hp.objs.size)).get? b = some o := fun b o z => Heap.get?_push_of_some _ (Heap.get?_push_of_some _ z)
  have new : ((hp.push (PySem.W.kdv_tup us)).push (PySem.HandSPX.excO C hp.objs.size)).get? (hp.objs.size + 1) = some (PySem.HandSPX.excO C hp.objs.size) := by heap_get
  have J := I1.laid (t' := tk) (a := hp.objs.size + 1) (o := exo (hp.objs.size + 1) C none) up hle (exo_ok new)
  have rr : Vals (V.ref (hp.objs.size + 1) :: vs) (Value.ref (hp.objs.size + 1) :: us) := .cons rfl r1
  have ln : (Value.ref (hp.objs.size + 1) :: us ++ []).length = ps.length := by
    rw [List.append_nil, ← rr.length]
    exact F1.len _ _ _ _ hq
  have bb := hb _ (Value.ref (hp.objs.size + 1) :: us) J.kIn ln
  rw [List.append_nil] at bb
  have sz : us.length ≤ sizeLine := by
    rw [← r1.length, sizeLine_eq]
    omega
  have hr' : Room (k + 1) X.A := hr.mono hk
  have go := F1.run _ X.stack _ _ ⟨Value.ref (hp.objs.size + 1) :: us, []⟩ _ _ _ _ (hr'.make C us []) (J.env0.make C us []) bb rr hq
  refine wpAny_call (PySem.HandSPX.call_own F.excBase_ValueError (fun Y => PySem.HandSPX.refsVE_contains Y bm hbm) (I1.kIn _ _ hC) (PySem.W.looks_findIn I1.kIn iC) (fun self => PySem.W.bind_fn I1.kIn self tI) sz (codeAny_mono go fun rs s2 w => ?_))
  cases rs with
  | error er =>
    obtain ⟨_, _, _, _, _, _, _, _, _, _, _, _, z⟩ := w
    exact z.elim
  | ok fl =>
    cases fl with
    | ret u =>
      obtain ⟨v, H2, os2, ba, un, hok, rv, ev, d, gs, ea, ed, hd1, q2⟩ := w
      subst ev
      obtain ⟨h2, g2, d2, t2, os'⟩ := s2
      obtain ⟨t0, HG, J2, kG, ge, hoe, na⟩ := mk_end0 (d2 := d2) (t2 := t2) I1 hle up un hok os2 ba ea ed hd1
      exact ⟨rv, hp.objs.size + 1, _, _, ⟨HG, g2, d2, t2, os'⟩, _, .ref C, some d, rfl, J2, kG, ge, hoe, ⟨rfl, rfl, fun zs hv => by cases hv; rfl⟩, rfl, rfl, na, rfl, ba, raises_own T.exC T.tyC, q2⟩
    | next => exact w.elim
    | brk => exact w.elim
    | cont => exact w.elim
/-- raise x(e, ..) -/
theorem ps_rz {W : WX} (c : ExM X.prog X.w X.K X.mg X.base k x C fs) (hc : X.calm = true) (tk : L2N.Takes X W) (hr : Room j X.A) (hk : k + 1 ≤ j) (ha : PA X (e :: es) ta) (hg : Gl X x := by rfl) (hdb : (x == ("__debug__" : Str)) = false := by decide)
    (he : starEach (e :: es) X.env = (false, eval e X.env) :: starEach es X.env := by rfl) (hpl : (backTo pos (starEach es X.env)).any (·.1) = false := by rfl) : PS X (.Raise (some (.Call (.Name x p) (e :: es) [] pos)) none pos2) (tRz C fs W ta) :=
  L2N.ps_raise hc tk (pmk_x c hr hk ha hg hdb he hpl)
end
/-! ### the __init__ of one field, of two -/
theorem ini1 {K : PySem.W.Frag} {f : Str} {vs : List V} {H : Hp} {Q : VK} {E : XK} {N : List Str} (hN : N.length = 2) (h : spIn K [f] vs H Q E) : (tOst K f (tVar 0) (tVar 1)) { nx := fun _ H' => Q .non H', rt := Q } (start N vs) H := by
  obtain ⟨a, C, us, rfl, hl, T, hno, ha, q⟩ := h
  match us, hl with
  | [v], _ =>
    match N, hN with
    | [_, _], _ =>
      refine ⟨_, rfl, _, rfl, a, C, rfl, T, hno f (List.mem_singleton.mpr rfl), Or.inl ⟨ha, fun dx hd ne => ?_⟩⟩
      refine q dx _ hd ne upd_same ?_ fun b h1 h2 => ?_
      · rw [upd_ne ne, upd_same] <;> rfl
      · rw [upd_ne h1, upd_ne h2]
theorem ini2 {K : PySem.W.Frag} {f g : Str} {vs : List V} {H : Hp} {Q : VK} {E : XK} {N : List Str} (hN : N.length = 3) (h : spIn K [f, g] vs H Q E) :
    (tSeq (tOst K f (tVar 0) (tVar 1)) (tOst K g (tVar 0) (tVar 2))) { nx := fun _ H' => Q .non H', rt := Q } (start N vs) H := by
  obtain ⟨a, C, us, rfl, hl, T, hno, ha, q⟩ := h
  match us, hl with
  | [v, v2], _ =>
    match N, hN with
    | [_, _, _], _ =>
      refine ⟨_, rfl, _, rfl, a, C, rfl, T, hno f List.mem_cons_self, Or.inl ⟨ha, fun dx hd ne => ?_⟩⟩
      refine ⟨_, rfl, _, rfl, a, C, rfl, T, hno g (List.mem_cons_of_mem _ List.mem_cons_self), Or.inr ⟨dx, [(f, v)], upd_same, ?_, by show 1 ≤ 900; decide, ?_⟩⟩
      · rw [upd_ne ne, upd_same]
      · refine q dx _ hd ne ?_ upd_same fun b h1 h2 => ?_
        · rw [upd_ne (Ne.symm ne), upd_same]
        · rw [upd_ne h2, upd_ne h1, upd_ne h2]
end G

set_option Elab.async false
set_option linter.all false
set_option maxRecDepth 100000
set_option maxHeartbeats 4000000
/-! Operators that take what comes, and the steps of a reading, from the front. -/
namespace G
open PySem PySem.Spec PyProof.Rows L2

/-! ### operators by values -/
def rAddA : R2 := fun x y H Q => (∃ i j, x = .int i ∧ y = .int j ∧ Q (.int (i + j)) H) ∨ (∃ i j : Str, x = .str i ∧ y = .str j ∧ i.length + j.length ≤ sizeLine ∧ Q (.str (i ++ j)) H) ∨ rCat x y H Q
def rMulA : R2 := fun x y H Q => (∃ i j, x = .int i ∧ y = .int j ∧ CMul i j ∧ Q (.int (i * j)) H) ∨ rRep x y H Q
def rEqA (K : PySem.W.Frag) : R2 := fun x y H Q => rEq x y H Q ∨ rEqD K x y H Q
def rNeA (K : PySem.W.Frag) : R2 := fun x y H Q => rNe x y H Q ∨ rNeD K x y H Q
def rLenA (K : PySem.W.Frag) : List V → Hp → VK → Prop := fun xs H Q => ∃ x n, xs = [x] ∧ LenV K x H n ∧ Q (.int n) H
def rListA (K : PySem.W.Frag) : List V → Hp → VK → Prop := fun xs H Q => ∃ p ys, xs = [.ref p] ∧ (SqL K H p ys ∨ SqT K H p ys) ∧ ∀ l, H l = none → Q (.ref l) (upd H l (.lst ys))
def rIntA : List V → Hp → VK → Prop := fun xs H Q => (∃ i, xs = [.int i] ∧ Q (.int i) H) ∨ ∃ k, xs = [.bl k] ∧ Q (.int (if k then 1 else 0)) H
def rAbsA : List V → Hp → VK → Prop := fun xs H Q => ∃ i, xs = [.int i] ∧ Q (.int (if i < 0 then -i else i)) H
def rMin2A : List V → Hp → VK → Prop := fun xs H Q => ∃ i j, xs = [.int i, .int j] ∧ Q (.int (if j < i then j else i)) H
def rMax2A : List V → Hp → VK → Prop := fun xs H Q => ∃ i j, xs = [.int i, .int j] ∧ Q (.int (if j > i then j else i)) H
def rIsNA : R2 := fun x y H Q => y = .non ∧ Q (.bl (decide (x = .non))) H
def rNotNA : R2 := fun x y H Q => y = .non ∧ Q (.bl (!decide (x = .non))) H
abbrev rSubA : R2 := rI0 fun i j => .int (i - j)
abbrev rModA : R2 := rI (fun _ j => 0 < j) fun i j => .int (i % j)
abbrev rDivA : R2 := rI CDiv fun i j => .int (i / j)
abbrev rPowA : R2 := rI CPow fun i j => .int (i ^ j.toNat)
abbrev rLtA : R2 := rI0 fun i j => .bl (decide (i < j))
abbrev rLeA : R2 := rI0 fun i j => .bl (decide (i ≤ j))
abbrev rGtA : R2 := rI0 fun i j => .bl (decide (j < i))
abbrev rGeA : R2 := rI0 fun i j => .bl (decide (j ≤ i))
abbrev rNegA : V → Hp → VK → Prop := rU fun i => .int (-i)
section
variable {X : Cx}
theorem op_addA : OpR X (binaryOp .Add) rAddA := OpR.or op_add (OpR.or op_add_str op_cat)
theorem op_mulA : OpR X (binaryOp .Mult) rMulA := OpR.or op_mul op_rep
theorem op_eqA {k : Nat} (hr : Room k X.A) : OpR X (compareOp .Eq) (rEqA X.K) := OpR.or op_eq (op_eqD hr.units)
theorem op_neA {k : Nat} (hr : Room k X.A) : OpR X (compareOp .NotEq) (rNeA X.K) := OpR.or op_ne (op_neD hr.units)
theorem call_lenA : CallR X (.builtin "len") (rLenA X.K) := call_len
theorem call_listA : CallR X (.type "list") (rListA X.K) := call_list_of
theorem call_intA : CallR X (.type "int") rIntA := call_int1
theorem call_absA : CallR X (.builtin "abs") rAbsA := call_abs
theorem call_min2A (hc : X.calm = true) : CallR X (.builtin "min") rMin2A := call_min2 hc
theorem call_max2A (hc : X.calm = true) : CallR X (.builtin "max") rMax2A := call_max2 hc
theorem op_isNA : OpR X (compareOp .Is) rIsNA := op_isN
theorem op_notNA : OpR X (compareOp .IsNot) rNotNA := op_notN
end

/-! ### what frames a step: all that was tracked but the addresses of S -/
def Kp (S : List Addr) (H H' : Hp) : Prop := ∀ b o, b ∉ S → H b = some o → H' b = some o
theorem Kp.refl (S : List Addr) (H : Hp) : Kp S H H := fun _ _ _ h => h
theorem Kp.trans {S : List Addr} {H H1 H2 : Hp} (a : Kp S H H1) (b : Kp S H1 H2) : Kp S H H2 := fun c o n h => b c o n (a c o n h)
theorem Kp.mono {S S' : List Addr} {H H1 : Hp} (a : Kp S H H1) (h : ∀ b ∈ S, b ∈ S') : Kp S' H H1 := fun c o n e => a c o (fun z => n (h c z)) e
theorem Kp.all {S : List Addr} {H H1 : Hp} (a : Kp [] H H1) : Kp S H H1 := fun c o _ e => a c o (by simp) e
theorem Kp.new {S : List Addr} {H : Hp} {p : Addr} {o : HO} (n : H p = none) : Kp S H (upd H p o) := fun b u _ e => by
  rw [upd_ne (ne_of_none e n)]
  exact e
theorem Kp.put {S : List Addr} {H : Hp} {p : Addr} {o : HO} (h : p ∈ S) : Kp S H (upd H p o) := fun b u n e => by
  have ne : b ≠ p := fun z => n (by rw [z]; exact h)
  rw [upd_ne ne]
  exact e
/-- an object that H does not know may change -/
theorem Kp.mut {S : List Addr} {H H1 : Hp} {p : Addr} {o : HO} (e : Kp S H H1) (n : H p = none) : Kp S H (upd H1 p o) := fun b u h z => by
  rw [upd_ne (ne_of_none z n)]
  exact e b u h z
theorem Kp.at0 {H H' : Hp} {b : Addr} {o : HO} (k : Kp [] H H') (h : H b = some o) : H' b = some o := k b o (by simp) h
theorem Kp.at1 {H H' : Hp} {a b : Addr} {o : HO} (k : Kp [a] H H') (n : b ≠ a) (h : H b = some o) : H' b = some o := k b o (by simpa using n) h
theorem Kp.free {S : List Addr} {H H' : Hp} {b : Addr} (k : Kp S H H') (n : b ∉ S) (h : H' b = none) : H b = none := by
  cases e : H b with
  | none => rfl
  | some o =>
    rw [k b o n e] at h
    cases h
theorem Kp.free0 {H H' : Hp} {b : Addr} (k : Kp [] H H') (h : H' b = none) : H b = none := k.free (by simp) h
theorem Kp.sql {S : List Addr} {K : PySem.W.Frag} {H H' : Hp} {a : Addr} {xs : List V} (e : Kp S H H') (n : a ∉ S) (h : SqL K H a xs) : SqL K H' a xs := by
  rcases h with (h | ⟨o, h⟩) | h
  · exact .inl (.inl (e _ _ n h))
  · exact .inl (.inr ⟨o, e _ _ n h⟩)
  · exact .inr h
theorem Kp.sqt {S : List Addr} {K : PySem.W.Frag} {H H' : Hp} {a : Addr} {xs : List V} (e : Kp S H H') (n : a ∉ S) (h : SqT K H a xs) : SqT K H' a xs := by
  rcases h with (h | ⟨o, h⟩) | h
  · exact .inl (.inl (e _ _ n h))
  · exact .inl (.inr ⟨o, e _ _ n h⟩)
  · exact .inr h

/-! ### the steps -/
section
variable {K : PySem.W.Frag} {σ : L2.St} {H : Hp} {Q : VK} {ta tb tc te : TE} {t u : TT} {x y v : V} {QB : Bool → Hp → Prop} {QA : List V → Hp → Prop} {D : Ends} {s1 s2 : TS} {tl tr : TA} {i j : Int} {n m : Nat} {p q : Addr} {xs ys : List V}
theorem w_var {k : Nat} (h : σ[k]? = some (some v)) (g : Q v H) : tVar k σ H Q := ⟨v, h, g⟩
theorem w_c (g : Q v H) : tC v σ H Q := g
theorem w_op {r : R2} (g : ta σ H fun x H1 => tb σ H1 fun y H2 => r x y H2 Q) : tOp r ta tb σ H Q := g
theorem w_un {r : V → Hp → VK → Prop} (g : ta σ H fun x H1 => r x H1 Q) : tUn r ta σ H Q := g
theorem w_test (g : te σ H fun x H1 => ∃ k, x = .bl k ∧ QB k H1) : tTest te σ H QB := g
theorem w_tb (g : te σ H fun x H1 => ∃ k, x = .bl k ∧ QB k H1) : tB te σ H QB := g
theorem w_and (g : t σ H fun c H1 => if c = true then u σ H1 QB else QB false H1) : tAnd t u σ H QB := g
theorem w_or (g : t σ H fun c H1 => if c = true then QB true H1 else u σ H1 QB) : tOr t u σ H QB := g
theorem w_not (g : t σ H fun c H1 => QB (!c) H1) : tNot t σ H QB := g
theorem w_andV (g : ta σ H fun x H1 => ∃ c, x = .bl c ∧ if c = true then tb σ H1 Q else Q (.bl false) H1) : tAndV ta tb σ H Q := g
theorem w_orV (g : ta σ H fun x H1 => ∃ c, x = .bl c ∧ if c = true then Q (.bl true) H1 else tb σ H1 Q) : tOrV ta tb σ H Q := g
theorem w_notV (g : ta σ H fun x H1 => ∃ c, x = .bl c ∧ Q (.bl (!c)) H1) : tNotV ta σ H Q := g
theorem w_ifE (g : t σ H fun c H1 => if c = true then ta σ H1 Q else tb σ H1 Q) : tIf t ta tb σ H Q := g
theorem w_chain {r r' : R2} (g : ta σ H fun x H1 => tb σ H1 fun y H2 => r x y H2 fun z H3 => ∃ k, z = .bl k ∧ (if k = true then tc σ H3 fun w' H4 => r' y w' H4 Q else Q (.bl false) H3)) : tChain r r' ta tb tc σ H Q := g
theorem w_nil (g : QA [] H) : tNil σ H QA := g
theorem w_cons (g : ta σ H fun x H1 => tr σ H1 fun xs H2 => QA (x :: xs) H2) : tCons ta tr σ H QA := g
theorem w_cb {r : List V → Hp → VK → Prop} (g : tl σ H fun vs H1 => r vs H1 Q) : tCB r tl σ H Q := g
theorem w_cl {sp : Sp} {E : L2.St → XK} (g : tl σ H fun vs H1 => sp vs H1 Q (E σ)) : tCl sp E tl σ H Q := g
theorem w_tup (g : tl σ H fun xs H1 => xs.length ≤ sizeLine ∧ ∀ p, H1 p = none → Q (.ref p) (upd H1 p (.tup xs))) : tTup tl σ H Q := g
theorem w_lst (g : tl σ H fun xs H1 => xs.length ≤ sizeLine ∧ ∀ p, H1 p = none → Q (.ref p) (upd H1 p (.lst xs))) : tLst tl σ H Q := g
theorem w_bm {T : String} {r : V → List V → Hp → VK → Prop} (g : te σ H fun x H1 => tyV K T x H1 ∧ tl σ H1 fun xs H2 => r x xs H2 Q) : tBM K T r te tl σ H Q := g
theorem w_bm0 {T : String} {r : V → List V → Hp → VK → Prop} (g : te σ H fun x H1 => tyV K T x H1 ∧ r x [] H1 Q) : tBM0 K T r te σ H Q := g
theorem w_fld {f : Str} (g : ta σ H fun x H1 => ∃ a C dx fs v, x = .ref a ∧ H1 a = some (.ins C dx fs) ∧ Cls K C ∧ NoAttr K C f ∧ fs.lookup f = some v ∧ Q v H1) : tFld K ta f σ H Q := g
theorem w_mt {C : Addr} {m : Str} {sp : Sp} {E : L2.St → XK} (g : ta σ H fun x H1 => ∃ a dx fs, x = .ref a ∧ H1 a = some (.ins C dx fs) ∧ fs.lookup m = none ∧ tl σ H1 fun vs H2 => sp (x :: vs) H2 Q (E σ)) : tMt C m sp E ta tl σ H Q := g
theorem w_seq (g : s1 { D with nx := s2 D } σ H) : tSeq s1 s2 D σ H := g
theorem w_next (g : D.nx σ H) : tNext D σ H := g
theorem w_if (g : t σ H fun b H1 => if b = true then s1 D σ H1 else s2 D σ H1) : tIfS t s1 s2 D σ H := g
theorem w_ret (g : te σ H D.rt) : tRet te D σ H := g
theorem w_drop (g : te σ H fun _ H1 => D.nx σ H1) : tDrop te D σ H := g
theorem w_asg {k : Nat} (g : te σ H fun x H1 => D.nx (σ.set k (some x)) H1) : tAsg te (gName k) D σ H := g
theorem w_asgS {to ti : TE} {r : TSet} (g : te σ H fun v H0 => to σ H0 fun o H1 => ti σ H1 fun i H2 => r o i v H2 fun H3 => D.nx σ H3) : tAsg te (gSub to ti r) D σ H := g
theorem w_ast {k : Nat} {ts : TGs} (g : te σ H fun v H0 => ∃ a xs, v = .ref a ∧ SqT K H0 a xs ∧ xs.length = k ∧ ts xs σ H0 D.nx) : tAsg te (gTup K k ts) D σ H := g
theorem w_asf {f : Str} (g : te σ H fun y H1 => ta σ H1 fun x H2 => ∃ a C dx fs, x = .ref a ∧ H2 a = some (.ins C dx fs) ∧ Cls K C ∧ NoAttr K C f ∧ fs.length < 1000 ∧ D.nx σ (upd H2 a (.ins C dx (putF f y fs)))) : sFld K ta te f D σ H := g
theorem w_ex1 {P : Bool → Prop} {b : Bool} (g : P b) : ∃ k, V.bl b = .bl k ∧ P k := ⟨b, rfl, g⟩
theorem w_iteD {c A B : Prop} [Decidable c] (h1 : c → A) (h2 : ¬ c → B) : if decide c = true then A else B := by
  by_cases h : c
  · rw [decide_eq_true h]
    exact iteT (h1 h)
  · rw [decide_eq_false h]
    exact iteF (h2 h)
theorem w_iteN {c A B : Prop} [Decidable c] (h1 : ¬ c → A) (h2 : c → B) : if (!decide c) = true then A else B := by
  by_cases h : c
  · rw [decide_eq_true h]
    exact iteF (h2 h)
  · rw [decide_eq_false h]
    exact iteT (h1 h)
theorem w_iteB {b : Bool} {A B : Prop} (h1 : b = true → A) (h2 : b = false → B) : if b = true then A else B := by
  cases b with
  | true => exact iteT (h1 rfl)
  | false => exact iteF (h2 rfl)
theorem w_iteBN {b : Bool} {A B : Prop} (h1 : b = false → A) (h2 : b = true → B) : if (!b) = true then A else B := by
  cases b with
  | true => exact iteF (h2 rfl)
  | false => exact iteT (h1 rfl)
theorem w_addI (g : Q (.int (i + j)) H) : rAddA (.int i) (.int j) H Q := .inl ⟨i, j, rfl, rfl, g⟩
theorem w_addS {a b : Str} (h : a.length + b.length ≤ sizeLine) (g : Q (.str (a ++ b)) H) : rAddA (.str a) (.str b) H Q := .inr (.inl ⟨a, b, rfl, rfl, h, g⟩)
theorem w_addL (h1 : H p = some (.lst xs)) (h2 : H q = some (.lst ys)) (h : xs.length + ys.length ≤ sizeLine) (g : ∀ r, H r = none → Q (.ref r) (upd H r (.lst (xs ++ ys)))) : rAddA (.ref p) (.ref q) H Q :=
  .inr (.inr ⟨p, q, xs, ys, rfl, rfl, h1, h2, h, g⟩)
theorem w_mulI (h : CMul i j) (g : Q (.int (i * j)) H) : rMulA (.int i) (.int j) H Q := .inl ⟨i, j, rfl, rfl, h, g⟩
theorem w_mulL (h1 : H p = some (.lst xs)) (h2 : -(2 ^ 63) ≤ j) (h3 : j < 2 ^ 63) (h : xs.length * j.toNat ≤ sizeLine) (g : ∀ r, H r = none → Q (.ref r) (upd H r (.lst (List.replicate j.toNat xs).flatten))) : rMulA (.ref p) (.int j) H Q :=
  .inr ⟨p, j, xs, rfl, rfl, h1, h2, h3, h, g⟩
theorem w_i0 {f : Int → Int → V} (g : Q (f i j) H) : rI0 f (.int i) (.int j) H Q := ⟨i, j, rfl, rfl, g⟩
theorem w_ic {C : Int → Int → Prop} {f : Int → Int → V} (h : C i j) (g : Q (f i j) H) : rI C f (.int i) (.int j) H Q := ⟨i, j, rfl, rfl, h, g⟩
theorem w_u1 {f : Int → V} (g : Q (f i) H) : rU f (.int i) H Q := ⟨i, rfl, g⟩
theorem dec_I : decide (V.int i = V.int j) = decide (i = j) := by
  rw [Bool.eq_iff_iff]
  simp
theorem dec_S {a b : Str} : decide (V.str a = V.str b) = decide (a = b) := by
  rw [Bool.eq_iff_iff]
  simp
theorem dec_B {a b : Bool} : decide (V.bl a = V.bl b) = decide (a = b) := by
  rw [Bool.eq_iff_iff]
  simp
theorem w_eqI (g : Q (.bl (decide (i = j))) H) : rEqA K (.int i) (.int j) H Q := .inl ⟨rfl, by rw [dec_I]; exact g⟩
theorem w_eqS {a b : Str} (g : Q (.bl (decide (a = b))) H) : rEqA K (.str a) (.str b) H Q := .inl ⟨rfl, by rw [dec_S]; exact g⟩
theorem w_eqB {a b : Bool} (g : Q (.bl (decide (a = b))) H) : rEqA K (.bl a) (.bl b) H Q := .inl ⟨rfl, by rw [dec_B]; exact g⟩
theorem w_neI (g : Q (.bl (!decide (i = j))) H) : rNeA K (.int i) (.int j) H Q := .inl ⟨rfl, by rw [dec_I]; exact g⟩
theorem w_neS {a b : Str} (g : Q (.bl (!decide (a = b))) H) : rNeA K (.str a) (.str b) H Q := .inl ⟨rfl, by rw [dec_S]; exact g⟩
theorem w_neB {a b : Bool} (g : Q (.bl (!decide (a = b))) H) : rNeA K (.bl a) (.bl b) H Q := .inl ⟨rfl, by rw [dec_B]; exact g⟩
theorem w_eqD {d e : PyData} (h1 : Dp K H x d) (h2 : Dp K H y e) (h3 : SeqAt.shaped d = true) (h4 : SeqAt.shaped e = true) (g : Q (.bl (PyData.eqv d e)) H) : rEqA K x y H Q := .inr ⟨d, e, h1, h2, h3, h4, g⟩
theorem w_neD {d e : PyData} (h1 : Dp K H x d) (h2 : Dp K H y e) (h3 : SeqAt.shaped d = true) (h4 : SeqAt.shaped e = true) (g : Q (.bl (!PyData.eqv d e)) H) : rNeA K x y H Q := .inr ⟨d, e, h1, h2, h3, h4, g⟩
theorem w_isN0 (g : Q (.bl true) H) : rIsNA .non .non H Q := ⟨rfl, g⟩
theorem w_isN1 (h : x ≠ .non) (g : Q (.bl false) H) : rIsNA x .non H Q := ⟨rfl, by rw [decide_eq_false h]; exact g⟩
theorem w_notN0 (g : Q (.bl false) H) : rNotNA .non .non H Q := ⟨rfl, g⟩
theorem w_notN1 (h : x ≠ .non) (g : Q (.bl true) H) : rNotNA x .non H Q := ⟨rfl, by rw [decide_eq_false h]; exact g⟩
theorem w_lenL (h : SqL K H p xs) (g : Q (.int (xs.length : Int)) H) : rLenA K [.ref p] H Q := ⟨_, _, rfl, .inl ⟨xs, h, rfl⟩, g⟩
theorem w_lenT (h : SqT K H p xs) (g : Q (.int (xs.length : Int)) H) : rLenA K [.ref p] H Q := ⟨_, _, rfl, .inr ⟨xs, h, rfl⟩, g⟩
theorem w_lenS {a : Str} (h : a.length ≤ sizeLine) (g : Q (.int (a.length : Int)) H) : rLenA K [.str a] H Q := ⟨_, _, rfl, ⟨h, rfl⟩, g⟩
theorem w_listL (h : SqL K H p xs) (g : ∀ l, H l = none → Q (.ref l) (upd H l (.lst xs))) : rListA K [.ref p] H Q := ⟨p, xs, rfl, .inl h, g⟩
theorem w_listT (h : SqT K H p xs) (g : ∀ l, H l = none → Q (.ref l) (upd H l (.lst xs))) : rListA K [.ref p] H Q := ⟨p, xs, rfl, .inr h, g⟩
theorem w_intI (g : Q (.int i) H) : rIntA [.int i] H Q := .inl ⟨i, rfl, g⟩
theorem w_abs (g : Q (.int (if i < 0 then -i else i)) H) : rAbsA [.int i] H Q := ⟨i, rfl, g⟩
theorem w_min2 (g : Q (.int (if j < i then j else i)) H) : rMin2A [.int i, .int j] H Q := ⟨i, j, rfl, g⟩
theorem w_max2 (g : Q (.int (if j > i then j else i)) H) : rMax2A [.int i, .int j] H Q := ⟨i, j, rfl, g⟩
theorem w_ixL (h : SqL K H p xs) (ha : atI xs i = some v) (g : Q v H) : rIx K (.ref p) (.int i) H Q := .inl ⟨p, xs, i, v, rfl, rfl, h, ha, g⟩
theorem w_ixT (h : SqT K H p xs) (ha : atI xs i = some v) (g : Q v H) : rIx K (.ref p) (.int i) H Q := .inr (.inl ⟨p, xs, i, v, rfl, rfl, h, ha, g⟩)
theorem w_ixS {a : Str} {c : Nat} (h : a.length ≤ sizeLine) (ha : atI a.cps.toList i = some c) (g : Q (.str ⟨#[c]⟩) H) : rIx K (.str a) (.int i) H Q := .inr (.inr ⟨a, i, c, rfl, rfl, h, ha, g⟩)
theorem w_setL {R : Hp → Prop} (h : H p = some (.lst xs)) (ha : ixN xs.length i = some n) (g : R (upd H p (.lst (xs.set n v)))) : rSetL (.ref p) (.int i) v H R := ⟨p, xs, i, n, rfl, rfl, h, ha, g⟩
theorem w_app (h : H p = some (.lst xs)) (hl : xs.length < sizeLine) (g : Q .non (upd H p (.lst (xs ++ [v])))) : tyV K "list" (.ref p) H ∧ rAppend (.ref p) [v] H Q := ⟨.inl ⟨rfl, xs, SqL.of h⟩, p, xs, v, rfl, rfl, h, hl, g⟩
theorem w_ty (h : SqL K H p xs) : tyV K "list" (.ref p) H := .inl ⟨rfl, xs, h⟩
theorem w_append (h : H p = some (.lst xs)) (hl : xs.length < sizeLine) (g : Q .non (upd H p (.lst (xs ++ [v])))) : rAppend (.ref p) [v] H Q := ⟨p, xs, v, rfl, rfl, h, hl, g⟩
end
end G

set_option Elab.async false
set_option linter.all false
set_option maxRecDepth 100000
set_option maxHeartbeats 4000000
/-! Loops, comprehensions by words; the head's own facts. -/
namespace G
open PySem PySem.Spec PyProof.Rows L2

/-! ### what a loop wants of its walk J -/
def LoopG (J : It) (g : TG) (tb : TS) (D : Ends) (σ : L2.St) (H1 : Hp) : Prop := ∃ W : Nat → Nat → L2.St → Hp → Prop, (∃ m, W 0 m σ H1) ∧ ∀ i m σ H, W i m σ H →
  (J.stop i H ∧ D.nx σ H) ∨ (J.go i H ∧ ∃ N : L2.St → Hp → Prop, (∀ σ' H', N σ' H' → ∃ m', m' < m ∧ W (i + 1) m' σ' H') ∧ ∀ x H', J.yld i H x H' → g x σ H' fun σ2 H2 => tb { D with nx := N, ct := N, bk := D.nx } σ2 H2)
def CompG (J : It) (g : TG) (tt : TT) (te : TE) (vs : List Nat) (σ : L2.St) (Q : VK) (H1 : Hp) : Prop := ∀ D, H1 D = none → ∃ W : Nat → Nat → Hp → Prop, (∃ m, W 0 m (upd H1 D (.lst []))) ∧ ∀ i m H, W i m H →
  (J.stop i H ∧ Q (.ref D) H) ∨ (J.go i H ∧ ∃ Nx : Hp → Prop, (∀ H', Nx H' → ∃ m', m' < m ∧ W (i + 1) m' H') ∧ ∀ x H', J.yld i H x H' → g x (wipe σ vs) H' fun σ2 H2 => wipe σ2 vs = wipe σ vs ∧ tt σ2 H2 fun b H3 =>
    if b = true then te σ2 H3 fun y H4 => ∃ acc, H4 D = some (.lst acc) ∧ acc.length < sizeLine ∧ Nx (upd H4 D (.lst (acc ++ [y]))) else Nx H3)
section
variable {K : PySem.W.Frag} {σ : L2.St} {H : Hp} {Q : VK} {ta : TA} {te tl : TE} {tt : TT} {D : Ends} {tb : TS} {g : TG} {wi : TI} {j : Nat} {R : It → Hp → Prop} {vs : List Nat}
theorem w_for (h : wi σ H fun J H1 => LoopG J g tb D σ H1) : tFor wi g tb D σ H := h
theorem w_lc (h : wi σ H fun J H1 => CompG J g tt te vs σ Q H1) : tLc wi g tt te vs σ H Q := h
theorem w_iR1 (h : ta σ H fun vs H1 => ∃ j : Int, vs = [.int j] ∧ -(2 ^ 62) ≤ j ∧ j < 2 ^ 62 ∧ R (Itr 0 j.toNat) H1) : iRng1 ta σ H R := h
theorem w_iR2 (h : ta σ H fun vs H1 => ∃ i j : Int, vs = [.int i, .int j] ∧ (-(2 ^ 62) ≤ i ∧ i < 2 ^ 62 ∧ -(2 ^ 62) ≤ j ∧ j < 2 ^ 62) ∧ R (Itr i (j - i).toNat) H1) : iRng2 ta σ H R := h
theorem w_rng1 {n : Int} (h : -(2 ^ 62) ≤ n ∧ n < 2 ^ 62) (g : R (Itr 0 n.toNat) H) : ∃ j : Int, [V.int n] = [.int j] ∧ -(2 ^ 62) ≤ j ∧ j < 2 ^ 62 ∧ R (Itr 0 j.toNat) H := ⟨n, rfl, h.1, h.2, g⟩
theorem w_rng2 {a b : Int} (h : -(2 ^ 62) ≤ a ∧ a < 2 ^ 62 ∧ -(2 ^ 62) ≤ b ∧ b < 2 ^ 62) (g : R (Itr a (b - a).toNat) H) :
    ∃ i j : Int, [V.int a, V.int b] = [.int i, .int j] ∧ (-(2 ^ 62) ≤ i ∧ i < 2 ^ 62 ∧ -(2 ^ 62) ≤ j ∧ j < 2 ^ 62) ∧ R (Itr i (j - i).toNat) H := ⟨a, b, rfl, h, g⟩
theorem w_iL (h : tl σ H fun x H1 => ∃ a, x = .ref a ∧ (∃ xs, SqL K H1 a xs) ∧ R (Itl K a) H1) : iList K tl σ H R := h
theorem w_iT (h : tl σ H fun x H1 => ∃ a, x = .ref a ∧ (∃ xs, SqT K H1 a xs) ∧ R (Itt K a) H1) : iTup K tl σ H R := h
theorem w_lst1 {a : Addr} {xs : List V} (h : SqL K H a xs) (g : R (Itl K a) H) : ∃ b, V.ref a = .ref b ∧ (∃ xs, SqL K H b xs) ∧ R (Itl K b) H := ⟨a, rfl, ⟨xs, h⟩, g⟩
theorem w_tup1 {a : Addr} {xs : List V} (h : SqT K H a xs) (g : R (Itt K a) H) : ∃ b, V.ref a = .ref b ∧ (∃ xs, SqT K H b xs) ∧ R (Itt K b) H := ⟨a, rfl, ⟨xs, h⟩, g⟩
theorem w_iE (h : ta σ H fun vs H1 => ∃ a xs, vs = [.ref a] ∧ SqL K H1 a xs ∧ R (Ite K a) H1) : iEnum K ta σ H R := h
theorem w_iZ (h : ta σ H fun vs H1 => ∃ a b xs ys, vs = [.ref a, .ref b] ∧ SqL K H1 a xs ∧ SqL K H1 b ys ∧ R (Itz K a b) H1) : iZip K ta σ H R := h

/-! ### loops -/
theorem lp_rng {lo : Int} {n : Nat} (Pv : Nat → L2.St → Hp → Prop) (h0 : Pv 0 σ H) (hs : ∀ (i : Nat) σ' H', i < n → Pv i σ' H' → g (.int (lo + (i : Int))) σ' H' fun σ2 H2 => tb { D with nx := Pv (i + 1), ct := Pv (i + 1), bk := D.nx } σ2 H2)
    (hd : ∀ σ' H', Pv n σ' H' → D.nx σ' H') : LoopG (Itr lo n) g tb D σ H := for_range Pv h0 hs hd
theorem lp_rng0 {n : Nat} (Pv : Nat → L2.St → Hp → Prop) (h0 : Pv 0 σ H) (hs : ∀ (i : Nat) σ' H', i < n → Pv i σ' H' → g (.int (i : Int)) σ' H' fun σ2 H2 => tb { D with nx := Pv (i + 1), ct := Pv (i + 1), bk := D.nx } σ2 H2)
    (hd : ∀ σ' H', Pv n σ' H' → D.nx σ' H') : LoopG (Itr 0 n) g tb D σ H := for_range Pv h0 (fun i σ' H' hi p => by rw [Int.zero_add]; exact hs i σ' H' hi p) hd
theorem lp_lst {a : Addr} {xs : List V} (Pv : Nat → L2.St → Hp → Prop) (h0 : Pv 0 σ H) (hl : ∀ i σ' H', i ≤ xs.length → Pv i σ' H' → SqL K H' a xs)
    (hs : ∀ i x σ' H', xs[i]? = some x → Pv i σ' H' → g x σ' H' fun σ2 H2 => tb { D with nx := Pv (i + 1), ct := Pv (i + 1), bk := D.nx } σ2 H2) (hd : ∀ σ' H', Pv xs.length σ' H' → D.nx σ' H') : LoopG (Itl K a) g tb D σ H := for_list Pv h0 hl hs hd
theorem lp_tup {a : Addr} {xs : List V} (Pv : Nat → L2.St → Hp → Prop) (h0 : Pv 0 σ H) (hl : ∀ i σ' H', i ≤ xs.length → Pv i σ' H' → SqT K H' a xs)
    (hs : ∀ i x σ' H', xs[i]? = some x → Pv i σ' H' → g x σ' H' fun σ2 H2 => tb { D with nx := Pv (i + 1), ct := Pv (i + 1), bk := D.nx } σ2 H2) (hd : ∀ σ' H', Pv xs.length σ' H' → D.nx σ' H') : LoopG (Itt K a) g tb D σ H := for_tup Pv h0 hl hs hd
theorem lp_enum {a : Addr} {xs : List V} (Pv : Nat → L2.St → Hp → Prop) (h0 : Pv 0 σ H) (hl : ∀ i σ' H', i ≤ xs.length → Pv i σ' H' → SqL K H' a xs)
    (hs : ∀ (i : Nat) (x : V) (T : Addr) σ' H', xs[i]? = some x → Pv i σ' H' → H' T = none → g (.ref T) σ' (upd H' T (.tup [.int (i : Int), x])) fun σ2 H2 => tb { D with nx := Pv (i + 1), ct := Pv (i + 1), bk := D.nx } σ2 H2)
    (hd : ∀ σ' H', Pv xs.length σ' H' → D.nx σ' H') : LoopG (Ite K a) g tb D σ H := by
  refine ⟨fun i m σ H => m = xs.length - i ∧ i ≤ xs.length ∧ Pv i σ H, ⟨xs.length, by simp, Nat.zero_le _, h0⟩, ?_⟩
  rintro i m σ H ⟨rfl, hi, p⟩
  have q := hl i σ H hi p
  by_cases lt : i < xs.length
  · refine .inr ⟨⟨xs, xs[i], q, by simp [lt]⟩, Pv (i + 1), fun σ' H' p' => ⟨xs.length - (i + 1), by omega, rfl, lt, p'⟩, fun v H' y => ?_⟩
    obtain ⟨T, x, rfl, nT, rfl, hx⟩ := y
    exact hs i x T σ H (hx xs q) p nT
  · have e : i = xs.length := by omega
    subst e
    exact .inl ⟨⟨xs, q, Nat.le_refl _⟩, hd σ H p⟩

/-! ### comprehensions: items i is what stands behind i turns -/
theorem cp_go {J : It} {n : Nat} (items : Nat → List V) (Ok : Hp → Prop) (hz : ∀ i, i < n → (items i).length < sizeLine) (h0 : items 0 = []) (ok0 : ∀ H', Kp [] H H' → Ok H') (hgo : ∀ i H', i < n → Ok H' → J.go i H') (hst : ∀ H', Ok H' → J.stop n H')
    (hs : ∀ (i : Nat) (x : V) (H' H'' : Hp) (S : V → Hp → Prop) (N : Hp → Prop), i < n → Kp [] H H' → J.yld i H' x H'' → (∀ y H4, Kp [] H' H4 → items (i + 1) = items i ++ [y] → S y H4) → (∀ H4, Kp [] H' H4 → items (i + 1) = items i → N H4) →
      g x (wipe σ vs) H'' fun σ2 H2 => wipe σ2 vs = wipe σ vs ∧ tt σ2 H2 fun b H3 => if b = true then te σ2 H3 S else N H3)
    (hd : ∀ D H', H D = none → Kp [] H H' → H' D = some (.lst (items n)) → Q (.ref D) H') : CompG J g tt te vs σ Q H := by
  intro D nD
  refine ⟨fun i m H' => m = n - i ∧ i ≤ n ∧ Kp [] H H' ∧ H' D = some (.lst (items i)), ⟨n, by simp, Nat.zero_le _, Kp.new nD, by rw [h0]; exact upd_same⟩, ?_⟩
  rintro i m H' ⟨rfl, hi, k, e⟩
  by_cases lt : i < n
  · refine .inr ⟨hgo i H' lt (ok0 H' k), fun H'' => Kp [] H H'' ∧ H'' D = some (.lst (items (i + 1))), fun H'' p => ⟨n - (i + 1), by omega, rfl, lt, p.1, p.2⟩, fun x H'' y => ?_⟩
    refine hs i x H' H'' _ _ lt k y (fun y H4 k4 ei => ⟨items i, k4.at0 e, hz i lt, ?_, ?_⟩) (fun H4 k4 ei => ⟨k.trans k4, ?_⟩)
    · exact Kp.mut (k.trans k4) nD
    · rw [ei]
      exact upd_same
    · rw [ei]
      exact k4.at0 e
  · have ei : i = n := by omega
    subst ei
    exact .inl ⟨hst H' (ok0 H' k), hd D H' nD k e⟩
theorem cp_rng {lo : Int} {n : Nat} (items : Nat → List V) (hz : ∀ i, i < n → (items i).length < sizeLine) (h0 : items 0 = [])
    (hs : ∀ (i : Nat) (H' : Hp) (S : V → Hp → Prop) (N : Hp → Prop), i < n → Kp [] H H' → (∀ y H4, Kp [] H' H4 → items (i + 1) = items i ++ [y] → S y H4) → (∀ H4, Kp [] H' H4 → items (i + 1) = items i → N H4) →
      g (.int (lo + (i : Int))) (wipe σ vs) H' fun σ2 H2 => wipe σ2 vs = wipe σ vs ∧ tt σ2 H2 fun b H3 => if b = true then te σ2 H3 S else N H3)
    (hd : ∀ D H', H D = none → Kp [] H H' → H' D = some (.lst (items n)) → Q (.ref D) H') : CompG (Itr lo n) g tt te vs σ Q H :=
  cp_go items (fun _ => True) hz h0 (fun _ _ => trivial) (fun i H' hi _ => hi) (fun H' _ => Nat.le_refl n) (fun i x H' H'' S N hi k y a b => by
    obtain ⟨rfl, rfl⟩ := y
    exact hs i H'' S N hi k a b) hd
theorem cp_lst {a : Addr} {xs : List V} (h : SqL K H a xs) (items : Nat → List V) (hz : ∀ i, i < xs.length → (items i).length < sizeLine) (h0 : items 0 = [])
    (hs : ∀ (i : Nat) (x : V) (H' : Hp) (S : V → Hp → Prop) (N : Hp → Prop), xs[i]? = some x → Kp [] H H' → (∀ y H4, Kp [] H' H4 → items (i + 1) = items i ++ [y] → S y H4) → (∀ H4, Kp [] H' H4 → items (i + 1) = items i → N H4) →
      g x (wipe σ vs) H' fun σ2 H2 => wipe σ2 vs = wipe σ vs ∧ tt σ2 H2 fun b H3 => if b = true then te σ2 H3 S else N H3)
    (hd : ∀ D H', H D = none → Kp [] H H' → H' D = some (.lst (items xs.length)) → Q (.ref D) H') : CompG (Itl K a) g tt te vs σ Q H :=
  cp_go (n := xs.length) items (fun H' => SqL K H' a xs) hz h0 (fun _ k => k.sql (by simp) h) (fun i H' hi q => ⟨xs, xs[i], q, by simp [hi]⟩) (fun H' q => ⟨xs, q, Nat.le_refl _⟩) (fun i x H' H'' S N hi k y a b => by
    obtain ⟨rfl, hx⟩ := y
    exact hs i x H'' S N (hx xs (k.sql (by simp) h)) k a b) hd
theorem cp_tup {a : Addr} {xs : List V} (h : SqT K H a xs) (items : Nat → List V) (hz : ∀ i, i < xs.length → (items i).length < sizeLine) (h0 : items 0 = [])
    (hs : ∀ (i : Nat) (x : V) (H' : Hp) (S : V → Hp → Prop) (N : Hp → Prop), xs[i]? = some x → Kp [] H H' → (∀ y H4, Kp [] H' H4 → items (i + 1) = items i ++ [y] → S y H4) → (∀ H4, Kp [] H' H4 → items (i + 1) = items i → N H4) →
      g x (wipe σ vs) H' fun σ2 H2 => wipe σ2 vs = wipe σ vs ∧ tt σ2 H2 fun b H3 => if b = true then te σ2 H3 S else N H3)
    (hd : ∀ D H', H D = none → Kp [] H H' → H' D = some (.lst (items xs.length)) → Q (.ref D) H') : CompG (Itt K a) g tt te vs σ Q H :=
  cp_go (n := xs.length) items (fun H' => SqT K H' a xs) hz h0 (fun _ k => k.sqt (by simp) h) (fun i H' hi q => ⟨xs, xs[i], q, by simp [hi]⟩) (fun H' q => ⟨xs, q, Nat.le_refl _⟩) (fun i x H' H'' S N hi k y a b => by
    obtain ⟨rfl, hx⟩ := y
    exact hs i x H'' S N (hx xs (k.sqt (by simp) h)) k a b) hd
theorem cp_enum {a : Addr} {xs : List V} (h : SqL K H a xs) (items : Nat → List V) (hz : ∀ i, i < xs.length → (items i).length < sizeLine) (h0 : items 0 = [])
    (hs : ∀ (i : Nat) (x : V) (T : Addr) (H' : Hp) (S : V → Hp → Prop) (N : Hp → Prop), xs[i]? = some x → Kp [] H H' → H' T = none → (∀ y H4, Kp [] H' H4 → items (i + 1) = items i ++ [y] → S y H4) → (∀ H4, Kp [] H' H4 → items (i + 1) = items i → N H4) →
      g (.ref T) (wipe σ vs) (upd H' T (.tup [.int (i : Int), x])) fun σ2 H2 => wipe σ2 vs = wipe σ vs ∧ tt σ2 H2 fun b H3 => if b = true then te σ2 H3 S else N H3)
    (hd : ∀ D H', H D = none → Kp [] H H' → H' D = some (.lst (items xs.length)) → Q (.ref D) H') : CompG (Ite K a) g tt te vs σ Q H :=
  cp_go (n := xs.length) items (fun H' => SqL K H' a xs) hz h0 (fun _ k => k.sql (by simp) h) (fun i H' hi q => ⟨xs, xs[i], q, by simp [hi]⟩) (fun H' q => ⟨xs, q, Nat.le_refl _⟩) (fun i v H' H'' S N hi k y a b => by
    obtain ⟨T, x, rfl, nT, rfl, hx⟩ := y
    exact hs i x T H' S N (hx xs (k.sql (by simp) h)) k nT a b) hd
end

/-! ### the head's facts: any tests of the written part -/
abbrev Chk := PySem.W.Frag → Bool
def obsX (fa : List Chk) (fn : List He.DefD) (K : PySem.W.Frag) : He.AlD := ((fa.all fun f => f K) && fn.all fun d => d.ok K, fn.map fun d => He.fnW K d.at_)
def SaysX (fa : List Chk) (fn : List He.DefD) (K : PySem.W.Frag) : Prop := obsX fa fn K = He.valD fn
def obsXG (n : Nat) (fa : List Chk) (fn : List He.DefD) (g : Addr → Option Obj) : He.AlD := obsX fa fn (He.frG g (He.asD g n ++ [cStatics]))
def hookX (n : Nat) (fa : List Chk) (fn : List He.DefD) : PySem.W.Hook where
  α := He.AlD
  obs := fun s => obsXG n fa fn s.heap.get?
  val := fun _ => He.valD fn
  says := fun _ h => ∃ K : PySem.W.Frag, K.In h ∧ SaysX fa fn K
  of := fun _ _ e => ⟨_, He.frG_in, e⟩
  keeps := fun _ _ _ ⟨K, hK, c⟩ k => ⟨K, PySem.W.Frag.In.keeps hK k, c⟩
theorem obsXG_eq {n : Nat} {fa : List Chk} {fn : List He.DefD} {g : Addr → Option Obj} {s : Shared} (h : ∀ a, g a = s.heap.get? a) : obsXG n fa fn g = (hookX n fa fn).obs s := by
  have e : g = s.heap.get? := funext h
  rw [e] <;> rfl
section
variable {fa : List Chk} {fn : List He.DefD} {K : PySem.W.Frag}
theorem SaysX.fact (c : SaysX fa fn K) (i : Nat) {f : Chk} (h : fa[i]? = some f := by rfl) : f K = true := by
  have c1 := (He.ba (show ((fa.all fun f => f K) && fn.all fun d => d.ok K) = true from congrArg (fun z : He.AlD => z.1) c)).1
  exact List.all_eq_true.mp c1 f (List.mem_of_getElem? h)
theorem SaysX.def_ (c : SaysX fa fn K) (i : Nat) {d : He.DefD} (h : fn[i]? = some d := by rfl) : ∃ fd, FunD K d.name d.qual d.params d.body d.scope (d.dvs K) (d.kws K) (He.fAd K d.at_) fd := by
  have c2 := (He.ba (show ((fa.all fun f => f K) && fn.all fun d => d.ok K) = true from congrArg (fun z : He.AlD => z.1) c)).2
  have e : fn.map (fun d => He.fnW K d.at_) = fn.map He.DefD.val := congrArg (fun z : He.AlD => z.2) c
  have e2 : (fn.map fun d => He.fnW K d.at_)[i]? = (fn.map He.DefD.val)[i]? := by rw [e]
  rw [List.getElem?_map, List.getElem?_map, h] at e2
  exact He.DefD.funD (Option.some.inj e2) (List.all_eq_true.mp c2 d (List.mem_of_getElem? h))
/-- a plain fact of He -/
abbrev fa_ (f : He.Fa) : Chk := fun K => f.ok K
/-- a class of errors, as it is made -/
def oexB (C : Addr) (K : PySem.W.Frag) : Bool := match K.lookup C with
  | some ⟨.type "type", _, .cls cd, sl⟩ => (match cd.mro, sl.toList with
    | .ref C1 :: bm, [_, _, _, _, some (.builtin n), _] => C1 == C && n == "ValueError.__new__" && !cd.hasDel && cd.hasDict && PySem.HandSPX.refsVE bm
    | _, _ => false)
  | _ => false
theorem oexB_ok {C : Addr} (q : oexB C K = true) : ∃ nm qn N bs bm sn sub ab col dd k0 k1 k2 k3 k5, K.lookup C = some (excClassObj nm qn C N bs bm true sn sub ab col dd k0 k1 k2 k3 k5 "ValueError.__new__") ∧ PySem.HandSPX.refsVE bm = true := by
  unfold oexB at q
  split at q
  · rename_i dd cd sl ho
    split at q
    · rename_i C1 bm k0 k1 k2 k3 n k5 hm hs
      simp only [Bool.and_eq_true, beq_iff_eq, Bool.not_eq_true'] at q
      obtain ⟨⟨⟨⟨rfl, rfl⟩, del⟩, hd⟩, hr⟩ := q
      obtain ⟨nm, bs, mro, ns, qn, hdd, sn, sub, ab, col, dl⟩ := cd
      dsimp only at hm del hd
      subst hm del hd
      have es : sl = #[k0, k1, k2, k3, some (.builtin "ValueError.__new__"), k5] := by
        obtain ⟨l⟩ := sl
        exact congrArg Array.mk hs
      subst es
      exact ⟨nm, qn, ns, bs, bm, sn, sub, ab, col, dd, k0, k1, k2, k3, k5, ho, hr⟩
    · cases q
  · cases q
def eqT (a b : Option Bool) : Bool := decide (a = b)
/-- all that an own class of errors C with the fields fs is asked -/
def excB (x : Str) (fs : List Str) (K : PySem.W.Frag) : Bool := oexB (He.ga K x) K && (He.eqO (PySem.W.findIn K (.ref (He.ga K x)) "__setattr__") (some (some (.builtin "object.__setattr__"))) &&
  (eqT (PySem.W.subIn K (.ref (He.ga K x)) (.type "BaseException")) (some true) && (decide (PySem.W.typeIn K (.ref (He.ga K x)) = some (.type "type")) && (PySem.W.keepIn K (.ref (He.ga K x)) &&
  (fs.all fun f => He.eqO (PySem.W.findIn K (.ref (He.ga K x)) f) (some none))))))
/-- .. and its instances are asked -/
def askB (x : Str) (K : PySem.W.Frag) : Bool := (PySem.W.clsIn K (He.ga K x)).isSome && (He.eqO (PySem.W.findIn K (.ref (He.ga K x)) "__getattribute__") (some (some (.builtin "BaseException.__getattribute__"))) &&
  (He.eqO (PySem.W.findIn K (.ref (He.ga K x)) "__getattr__") (some none) && (eqT (PySem.W.subIn K (.ref (He.ga K x)) (.type "BaseException")) (some true) && (PySem.W.hasDictIn K (He.ga K x) &&
  (He.eqO (PySem.W.findIn K (.ref (He.ga K x)) "__class__") (some (some (.builtin "object.__class__"))) && (He.eqO (PySem.W.specialIn K (.builtin "object.__class__") "__get__") (some (some (.builtin "getset_descriptor.__get__"))) &&
  (eqT (PySem.W.takesIn K (.builtin "object.__class__")) (some true) && eqT (PySem.W.mroIn K (He.ga K x) (.type "object")) (some true))))))))
theorem excB_ok {x : Str} {fs : List Str} (q : excB x fs K = true) : OexC K (He.ga K x) ∧ ∀ f ∈ fs, PySem.W.findIn K (.ref (He.ga K x)) f = some none := by
  obtain ⟨q1, q⟩ := He.ba q
  obtain ⟨q2, q⟩ := He.ba q
  obtain ⟨q3, q⟩ := He.ba q
  obtain ⟨q4, q⟩ := He.ba q
  obtain ⟨q5, q6⟩ := He.ba q
  exact ⟨⟨oexB_ok q1, He.eqO_ok q2, of_decide_eq_true q3, of_decide_eq_true q4, q5⟩, fun f hf => He.eqO_ok (List.all_eq_true.mp q6 f hf)⟩
theorem askB_ok {x : Str} (q : askB x K = true) : ExK K (He.ga K x) := by
  obtain ⟨q1, q⟩ := He.ba q
  obtain ⟨q2, q⟩ := He.ba q
  obtain ⟨q3, q⟩ := He.ba q
  obtain ⟨q4, q⟩ := He.ba q
  obtain ⟨q5, q⟩ := He.ba q
  obtain ⟨q6, q⟩ := He.ba q
  obtain ⟨q7, q⟩ := He.ba q
  obtain ⟨q8, q9⟩ := He.ba q
  exact ⟨q1, He.eqO_ok q2, He.eqO_ok q3, of_decide_eq_true q4, q5, He.eqO_ok q6, He.eqO_ok q7, of_decide_eq_true q8, of_decide_eq_true q9⟩
/-- isinstance of an instance of x by the class y, by a built-in one -/
def kitB2 (x y : Str) (b : Bool) (K : PySem.W.Frag) : Bool := eqT (PySem.W.kitOne K (.ref (He.ga K x)) (.ref (He.ga K y))) (some b)
def kitT2 (x : Str) (y : String) (b : Bool) (K : PySem.W.Frag) : Bool := eqT (PySem.W.kitOne K (.ref (He.ga K x)) (.type y)) (some b)
/-- except y takes an x -/
def exmB (x y : Str) (b : Bool) (K : PySem.W.Frag) : Bool := eqT (PySem.W.exmOne K (.ref (He.ga K x)) (.ref (He.ga K y))) (some b)
/-- the __init__ that is found, a function -/
def iniB (x : Str) (K : PySem.W.Frag) : Bool := He.eqO (PySem.W.findIn K (.ref (He.ga K x)) "__init__") (some (some (.ref (He.ma K (He.ga K x) "__init__")))) && decide (PySem.W.typeIn K (.ref (He.ma K (He.ga K x) "__init__")) = some (.type "function"))
theorem iniB_ok {x : Str} (q : iniB x K = true) : PySem.W.findIn K (.ref (He.ga K x)) "__init__" = some (some (.ref (He.ma K (He.ga K x) "__init__"))) ∧ PySem.W.typeIn K (.ref (He.ma K (He.ga K x) "__init__")) = some (.type "function") := by
  obtain ⟨q1, q2⟩ := He.ba q
  exact ⟨He.eqO_ok q1, of_decide_eq_true q2⟩
end
end G

set_option Elab.async false
set_option linter.all false
set_option maxRecDepth 100000
set_option maxHeartbeats 4000000
/-! Constants of a class; truth; two things more. -/
namespace G
open PySem PySem.Spec PyProof.Rows L2
section
variable {X : Cx} {C : Addr} {mc u : Value} {v : V} {e : Expr} {f : Str} {pos : Pos} {ta : TE}
theorem pe_cc (k : ∃ mc u, ClX.CRead X.K C mc ∧ ClX.CVal X.K C mc f v u) (he : PE X e (tC (.ref C))) (hb : attributeBase e f X.env (eval e X.env) = eval e X.env := by rfl) : PE X (.Attribute e f pos) (tC v) := by
  obtain ⟨mc, u, r, k⟩ := k
  exact ⟨fun pins s σ H Q I h => (ClX.pe_cval he hb).run pins s σ H Q I ⟨C, mc, v, u, rfl, r, k, h⟩⟩
def tTr (K : PySem.W.Frag) (ta : TE) : TT := fun σ H Q => ta σ H fun x H' => ∃ k, TruV K x H' k ∧ Q k H'
theorem pt_tr (ha : PE X e ta) (he : ∀ whole, isTrue e X.env whole = (do let v ← whole; standAt e.pos; holding [v] (truthy v))) : PT X e (tTr X.K ta) := pt_truth ha he
end
/-- x.f is the whole number i -/
def ccB (x f : Str) (i : Int) (K : PySem.W.Frag) : Bool := PySem.W.readsIn K (He.ga K x) (.type "type") && (He.eqO (PySem.W.specialIn K (.ref (He.ga K x)) "__getattribute__") (some (some (.builtin "type.__getattribute__"))) &&
  (match PySem.W.findCls K (.ref (He.ga K x)) (.type "type") f with
  | some (.val (.int j _)) => decide (j = i)
  | _ => false))
theorem ccB_ok {K : PySem.W.Frag} {x f : Str} {i : Int} (q : ccB x f i K = true) : ∃ mc u, ClX.CRead K (He.ga K x) mc ∧ ClX.CVal K (He.ga K x) mc f (.int i) u := by
  obtain ⟨q1, q⟩ := He.ba q
  obtain ⟨q2, q3⟩ := He.ba q
  have q4 : (match PySem.W.findCls K (.ref (He.ga K x)) (.type "type") f with
    | some (.val (.int j _)) => decide (j = i)
    | _ => false) = true := q3
  split at q4
  · rename_i j t e
    have ej : j = i := of_decide_eq_true q4
    subst ej
    exact ⟨.type "type", .int j t, ⟨q1, He.eqO_ok q2⟩, ⟨e, t, rfl⟩⟩
  · cases q4
/-- a fact's list is looked up -/
theorem glf_ok {K : PySem.W.Frag} {h : Heap} {mg : Str → Option Value} {x : Str} (X : K.In h) (G : h.Ns mainGlobals mg) (c : (He.Fa.glo x).ok K = true) : mg x = some (.ref (He.ga K x)) := He.glo_ok X G c
end G
namespace G
open PySem PySem.Spec PyProof.Rows L2
/-- a built-in class as a value -/
theorem pe_ty {X : Cx} {x : Str} (n : String) {pos : Pos} (hm : X.mg x = none) (hv : bootBuiltins x = some (.type n)) (hg : Gl X x := by rfl) (hn : x ≠ "__name__" := by decide) (hd : (x == ("__debug__" : Str)) = false := by decide) : PE X (.Name x pos) (tC (.ty n)) :=
  pe_bltn hg hm hv rfl hn hd
/-- an own class as a value -/
theorem pe_own {X : Cx} {x : Str} {C : Addr} {pos : Pos} (hm : X.mg x = some (.ref C)) (hg : Gl X x := by rfl) (hd : (x == ("__debug__" : Str)) = false := by decide) : PE X (.Name x pos) (tC (.ref C)) := pe_glob hg hm rfl hd
end G
namespace G
open PySem PySem.Spec PyProof.Rows L2
/-- a def of the text where an exception is handled -/
theorem okH {P : Program} {w : World} {K : PySem.W.Frag} {mg : Str → Option Value} {base : Heap} {CX : CXT} {x qual : Str} {params : Arguments} {body : List Stmt} {scope : Scope} {dvs : List V} {kws : List (Str × V)} {f : Addr} {fd : FuncData} {N ps : List Str} {k : Nat} {sp : Sp}
    (F : FunD K x qual params body scope dvs kws f fd) (S : FnScope N ps scope) (len : ∀ vs H Q E, sp vs H Q E → vs.length = ps.length)
    (hb : ∀ (cdv : Value) (A : Around) (outer : List Env) (s : Shared) (H : Hp) (vs : List V) (Q : VK) (E : XK) (p : Addr × Obj), L2H.Hot1 A p → L2H.RoomH k (A.deeper (envOfC qual scope s.heap.objs.size f cdv)) → sp vs H Q E →
      ∃ t, PSs (L2H.cxH CX P w K mg base N qual scope f cdv A outer s H E p) body t ∧ t { nx := fun _ H' => Q .non H', rt := Q } (start N vs) H) : L2H.FnH P w K mg base CX (k + 1) f fd ps sp := by
  obtain ⟨oc, od, dV, kV, doc, pm, an, cdv, ct, osl, rfl, lk, hcd, _, _⟩ := F.ex
  exact L2H.fn_ofH lk hcd S len fun A outer s H vs Q E p h1 h2 h3 => hb cdv A outer s H vs Q E p h1 h2 h3
/-- a def called there -/
theorem hotC {CX : CXT} {P : Program} {w : World} {K : PySem.W.Frag} {mg : Str → Option Value} {base : Heap} {N : List Str} {qual : Str} {scope : Scope} {f : Addr} {cd : Value} {A : Around} {outer : List Env} {s : Shared} {H : Hp} {E : XK} {p : Addr × Obj} (h : L2H.Hot1 A p) :
    L2H.HotC (L2H.cxH CX P w K mg base N qual scope f cd A outer s H E p) := ⟨p, h, List.mem_cons_self⟩
end G
namespace G
open PySem PySem.Spec PyProof.Rows L2
/-- what lets nothing out -/
theorem noX {P : Program} {w : World} {K : PySem.W.Frag} {mg : Str → Option Value} {base : Heap} {k : Nat} {f : Addr} {fd : FuncData} {ps : List Str} {sp : Sp} (F : FnOk P w K mg base (L2N.CX P w) k f fd ps sp) :
    FnOk P w K mg base L2.CX0 k f fd ps (fun vs H Q _ => sp vs H Q L2.E0) := by
  refine ⟨fun vs H Q E h => F.len vs H Q _ h, fun A outer s H args us vs Q E hr e0 hb r h => codeAny_mono (F.run A outer s H args us vs Q _ hr e0 hb r h) fun rs s2 q => ?_⟩
  cases rs with
  | error e =>
    obtain ⟨_, _, _, _, _, _, _, _, _, _, _, _, z⟩ := q
    exact z.elim
  | ok fl => cases fl <;> exact q
end G

set_option Elab.async false
set_option linter.all false
set_option maxRecDepth 100000
set_option maxHeartbeats 4000000
/-! Standings as plain lists, and what operations do to them. -/
namespace G
open PySem PySem.Spec PyProof.Rows L2

/-! ### lists by place -/
def gI (l : List Int) (i : Nat) : Int := l.getD i 0
def gB (l : List Bool) (i : Nat) : Bool := l.getD i false
theorem gI_at {l : List Int} {i : Nat} (h : i < l.length) : l[i]? = some (gI l i) := by
  unfold gI
  rw [List.getElem?_eq_getElem h, List.getD_eq_getElem?_getD, List.getElem?_eq_getElem h] <;> rfl
theorem gB_at {l : List Bool} {i : Nat} (h : i < l.length) : l[i]? = some (gB l i) := by
  unfold gB
  rw [List.getElem?_eq_getElem h, List.getD_eq_getElem?_getD, List.getElem?_eq_getElem h] <;> rfl
theorem gI_of {l : List Int} {i : Nat} {v : Int} (h : l[i]? = some v) : gI l i = v := by
  unfold gI
  rw [List.getD_eq_getElem?_getD, h] <;> rfl
theorem gB_of {l : List Bool} {i : Nat} {v : Bool} (h : l[i]? = some v) : gB l i = v := by
  unfold gB
  rw [List.getD_eq_getElem?_getD, h] <;> rfl
theorem gI_set {l : List Int} {i j : Nat} {v : Int} (h : i < l.length) : gI (l.set i v) j = if j = i then v else gI l j := by
  unfold gI
  rw [List.getD_eq_getElem?_getD, List.getD_eq_getElem?_getD]
  by_cases e : j = i
  · rw [if_pos e, e, List.getElem?_set_self h] <;> rfl
  · rw [if_neg e, List.getElem?_set_ne (Ne.symm e)]
theorem gB_set {l : List Bool} {i j : Nat} {v : Bool} (h : i < l.length) : gB (l.set i v) j = if j = i then v else gB l j := by
  unfold gB
  rw [List.getD_eq_getElem?_getD, List.getD_eq_getElem?_getD]
  by_cases e : j = i
  · rw [if_pos e, e, List.getElem?_set_self h] <;> rfl
  · rw [if_neg e, List.getElem?_set_ne (Ne.symm e)]
theorem atI_pos {α : Type} {l : List α} {i : Int} (h0 : 0 ≤ i) (h1 : i < (l.length : Int)) : atI l i = l[i.toNat]? := by
  unfold atI ixN
  rw [if_pos h0, if_pos h1] <;> rfl
theorem ixN_pos {n : Nat} {i : Int} (h0 : 0 ≤ i) (h1 : i < (n : Int)) : ixN n i = some i.toNat := by
  unfold ixN
  rw [if_pos h0, if_pos h1]
theorem at_I {l : List Int} {i : Int} (h0 : 0 ≤ i) (h1 : i < (l.length : Int)) : atI (l.map V.int) i = some (.int (gI l i.toNat)) := by
  rw [atI_pos h0 (by rw [List.length_map]; exact h1), List.getElem?_map, gI_at (by omega)] <;> rfl
theorem at_B {l : List Bool} {i : Int} (h0 : 0 ≤ i) (h1 : i < (l.length : Int)) : atI (l.map V.bl) i = some (.bl (gB l i.toNat)) := by
  rw [atI_pos h0 (by rw [List.length_map]; exact h1), List.getElem?_map, gB_at (by omega)] <;> rfl
theorem at_last {α : Type} {l : List α} {x : α} (h : l.getLast? = some x) : atI l (-1) = some x := by
  have hne : l ≠ [] := by
    intro e
    rw [e] at h
    cases h
  have hl : 0 < l.length := List.length_pos_iff.mpr hne
  unfold atI ixN
  rw [if_neg (by decide), if_pos (by omega)]
  show l[(-1 + (l.length : Int)).toNat]? = some x
  rw [show (-1 + (l.length : Int)).toNat = l.length - 1 by omega, ← List.getLast?_eq_getElem?]
  exact h
theorem set_I {l : List Int} {k : Nat} {v : Int} : (l.map V.int).set k (V.int v) = (l.set k v).map V.int := by rw [List.map_set]
theorem set_B {l : List Bool} {k : Nat} {v : Bool} : (l.map V.bl).set k (V.bl v) = (l.set k v).map V.bl := by rw [List.map_set]
theorem sz_ok {n : Nat} (h : n ≤ 1000000) : n ≤ sizeLine := by
  rw [sizeLine_eq]
  omega
theorem sz_lt {n : Nat} (h : n < 1000000) : n < sizeLine := by
  rw [sizeLine_eq]
  omega
theorem map_inj_I : ∀ {a b : List Int}, a.map V.int = b.map V.int → a = b
  | [], [], _ => rfl
  | [], _ :: _, h => by cases h
  | _ :: _, [], h => by cases h
  | x :: a, y :: b, h => by
    have h' : V.int x :: a.map V.int = V.int y :: b.map V.int := h
    injection h' with h1 h2
    injection h1 with h1
    rw [h1, map_inj_I h2]

/-! ### standings -/
structure Sd where
  n : Nat
  R : List Int
  L : List Int
  O : List Bool
structure Wf (s : Sd) : Prop where
  n60 : s.n ≤ 60
  lR : s.R.length = s.n + 1
  lL : s.L.length = s.n + 2
  lO : s.O.length = s.n + 2
  rb : ∀ v : Nat, v ≤ s.n → (v : Int) < gI s.R v ∧ gI s.R v ≤ (s.n : Int) + 1
  lb : ∀ v : Nat, 1 ≤ v → v ≤ s.n + 1 → 0 ≤ gI s.L v ∧ gI s.L v < (v : Int)
def stepS (s : Sd) (op : Int) : Sd :=
  let x := op.natAbs
  let l := (gI s.L x).toNat
  let r := (gI s.R x).toNat
  ⟨s.n, s.R.set l (if op < 0 then gI s.R x else (x : Int)), s.L.set r (if op < 0 then gI s.L x else (x : Int)), s.O.set x (decide (op < 0))⟩
/-- an operation for the size; a legal one -/
def IsOp (n : Nat) (op : Int) : Prop := 1 ≤ op.natAbs ∧ op.natAbs ≤ n
def OkOp (s : Sd) (op : Int) : Prop := IsOp s.n op ∧ gB s.O op.natAbs = decide (0 < op)
instance (n : Nat) (op : Int) : Decidable (IsOp n op) := by unfold IsOp; infer_instance
instance (s : Sd) (op : Int) : Decidable (OkOp s op) := by unfold OkOp; infer_instance
theorem Wf.step {s : Sd} (w : Wf s) {op : Int} (h : IsOp s.n op) : Wf (stepS s op) := by
  obtain ⟨h1, h2⟩ := h
  obtain ⟨r1, r2⟩ := w.rb op.natAbs (by omega)
  obtain ⟨l1, l2⟩ := w.lb op.natAbs h1 (by omega)
  have e1 : (gI s.L op.natAbs).toNat < s.R.length := by rw [w.lR]; omega
  have e2 : (gI s.R op.natAbs).toNat < s.L.length := by rw [w.lL]; omega
  refine ⟨w.n60, ?_, ?_, ?_, fun v hv => ?_, fun v hv hv2 => ?_⟩
  · show (s.R.set _ _).length = _
    rw [List.length_set]
    exact w.lR
  · show (s.L.set _ _).length = _
    rw [List.length_set]
    exact w.lL
  · show (s.O.set _ _).length = _
    rw [List.length_set]
    exact w.lO
  · show (v : Int) < gI (s.R.set _ _) v ∧ gI (s.R.set _ _) v ≤ (s.n : Int) + 1
    rw [gI_set e1]
    by_cases e : v = (gI s.L op.natAbs).toNat
    · rw [if_pos e]
      by_cases o : op < 0
      · rw [if_pos o]
        omega
      · rw [if_neg o]
        omega
    · rw [if_neg e]
      exact w.rb v hv
  · show 0 ≤ gI (s.L.set _ _) v ∧ gI (s.L.set _ _) v < (v : Int)
    rw [gI_set e2]
    by_cases e : v = (gI s.R op.natAbs).toNat
    · rw [if_pos e]
      by_cases o : op < 0
      · rw [if_pos o]
        omega
      · rw [if_neg o]
        omega
    · rw [if_neg e]
      exact w.lb v hv hv2
/-- its own links stay -/
theorem step_R {s : Sd} (w : Wf s) {op : Int} (h : IsOp s.n op) : gI (stepS s op).R op.natAbs = gI s.R op.natAbs := by
  obtain ⟨l1, l2⟩ := w.lb op.natAbs h.1 (by have := h.2; omega)
  show gI (s.R.set _ _) _ = _
  rw [gI_set (by rw [w.lR]; have := h.2; omega), if_neg (by omega)]
theorem step_L {s : Sd} (w : Wf s) {op : Int} (h : IsOp s.n op) : gI (stepS s op).L op.natAbs = gI s.L op.natAbs := by
  obtain ⟨l1, l2⟩ := w.rb op.natAbs (by have := h.2; omega)
  show gI (s.L.set _ _) _ = _
  rw [gI_set (by rw [w.lL]; omega), if_neg (by omega)]
/-- a, a + 1, .. n of them -/
def rgI (a : Int) (n : Nat) : List Int := (List.range n).map fun (i : Nat) => a + (i : Int)
theorem rgI_len (a : Int) (n : Nat) : (rgI a n).length = n := by simp [rgI]
def wholeS (n : Nat) : Sd := ⟨n, rgI 1 (n + 1), 0 :: rgI 0 (n + 1), List.replicate (n + 2) false⟩
theorem gI_range {n i : Nat} {a : Int} (h : i < n) : gI (rgI a n) i = a + (i : Int) := by
  refine gI_of ?_
  unfold rgI
  rw [List.getElem?_map, List.getElem?_range h] <;> rfl
theorem Wf.whole {n : Nat} (h : n ≤ 60) : Wf (wholeS n) := by
  refine ⟨h, rgI_len _ _, congrArg Nat.succ (rgI_len _ _), List.length_replicate, fun v hv => ?_, fun v h1 h2 => ?_⟩
  · show (v : Int) < gI (rgI 1 (n + 1)) v ∧ gI (rgI 1 (n + 1)) v ≤ (n : Int) + 1
    have hv' : v ≤ n := hv
    rw [gI_range (by omega)]
    omega
  · show 0 ≤ gI (0 :: rgI 0 (n + 1)) v ∧ gI (0 :: rgI 0 (n + 1)) v < (v : Int)
    have h2' : v ≤ n + 1 := h2
    obtain ⟨u, rfl⟩ : ∃ u, v = u + 1 := ⟨v - 1, by omega⟩
    have e : gI (0 :: rgI 0 (n + 1)) (u + 1) = gI (rgI 0 (n + 1)) u := rfl
    rw [e, gI_range (by omega)]
    omega
theorem snoc_ind {α : Type} {P : List α → Prop} (h0 : P []) (h1 : ∀ l x, P l → P (l ++ [x])) (l : List α) : P l := by
  have key : ∀ r : List α, P r.reverse := by
    intro r
    induction r with
    | nil => exact h0
    | cons x r ih =>
      rw [List.reverse_cons]
      exact h1 _ _ ih
  have e := key l.reverse
  rwa [List.reverse_reverse] at e
def runS (s : Sd) (log : List Int) : Sd := log.foldl stepS s
theorem runS_snoc (s : Sd) (log : List Int) (op : Int) : runS s (log ++ [op]) = stepS (runS s log) op := by
  unfold runS
  rw [List.foldl_append] <;> rfl
theorem stepS_n (s : Sd) (op : Int) : (stepS s op).n = s.n := rfl
theorem runS_n (s : Sd) : ∀ log : List Int, (runS s log).n = s.n := by
  intro log
  induction log using snoc_ind with
  | h0 => rfl
  | h1 l x ih => rw [runS_snoc]; exact ih
/-- every operation is legal in turn -/
def Leg (s : Sd) (log : List Int) : Prop := ∀ i op, log[i]? = some op → OkOp (runS s (log.take i)) op
theorem Leg.snoc {s : Sd} {log : List Int} {op : Int} (h : Leg s log) (o : OkOp (runS s log) op) : Leg s (log ++ [op]) := by
  intro i p hp
  by_cases hi : i < log.length
  · rw [List.getElem?_append_left hi] at hp
    rw [List.take_append_of_le_length (by omega)]
    exact h i p hp
  · rw [List.getElem?_append_right (by omega)] at hp
    have e : i = log.length := by
      have := (List.getElem?_eq_some_iff.mp hp).1
      simp at this
      omega
    subst e
    have : p = op := by simpa using hp.symm
    subst this
    rw [List.take_left']
    · exact o
    · rfl
theorem Leg.take {s : Sd} {log : List Int} (h : Leg s log) (k : Nat) : Leg s (log.take k) := by
  intro i op hp
  have hi : i < (log.take k).length := (List.getElem?_eq_some_iff.mp hp).1
  rw [List.length_take] at hi
  rw [List.getElem?_take_of_lt (by omega)] at hp
  rw [List.take_take, Nat.min_eq_left (by omega)]
  exact h i op hp
theorem Leg.wf {s : Sd} (w : Wf s) : ∀ {log : List Int}, Leg s log → Wf (runS s log) := by
  intro log
  induction log using snoc_ind with
  | h0 => exact fun _ => w
  | h1 l x ih =>
    intro h
    have h1 : Leg s l := by
      have := h.take l.length
      rwa [List.take_left' rfl] at this
    have h2 := h l.length x (by simp)
    rw [List.take_left' rfl] at h2
    rw [runS_snoc]
    exact (ih h1).step h2.1
end G

set_option Elab.async false
set_option linter.all false
set_option maxRecDepth 100000
set_option maxHeartbeats 4000000
/-! What the program's own defs promise: standings, logs, gaps. -/
namespace G
open PySem PySem.Spec PyProof.Rows L2

/-! ### a standing in the heap -/
def fl (n r l o : V) : List (Str × V) := putF "_out" o (putF "_lefts" l (putF "_rights" r (putF "size" n [])))
theorem n1 : ¬ (("size" : Str) = "_rights") := by decide +kernel
theorem n2 : ¬ (("size" : Str) = "_lefts") := by decide +kernel
theorem n3 : ¬ (("size" : Str) = "_out") := by decide +kernel
theorem n4 : ¬ (("_rights" : Str) = "_lefts") := by decide +kernel
theorem n5 : ¬ (("_rights" : Str) = "_out") := by decide +kernel
theorem n6 : ¬ (("_lefts" : Str) = "_out") := by decide +kernel
theorem fl_size (n r l o : V) : (fl n r l o).lookup ("size" : Str) = some n := by
  unfold fl
  rw [lookup_putF, if_neg n3, lookup_putF, if_neg n2, lookup_putF, if_neg n1, lookup_putF, if_pos rfl]
theorem fl_R (n r l o : V) : (fl n r l o).lookup ("_rights" : Str) = some r := by
  unfold fl
  rw [lookup_putF, if_neg n5, lookup_putF, if_neg n4, lookup_putF, if_pos rfl]
theorem fl_L (n r l o : V) : (fl n r l o).lookup ("_lefts" : Str) = some l := by
  unfold fl
  rw [lookup_putF, if_neg n6, lookup_putF, if_pos rfl]
theorem fl_O (n r l o : V) : (fl n r l o).lookup ("_out" : Str) = some o := by
  unfold fl
  rw [lookup_putF, if_pos rfl]
theorem fl_no {m : Str} (n r l o : V) (h1 : ¬ m = "size") (h2 : ¬ m = "_rights") (h3 : ¬ m = "_lefts") (h4 : ¬ m = "_out") : (fl n r l o).lookup m = none := by
  unfold fl
  rw [lookup_putF, if_neg h4, lookup_putF, if_neg h3, lookup_putF, if_neg h2, lookup_putF, if_neg h1]
  rfl
theorem fl_eq (n r l o : V) : fl n r l o = [(("size" : Str), n), ("_rights", r), ("_lefts", l), ("_out", o)] := by
  unfold fl
  simp only [putF, if_neg n1, if_neg n2, if_neg n3, if_neg n4, if_neg n5, if_neg n6]
theorem fl_len (n r l o : V) : (fl n r l o).length < 1000 := by
  rw [fl_eq]
  show 4 < 1000
  decide
theorem fl_putR (n r l o r2 : V) : putF "_rights" r2 (fl n r l o) = fl n r2 l o := by
  rw [fl_eq, fl_eq]
  simp only [putF]
  rw [if_neg n1, if_pos trivial]
theorem fl_putL (n r l o l2 : V) : putF "_lefts" l2 (fl n r l o) = fl n r l2 o := by
  rw [fl_eq, fl_eq]
  simp only [putF]
  rw [if_neg n2, if_neg n4, if_pos trivial]
theorem fl_putO (n r l o o2 : V) : putF "_out" o2 (fl n r l o) = fl n r l o2 := by
  rw [fl_eq, fl_eq]
  simp only [putF]
  rw [if_neg n3, if_neg n5, if_neg n6, if_pos trivial]
structure LinksAt (K : PySem.W.Frag) (H : Hp) (p r l o : Addr) (s : Sd) : Prop where
  ob : ∃ dx, H p = some (.ins (He.ga K "Links") dx (fl (.int s.n) (.ref r) (.ref l) (.ref o)))
  hr : H r = some (.lst (s.R.map V.int))
  hl : H l = some (.lst (s.L.map V.int))
  ho : H o = some (.lst (s.O.map V.bl))
  rl : r ≠ l
  ro : r ≠ o
  lo : l ≠ o
  wf : Wf s
theorem LinksAt.pr {K : PySem.W.Frag} {H : Hp} {p r l o : Addr} {s : Sd} (a : LinksAt K H p r l o s) : p ≠ r ∧ p ≠ l ∧ p ≠ o := by
  obtain ⟨dx, h⟩ := a.ob
  exact ⟨ne_of h a.hr (by intro z; cases z), ne_of h a.hl (by intro z; cases z), ne_of h a.ho (by intro z; cases z)⟩
theorem LinksAt.kp {K : PySem.W.Frag} {H H' : Hp} {p r l o : Addr} {s : Sd} {S : List Addr} (a : LinksAt K H p r l o s) (k : Kp S H H') (h1 : p ∉ S) (h2 : r ∉ S) (h3 : l ∉ S) (h4 : o ∉ S) : LinksAt K H' p r l o s := by
  obtain ⟨dx, h⟩ := a.ob
  exact ⟨⟨dx, k _ _ h1 h⟩, k _ _ h2 a.hr, k _ _ h3 a.hl, k _ _ h4 a.ho, a.rl, a.ro, a.lo, a.wf⟩
theorem LinksAt.k0 {K : PySem.W.Frag} {H H' : Hp} {p r l o : Addr} {s : Sd} (a : LinksAt K H p r l o s) (k : Kp [] H H') : LinksAt K H' p r l o s := a.kp k (by simp) (by simp) (by simp) (by simp)

/-! ### errors -/
/-- an error of the class x leaves, new, with these fields -/
def Ex (K : PySem.W.Frag) (x : Str) (fs : List (Str × V)) (E : XK) (H : Hp) : Prop := ∀ d, H d = none → E (.ref (He.ga K x)) (some d) (upd H d (.xd fs))
def OpE (K : PySem.W.Frag) (n : Nat) (op : Int) (i : Int) (E : XK) (H : Hp) : Prop := Ex K (if IsOp n op then "Illegal" else "BadOperation") [("index", .int i), ("operation", .int op)] E H
/-- .. the first wrong operation of a log -/
def LogE (K : PySem.W.Frag) (s : Sd) (log : List Int) (E : XK) (H : Hp) : Prop := ∀ (i : Nat) (op : Int), log[i]? = some op → Leg s (log.take i) → ¬ OkOp (runS s (log.take i)) op → ∀ H', Kp [] H H' → OpE K s.n op i E H'
def SizeOk (size : Int) : Prop := 0 ≤ size ∧ size ≤ 60
instance (size : Int) : Decidable (SizeOk size) := by unfold SizeOk; infer_instance

/-! ### gaps -/
def stT (s : Sd) (v : Nat) : Str := if gI s.R v = (v : Int) + 1 then (if gI s.L (v + 1) = (v : Int) then "joined" else "left") else (if gI s.L (v + 1) = (v : Int) then "right" else "lost")
def lostL (s : Sd) : List Nat := (List.range (s.n + 1)).filter fun v => decide (stT s v = "lost")

/-! ### promises -/
section
variable (K : PySem.W.Frag)
def sp_check_size : Sp := fun vs H Q E => ∃ size : Int, vs = [.int size] ∧ (SizeOk size → Q .non H) ∧ (¬ SizeOk size → Ex K "BadSize" [("size", .int size)] E H)
def sp_check_operation : Sp := fun vs H Q E => ∃ (n : Nat) (op i : Int), vs = [.int n, .int op, .int i] ∧ (IsOp n op → Q .non H) ∧ (¬ IsOp n op → Ex K "BadOperation" [("index", .int i), ("operation", .int op)] E H)
def sp_check_gap : Sp := fun vs H Q E => ∃ (n : Nat) (g : Int), vs = [.int n, .int g] ∧ (0 ≤ g ∧ g ≤ n → Q .non H) ∧ (¬ (0 ≤ g ∧ g ≤ n) → Ex K "BadGap" [("gap", .int g)] E H)
def sp_Links___init__ : Sp := fun vs H Q E => ∃ (p dx : Addr) (size : Int), vs = [.ref p, .int size] ∧ H p = some (.ins (He.ga K "Links") dx []) ∧
  (SizeOk size → ∀ (r l o : Addr) (H' : Hp), H r = none → H l = none → H o = none → Kp [p] H H' → LinksAt K H' p r l o (wholeS size.toNat) → Q .non H') ∧ (¬ SizeOk size → Ex K "BadSize" [("size", .int size)] E H)
def sp_Links_is_legal : Sp := fun vs H Q E => ∃ (p r l o : Addr) (s : Sd) (op : Int), vs = [.ref p, .int op] ∧ LinksAt K H p r l o s ∧ IsOp s.n op ∧ Q (.bl (decide (gB s.O op.natAbs = decide (0 < op)))) H
def sp_Links_check : Sp := fun vs H Q E => ∃ (p r l o : Addr) (s : Sd) (op i : Int), vs = [.ref p, .int op, .int i] ∧ LinksAt K H p r l o s ∧ (OkOp s op → Q .non H) ∧ (¬ OkOp s op → OpE K s.n op i E H)
def sp_Links_apply_at : Sp := fun vs H Q E => ∃ (p r l o : Addr) (s : Sd) (op i : Int), vs = [.ref p, .int op, .int i] ∧ LinksAt K H p r l o s ∧ (OkOp s op → ∀ H', Kp [r, l, o] H H' → LinksAt K H' p r l o (stepS s op) → Q .non H') ∧ (¬ OkOp s op → OpE K s.n op i E H)
def sp_Links_apply : Sp := fun vs H Q E => ∃ (p r l o : Addr) (s : Sd) (op : Int), vs = [.ref p, .int op] ∧ LinksAt K H p r l o s ∧ (OkOp s op → ∀ H', Kp [r, l, o] H H' → LinksAt K H' p r l o (stepS s op) → Q .non H') ∧ (¬ OkOp s op → OpE K s.n op 0 E H)
def sp_Links_left : Sp := fun vs H Q E => ∃ (p r l o : Addr) (s : Sd) (v : Nat), vs = [.ref p, .int v] ∧ LinksAt K H p r l o s ∧ 1 ≤ v ∧ v ≤ s.n + 1 ∧ Q (.int (gI s.L v)) H
def sp_Links_right : Sp := fun vs H Q E => ∃ (p r l o : Addr) (s : Sd) (v : Nat), vs = [.ref p, .int v] ∧ LinksAt K H p r l o s ∧ v ≤ s.n ∧ Q (.int (gI s.R v)) H
/-- a new standing s -/
def NewS (H : Hp) (s : Sd) (Q : VK) : Prop := ∀ (p r l o : Addr) (H' : Hp), H p = none → H r = none → H l = none → H o = none → Kp [] H H' → LinksAt K H' p r l o s → Q (.ref p) H'
def sp_Links_copy : Sp := fun vs H Q E => ∃ (p r l o : Addr) (s : Sd), vs = [.ref p] ∧ LinksAt K H p r l o s ∧ NewS K H s Q
def sp_play : Sp := fun vs H Q E => ∃ (p r l o a : Addr) (s : Sd) (log : List Int), vs = [.ref p, .ref a] ∧ LinksAt K H p r l o s ∧ SqL K H a (log.map V.int) ∧ (Leg s log → NewS K H (runS s log) Q) ∧ LogE K s log E H
def sp_replay : Sp := fun vs H Q E => ∃ (a : Addr) (size : Int) (log : List Int), vs = [.int size, .ref a] ∧ SqL K H a (log.map V.int) ∧ (SizeOk size → Leg (wholeS size.toNat) log → NewS K H (runS (wholeS size.toNat) log) Q) ∧
  (SizeOk size → LogE K (wholeS size.toNat) log E H) ∧ (¬ SizeOk size → ∀ H', Kp [] H H' → Ex K "BadSize" [("size", .int size)] E H')
def sp_gap_state : Sp := fun vs H Q E => ∃ (p r l o : Addr) (s : Sd) (g : Int), vs = [.ref p, .int g] ∧ LinksAt K H p r l o s ∧ (0 ≤ g ∧ g ≤ s.n → Q (.str (stT s g.toNat)) H) ∧ (¬ (0 ≤ g ∧ g ≤ s.n) → Ex K "BadGap" [("gap", .int g)] E H)
def sp_gap_states : Sp := fun vs H Q E => ∃ (p r l o : Addr) (s : Sd), vs = [.ref p] ∧ LinksAt K H p r l o s ∧ ∀ (q : Addr) (H' : Hp), H q = none → Kp [] H H' → H' q = some (.lst ((List.range (s.n + 1)).map fun (v : Nat) => V.str (stT s v))) → Q (.ref q) H'
def sp_lost_gaps : Sp := fun vs H Q E => ∃ (p r l o : Addr) (s : Sd), vs = [.ref p] ∧ LinksAt K H p r l o s ∧ ∀ (q : Addr) (H' : Hp), H q = none → Kp [] H H' → H' q = some (.lst ((lostL s).map fun (v : Nat) => V.int (v : Int))) → Q (.ref q) H'
end
end G

set_option Elab.async false
set_option linter.all false
set_option maxRecDepth 100000
set_option maxHeartbeats 4000000
/-! More steps. -/
namespace G
open PySem PySem.Spec PyProof.Rows L2
section
variable {K : PySem.W.Frag} {σ : L2.St} {H : Hp} {Q : VK} {ta tb tc te : TE} {x y v : V} {D : Ends} {tl : TA} {i j : Int} {n m : Nat} {p q : Addr} {xs ys : List V} {A B : Prop}
theorem w_tT (a : A) : if true = true then A else B := iteT a
theorem w_tF (b : B) : if false = true then A else B := iteF b
theorem w_nT (a : A) : if (!false) = true then A else B := iteT a
theorem w_nF (b : B) : if (!true) = true then A else B := iteF b
theorem w_rz {C : Addr} {fs : List Str} {W : WX} (g : tl σ H fun us H1 => us.length = fs.length ∧ us.length ≤ 1000 ∧ ∀ d, H1 d = none → W (.ref C) (some d) σ (upd H1 d (.xd (fs.zip us).reverse))) : tRz C fs W tl D σ H := g
theorem w_mk {C : Addr} {sp : Sp} {E : L2.St → XK} (g : tl σ H fun vs H1 => ∀ x dx, H1 x = none → H1 dx = none → dx ≠ x → sp (.ref x :: vs) (upd (upd H1 dx (.own x)) x (.ins C dx [])) (fun v H2 => v = .non ∧ Q (.ref x) H2) (E σ)) : tMk C sp E tl σ H Q := g
theorem w_lrg {t : L2.St → Hp → (Int → Int → Hp → Prop) → Prop} (g : t σ H fun a b H1 => RgOk a b ∧ ∀ q, H1 q = none → Q (.ref q) (upd H1 q (.lst (rgV a b)))) : tLstRg t σ H Q := g
theorem w_rg1 {R : Int → Int → Hp → Prop} (g : te σ H fun x H1 => ∃ n, x = .int n ∧ R 0 n H1) : tRg1 te σ H R := g
theorem w_rg2 {R : Int → Int → Hp → Prop} (g : ta σ H fun x H1 => tb σ H1 fun y H2 => ∃ i j, x = .int i ∧ y = .int j ∧ R i j H2) : tRg2 ta tb σ H R := g
theorem w_n1 {R : Int → Prop} (g : R i) : ∃ n, V.int i = .int n ∧ R n := ⟨i, rfl, g⟩
theorem w_n2 {R : Int → Int → Prop} (g : R i j) : ∃ a b, V.int i = .int a ∧ V.int j = .int b ∧ R a b := ⟨i, j, rfl, rfl, g⟩
theorem w_sl {r : V → Option Int → Option Int → Hp → VK → Prop} {tlo thi : TO} (g : te σ H fun x H1 => tlo σ H1 fun l H2 => thi σ H2 fun u H3 => r x l u H3 Q) : tSl r te tlo thi σ H Q := g
theorem w_np {R : Option Int → Hp → Prop} (g : R none H) : tNoPart σ H R := g
theorem w_pt {R : Option Int → Hp → Prop} (g : te σ H fun x H1 => ∃ i, x = .int i ∧ R (some i) H1) : tPart te σ H R := g
theorem w_tr {R : Bool → Hp → Prop} (g : te σ H fun x H' => ∃ k, TruV K x H' k ∧ R k H') : tTr K te σ H R := g
theorem w_truL {R : Bool → Prop} (h : SqL K H p xs) (g : R (!xs.isEmpty)) : ∃ k, TruV K (.ref p) H k ∧ R k := ⟨_, .inl ⟨xs, h, rfl⟩, g⟩
theorem w_gn {k : Nat} {R : L2.St → Hp → Prop} (g : R (σ.set k (some v)) H) : gName k v σ H R := g
theorem w_g2 {T : Addr} {g1 g2 : TG} {R : L2.St → Hp → Prop} (h : SqT K H T [x, y]) (g : g1 x σ H fun σ1 H1 => g2 y σ1 H1 R) : gTup K 2 (gCons g1 (gCons g2 gNil)) (.ref T) σ H R :=
  ⟨T, [x, y], rfl, h, rfl, x, [y], rfl, by
    show g1 x σ H _
    exact (funext fun σ1 => funext fun H1 => propext ⟨fun z => ⟨y, [], rfl, by
      show g2 y σ1 H1 _
      exact (funext fun σ2 => funext fun H2 => propext ⟨fun z => ⟨rfl, z⟩, fun z => z.2⟩ : R = fun σ2 H2 => ([] : List V) = [] ∧ R σ2 H2) ▸ z⟩, fun ⟨v, r, e, z⟩ => by
      injection e with e1 e2
      subst e1 e2
      exact (funext fun σ2 => funext fun H2 => propext ⟨fun z => z.2, fun z => ⟨rfl, z⟩⟩ : (fun σ2 H2 => ([] : List V) = [] ∧ R σ2 H2) = R) ▸ z⟩ : (fun σ1 H1 => g2 y σ1 H1 R) = fun σ1 H1 => gCons g2 gNil [y] σ1 H1 R) ▸ g⟩
theorem w_g1 {g1 : TG} {R : L2.St → Hp → Prop} (g : g1 x σ H R) : gCons g1 gNil [x] σ H R := ⟨x, [], rfl, by
  have e : (fun σ2 H2 => gNil [] σ2 H2 R) = R := funext fun σ2 => funext fun H2 => propext ⟨fun z => z.2, fun z => ⟨rfl, z⟩⟩
  rw [e]
  exact g⟩
theorem w_gc {g1 : TG} {ts : TGs} {R : L2.St → Hp → Prop} (g : g1 x σ H fun σ1 H1 => ts (y :: xs) σ1 H1 R) : gCons g1 ts (x :: y :: xs) σ H R := ⟨x, y :: xs, rfl, g⟩
theorem w_gt {T : Addr} {k : Nat} {ts : TGs} {R : L2.St → Hp → Prop} (h : SqT K H T xs) (hl : xs.length = k) (g : ts xs σ H R) : gTup K k ts (.ref T) σ H R := ⟨T, xs, rfl, h, hl, g⟩
/-- a new object: the heap goes on under a name -/
def NwU (o : HO) (H : Hp) (Q : VK) : Prop := ∀ q, H q = none → Q (.ref q) (upd H q o)
theorem nw {o : HO} (g : ∀ q H', H q = none → Kp [] H H' → H' q = some o → Q (.ref q) H') : NwU o H Q := fun q n => g q _ n (Kp.new n) upd_same
theorem nwu {o : HO} (g : ∀ q, H q = none → Q (.ref q) (upd H q o)) : NwU o H Q := g
theorem w_lstN (g : tl σ H fun xs H1 => xs.length ≤ sizeLine ∧ NwU (.lst xs) H1 Q) : tLst tl σ H Q := g
theorem w_tupN (g : tl σ H fun xs H1 => xs.length ≤ sizeLine ∧ NwU (.tup xs) H1 Q) : tTup tl σ H Q := g
theorem w_lrgN {t : L2.St → Hp → (Int → Int → Hp → Prop) → Prop} (g : t σ H fun a b H1 => RgOk a b ∧ NwU (.lst (rgV a b)) H1 Q) : tLstRg t σ H Q := g
theorem w_addLN (h1 : H p = some (.lst xs)) (h2 : H q = some (.lst ys)) (h : xs.length + ys.length ≤ sizeLine) (g : ∀ r H', H r = none → Kp [] H H' → H' r = some (.lst (xs ++ ys)) → Q (.ref r) H') : rAddA (.ref p) (.ref q) H Q := w_addL h1 h2 h (nw g)
theorem w_mulLN (h1 : H p = some (.lst xs)) (h2 : -(2 ^ 63) ≤ j) (h3 : j < 2 ^ 63) (h : xs.length * j.toNat ≤ sizeLine) (g : ∀ r H', H r = none → Kp [] H H' → H' r = some (.lst (List.replicate j.toNat xs).flatten) → Q (.ref r) H') : rMulA (.ref p) (.int j) H Q := w_mulL h1 h2 h3 h (nw g)
theorem w_listLN (h : SqL K H p xs) (g : ∀ l H', H l = none → Kp [] H H' → H' l = some (.lst xs) → Q (.ref l) H') : rListA K [.ref p] H Q := w_listL h (nw g)
theorem w_listTN (h : SqT K H p xs) (g : ∀ l H', H l = none → Kp [] H H' → H' l = some (.lst xs) → Q (.ref l) H') : rListA K [.ref p] H Q := w_listT h (nw g)
theorem w_sT {C dx : Addr} {fs : List (Str × V)} {f : Str} {R : Hp → Prop} {v : V} (cl : Cls K C) (na : NoAttr K C f) (h : H p = some (.ins C dx fs)) (hl : fs.length < 1000) (g : ∀ H', Kp [p] H H' → H' p = some (.ins C dx (putF f v fs)) → R H') :
    ∃ a C dx fs, V.ref p = .ref a ∧ H a = some (.ins C dx fs) ∧ Cls K C ∧ NoAttr K C f ∧ fs.length < 1000 ∧ R (upd H a (.ins C dx (putF f v fs))) := ⟨p, C, dx, fs, rfl, h, cl, na, hl, g _ (Kp.put (by simp)) upd_same⟩
theorem w_seT {R : Hp → Prop} (h : H p = some (.lst xs)) (ha : ixN xs.length i = some n) (g : ∀ H', Kp [p] H H' → H' p = some (.lst (xs.set n v)) → R H') : rSetL (.ref p) (.int i) v H R := w_setL h ha (g _ (Kp.put (by simp)) upd_same)
theorem w_apT (h : H p = some (.lst xs)) (hl : xs.length < sizeLine) (g : ∀ H', Kp [p] H H' → H' p = some (.lst (xs ++ [v])) → Q .non H') : rAppend (.ref p) [v] H Q := w_append h hl (g _ (Kp.put (by simp)) upd_same)
/-- an object of a class, made: its dict, the object -/
def MkU (C : Addr) (sp : Sp) (E : XK) (vs : List V) (H : Hp) (Q : VK) : Prop := ∀ x dx, H x = none → H dx = none → dx ≠ x → sp (.ref x :: vs) (upd (upd H dx (.own x)) x (.ins C dx [])) (fun v H2 => v = .non ∧ Q (.ref x) H2) E
theorem w_mkN {C : Addr} {sp : Sp} {E : L2.St → XK} (g : tl σ H fun vs H1 => MkU C sp (E σ) vs H1 Q) : tMk C sp E tl σ H Q := g
theorem mk {C : Addr} {sp : Sp} {E : XK} {vs : List V} (g : ∀ x dx H', H x = none → H' x = some (.ins C dx []) → Kp [] H H' → sp (.ref x :: vs) H' (fun v H2 => v = .non ∧ Q (.ref x) H2) E) : MkU C sp E vs H Q :=
  fun x dx n1 n2 ne => g x dx _ n1 upd_same ((Kp.new n2).trans (Kp.new (by rw [upd_ne (Ne.symm ne)]; exact n1)))
theorem w_r1 {R : Int → Prop} {n : Int} (h : -(2 ^ 62) ≤ n ∧ n < 2 ^ 62) (g : R n) : ∃ j : Int, [V.int n] = [.int j] ∧ -(2 ^ 62) ≤ j ∧ j < 2 ^ 62 ∧ R j := ⟨n, rfl, h.1, h.2, g⟩
theorem w_r2 {R : Int → Int → Prop} {a b : Int} (h : -(2 ^ 62) ≤ a ∧ a < 2 ^ 62 ∧ -(2 ^ 62) ≤ b ∧ b < 2 ^ 62) (g : R a b) : ∃ i j : Int, [V.int a, V.int b] = [.int i, .int j] ∧ (-(2 ^ 62) ≤ i ∧ i < 2 ^ 62 ∧ -(2 ^ 62) ≤ j ∧ j < 2 ^ 62) ∧ R i j := ⟨a, b, rfl, h, g⟩
theorem w_yes {R : Bool → Hp → Prop} (g : R true H) : tYes σ H R := g
theorem ref_ne : V.ref p ≠ .non := fun z => by cases z
theorem int_ne : V.int i ≠ .non := fun z => by cases z
theorem at_0 : atI (x :: xs) 0 = some x := by
  rw [atI_pos (by omega) (by rw [List.length_cons]; omega)] <;> rfl
theorem w_l1 {R : Addr → Prop} (h : SqL K H p xs) (g : R p) : ∃ a, V.ref p = .ref a ∧ (∃ xs, SqL K H a xs) ∧ R a := ⟨p, rfl, ⟨xs, h⟩, g⟩
/-- a field of a standing -/
theorem w_fR {r l o : Addr} {s : Sd} {R : V → Prop} (cl : Cls K (He.ga K "Links")) (na : NoAttr K (He.ga K "Links") "_rights") (a : LinksAt K H p r l o s) (g : R (.ref r)) :
    ∃ a C dx fs v, V.ref p = .ref a ∧ H a = some (.ins C dx fs) ∧ Cls K C ∧ NoAttr K C "_rights" ∧ fs.lookup ("_rights" : Str) = some v ∧ R v := by
  obtain ⟨dx, h⟩ := a.ob
  exact ⟨p, _, dx, _, _, rfl, h, cl, na, fl_R _ _ _ _, g⟩
theorem w_fL {r l o : Addr} {s : Sd} {R : V → Prop} (cl : Cls K (He.ga K "Links")) (na : NoAttr K (He.ga K "Links") "_lefts") (a : LinksAt K H p r l o s) (g : R (.ref l)) :
    ∃ a C dx fs v, V.ref p = .ref a ∧ H a = some (.ins C dx fs) ∧ Cls K C ∧ NoAttr K C "_lefts" ∧ fs.lookup ("_lefts" : Str) = some v ∧ R v := by
  obtain ⟨dx, h⟩ := a.ob
  exact ⟨p, _, dx, _, _, rfl, h, cl, na, fl_L _ _ _ _, g⟩
theorem w_fO {r l o : Addr} {s : Sd} {R : V → Prop} (cl : Cls K (He.ga K "Links")) (na : NoAttr K (He.ga K "Links") "_out") (a : LinksAt K H p r l o s) (g : R (.ref o)) :
    ∃ a C dx fs v, V.ref p = .ref a ∧ H a = some (.ins C dx fs) ∧ Cls K C ∧ NoAttr K C "_out" ∧ fs.lookup ("_out" : Str) = some v ∧ R v := by
  obtain ⟨dx, h⟩ := a.ob
  exact ⟨p, _, dx, _, _, rfl, h, cl, na, fl_O _ _ _ _, g⟩
theorem w_fS {r l o : Addr} {s : Sd} {R : V → Prop} (cl : Cls K (He.ga K "Links")) (na : NoAttr K (He.ga K "Links") "size") (a : LinksAt K H p r l o s) (g : R (.int s.n)) :
    ∃ a C dx fs v, V.ref p = .ref a ∧ H a = some (.ins C dx fs) ∧ Cls K C ∧ NoAttr K C "size" ∧ fs.lookup ("size" : Str) = some v ∧ R v := by
  obtain ⟨dx, h⟩ := a.ob
  exact ⟨p, _, dx, _, _, rfl, h, cl, na, fl_size _ _ _ _, g⟩
/-- .. of an object with the fields of a standing -/
theorem w_oR {dx : Addr} {n r l o : V} {R : V → Prop} (cl : Cls K (He.ga K "Links")) (na : NoAttr K (He.ga K "Links") "_rights") (h : H p = some (.ins (He.ga K "Links") dx (fl n r l o))) (g : R r) :
    ∃ a C dx fs v, V.ref p = .ref a ∧ H a = some (.ins C dx fs) ∧ Cls K C ∧ NoAttr K C "_rights" ∧ fs.lookup ("_rights" : Str) = some v ∧ R v := ⟨p, _, dx, _, _, rfl, h, cl, na, fl_R _ _ _ _, g⟩
theorem w_oL {dx : Addr} {n r l o : V} {R : V → Prop} (cl : Cls K (He.ga K "Links")) (na : NoAttr K (He.ga K "Links") "_lefts") (h : H p = some (.ins (He.ga K "Links") dx (fl n r l o))) (g : R l) :
    ∃ a C dx fs v, V.ref p = .ref a ∧ H a = some (.ins C dx fs) ∧ Cls K C ∧ NoAttr K C "_lefts" ∧ fs.lookup ("_lefts" : Str) = some v ∧ R v := ⟨p, _, dx, _, _, rfl, h, cl, na, fl_L _ _ _ _, g⟩
theorem w_oO {dx : Addr} {n r l o : V} {R : V → Prop} (cl : Cls K (He.ga K "Links")) (na : NoAttr K (He.ga K "Links") "_out") (h : H p = some (.ins (He.ga K "Links") dx (fl n r l o))) (g : R o) :
    ∃ a C dx fs v, V.ref p = .ref a ∧ H a = some (.ins C dx fs) ∧ Cls K C ∧ NoAttr K C "_out" ∧ fs.lookup ("_out" : Str) = some v ∧ R v := ⟨p, _, dx, _, _, rfl, h, cl, na, fl_O _ _ _ _, g⟩
/-- a field of an object is set -/
theorem w_st {C dx : Addr} {fs : List (Str × V)} {f : Str} {R : Hp → Prop} {v : V} (cl : Cls K C) (na : NoAttr K C f) (h : H p = some (.ins C dx fs)) (hl : fs.length < 1000) (g : R (upd H p (.ins C dx (putF f v fs)))) :
    ∃ a C dx fs, V.ref p = .ref a ∧ H a = some (.ins C dx fs) ∧ Cls K C ∧ NoAttr K C f ∧ fs.length < 1000 ∧ R (upd H a (.ins C dx (putF f v fs))) := ⟨p, C, dx, fs, rfl, h, cl, na, hl, g⟩
/-- a method of a standing -/
theorem w_me {r l o : Addr} {s : Sd} {m : Str} {R : Prop} (a : LinksAt K H p r l o s) (hm : ∀ n r l o : V, (fl n r l o).lookup m = none) (g : R) : ∃ a dx fs, V.ref p = .ref a ∧ H a = some (.ins (He.ga K "Links") dx fs) ∧ fs.lookup m = none ∧ R := by
  obtain ⟨dx, h⟩ := a.ob
  exact ⟨p, dx, _, rfl, h, hm _ _ _ _, g⟩
end
/-- a method's name is none of the fields -/
theorem no_m {m : Str} (h1 : ¬ m = "size" := by decide +kernel) (h2 : ¬ m = "_rights" := by decide +kernel) (h3 : ¬ m = "_lefts" := by decide +kernel) (h4 : ¬ m = "_out" := by decide +kernel) (n r l o : V) : (fl n r l o).lookup m = none := fl_no n r l o h1 h2 h3 h4
theorem natAbs_if (i : Int) : (if i < 0 then -i else i) = (i.natAbs : Int) := by
  split <;> omega
end G

set_option Elab.async false
set_option linter.all false
set_option maxRecDepth 100000
set_option maxHeartbeats 4000000
/-! == by an own __eq__, any answer. -/
namespace G
open PySem PySem.Spec PyProof.Rows L2
section
variable {X : Cx} {j k : Nat} {ps : List Str} {sp : Sp} {E : XK} {C f : Addr} {fd : FuncData}
def rOwn (C : Addr) (sp : Sp) (E : XK) : R2 := fun x y H Q => ∃ a b dx dy fs gs, x = .ref a ∧ y = .ref b ∧ H a = some (.ins C dx fs) ∧ H b = some (.ins C dy gs) ∧ sp [.ref a, .ref b] H (fun v H' => (∃ k, v = .bl k) ∧ Q v H') E
theorem op_own (F : FnOk X.prog X.w X.K X.mg X.base (L2N.CX X.prog X.w) k f fd ps sp) (hb : Binds X.K fd ps []) (hr : Room j X.A) (hk : k ≤ j) (hx : PAt X (fun _ => E))
    (hs : PySem.W.findIn X.K (.ref C) "__eq__" = some (some (.ref f))) (hf : PySem.W.isFn X.K (.ref f) = true) : OpR X (compareOp .Eq) (rOwn C sp E) := by
  intro pins s σ H x y u v Q I rx ry hq
  obtain ⟨a, b, dx, dy, fs, gs, rfl, rfl, ha, hb', q⟩ := hq
  cases rx
  cases ry
  obtain ⟨mA, J, _⟩ := ins_get I.hok ha
  obtain ⟨mB, J', _⟩ := ins_get I.hok hb'
  obtain ⟨od, J, _⟩ := J.look
  obtain ⟨od', J', _⟩ := J'.look
  obtain ⟨m, hF⟩ := I.fr
  show wpAny (model X.prog X.w) X.A (richCompare .Eq (.ref a) (.ref b)) (EP X pins σ Q) X.xe s
  refine PySem.W.cmp_K (op := .Eq) (tb := .ref C) hr.units0 hF I.ok.mod.kin J J'.type (by simp [PySem.W.notFirst]) hs hf ?_
  refine wpAny_mono (run_fnS (E := fun _ => E) (us := [.ref a, .ref b]) (vs := [.ref a, .ref b]) F (hr.mono hk) hb (hx σ) I (.cons rfl (.cons rfl .nil)) q) (fun r s' z => ?_) fun _ _ x => x
  obtain ⟨w, H', I', rw_, ⟨kk, rfl⟩, qq⟩ := z
  cases rw_
  exact ⟨.bl kk, H', I', rfl, qq⟩
end
end G
namespace G
open PySem PySem.Spec PyProof.Rows L2
section
variable {X : Cx} {j k : Nat} {ps : List Str} {sp : Sp} {E : XK} {C : Addr}
/-- == of data, or by the own __eq__ of the class at C -/
def rEqO (K : PySem.W.Frag) (C : Addr) (sp : Sp) (E : XK) : R2 := fun x y H Q => rEqA K x y H Q ∨ rOwn C sp E x y H Q
theorem op_eqO {i : Nat} (c : Met X.prog X.w X.K X.mg X.base k C "__eq__" ps sp) (hr : Room j X.A) (hk : k ≤ j) (hx : PAt X (fun _ => E)) : OpR X (compareOp .Eq) (rEqO X.K C sp E) := by
  obtain ⟨f, fd, F, hm, hb⟩ := c.ex
  exact OpR.or (op_eqA hr) (op_own F hb hr hk hx hm.at_ hm.fn)
end
end G
namespace G
open PySem PySem.Spec PyProof.Rows L2
/-- isinstance of an instance of an own class -/
def tyB (x : Str) (K : PySem.W.Frag) : Bool := He.eqO (PySem.W.findIn K (.ref (He.ga K x)) "__class__") (some (some (.builtin "object.__class__"))) && eqT (PySem.W.mroIn K (He.ga K x) (.type "object")) (some true)
theorem tyB_ok {x : Str} {K : PySem.W.Frag} (q : tyB x K = true) : PySem.W.findIn K (.ref (He.ga K x)) "__class__" = some (some (.builtin "object.__class__")) ∧ PySem.W.mroIn K (He.ga K x) (.type "object") = some true := by
  obtain ⟨q1, q2⟩ := He.ba q
  exact ⟨He.eqO_ok q1, of_decide_eq_true q2⟩
end G

set_option Elab.async false
set_option linter.all false
set_option maxRecDepth 100000
set_option maxHeartbeats 4000000
/-! More built-ins: str, tuple, is True, pop, insert, extend. -/
namespace G
open PySem PySem.Spec PyProof.Rows L2
def rStrA : List V → Hp → VK → Prop := fun xs H Q => ∃ i, xs = [.int i] ∧ i.natAbs.log2 < 1920 ∧ Q (.str (toString i)) H
def rTupA (K : PySem.W.Frag) : List V → Hp → VK → Prop := fun xs H Q => ∃ p ys, xs = [.ref p] ∧ ((SqL K H p ys ∧ ∀ l, H l = none → Q (.ref l) (upd H l (.tup ys))) ∨ (SqT K H p ys ∧ Q (.ref p) H))
/-- x is True, x is False, of a truth value -/
def rIsB (neg : Bool) : R2 := fun x y H Q => ∃ b c, x = .bl b ∧ y = .bl c ∧ Q (.bl (neg != decide (b = c))) H
section
variable {X : Cx}
theorem call_strA : CallR X (.type "str") rStrA := call_str_int
theorem call_tupA : CallR X (.type "tuple") (rTupA X.K) := call_tuple_of
theorem op_isB : OpR X (compareOp .Is) (rIsB false) := by
  intro pins s σ H x y v u Q I rx ry h
  obtain ⟨b, c, rfl, rfl, q⟩ := h
  cases rx
  cases ry
  show wpAny _ _ ((isSame (Value.bool b) (Value.bool c)) >>= fun z => pure (Value.bool z)) _ _ s
  refine wpAny_bind (wpAny_isSame_plain rfl (wpAny_pure (fin_bl I q ?_)))
  cases b <;> cases c <;> rfl
theorem op_isnotB : OpR X (compareOp .IsNot) (rIsB true) := by
  intro pins s σ H x y v u Q I rx ry h
  obtain ⟨b, c, rfl, rfl, q⟩ := h
  cases rx
  cases ry
  show wpAny _ _ ((isSame (Value.bool b) (Value.bool c)) >>= fun z => pure (Value.bool (!z))) _ _ s
  refine wpAny_bind (wpAny_isSame_plain rfl (wpAny_pure (fin_bl I q ?_)))
  cases b <;> cases c <;> rfl
end
section
variable {K : PySem.W.Frag} {σ : L2.St} {H : Hp} {Q : VK} {ta tb tc te : TE} {x y v : V} {i j : Int} {n m : Nat} {p q : Addr} {xs ys : List V} {b c : Bool}
theorem w_str (h : i.natAbs.log2 < 1920) (g : Q (.str (toString i)) H) : rStrA [.int i] H Q := ⟨i, rfl, h, g⟩
theorem w_tuA (h : SqL K H p xs) (g : ∀ l H', H l = none → Kp [] H H' → H' l = some (.tup xs) → Q (.ref l) H') : rTupA K [.ref p] H Q := ⟨p, xs, rfl, .inl ⟨h, nw g⟩⟩
theorem w_isB (g : Q (.bl (decide (b = c))) H) : rIsB false (.bl b) (.bl c) H Q := ⟨b, c, rfl, rfl, by
  have e : (false != decide (b = c)) = decide (b = c) := by cases decide (b = c) <;> rfl
  rw [e]; exact g⟩
theorem w_isnB (g : Q (.bl (!decide (b = c))) H) : rIsB true (.bl b) (.bl c) H Q := ⟨b, c, rfl, rfl, by
  have e : (true != decide (b = c)) = !decide (b = c) := by cases decide (b = c) <;> rfl
  rw [e]; exact g⟩
theorem w_pop (h : H p = some (.lst xs)) (hy : xs[xs.length - 1]? = some y) (g : ∀ H', Kp [p] H H' → H' p = some (.lst xs.dropLast) → Q y H') : rPop (.ref p) [] H Q := ⟨p, xs, y, rfl, rfl, h, hy, g _ (Kp.put (by simp)) upd_same⟩
theorem w_popAt {k : Nat} (h : H p = some (.lst xs)) (h1 : -(2 ^ 63) ≤ i) (h2 : i < 2 ^ 63) (hk : seqIndex? i xs.length = some k) (hy : xs[k]? = some y) (g : ∀ H', Kp [p] H H' → H' p = some (.lst (xs.eraseIdx k)) → Q y H') : rPopAt (.ref p) [.int i] H Q :=
  ⟨p, xs, i, k, y, rfl, rfl, h, h1, h2, hk, hy, g _ (Kp.put (by simp)) upd_same⟩
theorem w_inL {neg : Bool} (h : SqL K H p xs) (hx : flatV x = true) (ha : xs.all flatV = true) (g : Q (.bl (if neg then !inV x xs else inV x xs)) H) : rIn K neg x (.ref p) H Q := ⟨p, xs, rfl, .inl h, hx, ha, g⟩
theorem w_inT {neg : Bool} (h : SqT K H p xs) (hx : flatV x = true) (ha : xs.all flatV = true) (g : Q (.bl (if neg then !inV x xs else inV x xs)) H) : rIn K neg x (.ref p) H Q := ⟨p, xs, rfl, .inr h, hx, ha, g⟩
theorem flatI : ∀ l : List Int, (l.map V.int).all flatV = true
  | [] => rfl
  | a :: l => by rw [List.map_cons, List.all_cons, flatI l]; rfl
end
theorem strOk_of (s : String) : PyData.strOk (Str.ofString s) = true := by
  rw [Str.ofString_eq_toList]
  unfold PyData.strOk
  rw [Array.all_eq_true]
  intro i h
  have h' : i < s.toList.length := by simpa using h
  simp only [List.getElem_toArray, List.getElem_map, decide_eq_true_eq]
  have v := (s.toList[i]'h').valid
  rcases v with v | v
  · show (s.toList[i]'h').val.toNat < _
    have : (s.toList[i]'h').val.toNat < 0xd800 := v
    omega
  · exact v.2
end G

set_option Elab.async false
set_option linter.all false
set_option maxRecDepth 100000
set_option maxHeartbeats 4000000
/-! Static methods, texts, more in a handler; a head with defs at any address. -/
namespace G
open PySem PySem.Spec PyProof.Rows L2

/-! ### a static method by its class -/
structure Smt (P : Program) (w : World) (K : PySem.W.Frag) (mg : Str → Option Value) (base : Heap) (k : Nat) (C : Addr) (m : Str) (ps : List Str) (sp : Sp) : Prop where
  ex : ∃ (f p : Addr) (fd : FuncData) (rest : List Value), FnOk P w K mg base (L2N.CX P w) k f fd ps sp ∧ ClX.CRead K C (.type "type") ∧ PySem.W.findCls K (.ref C) (.type "type") m = some (.get (.builtin "staticmethod.__get__") (.ref p) .none (.ref C)) ∧
    PySem.W.recIn K p "staticmethod" = some (.ref f :: rest) ∧ PySem.W.keepIn K (.ref f) = true ∧ Binds K fd ps []
section
variable {X : Cx} {j k : Nat} {m : Str} {ps : List Str} {sp : Sp} {C : Addr} {pos apos : Pos} {e o : Expr} {es : List Expr} {t : TA} {E : L2.St → XK}
theorem pe_sm {pl : Sem Bool} (c : Smt X.prog X.w X.K X.mg X.base k C m ps sp) (hr : Room j X.A) (hk : k ≤ j) (hx : PAt X E) (he : PE X o (tC (.ref C))) (ha : PA X (e :: es) t)
    (hst : starEach (e :: es) X.env = (false, eval e X.env) :: starEach es X.env := by rfl) (hpl : (backTo pos (starEach es X.env)).any (·.1) = false := by rfl)
    (ht : eval (.Call (.Attribute o m apos) (e :: es) [] pos) X.env = (do
      let ov ← eval o X.env
      standAt apos.atName
      let (f, first) ← holding [ov] (getMethod ov m pl)
      callWith pos f first (backTo pos (starEach (e :: es) X.env)) (backToKw pos (keywordEach [] X.env))) := by rfl) : PE X (.Call (.Attribute o m apos) (e :: es) [] pos) (tCl sp E t) := by
  obtain ⟨f, p, fd, rest, F, r, e1, e2, kp, hb⟩ := c.ex
  refine ⟨fun pins s σ H Q I h => PySem.W.methodCall_KW (pl := pl) (thn (he.run pins s σ H (fun x H1 => x = V.ref C ∧ tCl sp E t σ H1 Q) I ⟨rfl, h⟩) fun u s1 hh => ?_) ht⟩
  obtain ⟨x, H1, I1, rx, ex, q⟩ := hh
  subst ex
  obtain rfl : u = Value.ref C := rx
  refine PySem.W.method_cls I1.kIn r.ga (PySem.W.cls_bind I1.kIn r.rd e1 (wpAny_call (PySem.W.sm_get (s := { s1 with toks := s1.toks + 1 }) I1.kIn e2 (PySem.W.handed_on rfl ?_))))
  have I2 := I1.tok (s1.toks + 1)
  refine PySem.W.callWith_K (first := []) (h₀ := X.base) I2.ok.mod.kin kp (thn (ha.run pos pins _ σ H1 _ I2 q) fun us s2 hh => ?_) hst hpl
  obtain ⟨vs, H2, I3, rv, q2⟩ := hh
  exact ⟨I3.kIn, run_fnS (E := E) (us := us) (vs := vs) F (hr.mono hk) hb (hx σ) I3 rv q2⟩
end
/-- C.m is a staticmethod -/
def smB (x m : Str) (K : PySem.W.Frag) : Bool := PySem.W.readsIn K (He.ga K x) (.type "type") && (He.eqO (PySem.W.specialIn K (.ref (He.ga K x)) "__getattribute__") (some (some (.builtin "type.__getattribute__"))) &&
  He5.wrapB K (He.ga K x) "staticmethod" "staticmethod.__get__" m)
theorem smB_ok {K : PySem.W.Frag} {x m : Str} (q : smB x m K = true) : ClX.CRead K (He.ga K x) (.type "type") ∧ ∃ (p : Addr) (rest : List Value), PySem.W.findCls K (.ref (He.ga K x)) (.type "type") m = some (.get (.builtin "staticmethod.__get__") (.ref p) .none (.ref (He.ga K x))) ∧
    PySem.W.recIn K p "staticmethod" = some (.ref (He5.wf K (He.ga K x) "staticmethod" m) :: rest) := by
  obtain ⟨q1, q⟩ := He.ba q
  obtain ⟨q2, q3⟩ := He.ba q
  obtain ⟨h1, rest, h2⟩ := He5.wrapB_ok q3
  exact ⟨⟨q1, He.eqO_ok q2⟩, _, rest, h1, h2⟩
theorem smt_of {P : Program} {w : World} {K : PySem.W.Frag} {mg : Str → Option Value} {base : Heap} {k : Nat} {x m : Str} {ps : List Str} {sp : Sp} {fd : FuncData} (q : ClX.CRead K (He.ga K x) (.type "type") ∧ ∃ (p : Addr) (rest : List Value), PySem.W.findCls K (.ref (He.ga K x)) (.type "type") m = some (.get (.builtin "staticmethod.__get__") (.ref p) .none (.ref (He.ga K x))) ∧
    PySem.W.recIn K p "staticmethod" = some (.ref (He5.wf K (He.ga K x) "staticmethod" m) :: rest)) (F : FnOk P w K mg base (L2N.CX P w) k (He5.wf K (He.ga K x) "staticmethod" m) fd ps sp) (kp : PySem.W.keepIn K (.ref (He5.wf K (He.ga K x) "staticmethod" m)) = true) (hb : Binds K fd ps []) :
    Smt P w K mg base k (He.ga K x) m ps sp := by
  obtain ⟨r, p, rest, h1, h2⟩ := q
  exact ⟨_, p, fd, rest, F, r, h1, h2, kp, hb⟩

/-! ### the head, defs at any address -/
def obsY (fa : List Chk) (fn : List He5.DefA) (K : PySem.W.Frag) : He.AlD := ((fa.all fun f => f K) && fn.all fun d => d.ok K, fn.map fun d => He5.fnA K (d.at_ K))
def valY (fn : List He5.DefA) : He.AlD := (true, fn.map He5.DefA.val)
def SaysY (fa : List Chk) (fn : List He5.DefA) (K : PySem.W.Frag) : Prop := obsY fa fn K = valY fn
def obsYG (n : Nat) (fa : List Chk) (fn : List He5.DefA) (g : Addr → Option Obj) : He.AlD := obsY fa fn (He.frG g (He.asD g n ++ [cStatics]))
def hookY (n : Nat) (fa : List Chk) (fn : List He5.DefA) : PySem.W.Hook where
  α := He.AlD
  obs := fun s => obsYG n fa fn s.heap.get?
  val := fun _ => valY fn
  says := fun _ h => ∃ K : PySem.W.Frag, K.In h ∧ SaysY fa fn K
  of := fun _ _ e => ⟨_, He.frG_in, e⟩
  keeps := fun _ _ _ ⟨K, hK, c⟩ k => ⟨K, PySem.W.Frag.In.keeps hK k, c⟩
theorem obsYG_eq {n : Nat} {fa : List Chk} {fn : List He5.DefA} {g : Addr → Option Obj} {s : Shared} (h : ∀ a, g a = s.heap.get? a) : obsYG n fa fn g = (hookY n fa fn).obs s := by
  have e : g = s.heap.get? := funext h
  rw [e] <;> rfl
section
variable {fa : List Chk} {fn : List He5.DefA} {K : PySem.W.Frag}
theorem SaysY.fact (c : SaysY fa fn K) (i : Nat) {f : Chk} (h : fa[i]? = some f := by rfl) : f K = true := by
  have c1 := (He.ba (show ((fa.all fun f => f K) && fn.all fun d => d.ok K) = true from congrArg (fun z : He.AlD => z.1) c)).1
  exact List.all_eq_true.mp c1 f (List.mem_of_getElem? h)
theorem SaysY.def_ (c : SaysY fa fn K) (i : Nat) {d : He5.DefA} (h : fn[i]? = some d := by rfl) : ∃ fd, FunD K d.name d.qual d.params d.body d.scope (d.dvs K) (d.kws K) (d.at_ K) fd := by
  have c2 := (He.ba (show ((fa.all fun f => f K) && fn.all fun d => d.ok K) = true from congrArg (fun z : He.AlD => z.1) c)).2
  have e : fn.map (fun d => He5.fnA K (d.at_ K)) = fn.map He5.DefA.val := congrArg (fun z : He.AlD => z.2) c
  have e2 : (fn.map fun d => He5.fnA K (d.at_ K))[i]? = (fn.map He5.DefA.val)[i]? := by rw [e]
  rw [List.getElem?_map, List.getElem?_map, h] at e2
  exact He5.DefA.funD (Option.some.inj e2) (List.all_eq_true.mp c2 d (List.mem_of_getElem? h))
end

/-! ### where an exception is handled -/
section
variable {X : Cx}
theorem op_eqAH {k : Nat} (hr : L2H.RoomH k X.A) : OpR X (compareOp .Eq) (rEqA X.K) := OpR.or op_eq (op_eqD (by have := hr.un; omega))
theorem op_neAH {k : Nat} (hr : L2H.RoomH k X.A) : OpR X (compareOp .NotEq) (rNeA X.K) := OpR.or op_ne (op_neD (by have := hr.un; omega))
end

/-! ### texts -/
def rJoin (K : PySem.W.Frag) : V → List V → Hp → VK → Prop := fun x xs H Q => ∃ a p, ∃ ys : List Str, x = .str a ∧ xs = [.ref p] ∧ (SqL K H p (ys.map V.str) ∨ SqT K H p (ys.map V.str)) ∧
    (ys.map (·.length)).sum + ys.length * a.length ≤ 16777216 ∧ Q (.str (Txt.join a ys)) H
def rSplit : V → List V → Hp → VK → Prop := fun x xs H Q => ∃ a b, x = .str a ∧ xs = [.str b] ∧ (b.length == 0) = false ∧ a.length + 2 ≤ sizeLine ∧ rNewStrs (Txt.split a b) H Q
def rIntS : List V → Hp → VK → Prop := fun xs H Q => ∃ a n, xs = [.str a] ∧ PySem.intText? a = some n ∧ a.length ≤ 640 ∧ Q (.int n) H
section
variable {X : Cx} {o e : Expr} {to te : TE}
theorem pe_joinA {apos pos : Pos} (ho : PE X o to) (he : PE X e te) (hs : starEach [e] X.env = [(false, eval e X.env)] := by rfl) (hbase : attributeBase o "join" X.env (eval o X.env) = eval o X.env := by rfl) (hline : (apos.endLine == pos.line) = true := by rfl) :
    PE X (.Call (.Attribute o "join" apos) [e] [] pos) (tM1 (rJoin X.K) to te) := pe_join ho he hs hbase hline
theorem pe_splitA {apos pos : Pos} (ho : PE X o to) (he : PE X e te) (hs : starEach [e] X.env = [(false, eval e X.env)] := by rfl) (hbase : attributeBase o "split" X.env (eval o X.env) = eval o X.env := by rfl) (hline : (apos.endLine == pos.line) = true := by rfl) :
    PE X (.Call (.Attribute o "split" apos) [e] [] pos) (tM1 rSplit to te) := pe_split ho he hs hbase hline
theorem call_intS : CallR X (.type "int") rIntS := call_int_str
end
section
variable {K : PySem.W.Frag} {σ : L2.St} {H : Hp} {Q : VK} {ta tb tc te : TE} {x y v : V} {i j : Int} {n m : Nat} {p q : Addr} {xs ys : List V} {b c : Bool}
theorem w_m1 {r : V → List V → Hp → VK → Prop} (g : ta σ H fun x H1 => (∃ a, x = .str a) ∧ te σ H1 fun y H2 => r x [y] H2 Q) : tM1 r ta te σ H Q := g
theorem w_joinL {a : Str} {ss : List Str} (h : SqL K H p (ss.map V.str)) (hl : (ss.map (·.length)).sum + ss.length * a.length ≤ 16777216) (g : Q (.str (Txt.join a ss)) H) : rJoin K (.str a) [.ref p] H Q := ⟨a, p, ss, rfl, rfl, .inl h, hl, g⟩
theorem w_split {a b : Str} (hb : (b.length == 0) = false) (hl : a.length + 2 ≤ sizeLine) (g : ∀ l H', H l = none → Kp [] H H' → H' l = some (.lst ((Txt.split a b).map V.str)) → Q (.ref l) H') : rSplit (.str a) [.str b] H Q := ⟨a, b, rfl, rfl, hb, hl, nw g⟩
theorem w_intS {a : Str} {k : Int} (h : PySem.intText? a = some k) (hl : a.length ≤ 640) (g : Q (.int k) H) : rIntS [.str a] H Q := ⟨a, k, rfl, h, hl, g⟩
theorem w_exS {P : Prop} {a : Str} (g : P) : (∃ b, V.str a = .str b) ∧ P := ⟨⟨a, rfl⟩, g⟩
theorem w_inS {c : Nat} {z : Str} (g : Q (.bl (decide (c ∈ z.cps.toList))) H) : rInS (.str ⟨#[c]⟩) (.str z) H Q := ⟨c, z, rfl, rfl, g⟩
theorem w_iS {R : It → Hp → Prop} (g : ta σ H fun v H1 => ∃ x, v = .str x ∧ R (Its x) H1) : iStr ta σ H R := g
theorem w_gu {T : Addr} {k : Nat} {ts : TGs} {R : L2.St → Hp → Prop} (h : SqL K H T xs) (hl : xs.length = k) (g : ts xs σ H R) : gUnl K k ts (.ref T) σ H R := ⟨T, xs, rfl, h, hl, g⟩
end
end G

set_option Elab.async false
set_option linter.all false
set_option maxRecDepth 100000
set_option maxHeartbeats 4000000
/-! What a log writes down: last writes, last changes, the first loss. Promises of the defs that read logs. -/
namespace G
open PySem PySem.Spec PyProof.Rows L2

/-! ### the book -/
structure Bk where
  s : Sd
  k : Nat
  wr : List Int
  wl : List Int
  de : List Int
  ls : Option (Nat × Nat)
def lowN (s : Sd) (op : Int) : Nat := (gI s.L op.natAbs).toNat
def hiN (s : Sd) (op : Int) : Nat := (gI s.R op.natAbs).toNat - 1
def deS (s s' : Sd) (k : Nat) (de : List Int) (g : Nat) : List Int := if stT s g = stT s' g then de else de.set g (k : Int)
def lsS (s s' : Sd) (k g : Nat) (ls : Option (Nat × Nat)) : Option (Nat × Nat) := if ls = none ∧ stT s g ≠ stT s' g ∧ stT s' g = "lost" then some (k, g) else ls
def bstep (b : Bk) (op : Int) : Bk :=
  let s' := stepS b.s op
  ⟨s', b.k + 1, b.wr.set (lowN b.s op) (b.k : Int), b.wl.set (hiN b.s op) (b.k : Int), deS b.s s' b.k (deS b.s s' b.k b.de (lowN b.s op)) (hiN b.s op), lsS b.s s' b.k (hiN b.s op) (lsS b.s s' b.k (lowN b.s op) b.ls)⟩
def bk0 (n : Nat) : Bk := ⟨wholeS n, 0, List.replicate (n + 1) (-1), List.replicate (n + 1) (-1), List.replicate (n + 1) (-1), none⟩
def bkR (n : Nat) (log : List Int) : Bk := log.foldl bstep (bk0 n)
theorem bkR_snoc (n : Nat) (log : List Int) (op : Int) : bkR n (log ++ [op]) = bstep (bkR n log) op := by
  unfold bkR
  rw [List.foldl_append] <;> rfl
theorem bkR_s (n : Nat) (log : List Int) : (bkR n log).s = runS (wholeS n) log := by
  induction log using snoc_ind with
  | h0 => rfl
  | h1 l x ih => rw [bkR_snoc, runS_snoc, ← ih] <;> rfl
theorem bkR_k (n : Nat) (log : List Int) : (bkR n log).k = log.length := by
  induction log using snoc_ind with
  | h0 => rfl
  | h1 l x ih =>
    rw [bkR_snoc, List.length_append]
    show (bkR n l).k + 1 = _
    rw [ih] <;> rfl
theorem deS_len (s s' : Sd) (k : Nat) (de : List Int) (g : Nat) : (deS s s' k de g).length = de.length := by
  unfold deS
  split
  · rfl
  · exact List.length_set
theorem bkR_len (n : Nat) (log : List Int) : (bkR n log).wr.length = n + 1 ∧ (bkR n log).wl.length = n + 1 ∧ (bkR n log).de.length = n + 1 := by
  induction log using snoc_ind with
  | h0 => exact ⟨List.length_replicate, List.length_replicate, List.length_replicate⟩
  | h1 l x ih =>
    rw [bkR_snoc]
    obtain ⟨a, b, c⟩ := ih
    refine ⟨?_, ?_, ?_⟩
    · show (List.set _ _ _).length = _
      rw [List.length_set, a]
    · show (List.set _ _ _).length = _
      rw [List.length_set, b]
    · show (deS _ _ _ _ _).length = _
      rw [deS_len, deS_len, c]
/-- bounds of the two touched gaps -/
theorem touch_bd {s : Sd} (w : Wf s) {op : Int} (h : IsOp s.n op) : lowN s op < op.natAbs ∧ op.natAbs ≤ hiN s op ∧ hiN s op ≤ s.n ∧ gI s.L op.natAbs = (lowN s op : Int) ∧ gI s.R op.natAbs = (hiN s op : Int) + 1 := by
  unfold lowN hiN
  obtain ⟨r1, r2⟩ := w.rb op.natAbs h.2
  obtain ⟨l1, l2⟩ := w.lb op.natAbs h.1 (by have := h.2; omega)
  refine ⟨by omega, by omega, by omega, by omega, by omega⟩
/-- no other gap changes -/
theorem step_st {s : Sd} (w : Wf s) {op : Int} (h : IsOp s.n op) {g : Nat} (hl : g ≠ lowN s op) (hh : g ≠ hiN s op) : stT (stepS s op) g = stT s g := by
  obtain ⟨t1, t2, t3, t4, t5⟩ := touch_bd w h
  have e1 : gI (stepS s op).R g = gI s.R g := by
    show gI (s.R.set _ _) g = _
    rw [gI_set (by rw [w.lR, t4]; have := h.2; omega), t4, if_neg (by rw [Int.toNat_natCast]; exact hl)]
  have e2 : gI (stepS s op).L (g + 1) = gI s.L (g + 1) := by
    show gI (s.L.set _ _) (g + 1) = _
    rw [gI_set (by rw [w.lL, t5]; omega), t5, if_neg (by omega)]
  unfold stT
  rw [e1, e2]
/-- the lost gaps, ascending -/
theorem mem_lost {s : Sd} {g : Nat} : g ∈ lostL s ↔ g ≤ s.n ∧ stT s g = "lost" := by
  unfold lostL
  rw [List.mem_filter, List.mem_range]
  constructor
  · exact fun ⟨a, b⟩ => ⟨by omega, of_decide_eq_true b⟩
  · exact fun ⟨a, b⟩ => ⟨by omega, decide_eq_true b⟩
theorem lost_sorted (s : Sd) : (lostL s).Pairwise (· < ·) := by
  unfold lostL
  exact List.Pairwise.filter _ List.pairwise_lt_range
theorem lost_head {s : Sd} {g : Nat} {r : List Nat} (h : lostL s = g :: r) : g ≤ s.n ∧ stT s g = "lost" ∧ ∀ x, x ≤ s.n → stT s x = "lost" → g ≤ x := by
  have m : g ∈ lostL s := by rw [h]; exact List.mem_cons_self
  obtain ⟨a, b⟩ := mem_lost.mp m
  refine ⟨a, b, fun x h1 h2 => ?_⟩
  have mx : x ∈ lostL s := mem_lost.mpr ⟨h1, h2⟩
  have so := lost_sorted s
  rw [h] at mx so
  rcases List.mem_cons.mp mx with rfl | q
  · exact Nat.le_refl _
  · exact Nat.le_of_lt ((List.pairwise_cons.mp so).1 x q)
/-- while nothing is lost, a loss stands at a touched gap -/
theorem ls_step {s : Sd} (w : Wf s) {op : Int} (h : IsOp s.n op) (k : Nat) (e : lostL s = []) :
    lsS s (stepS s op) k (hiN s op) (lsS s (stepS s op) k (lowN s op) none) = ((lostL (stepS s op)).head?.map fun g => (k, g)) := by
  obtain ⟨t1, t2, t3, t4, t5⟩ := touch_bd w h
  have no : ∀ x, x ≤ s.n → stT s x ≠ "lost" := fun x h1 h2 => by
    have := mem_lost.mpr ⟨h1, h2⟩
    rw [e] at this
    cases this
  have nl := no (lowN s op) (by have := h.2; omega)
  have nh := no (hiN s op) t3
  have key : ∀ g, g ≤ s.n → ∀ l0, lsS s (stepS s op) k g l0 = if l0 = none ∧ stT (stepS s op) g = "lost" then some (k, g) else l0 := by
    intro g hg l0
    unfold lsS
    by_cases c1 : l0 = none
    · by_cases c2 : stT (stepS s op) g = "lost"
      · rw [if_pos ⟨c1, by rw [c2]; exact no g hg, c2⟩, if_pos ⟨c1, c2⟩]
      · rw [if_neg (fun z => c2 z.2.2), if_neg (fun z => c2 z.2)]
    · rw [if_neg (fun z => c1 z.1), if_neg (fun z => c1 z.1)]
  have kl := key (lowN s op) (by have := h.2; omega) none
  have only : ∀ x, x ≤ s.n → stT (stepS s op) x = "lost" → x = lowN s op ∨ x = hiN s op := by
    intro x hx hl
    by_cases c1 : x = lowN s op
    · exact .inl c1
    · by_cases c2 : x = hiN s op
      · exact .inr c2
      · rw [step_st w h c1 c2] at hl
        exact absurd hl (no x hx)
  cases hL : lostL (stepS s op) with
  | nil =>
    have n1 : stT (stepS s op) (lowN s op) ≠ "lost" := fun z => by
      have := mem_lost.mpr ⟨show lowN s op ≤ (stepS s op).n by rw [stepS_n]; have := h.2; omega, z⟩
      rw [hL] at this
      cases this
    have n2 : stT (stepS s op) (hiN s op) ≠ "lost" := fun z => by
      have := mem_lost.mpr ⟨show hiN s op ≤ (stepS s op).n by rw [stepS_n]; exact t3, z⟩
      rw [hL] at this
      cases this
    rw [kl, if_neg (fun z => n1 z.2), key _ t3, if_neg (fun z => n2 z.2)] <;> rfl
  | cons g r =>
    obtain ⟨g1, g2, g3⟩ := lost_head hL
    rw [stepS_n] at g1 g3
    show _ = some (k, g)
    by_cases c : stT (stepS s op) (lowN s op) = "lost"
    · have := g3 _ (by have := h.2; omega) c
      have eg : g = lowN s op := by
        rcases only g g1 g2 with q | q
        · exact q
        · omega
      rw [kl, if_pos ⟨rfl, c⟩, key _ t3, if_neg (fun z => by cases z.1), eg]
    · have eg : g = hiN s op := by
        rcases only g g1 g2 with q | q
        · exact absurd (q ▸ g2) c
        · exact q
      rw [kl, if_neg (fun z => c z.2), key _ t3, if_pos ⟨rfl, eg ▸ g2⟩, eg]
/-- the last change of a gap, when one more operation comes -/
theorem de_step {s : Sd} (w : Wf s) {op : Int} (h : IsOp s.n op) (k : Nat) {de : List Int} (hl : de.length = s.n + 1) {g : Nat} (hg : g ≤ s.n) :
    gI (deS s (stepS s op) k (deS s (stepS s op) k de (lowN s op)) (hiN s op)) g = if stT s g = stT (stepS s op) g then gI de g else (k : Int) := by
  obtain ⟨t1, t2, t3, t4, t5⟩ := touch_bd w h
  have key : ∀ de' : List Int, de'.length = s.n + 1 → ∀ x, x ≤ s.n → gI (deS s (stepS s op) k de' x) g = if g = x ∧ ¬ stT s g = stT (stepS s op) g then (k : Int) else gI de' g := by
    intro de' hl' x hx
    unfold deS
    by_cases c : stT s x = stT (stepS s op) x
    · rw [if_pos c, if_neg]
      rintro ⟨rfl, n⟩
      exact n c
    · rw [if_neg c, gI_set (by omega)]
      by_cases e : g = x
      · rw [if_pos e, if_pos ⟨e, by rw [e]; exact c⟩]
      · rw [if_neg e, if_neg (fun z => e z.1)]
  rw [key _ (by rw [deS_len, hl]) _ t3, key _ hl _ (by have := h.2; omega)]
  by_cases c : stT s g = stT (stepS s op) g
  · rw [if_pos c, if_neg (fun z => z.2 c), if_neg (fun z => z.2 c)]
  · rw [if_neg c]
    by_cases e2 : g = hiN s op
    · rw [if_pos ⟨e2, c⟩]
    · rw [if_neg (fun z => e2 z.1)]
      by_cases e1 : g = lowN s op
      · rw [if_pos ⟨e1, c⟩]
      · exact absurd (step_st w h e1 e2).symm c

/-! ### promises -/
section
variable (K : PySem.W.Frag)
/-- the errors of a log from the whole list -/
structure RepE (H : Hp) (size : Int) (log : List Int) (E : XK) : Prop where
  op : SizeOk size → LogE K (wholeS size.toNat) log E H
  sz : ¬ SizeOk size → ∀ H', Kp [] H H' → Ex K "BadSize" [("size", .int size)] E H'
theorem RepE.kp {K : PySem.W.Frag} {H H1 : Hp} {size : Int} {log : List Int} {E : XK} (r : RepE K H size log E) (k : Kp [] H H1) : RepE K H1 size log E :=
  ⟨fun ok i op h l b H' k' => r.op ok i op h l b H' (k.trans k'), fun b H' k' => r.sz b H' (k.trans k')⟩
def TouchAt (H : Hp) (n : Nat) (log : List Int) (xs : List V) : Prop := xs.length = log.length ∧ ∀ (i : Nat) (op : Int), log[i]? = some op → ∃ t, xs[i]? = some (.ref t) ∧ H t = some (.tup [.int (op.natAbs : Int), .int (gI (runS (wholeS n) (log.take i)).L op.natAbs), .int (gI (runS (wholeS n) (log.take i)).R op.natAbs)])
def sp__links_of_operations : Sp := fun vs H Q E => ∃ (a : Addr) (size : Int) (log : List Int), vs = [.int size, .ref a] ∧ SqL K H a (log.map V.int) ∧ log.length ≤ 1000 ∧ RepE K H size log E ∧
  (SizeOk size → Leg (wholeS size.toNat) log → ∀ q H' xs, H q = none → Kp [] H H' → H' q = some (.lst xs) → TouchAt H' size.toNat log xs → Q (.ref q) H')
def sp_writers : Sp := fun vs H Q E => ∃ (a : Addr) (size : Int) (log : List Int), vs = [.int size, .ref a] ∧ SqL K H a (log.map V.int) ∧ log.length ≤ 1000 ∧ RepE K H size log E ∧
  (SizeOk size → Leg (wholeS size.toNat) log → ∀ t r l H', Kp [] H H' → H' t = some (.tup [.ref r, .ref l]) → H' r = some (.lst ((bkR size.toNat log).wr.map V.int)) → H' l = some (.lst ((bkR size.toNat log).wl.map V.int)) → Q (.ref t) H')
def sp_decided_by : Sp := fun vs H Q E => ∃ (a : Addr) (size g : Int) (log : List Int), vs = [.int size, .ref a, .int g] ∧ SqL K H a (log.map V.int) ∧ RepE K H size log E ∧
  (SizeOk size → Leg (wholeS size.toNat) log → ¬ (0 ≤ g ∧ g ≤ size) → ∀ H', Kp [] H H' → Ex K "BadGap" [("gap", .int g)] E H') ∧
  (SizeOk size → Leg (wholeS size.toNat) log → 0 ≤ g → g ≤ size → ∀ H', Kp [] H H' → Q (.int (gI (bkR size.toNat log).de g.toNat)) H')
/-- None or a pair -/
def OptP (H : Hp) (v : V) : Option (Nat × Nat) → Prop
  | none => v = .non
  | some (k, g) => ∃ t, v = .ref t ∧ H t = some (.tup [.int (k : Int), .int (g : Int)])
def sp_first_loss : Sp := fun vs H Q E => ∃ (a : Addr) (size : Int) (log : List Int), vs = [.int size, .ref a] ∧ SqL K H a (log.map V.int) ∧ RepE K H size log E ∧
  (SizeOk size → Leg (wholeS size.toNat) log → ∀ v H', Kp [] H H' → OptP H' v (bkR size.toNat log).ls → Q v H')
end
end G

set_option Elab.async false
set_option linter.all false
set_option maxRecDepth 100000
set_option maxHeartbeats 4000000
/-! What the law's own defs promise. -/
namespace G
open PySem PySem.Spec PyProof.Rows L2
def Bag (H : Hp) (b : Addr) : Prop := ∃ c m t : Int, H b = some (.lst [.int c, .int m, .int t])
/-- the law's own standing: a list of a size and three lists -/
structure LW (H : Hp) (w r l o : Addr) (s : Sd) : Prop where
  ob : H w = some (.lst [.int s.n, .ref r, .ref l, .ref o])
  hr : H r = some (.lst (s.R.map V.int))
  hl : ∃ L' : List Int, H l = some (.lst (L'.map V.int)) ∧ L'.length = s.n + 2 ∧ ∀ v, 1 ≤ v → gI L' v = gI s.L v
  ho : H o = some (.lst (s.O.map V.bl))
  ne : r ≠ l ∧ r ≠ o ∧ l ≠ o ∧ w ≠ r ∧ w ≠ l ∧ w ≠ o
  wf : Wf s
theorem LW.kp {H H' : Hp} {w r l o : Addr} {s : Sd} {S : List Addr} (a : LW H w r l o s) (k : Kp S H H') (h1 : w ∉ S) (h2 : r ∉ S) (h3 : l ∉ S) (h4 : o ∉ S) : LW H' w r l o s := by
  obtain ⟨L', e1, e2⟩ := a.hl
  exact ⟨k _ _ h1 a.ob, k _ _ h2 a.hr, ⟨L', k _ _ h3 e1, e2⟩, k _ _ h4 a.ho, a.ne, a.wf⟩
theorem LW.k0 {H H' : Hp} {w r l o : Addr} {s : Sd} (a : LW H w r l o s) (k : Kp [] H H') : LW H' w r l o s := a.kp k (by simp) (by simp) (by simp) (by simp)
/-- out, by the last operation of the node -/
def outF (log : List Int) (v : Nat) : Bool := match log.reverse.find? (fun x => decide (x.natAbs = v)) with
  | some x => decide (x < 0)
  | none => false
theorem outF_snoc (log : List Int) (op : Int) (v : Nat) : outF (log ++ [op]) v = if op.natAbs = v then decide (op < 0) else outF log v := by
  unfold outF
  rw [List.reverse_append, List.reverse_singleton, List.singleton_append, List.find?_cons]
  by_cases h : op.natAbs = v
  · rw [decide_eq_true h, if_pos h]
  · rw [decide_eq_false h, if_neg h]
theorem run_out {n : Nat} (hn : n ≤ 60) : ∀ log : List Int, (∀ x ∈ log, IsOp n x) → ∀ v, gB (runS (wholeS n) log).O v = outF log v := by
  intro log
  induction log using snoc_ind with
  | h0 =>
    intro _ v
    show gB (List.replicate (n + 2) false) v = false
    unfold gB
    rw [List.getD_eq_getElem?_getD]
    by_cases h : v < n + 2
    · rw [List.getElem?_replicate_of_lt h] <;> rfl
    · rw [List.getElem?_eq_none (by rw [List.length_replicate]; omega)] <;> rfl
  | h1 l x ih =>
    intro h v
    have hx := h x (by simp)
    have lo : (runS (wholeS n) l).O.length = n + 2 := by
      clear ih h hx
      induction l using snoc_ind with
      | h0 => exact List.length_replicate
      | h1 l y ih =>
        rw [runS_snoc]
        show (List.set _ _ _).length = _
        rw [List.length_set, ih]
    rw [runS_snoc, outF_snoc]
    show gB ((runS (wholeS n) l).O.set x.natAbs (decide (x < 0))) v = _
    rw [gB_set (by rw [lo]; have := hx.2; omega), ih (fun y hy => h y (by simp [hy]))]
    by_cases e : x.natAbs = v
    · rw [if_pos e.symm, if_pos e]
    · rw [if_neg (fun z => e z.symm), if_neg e]
/-- each operation turns its node -/
def Alt (log : List Int) : Prop := ∀ i op, log[i]? = some op → outF (log.take i) op.natAbs = decide (0 < op)
theorem leg_of {n : Nat} (hn : n ≤ 60) {log : List Int} (h : ∀ x ∈ log, IsOp n x) (a : Alt log) : Leg (wholeS n) log := by
  intro i op hi
  refine ⟨by rw [runS_n]; exact h op (List.mem_of_getElem? hi), ?_⟩
  rw [run_out hn _ (fun x hx => h x (List.mem_of_mem_take hx))]
  exact a i op hi
theorem Leg.isop {n : Nat} {log : List Int} (h : Leg (wholeS n) log) : ∀ x ∈ log, IsOp n x := by
  intro x hx
  obtain ⟨i, hi⟩ := List.getElem?_of_mem hx
  have := (h i x hi).1
  rwa [runS_n] at this
theorem ok_out {n : Nat} (hn : n ≤ 60) {log : List Int} (h : Leg (wholeS n) log) {op : Int} : OkOp (runS (wholeS n) log) op ↔ IsOp n op ∧ outF log op.natAbs = decide (0 < op) := by
  unfold OkOp
  rw [run_out hn log h.isop, runS_n] <;> rfl

/-- what is due for a size, a log and a gap -/
def FltV (size : Int) (log : List Int) (g : Int) (xs : List V) : Prop :=
  (¬ SizeOk size ∧ xs = [.str "size", .int size]) ∨
  (SizeOk size ∧ ∃ (i : Nat) (op : Int), log[i]? = some op ∧ Leg (wholeS size.toNat) (log.take i) ∧ ¬ OkOp (runS (wholeS size.toNat) (log.take i)) op ∧ xs = [.str (if IsOp size.toNat op then "illegal" else "operation"), .int op, .int (i : Int)]) ∨
  (SizeOk size ∧ Leg (wholeS size.toNat) log ∧ ¬ (0 ≤ g ∧ g ≤ size) ∧ xs = [.str "gap", .int g]) ∨
  (SizeOk size ∧ Leg (wholeS size.toNat) log ∧ (0 ≤ g ∧ g ≤ size) ∧ xs = [.str "done"])
theorem bad_uniq {s : Sd} {log : List Int} {i j : Nat} {a b : Int} (hi : log[i]? = some a) (hj : log[j]? = some b) (li : Leg s (log.take i)) (lj : Leg s (log.take j)) (ni : ¬ OkOp (runS s (log.take i)) a) (nj : ¬ OkOp (runS s (log.take j)) b) : i = j ∧ a = b := by
  have lt : ∀ {i j : Nat} {a : Int}, log[i]? = some a → Leg s (log.take j) → ¬ OkOp (runS s (log.take i)) a → ¬ i < j := by
    intro i j a hi lj ni h
    have := lj i a (by rw [List.getElem?_take_of_lt h]; exact hi)
    rw [List.take_take, Nat.min_eq_left (by omega)] at this
    exact ni this
  have e : i = j := by
    have := lt hi lj ni
    have := lt hj li nj
    omega
  subst e
  exact ⟨rfl, by rw [hi] at hj; injection hj⟩
theorem bad_leg {s : Sd} {log : List Int} {i : Nat} {a : Int} (hi : log[i]? = some a) (ni : ¬ OkOp (runS s (log.take i)) a) (l : Leg s log) : False := ni (l i a hi)
theorem FltV.uniq {size : Int} {log : List Int} {g : Int} {xs ys : List V} (a : FltV size log g xs) (b : FltV size log g ys) : xs = ys := by
  rcases a with ⟨a1, rfl⟩ | ⟨a1, i, op, a2, a3, a4, rfl⟩ | ⟨a1, a2, a3, rfl⟩ | ⟨a1, a2, a3, rfl⟩ <;> rcases b with ⟨b1, rfl⟩ | ⟨b1, j, oq, b2, b3, b4, rfl⟩ | ⟨b1, b2, b3, rfl⟩ | ⟨b1, b2, b3, rfl⟩
  all_goals first
    | rfl
    | exact absurd b1 a1
    | exact absurd a1 b1
    | exact absurd b3 a3
    | exact absurd a3 b3
    | exact (bad_leg a2 a4 b2).elim
    | exact (bad_leg b2 b4 a2).elim
    | (obtain ⟨rfl, rfl⟩ := bad_uniq a2 b2 a3 b3 a4 b4; rfl)
section
def sp__law_bag (K : PySem.W.Frag) : Sp := fun vs H Q E => ∃ (a : Addr) (lane : Int) (ns : List Int), vs = [.ref a, .int lane] ∧ 0 ≤ lane ∧ lane ≤ 1 ∧ SqL K H a (ns.map V.int) ∧ ns.length ≤ 63 ∧ ∀ b H', H b = none → Kp [] H H' → Bag H' b → Q (.ref b) H'
def sp__law_draw (K : PySem.W.Frag) : Sp := fun vs H Q E => ∃ (b : Addr) (many : Int), vs = [.ref b, .int many] ∧ 0 < many ∧ many < 2 ^ 30 ∧ Bag H b ∧ ∀ (d : Int) H', 0 ≤ d → d < many → Kp [b] H H' → Bag H' b → Q (.int d) H'
def sp__law_size (K : PySem.W.Frag) : Sp := fun vs H Q E => ∃ b : Addr, vs = [.ref b] ∧ Bag H b ∧ ∀ (n : Nat) H', n ≤ 60 → Kp [b] H H' → Bag H' b → Q (.int (n : Int)) H'
def sp__law_whole (K : PySem.W.Frag) : Sp := fun vs H Q E => ∃ n : Nat, vs = [.int (n : Int)] ∧ n ≤ 60 ∧ ∀ w r l o H', H w = none → H r = none → H l = none → H o = none → Kp [] H H' → LW H' w r l o (wholeS n) → Q (.ref w) H'
def sp__law_planted (K : PySem.W.Frag) : Sp := fun vs H Q E => ∃ (b : Addr) (n : Nat), vs = [.ref b, .int (n : Int)] ∧ n ≤ 60 ∧ Bag H b ∧ ∀ (ds : List Int) (q : Addr) H', H q = none → (∀ x ∈ ds, IsOp n x) → Alt ds → ds.length ≤ 9 → Kp [b] H H' → Bag H' b → H' q = some (.lst (ds.map V.int)) → Q (.ref q) H'
def sp__law_log (K : PySem.W.Frag) : Sp := fun vs H Q E => ∃ (b : Addr) (n : Nat), vs = [.ref b, .int (n : Int)] ∧ n ≤ 60 ∧ Bag H b ∧ ∀ (ds : List Int) (q : Addr) H', H q = none → (∀ x ∈ ds, IsOp n x) → Alt ds → ds.length ≤ 200 → Kp [b] H H' → Bag H' b → H' q = some (.lst (ds.map V.int)) → Q (.ref q) H'
def sp__law_state (K : PySem.W.Frag) : Sp := fun vs H Q E => ∃ (w r l o : Addr) (s : Sd) (g : Nat), vs = [.ref w, .int (g : Int)] ∧ LW H w r l o s ∧ g ≤ s.n ∧ Q (.str (stT s g)) H
def sp__law_step (K : PySem.W.Frag) : Sp := fun vs H Q E => ∃ (w r l o : Addr) (s : Sd) (op : Int), vs = [.ref w, .int op] ∧ LW H w r l o s ∧ IsOp s.n op ∧ ∀ H', Kp [r, l, o] H H' → LW H' w r l o (stepS s op) → Q .non H'
def sp__law_whole_number (K : PySem.W.Frag) : Sp := fun vs H Q E => ∃ i : Int, vs = [.int i] ∧ Q (.bl true) H
def sp__law_numbers (K : PySem.W.Frag) : Sp := fun vs H Q E => ∃ (a b : Addr) (xs : List Int), vs = [.ref a, .ref b] ∧ xs.length ≤ 1000 ∧ H a = some (.lst (xs.map V.int)) ∧ H b = some (.lst (xs.map V.int)) ∧ Q (.bl true) H
def sp__law_pair (K : PySem.W.Frag) : Sp := fun vs H Q E => ∃ (x y : V) (p : Option (Nat × Nat)), vs = [x, y] ∧ OptP H x p ∧ OptP H y p ∧ Q (.bl true) H
def sp__law_book (K : PySem.W.Frag) : Sp := fun vs H Q E => ∃ (n : Nat) (a : Addr) (log : List Int), vs = [.int (n : Int), .ref a] ∧ n ≤ 60 ∧ SqL K H a (log.map V.int) ∧ log.length ≤ 1000 ∧ Leg (wholeS n) log ∧
  ∀ q r l d v H', Kp [] H H' → H' q = some (.lst [.ref r, .ref l, .ref d, v]) → H' r = some (.lst ((bkR n log).wr.map V.int)) → H' l = some (.lst ((bkR n log).wl.map V.int)) → H' d = some (.lst ((bkR n log).de.map V.int)) → OptP H' v (bkR n log).ls → Q (.ref q) H'
def sp__law_agrees (K : PySem.W.Frag) : Sp := fun vs H Q E => ∃ (n : Nat) (a c : Addr) (log gs : List Int), vs = [.int (n : Int), .ref a, .ref c] ∧ n ≤ 60 ∧ H a = some (.lst (log.map V.int)) ∧ log.length ≤ 1000 ∧ Leg (wholeS n) log ∧ SqL K H c (gs.map V.int) ∧ (∀ g ∈ gs, 0 ≤ g ∧ g ≤ n) ∧ gs.length ≤ 1000 ∧ ∀ H', Kp [] H H' → Q (.bl true) H'
def sp__law_fault (K : PySem.W.Frag) : Sp := fun vs H Q E => ∃ (size g : Int) (a : Addr) (log : List Int), vs = [.int size, .ref a, .int g] ∧ SqL K H a (log.map V.int) ∧ log.length ≤ 1000 ∧ ∀ xs t H', FltV size log g xs → Kp [] H H' → H' t = some (.tup xs) → Q (.ref t) H'
def sp__law_answer (K : PySem.W.Frag) : Sp := fun vs H Q E => ∃ (way size g : Int) (a : Addr) (log : List Int), vs = [.int way, .int size, .ref a, .int g] ∧ (way = 0 ∨ g = 0) ∧ 0 ≤ way ∧ way ≤ 2 ∧ SqL K H a (log.map V.int) ∧ log.length ≤ 1000 ∧ ∀ xs t H', FltV size log g xs → Kp [] H H' → H' t = some (.tup xs) → Q (.ref t) H'
def sp__law_spoilt (K : PySem.W.Frag) : Sp := fun vs H Q E => ∃ (b a : Addr) (n : Nat) (log : List Int), vs = [.ref b, .int (n : Int), .ref a] ∧ n ≤ 60 ∧ Bag H b ∧ a ≠ b ∧ H a = some (.lst (log.map V.int)) ∧ log.length ≤ 400 ∧ ∀ (ds : List Int) (q : Addr) H', H q = none → ds.length ≤ 2 * log.length + 2 → Kp [b] H H' → Bag H' b → H' q = some (.lst (ds.map V.int)) → Q (.ref q) H'
/-- a trial: a size, a log, a gap -/
def Trial (H : Hp) (x : V) : Prop := ∃ (t a : Addr) (size g : Int) (log : List Int), x = .ref t ∧ H t = some (.tup [.int size, .ref a, .int g]) ∧ H a = some (.lst (log.map V.int)) ∧ log.length ≤ 1000
def sp__law_trials (K : PySem.W.Frag) : Sp := fun vs H Q E => ∃ (b a : Addr) (n : Nat) (log : List Int), vs = [.ref b, .int (n : Int), .ref a] ∧ n ≤ 60 ∧ Bag H b ∧ a ≠ b ∧ H a = some (.lst (log.map V.int)) ∧ log.length ≤ 400 ∧ ∀ (xs : List V) (q : Addr) H', Kp [b] H H' → Bag H' b → H' q = some (.lst xs) → xs.length ≤ 100 → (∀ x ∈ xs, Trial H' x) → Q (.ref q) H'
def sp__law_places (K : PySem.W.Frag) : Sp := fun vs H Q E => ∃ (b a : Addr) (n : Nat) (log : List Int), vs = [.ref b, .int (n : Int), .ref a] ∧ n ≤ 60 ∧ Bag H b ∧ a ≠ b ∧ H a = some (.lst (log.map V.int)) ∧ log.length ≤ 500 ∧ (∀ x ∈ log, IsOp n x) ∧ ∀ (gs : List Int) (q : Addr) H', gs.length ≤ 100 → (∀ g ∈ gs, 0 ≤ g ∧ g ≤ n) → Kp [b] H H' → Bag H' b → H' q = some (.lst (gs.map V.int)) → Q (.ref q) H'
def sp__law_refuses (K : PySem.W.Frag) : Sp := fun vs H Q E => ∃ (q : Addr) (xs : List V), vs = [.ref q] ∧ H q = some (.lst xs) ∧ xs.length ≤ 100 ∧ (∀ x ∈ xs, Trial H x) ∧ ∀ H', Kp [] H H' → Q (.bl true) H'
def sp_law (K : PySem.W.Frag) : Sp := fun vs H Q E => ∃ (a : Addr) (ns : List Int), vs = [.ref a] ∧ SqL K H a (ns.map V.int) ∧ ns.length ≤ 63 ∧ ∀ H', Q (.bl true) H'
end
end G

set_option Elab.async false
set_option linter.all false
set_option maxRecDepth 100000
set_option maxHeartbeats 4000000
/-! k10: verdicts, certificates, values of many kinds. -/
namespace G
open PySem PySem.Spec PyProof.Rows L2
/-- a comprehension whose turns change the heap -/
theorem cp_mut {σ : L2.St} {H : Hp} {Q : VK} {te : TE} {tt : TT} {g : TG} {vs : List Nat} {lo : Int} {n : Nat} (Pv : Addr → Nat → List V → Hp → Prop) (hn : n < sizeLine)
    (h0 : ∀ D H', H D = none → Kp [] H H' → H' D = some (.lst []) → Pv D 0 [] H')
    (hs : ∀ (D : Addr) (i : Nat) (acc : List V) (H' : Hp) (S : V → Hp → Prop) (N : Hp → Prop), H D = none → i < n → H' D = some (.lst acc) → Pv D i acc H' →
      (∀ y H4, H4 D = some (.lst acc) → (∀ H5, Kp [D] H4 H5 → H5 D = some (.lst (acc ++ [y])) → Pv D (i + 1) (acc ++ [y]) H5) → S y H4) → (∀ H4, H4 D = some (.lst acc) → Pv D (i + 1) acc H4 → N H4) →
      g (.int (lo + (i : Int))) (wipe σ vs) H' fun σ2 H2 => wipe σ2 vs = wipe σ vs ∧ tt σ2 H2 fun b H3 => if b = true then te σ2 H3 S else N H3)
    (hd : ∀ D acc H', H D = none → H' D = some (.lst acc) → acc.length ≤ n → Pv D n acc H' → Q (.ref D) H') : CompG (Itr lo n) g tt te vs σ Q H := by
  intro D nD
  refine ⟨fun i m H' => m = n - i ∧ i ≤ n ∧ ∃ acc, acc.length ≤ i ∧ H' D = some (.lst acc) ∧ Pv D i acc H', ⟨n, by simp, Nat.zero_le _, [], Nat.le_refl _, upd_same, h0 D _ nD (Kp.new nD) upd_same⟩, ?_⟩
  rintro i m H' ⟨rfl, hi, acc, la, e, p⟩
  by_cases lt : i < n
  · refine .inr ⟨lt, fun H'' => ∃ acc, acc.length ≤ i + 1 ∧ H'' D = some (.lst acc) ∧ Pv D (i + 1) acc H'', fun H'' p => ⟨n - (i + 1), by omega, rfl, lt, p⟩, fun x H'' y => ?_⟩
    obtain ⟨rfl, rfl⟩ := y
    refine hs D i acc _ _ _ nD lt e p (fun y H4 h4 k4 => ⟨acc, h4, by omega, acc ++ [y], by rw [List.length_append]; show acc.length + 1 ≤ _; omega, upd_same, k4 _ (Kp.put (by simp)) upd_same⟩) (fun H4 h4 k4 => ⟨acc, by omega, h4, k4⟩)
  · have ei : i = n := by omega
    subst ei
    exact .inl ⟨Nat.le_refl _, hd D acc H' nD e la p⟩
/-- .. over a list -/
theorem cp_mutL {K : PySem.W.Frag} {σ : L2.St} {H : Hp} {Q : VK} {te : TE} {tt : TT} {g : TG} {vs : List Nat} {a : Addr} {xs : List V} (Pv : Addr → Nat → List V → Hp → Prop) (hn : xs.length < sizeLine)
    (h0 : ∀ D H', H D = none → Kp [] H H' → H' D = some (.lst []) → Pv D 0 [] H')
    (hl : ∀ D i acc H', H D = none → Pv D i acc H' → SqL K H' a xs)
    (hs : ∀ (D : Addr) (i : Nat) (x : V) (acc : List V) (H' : Hp) (S : V → Hp → Prop) (N : Hp → Prop), H D = none → xs[i]? = some x → H' D = some (.lst acc) → Pv D i acc H' →
      (∀ y H4, H4 D = some (.lst acc) → (∀ H5, Kp [D] H4 H5 → H5 D = some (.lst (acc ++ [y])) → Pv D (i + 1) (acc ++ [y]) H5) → S y H4) → (∀ H4, H4 D = some (.lst acc) → Pv D (i + 1) acc H4 → N H4) →
      g x (wipe σ vs) H' fun σ2 H2 => wipe σ2 vs = wipe σ vs ∧ tt σ2 H2 fun b H3 => if b = true then te σ2 H3 S else N H3)
    (hd : ∀ D acc H', H D = none → H' D = some (.lst acc) → acc.length ≤ xs.length → Pv D xs.length acc H' → Q (.ref D) H') : CompG (Itl K a) g tt te vs σ Q H := by
  intro D nD
  refine ⟨fun i m H' => m = xs.length - i ∧ i ≤ xs.length ∧ ∃ acc, acc.length ≤ i ∧ H' D = some (.lst acc) ∧ Pv D i acc H', ⟨xs.length, by simp, Nat.zero_le _, [], Nat.le_refl _, upd_same, h0 D _ nD (Kp.new nD) upd_same⟩, ?_⟩
  rintro i m H' ⟨rfl, hi, acc, la, e, p⟩
  have q := hl D i acc H' nD p
  by_cases lt : i < xs.length
  · refine .inr ⟨⟨xs, xs[i], q, by simp [lt]⟩, fun H'' => ∃ acc, acc.length ≤ i + 1 ∧ H'' D = some (.lst acc) ∧ Pv D (i + 1) acc H'', fun H'' p => ⟨xs.length - (i + 1), by omega, rfl, lt, p⟩, fun x H'' y => ?_⟩
    obtain ⟨rfl, hx⟩ := y
    refine hs D i x acc _ _ _ nD (hx xs q) e p (fun y H4 h4 k4 => ⟨acc, h4, by omega, acc ++ [y], by rw [List.length_append]; show acc.length + 1 ≤ _; omega, upd_same, k4 _ (Kp.put (by simp)) upd_same⟩) (fun H4 h4 k4 => ⟨acc, by omega, h4, k4⟩)
  · have ei : i = xs.length := by omega
    subst ei
    exact .inl ⟨⟨xs, q, Nat.le_refl _⟩, hd D acc H' nD e la p⟩
/-- the nodes that are out, from the least on -/
def outN (n : Nat) (O : List Bool) : List Int := (((List.range n).map fun (v : Nat) => v + 1).filter fun v => gB O v).map fun (v : Nat) => (v : Int)
theorem outN_len (n : Nat) (O : List Bool) : (outN n O).length ≤ n := by
  unfold outN
  rw [List.length_map]
  refine Nat.le_trans (List.length_filter_le _ _) ?_
  rw [List.length_map, List.length_range]
  exact Nat.le_refl _
/-- None or a whole number -/
def Isn (v : V) : Prop := v = .non ∨ ∃ i : Int, v = .int i
/-! a verdict in the heap -/
def vfl (g a b w : V) : List (Str × V) := putF "whole" w (putF "index" b (putF "gap" a (putF "out_nodes" g [])))
theorem m1 : ¬ (("out_nodes" : Str) = "gap") := by decide +kernel
theorem m2 : ¬ (("out_nodes" : Str) = "index") := by decide +kernel
theorem m3 : ¬ (("out_nodes" : Str) = "whole") := by decide +kernel
theorem m4 : ¬ (("gap" : Str) = "index") := by decide +kernel
theorem m5 : ¬ (("gap" : Str) = "whole") := by decide +kernel
theorem m6 : ¬ (("index" : Str) = "whole") := by decide +kernel
theorem vfl_g (g a b w : V) : (vfl g a b w).lookup ("out_nodes" : Str) = some g := by
  unfold vfl
  rw [lookup_putF, if_neg m3, lookup_putF, if_neg m2, lookup_putF, if_neg m1, lookup_putF, if_pos rfl]
theorem vfl_a (g a b w : V) : (vfl g a b w).lookup ("gap" : Str) = some a := by
  unfold vfl
  rw [lookup_putF, if_neg m5, lookup_putF, if_neg m4, lookup_putF, if_pos rfl]
theorem vfl_b (g a b w : V) : (vfl g a b w).lookup ("index" : Str) = some b := by
  unfold vfl
  rw [lookup_putF, if_neg m6, lookup_putF, if_pos rfl]
theorem vfl_w (g a b w : V) : (vfl g a b w).lookup ("whole" : Str) = some w := by
  unfold vfl
  rw [lookup_putF, if_pos rfl]
def whB (a : V) (gone : List Int) : Bool := match a with
  | .non => decide ((gone.length : Int) = 0)
  | _ => false
structure VdAt (K : PySem.W.Frag) (H : Hp) (x g : Addr) (gone : List Int) (a b : V) : Prop where
  ob : ∃ dx, H x = some (.ins (He.ga K "Verdict") dx (vfl (.ref g) a b (.bl (whB a gone))))
  hg : H g = some (.lst (gone.map V.int))
theorem VdAt.kp {K : PySem.W.Frag} {H H' : Hp} {x g : Addr} {gone : List Int} {a b : V} {S : List Addr} (v : VdAt K H x g gone a b) (k : Kp S H H') (h1 : x ∉ S) (h2 : g ∉ S) : VdAt K H' x g gone a b := by
  obtain ⟨dx, h⟩ := v.ob
  exact ⟨⟨dx, k _ _ h1 h⟩, k _ _ h2 v.hg⟩
theorem VdAt.k0 {K : PySem.W.Frag} {H H' : Hp} {x g : Addr} {gone : List Int} {a b : V} (v : VdAt K H x g gone a b) (k : Kp [] H H') : VdAt K H' x g gone a b := v.kp k (by simp) (by simp)
/-- what the verdict of a log is due to tell -/
def VF (n : Nat) (log : List Int) (v w : V) : Prop :=
  (∃ i : Nat, i ≤ n ∧ (∀ j, j < i → stT (runS (wholeS n) log) j = "joined") ∧ stT (runS (wholeS n) log) i ≠ "joined" ∧ v = .int (i : Int) ∧ w = .int (gI (bkR n log).de i)) ∨
  ((∀ j, j ≤ n → stT (runS (wholeS n) log) j = "joined") ∧ v = .non ∧ w = .non)
theorem VF.isn {n : Nat} {log : List Int} {v w : V} (h : VF n log v w) : Isn v ∧ Isn w := by
  rcases h with ⟨i, _, _, _, rfl, rfl⟩ | ⟨_, rfl, rfl⟩
  · exact ⟨.inr ⟨_, rfl⟩, .inr ⟨_, rfl⟩⟩
  · exact ⟨.inl rfl, .inl rfl⟩
/-- the certificate of a gap -/
def paper (n : Nat) (log : List Int) (i : Nat) : List V := [.str (stT (runS (wholeS n) log) i), .int (gI (bkR n log).wr i), .int (gI (bkR n log).wl i)]
def PapersAt (H : Hp) (p : Addr) (n : Nat) (log : List Int) : Prop := ∃ ps : List V, H p = some (.lst ps) ∧ ps.length = n + 1 ∧ ∀ i, i ≤ n → ∃ t, ps[i]? = some (.ref t) ∧ H t = some (.tup (paper n log i))
def outS (n : Nat) (log : List Int) : List Int := outN n (runS (wholeS n) log).O
def BookAt (H : Hp) (q : Addr) (n : Nat) (log : List Int) : Prop := ∃ p d g, H q = some (.lst [.ref p, .ref d, .ref g]) ∧ PapersAt H p n log ∧ H d = some (.lst ((bkR n log).de.map V.int)) ∧ H g = some (.lst ((outS n log).map V.int))
theorem PapersAt.k0 {H H' : Hp} {p : Addr} {n : Nat} {log : List Int} (a : PapersAt H p n log) (k : Kp [] H H') : PapersAt H' p n log := by
  obtain ⟨ps, h1, h2, h3⟩ := a
  refine ⟨ps, k.at0 h1, h2, fun i hi => ?_⟩
  obtain ⟨t, h4, h5⟩ := h3 i hi
  exact ⟨t, h4, k.at0 h5⟩
theorem PapersAt.k1 {H H' : Hp} {p b : Addr} {n : Nat} {log : List Int} (a : PapersAt H p n log) (hb : Bag H b) (ne : p ≠ b) (k : Kp [b] H H') : PapersAt H' p n log := by
  obtain ⟨ps, h1, h2, h3⟩ := a
  refine ⟨ps, k.at1 ne h1, h2, fun i hi => ?_⟩
  obtain ⟨t, h4, h5⟩ := h3 i hi
  obtain ⟨c, m, t', hb⟩ := hb
  exact ⟨t, h4, k.at1 (ne_of h5 hb (by intro z; cases z)) h5⟩
/-! values of many kinds, apart from b -/
mutual
inductive Vl (b : Addr) (H : Hp) : V → PyData → Prop
  | non : Vl b H .non .none
  | bl (k : Bool) : Vl b H (.bl k) (.bool k)
  | int (i : Int) : Vl b H (.int i) (.int i)
  | str (x : Str) : Vl b H (.str x) (.str x)
  | lst {a : Addr} {xs : List V} {ds : List PyData} : a ≠ b → H a = some (.lst xs) → VlA b H xs ds → Vl b H (.ref a) (.list ds)
  | tup {a : Addr} {xs : List V} {ds : List PyData} : a ≠ b → H a = some (.tup xs) → VlA b H xs ds → Vl b H (.ref a) (.tuple ds)
inductive VlA (b : Addr) (H : Hp) : List V → List PyData → Prop
  | nil : VlA b H [] []
  | cons {v : V} {vs : List V} {d : PyData} {ds : List PyData} : Vl b H v d → VlA b H vs ds → VlA b H (v :: vs) (d :: ds)
end
mutual
theorem Vl.dp {K : PySem.W.Frag} {b : Addr} {H : Hp} : ∀ (d : PyData) (v : V), Vl b H v d → Dp K H v d
  | .none, _, h => by cases h; exact .non
  | .bool b, _, h => by cases h; exact .bl b
  | .int i, _, h => by cases h; exact .int i
  | .str x, _, h => by cases h; exact .str x
  | .list ds, _, h => by
    cases h with
    | lst ne hs ha => exact .lst (SqL.of hs) (VlA.dp ds _ ha)
  | .tuple ds, _, h => by
    cases h with
    | tup ne hs ha => exact .tup (SqT.of hs) (VlA.dp ds _ ha)
  | .dict _, _, h => by cases h
theorem VlA.dp {K : PySem.W.Frag} {b : Addr} {H : Hp} : ∀ (ds : List PyData) (vs : List V), VlA b H vs ds → DpAll K H vs ds
  | [], _, h => by cases h; exact .nil
  | d :: ds, _, h => by
    cases h with
    | cons h1 h2 => exact .cons (Vl.dp d _ h1) (VlA.dp ds _ h2)
end
mutual
theorem Vl.kp {b : Addr} {H H' : Hp} (k : Kp [b] H H') : ∀ (d : PyData) (v : V), Vl b H v d → Vl b H' v d
  | .none, _, h => by cases h; exact .non
  | .bool b, _, h => by cases h; exact .bl b
  | .int i, _, h => by cases h; exact .int i
  | .str x, _, h => by cases h; exact .str x
  | .list ds, _, h => by
    cases h with
    | lst ne hs ha => exact .lst ne (k.at1 ne hs) (VlA.kp k ds _ ha)
  | .tuple ds, _, h => by
    cases h with
    | tup ne hs ha => exact .tup ne (k.at1 ne hs) (VlA.kp k ds _ ha)
  | .dict _, _, h => by cases h
theorem VlA.kp {b : Addr} {H H' : Hp} (k : Kp [b] H H') : ∀ (ds : List PyData) (vs : List V), VlA b H vs ds → VlA b H' vs ds
  | [], _, h => by cases h; exact .nil
  | d :: ds, _, h => by
    cases h with
    | cons h1 h2 => exact .cons (Vl.kp k d _ h1) (VlA.kp k ds _ h2)
end
theorem Vl.k0 {b : Addr} {H H' : Hp} {v : V} {d : PyData} (h : Vl b H v d) (k : Kp [] H H') : Vl b H' v d := Vl.kp k.all d v h
/-- no truth value stands where a whole number should -/
def okv : PyData → Bool
  | .tuple [_, .bool _, _] => false
  | .tuple [_, _, .bool _] => false
  | _ => true
structure Val (b : Addr) (H : Hp) (v : V) : Prop where
  ex : ∃ d, Vl b H v d ∧ SeqAt.shaped d = true ∧ okv d = true
theorem Val.k1 {b : Addr} {H H' : Hp} {v : V} (h : Val b H v) (k : Kp [b] H H') : Val b H' v := by
  obtain ⟨d, h1, h2⟩ := h.ex
  exact ⟨d, Vl.kp k d v h1, h2⟩
/-- the value is the certificate -/
def cerB (d : PyData) (s : Str) (i j : Int) : Bool := match d with
  | .tuple [.str t, .int k, .int l] => decide (t = s) && (decide (k = i) && decide (l = j))
  | _ => false
def isS : PyData → Bool
  | .str _ => true
  | _ => false
def isI : PyData → Bool
  | .int _ => true
  | _ => false
def isTu : PyData → Bool
  | .tuple _ => true
  | _ => false
theorem cer_of (a b c : PyData) (s : Str) (i j : Int) : cerB (.tuple [a, b, c]) s i j = (isS a && ((isI b && isI c) && PyData.eqv (.tuple [a, b, c]) (.tuple [.str s, .int i, .int j]))) := by
  cases a <;> cases b <;> cases c <;> simp [cerB, isS, isI, PyData.eqv, PyData.eqvAll, Bool.beq_eq_decide_eq]
theorem cer_okv {d : PyData} (h : okv d = true) (s : Str) (i j : Int) : cerB d s i j = PyData.eqv d (.tuple [.str s, .int i, .int j]) := by
  cases d with
  | tuple ds =>
    match ds with
    | [] => simp [cerB, PyData.eqv, PyData.eqvAll]
    | [a] => simp [cerB, PyData.eqv, PyData.eqvAll]
    | [a, b] => simp [cerB, PyData.eqv, PyData.eqvAll]
    | [a, b, c] =>
      rw [cer_of]
      cases a <;> cases b <;> cases c <;> simp_all [isS, isI, okv, PyData.eqv, PyData.eqvAll]
    | a :: b :: c :: d :: e => simp [cerB, PyData.eqv, PyData.eqvAll]
  | _ => simp [cerB, PyData.eqv]
theorem cer_len {ds : List PyData} (h : ds.length ≠ 3) (s : Str) (i j : Int) : cerB (.tuple ds) s i j = false := by
  match ds with
  | [] => rfl
  | [a] => simp [cerB]
  | [a, b] => simp [cerB]
  | [a, b, c] => exact absurd rfl h
  | a :: b :: c :: d :: e => simp [cerB]
theorem cer_tu {d : PyData} (h : isTu d = false) (s : Str) (i j : Int) : cerB d s i j = false := by
  cases d <;> simp_all [isTu, cerB]
/-! promises -/
section
def sp_Links_outs (K : PySem.W.Frag) : Sp := fun vs H Q E => ∃ (p r l o : Addr) (s : Sd), vs = [.ref p] ∧ LinksAt K H p r l o s ∧ ∀ q H', H q = none → Kp [] H H' → H' q = some (.lst ((outN s.n s.O).map V.int)) → Q (.ref q) H'
def sp_Verdict___init__ (K : PySem.W.Frag) : Sp := fun vs H Q E => ∃ (p l dx : Addr) (a b : V) (gone : List Int), vs = [.ref p, .ref l, a, b] ∧ H p = some (.ins (He.ga K "Verdict") dx []) ∧ p ≠ l ∧ SqL K H l (gone.map V.int) ∧ gone.length ≤ 1000 ∧ Isn a ∧
  ∀ g H', H g = none → Kp [p] H H' → VdAt K H' p g gone a b → Q .non H'
def sp_verdict (K : PySem.W.Frag) : Sp := fun vs H Q E => ∃ (a : Addr) (size : Int) (log : List Int), vs = [.int size, .ref a] ∧ SqL K H a (log.map V.int) ∧ log.length ≤ 1000 ∧ RepE K H size log E ∧
  (SizeOk size → Leg (wholeS size.toNat) log → ∀ x g v w H', Kp [] H H' → VdAt K H' x g (outS size.toNat log) v w → VF size.toNat log v w → Q (.ref x) H')
def sp__law_number_or_none (K : PySem.W.Frag) : Sp := fun vs H Q E => ∃ v : V, vs = [v, v] ∧ Isn v ∧ Q (.bl true) H
def sp__law_bears (K : PySem.W.Frag) : Sp := fun vs H Q E => ∃ (x g c : Addr) (gone : List Int) (v w : V), vs = [.ref x, .ref c, v, w] ∧ VdAt K H x g gone v w ∧ H c = some (.lst (gone.map V.int)) ∧ gone.length ≤ 1000 ∧ Isn v ∧ Isn w ∧ Q (.bl true) H
def sp10__law_book (K : PySem.W.Frag) : Sp := fun vs H Q E => ∃ (n : Nat) (a : Addr) (log : List Int), vs = [.int (n : Int), .ref a] ∧ n ≤ 60 ∧ SqL K H a (log.map V.int) ∧ log.length ≤ 1000 ∧ Leg (wholeS n) log ∧ ∀ q H', Kp [] H H' → BookAt H' q n log → Q (.ref q) H'
def sp__law_verdict_fits (K : PySem.W.Frag) : Sp := fun vs H Q E => ∃ (x g q : Addr) (n : Nat) (log : List Int) (v w : V), vs = [.ref x, .ref q] ∧ n ≤ 60 ∧ VdAt K H x g (outS n log) v w ∧ VF n log v w ∧ BookAt H q n log ∧ Q (.bl true) H
def sp__law_made (K : PySem.W.Frag) : Sp := fun vs H Q E => ∃ (c : Addr) (gone : List Int) (v w : V), vs = [.ref c, v, w] ∧ H c = some (.lst (gone.map V.int)) ∧ gone.length ≤ 10 ∧ Isn v ∧ Isn w ∧ ∀ H', Kp [] H H' → Q (.bl true) H'
def sp__law_is_paper (K : PySem.W.Frag) : Sp := fun vs H Q E => ∃ (t u : Addr) (s : Str) (i j : Int), vs = [.ref t, .ref u] ∧ H t = some (.tup [.str s, .int i, .int j]) ∧ H u = some (.tup [.str s, .int i, .int j]) ∧ Q (.bl true) H
def sp__law_bents (K : PySem.W.Frag) : Sp := fun vs H Q E => ∃ (b u o : Addr) (by_ i j i' j' : Int) (s s' : Str), vs = [.ref u, .ref o, .int by_] ∧ H u = some (.tup [.str s, .int i, .int j]) ∧ H o = some (.tup [.str s', .int i', .int j']) ∧ PyData.strOk s = true ∧ PyData.strOk s' = true ∧
  -2000 ≤ i ∧ i ≤ 2000 ∧ u ≠ b ∧ o ≠ b ∧ H b ≠ none ∧ ∀ q xs H', H q = none → Kp [] H H' → H' q = some (.lst xs) → 1 ≤ xs.length → xs.length ≤ 100 → (∀ x ∈ xs, Val b H' x) → Q (.ref q) H'
def sp_is_plain_integer (K : PySem.W.Frag) : Sp := fun vs H Q E => ∃ (b : Addr) (x : V) (d : PyData), vs = [x] ∧ Vl b H x d ∧ Q (.bl (isI d)) H
def sp_gap_certificate (K : PySem.W.Frag) : Sp := fun vs H Q E => ∃ (a : Addr) (size g : Int) (log : List Int), vs = [.int size, .ref a, .int g] ∧ SqL K H a (log.map V.int) ∧ log.length ≤ 1000 ∧ RepE K H size log E ∧
  (SizeOk size → Leg (wholeS size.toNat) log → ¬ (0 ≤ g ∧ g ≤ size) → ∀ H', Kp [] H H' → Ex K "BadGap" [("gap", .int g)] E H') ∧
  (SizeOk size → Leg (wholeS size.toNat) log → 0 ≤ g → g ≤ size → ∀ t H', Kp [] H H' → H' t = some (.tup (paper size.toNat log g.toNat)) → Q (.ref t) H')
def sp_is_gap_certificate (K : PySem.W.Frag) : Sp := fun vs H Q E => ∃ (a b : Addr) (size g : Int) (log : List Int) (x : V) (d : PyData), vs = [.int size, .ref a, .int g, x] ∧ SqL K H a (log.map V.int) ∧ log.length ≤ 1000 ∧ Vl b H x d ∧ SeqAt.shaped d = true ∧ RepE K H size log E ∧
  (SizeOk size → Leg (wholeS size.toNat) log → ¬ (0 ≤ g ∧ g ≤ size) → ∀ H', Kp [] H H' → Ex K "BadGap" [("gap", .int g)] E H') ∧
  (SizeOk size → Leg (wholeS size.toNat) log → 0 ≤ g → g ≤ size → ∀ H', Kp [] H H' → Q (.bl (cerB d (stT (runS (wholeS size.toNat) log) g.toNat) (gI (bkR size.toNat log).wr g.toNat) (gI (bkR size.toNat log).wl g.toNat))) H')
def sp__law_judged (K : PySem.W.Frag) : Sp := fun vs H Q E => ∃ (n g : Nat) (a b u : Addr) (log : List Int) (x : V) (d : PyData), vs = [.int (n : Int), .ref a, .int (g : Int), x, .ref u] ∧ n ≤ 60 ∧ g ≤ n ∧ SqL K H a (log.map V.int) ∧ log.length ≤ 1000 ∧ Leg (wholeS n) log ∧
  Vl b H x d ∧ SeqAt.shaped d = true ∧ okv d = true ∧ H u = some (.tup (paper n log g)) ∧ ∀ H', Kp [] H H' → Q (.bl true) H'
def sp__law_papers_fit (K : PySem.W.Frag) : Sp := fun vs H Q E => ∃ (n : Nat) (a c p b : Addr) (log gs : List Int), vs = [.int (n : Int), .ref a, .ref c, .ref p, .ref b] ∧ n ≤ 60 ∧ H a = some (.lst (log.map V.int)) ∧ log.length ≤ 1000 ∧ Leg (wholeS n) log ∧ H c = some (.lst (gs.map V.int)) ∧ gs ≠ [] ∧
  (∀ g ∈ gs, 0 ≤ g ∧ g ≤ n) ∧ gs.length ≤ 1000 ∧ PapersAt H p n log ∧ Bag H b ∧ a ≠ b ∧ c ≠ b ∧ p ≠ b ∧ ∀ H', Kp [b] H H' → Bag H' b → Q (.bl true) H'
def sp10__law_agrees (K : PySem.W.Frag) : Sp := fun vs H Q E => ∃ (n : Nat) (a c b : Addr) (log gs : List Int), vs = [.int (n : Int), .ref a, .ref c, .ref b] ∧ n ≤ 60 ∧ H a = some (.lst (log.map V.int)) ∧ log.length ≤ 1000 ∧ Leg (wholeS n) log ∧ H c = some (.lst (gs.map V.int)) ∧ gs ≠ [] ∧
  (∀ g ∈ gs, 0 ≤ g ∧ g ≤ n) ∧ gs.length ≤ 1000 ∧ Bag H b ∧ a ≠ b ∧ c ≠ b ∧ ∀ H', Kp [b] H H' → Bag H' b → Q (.bl true) H'
def sp10__law_answer (K : PySem.W.Frag) : Sp := fun vs H Q E => ∃ (way size g : Int) (a : Addr) (log : List Int), vs = [.int way, .int size, .ref a, .int g] ∧ (way ≤ 1 ∨ g = 0) ∧ 0 ≤ way ∧ way ≤ 2 ∧ SqL K H a (log.map V.int) ∧ log.length ≤ 1000 ∧ ∀ xs t H', FltV size log g xs → Kp [] H H' → H' t = some (.tup xs) → Q (.ref t) H'
def sp10__law_places (K : PySem.W.Frag) : Sp := fun vs H Q E => ∃ (b a : Addr) (n : Nat) (log : List Int), vs = [.ref b, .int (n : Int), .ref a] ∧ n ≤ 60 ∧ Bag H b ∧ a ≠ b ∧ H a = some (.lst (log.map V.int)) ∧ log.length ≤ 500 ∧ (∀ x ∈ log, IsOp n x) ∧ ∀ (gs : List Int) (q : Addr) H', H q = none → gs ≠ [] → gs.length ≤ 100 → (∀ g ∈ gs, 0 ≤ g ∧ g ≤ n) → Kp [b] H H' → Bag H' b → H' q = some (.lst (gs.map V.int)) → Q (.ref q) H'
end
end G

set_option Elab.async false
set_option linter.all false
set_option maxRecDepth 100000
set_option maxHeartbeats 4000000
/-! Texts of numbers, and of standings. -/
namespace G
open PySem PySem.Spec PyProof.Rows L2 TL
def numI (i : Int) : Str := Str.ofString (toString i)
def spS : Str := " "
def barS : Str := " | "
def joinI (l : List Int) : Str := Txt.join spS (l.map numI)
theorem tl_numI {i : Int} (h : 0 ≤ i) : tl (numI i) = numL i.toNat := by
  obtain ⟨n, rfl⟩ : ∃ n : Nat, i = (n : Int) := ⟨i.toNat, by omega⟩
  rw [Int.toNat_natCast]
  exact tl_num n
theorem tl_spS : tl spS = [32] := by decide +kernel
theorem tl_barS : tl barS = [32, 124, 32] := by decide +kernel
theorem numI_len {i : Int} (h : 0 ≤ i) (h2 : i < 1000000000) : (numI i).length ≤ 9 := by
  rw [len_tl, tl_numI h]
  exact numL_len (by decide) (by omega)
theorem numI_pos {i : Int} (h : 0 ≤ i) : 1 ≤ (numI i).length := by
  rw [len_tl, tl_numI h]
  exact List.length_pos_iff.mpr (numL_ne _)
theorem split_joinI {l : List Int} (hne : l ≠ []) (h : ∀ i ∈ l, 0 ≤ i) : Txt.split (joinI l) spS = l.map numI := by
  refine split_join (y := spS) (s := 32) (S := []) tl_spS (by decide +kernel) (by simpa using hne) fun p hp => ?_
  obtain ⟨i, hi, rfl⟩ := List.mem_map.mp hp
  rw [tl_numI (h i hi)]
  exact numL_free (by omega)
theorem joinL_len (S : List Nat) : ∀ ps : List (List Nat), (joinL S ps).length ≤ (ps.map List.length).sum + ps.length * S.length
  | [] => by simp [joinL]
  | [p] => by simp [joinL]
  | p :: q :: r => by
    have ih := joinL_len S (q :: r)
    show (p ++ (S ++ joinL S (q :: r))).length ≤ _
    simp only [List.length_append, List.map_cons, List.sum_cons, List.length_cons, Nat.add_mul, Nat.one_mul] at ih ⊢
    omega
theorem sum_le9 : ∀ {l : List Int}, (∀ i ∈ l, 0 ≤ i ∧ i < 1000000000) → ((l.map numI).map (·.length)).sum ≤ 9 * l.length
  | [], _ => by simp
  | i :: l, h => by
    have ih := sum_le9 (l := l) fun j hj => h j (List.mem_cons_of_mem _ hj)
    have h0 := h i List.mem_cons_self
    have := numI_len h0.1 h0.2
    simp only [List.map_cons, List.sum_cons, List.length_cons]
    omega
theorem joinI_len {l : List Int} (h : ∀ i ∈ l, 0 ≤ i ∧ i < 1000000000) : (joinI l).length ≤ 10 * l.length := by
  unfold joinI
  rw [len_tl, join_eq, tl_join]
  refine Nat.le_trans (joinL_len _ _) ?_
  have := sum_le9 h
  rw [tl_spS, List.map_map, List.length_map, List.length_map]
  have e : (List.map (List.length ∘ tl) (List.map numI l)).sum = ((l.map numI).map (·.length)).sum := by
    congr 1
  rw [e]
  show _ + l.length * 1 ≤ _
  omega
theorem join_cost {l : List Int} (h : ∀ i ∈ l, 0 ≤ i ∧ i < 1000000000) (hl : l.length ≤ 1000) : ((l.map numI).map (·.length)).sum + (l.map numI).length * spS.length ≤ 16777216 := by
  have := sum_le9 h
  have e : spS.length = 1 := by decide +kernel
  rw [e, List.length_map]
  omega
theorem intText_num {i : Int} (h : 0 ≤ i) (h2 : i < 1000000000) : intText? (numI i) = some i := by
  obtain ⟨n, rfl⟩ : ∃ n : Nat, i = (n : Int) := ⟨i.toNat, by omega⟩
  refine int_num ?_
  have := numL_len (n := n) (k := 9) (by decide) (by omega)
  omega
theorem numI_inj {i j : Int} (hi : 0 ≤ i) (hj : 0 ≤ j) (e : numI i = numI j) : i = j := by
  have e2 := congrArg tl e
  rw [tl_numI hi, tl_numI hj] at e2
  have := numL_inj e2
  omega
theorem zeroS : numI 0 = ("0" : Str) := by decide +kernel
theorem numI_ne0 {i : Int} (h : 1 ≤ i) : ¬ numI i = ("0" : Str) := fun e => by
  rw [← zeroS] at e
  have := numI_inj (by omega) (by omega) e
  omega
theorem numL_head : ∀ n : Nat, 1 ≤ n → ∀ c r, numL n = c :: r → c ≠ 48 := by
  intro n
  induction n using Nat.strongRecOn with
  | _ n ih =>
    intro h c r e
    by_cases h10 : n < 10
    · rw [numL_lt h10] at e
      injection e with e1 e2
      omega
    · rw [numL_step (by omega)] at e
      cases e2 : numL (n / 10) with
      | nil => exact absurd e2 (numL_ne _)
      | cons d t =>
        rw [e2, List.cons_append] at e
        injection e with e3 e4
        have := ih (n / 10) (by omega) (by omega) d t e2
        omega
def digS : Str := "0123456789"
theorem digs_mem {c : Nat} (h : 48 ≤ c ∧ c ≤ 57) : c ∈ digS.cps.toList := by
  have e : digS.cps.toList = [48, 49, 50, 51, 52, 53, 54, 55, 56, 57] := by decide +kernel
  rw [e]
  have : c = 48 ∨ c = 49 ∨ c = 50 ∨ c = 51 ∨ c = 52 ∨ c = 53 ∨ c = 54 ∨ c = 55 ∨ c = 56 ∨ c = 57 := by omega
  simp only [List.mem_cons, List.not_mem_nil, or_false]
  exact this
theorem numI_digits {i : Int} (h : 0 ≤ i) {c : Nat} (hc : c ∈ (numI i).cps.toList) : c ∈ digS.cps.toList := by
  have e : (numI i).cps.toList = numL i.toNat := tl_numI h
  rw [e] at hc
  exact digs_mem (numL_digits _ _ hc)
/-! ### a text's parts -/
def GoodP (p : List Nat) : Prop := 124 ∉ p ∧ ∀ q, p ≠ q ++ [32]
theorem pre_bar {x y : Nat} (r : List Nat) (h : y ≠ 124) : pre [32, 124, 32] (x :: y :: r) = false := by
  cases hp : pre [32, 124, 32] (x :: y :: r) with
  | false => rfl
  | true =>
    have e : (x :: y :: r).take 3 = [32, 124, 32] := eq_of_beq hp
    rw [List.take_succ_cons, List.take_succ_cons] at e
    injection e with e1 e2
    injection e2 with e3 e4
    exact absurd e3 h
theorem good_free {p rest : List Nat} (g : GoodP p) : ∀ i, i < p.length → pre [32, 124, 32] ((p ++ rest).drop i) = false := by
  intro i hi
  have h1 : i < (p ++ rest).length := by rw [List.length_append]; omega
  have e1 : (p ++ rest).drop i = (p ++ rest)[i] :: (p ++ rest).drop (i + 1) := List.drop_eq_getElem_cons h1
  have e2 : (p ++ rest)[i] = p[i] := List.getElem_append_left hi
  rw [e1, e2]
  by_cases c : p[i] = 32
  · have lt : i + 1 < p.length := by
      apply Classical.byContradiction
      intro nlt
      have ei : i = p.length - 1 := by omega
      refine g.2 p.dropLast ?_
      have hne : p ≠ [] := fun z => by rw [z] at hi; simp at hi
      have := List.dropLast_concat_getLast hne
      rw [← this]
      congr 1
      · rw [List.dropLast_concat]
      · congr 1
        rw [List.getLast_eq_getElem]
        subst ei
        exact c
    have h2 : i + 1 < (p ++ rest).length := by rw [List.length_append]; omega
    have e3 : (p ++ rest).drop (i + 1) = (p ++ rest)[i + 1] :: (p ++ rest).drop (i + 2) := List.drop_eq_getElem_cons h2
    have e4 : (p ++ rest)[i + 1] = p[i + 1] := List.getElem_append_left lt
    rw [e3, e4]
    exact pre_bar _ fun z => g.1 (by rw [← z]; exact List.getElem_mem lt)
  · exact pre_of_head _ _ c
theorem split_bar {a b c : Str} (ga : GoodP (tl a)) (gb : GoodP (tl b)) (gc : GoodP (tl c)) : Txt.split (Txt.join barS [a, b, c]) barS = [a, b, c] := by
  refine map_tl_inj ?_
  rw [split_spl _ barS (by rw [tl_barS]; simp) (kind_ok (by decide +kernel)), join_eq, tl_join, tl_barS]
  show spl [32, 124, 32] 0 [] (tl a ++ ([32, 124, 32] ++ (tl b ++ ([32, 124, 32] ++ tl c)))) = [tl a, tl b, tl c]
  rw [spl_part (by simp) (good_free ga), spl_part (by simp) (good_free gb), spl_last (fun i hi => by
    have := good_free (rest := []) gc i hi
    rw [List.append_nil] at this
    exact this)]
  rfl
theorem joinL_mem {S : List Nat} {c : Nat} : ∀ {ps : List (List Nat)}, c ∈ joinL S ps → c ∈ S ∨ ∃ p ∈ ps, c ∈ p
  | [], h => by cases h
  | [p], h => .inr ⟨p, List.mem_singleton.mpr rfl, h⟩
  | p :: q :: r, h => by
    have h : c ∈ p ++ (S ++ joinL S (q :: r)) := h
    rcases List.mem_append.mp h with h | h
    · exact .inr ⟨p, List.mem_cons_self, h⟩
    rcases List.mem_append.mp h with h | h
    · exact .inl h
    rcases joinL_mem h with h | ⟨z, hz, h⟩
    · exact .inl h
    · exact .inr ⟨z, List.mem_cons_of_mem _ hz, h⟩
theorem joinL_last {S : List Nat} : ∀ {ps : List (List Nat)}, ps ≠ [] → (∀ p ∈ ps, p ≠ [] ∧ ∀ q, p ≠ q ++ [32]) → joinL S ps ≠ [] ∧ ∀ q, joinL S ps ≠ q ++ [32]
  | [], h, _ => absurd rfl h
  | [p], _, h => h p (List.mem_singleton.mpr rfl)
  | p :: q :: r, _, h => by
    obtain ⟨i1, i2⟩ := joinL_last (S := S) (ps := q :: r) (by simp) fun z hz => h z (List.mem_cons_of_mem _ hz)
    have hj : joinL S (p :: q :: r) = (p ++ S) ++ joinL S (q :: r) := (List.append_assoc ..).symm
    rw [hj]
    refine ⟨fun z => i1 (List.append_eq_nil_iff.mp z).2, fun t ht => ?_⟩
    have e := congrArg List.getLast? ht
    rw [List.getLast?_append, List.getLast?_concat, List.getLast?_eq_some_getLast i1, Option.some_or] at e
    have d := List.dropLast_concat_getLast i1
    have gl : (joinL S (q :: r)).getLast i1 = 32 := by injection e
    rw [gl] at d
    exact i2 _ d.symm
theorem numL_last (n : Nat) : ∀ q, numL n ≠ q ++ [32] := fun q e => by
  have := numL_digits n 32 (by rw [e]; simp)
  omega
theorem good_joinI {l : List Int} (hne : l ≠ []) (h : ∀ i ∈ l, 0 ≤ i) : GoodP (tl (joinI l)) := by
  unfold joinI
  rw [join_eq, tl_join, tl_spS]
  have hp : ∀ p ∈ (l.map numI).map tl, ∃ n, p = numL n := by
    intro p hp
    obtain ⟨z, hz, rfl⟩ := List.mem_map.mp hp
    obtain ⟨i, hi, rfl⟩ := List.mem_map.mp hz
    exact ⟨_, tl_numI (h i hi)⟩
  refine ⟨fun hm => ?_, (joinL_last (by simpa using hne) fun p hq => ?_).2⟩
  · rcases joinL_mem hm with z | ⟨p, hq, z⟩
    · simp at z
    · obtain ⟨n, rfl⟩ := hp p hq
      have := numL_digits n _ z
      omega
  · obtain ⟨n, rfl⟩ := hp p hq
    exact ⟨numL_ne n, numL_last n⟩
def noneS : Str := "none"
theorem good_none : GoodP (tl noneS) := by
  have e : tl noneS = [110, 111, 110, 101] := by decide +kernel
  rw [e]
  refine ⟨by decide, fun q h => ?_⟩
  have := congrArg List.getLast? h
  rw [List.getLast?_concat] at this
  simp at this
/-! ### the dump -/
def outsT (l : List Int) : Str := if l = [] then noneS else joinI l
def dumpS (s : Sd) : Str := Txt.join barS [joinI s.R, joinI (s.L.drop 1), outsT (outN s.n s.O)]
theorem joinI_ne_none {l : List Int} (hne : l ≠ []) (h : ∀ i ∈ l, 0 ≤ i) : ¬ joinI l = noneS := fun e => by
  have e2 := split_joinI hne h
  rw [e] at e2
  have d : Txt.split noneS spS = [noneS] := by
    refine map_tl_inj ?_
    rw [split_spl _ spS (by rw [tl_spS]; simp) (kind_ok (by decide +kernel))]
    decide +kernel
  rw [d] at e2
  match l, hne with
  | i :: r, _ =>
    rw [List.map_cons] at e2
    injection e2 with e3 e4
    have hi := h i List.mem_cons_self
    have t := congrArg tl e3
    rw [tl_numI hi] at t
    have m : (110 : Nat) ∈ numL i.toNat := by
      rw [← t]
      decide +kernel
    have := numL_digits _ _ m
    omega
theorem outN_bd {n : Nat} {O : List Bool} {i : Int} (h : i ∈ outN n O) : 1 ≤ i ∧ i ≤ n ∧ gB O i.toNat = true := by
  unfold outN at h
  obtain ⟨v, hv, rfl⟩ := List.mem_map.mp h
  obtain ⟨h1, h2⟩ := List.mem_filter.mp hv
  obtain ⟨u, hu, rfl⟩ := List.mem_map.mp h1
  have := List.mem_range.mp hu
  refine ⟨by omega, by omega, ?_⟩
  rw [Int.toNat_natCast]
  exact h2
end G

set_option Elab.async false
set_option linter.all false
set_option maxRecDepth 100000
set_option maxHeartbeats 4000000
/-! k07, k06: standings read from texts; what an operation changes. -/
namespace G
open PySem PySem.Spec PyProof.Rows L2
/-- a standing that can be read back: no left link of the head, the sentinels in -/
structure Snd (s : Sd) : Prop where
  l0 : ∃ t, s.L = 0 :: t
  o0 : gB s.O 0 = false
  o1 : gB s.O (s.n + 1) = false
theorem stepS_snd {s : Sd} (w : Wf s) (d : Snd s) {op : Int} (h : IsOp s.n op) : Snd (stepS s op) := by
  obtain ⟨t, e⟩ := d.l0
  obtain ⟨r1, r2⟩ := w.rb op.natAbs (by have := h.2; omega)
  have h1 := h.1
  have h2 := h.2
  refine ⟨?_, ?_, ?_⟩
  · obtain ⟨k, ek⟩ : ∃ k, (gI s.R op.natAbs).toNat = k + 1 := ⟨(gI s.R op.natAbs).toNat - 1, by omega⟩
    refine ⟨t.set k (if op < 0 then gI s.L op.natAbs else (op.natAbs : Int)), ?_⟩
    show s.L.set (gI s.R op.natAbs).toNat _ = _
    rw [ek]
    generalize (if op < 0 then gI s.L op.natAbs else (op.natAbs : Int)) = v
    rw [e]
    rfl
  · show gB (s.O.set op.natAbs _) 0 = false
    rw [gB_set (by rw [w.lO]; omega), if_neg (by omega)]
    exact d.o0
  · show gB (s.O.set op.natAbs _) (s.n + 1) = false
    rw [gB_set (by rw [w.lO]; omega), if_neg (by omega)]
    exact d.o1
theorem runS_snd {s : Sd} (w : Wf s) (d : Snd s) : ∀ {log : List Int}, Leg s log → Snd (runS s log) := by
  intro log
  induction log using snoc_ind with
  | h0 => exact fun _ => d
  | h1 l x ih =>
    intro h
    have h1 : Leg s l := by
      have := h.take l.length
      rwa [List.take_left' rfl] at this
    have h2 := h l.length x (by simp)
    rw [List.take_left' rfl] at h2
    rw [runS_snoc]
    exact stepS_snd (h1.wf w) (ih h1) h2.1
theorem wholeS_snd (n : Nat) : Snd (wholeS n) := by
  refine ⟨⟨_, rfl⟩, ?_, ?_⟩
  · exact gB_of (by show (List.replicate (n + 2) false)[0]? = _; rw [List.getElem?_replicate_of_lt (by omega)])
  · exact gB_of (by show (List.replicate (n + 2) false)[n + 1]? = _; rw [List.getElem?_replicate_of_lt (by omega)])
/-! ### the gaps of foreign writes -/
def forW (s : Sd) (x : Nat) : List Int :=
  (if gI s.L x ≠ (x : Int) - 1 ∧ gI s.R (gI s.L x).toNat = gI s.L x + 1 then [gI s.L x] else []) ++
  (if gI s.R x ≠ (x : Int) + 1 ∧ gI s.L (gI s.R x).toNat = gI s.R x - 1 then [gI s.R x - 1] else [])
theorem forW_len (s : Sd) (x : Nat) : (forW s x).length ≤ 2 := by
  unfold forW
  rw [List.length_append]
  split <;> split <;> simp
/-! ### changes -/
abbrev Tr := Nat × Str × Str
def trV (t : Tr) : List V := [.int (t.1 : Int), .str t.2.1, .str t.2.2]
def chg (s s' : Sd) : List Tr := ((List.range (s.n + 1)).filter fun g => !decide (stT s g = stT s' g)).map fun g => (g, stT s g, stT s' g)
def TupsAt (H : Hp) (xs : List V) (ts : List Tr) : Prop := xs.length = ts.length ∧ ∀ (i : Nat) (t : Tr), ts[i]? = some t → ∃ a, xs[i]? = some (.ref a) ∧ H a = some (.tup (trV t))
theorem TupsAt.kp {S : List Addr} {H H' : Hp} {xs : List V} {ts : List Tr} (h : TupsAt H xs ts) (k : Kp S H H') (hS : ∀ b ∈ S, ∀ ys, H b ≠ some (.tup ys)) : TupsAt H' xs ts := by
  refine ⟨h.1, fun i t e => ?_⟩
  obtain ⟨a, h1, h2⟩ := h.2 i t e
  exact ⟨a, h1, k _ _ (fun z => hS a z _ h2) h2⟩
theorem TupsAt.k0 {H H' : Hp} {xs : List V} {ts : List Tr} (h : TupsAt H xs ts) (k : Kp [] H H') : TupsAt H' xs ts := h.kp k (by simp)
theorem TupsAt.snoc {H : Hp} {xs : List V} {ts : List Tr} {a : Addr} {t : Tr} (h : TupsAt H xs ts) (ha : H a = some (.tup (trV t))) : TupsAt H (xs ++ [.ref a]) (ts ++ [t]) := by
  refine ⟨by rw [List.length_append, List.length_append, h.1] <;> rfl, fun i u e => ?_⟩
  by_cases c : i < ts.length
  · rw [List.getElem?_append_left c] at e
    obtain ⟨b, h1, h2⟩ := h.2 i u e
    exact ⟨b, by rw [List.getElem?_append_left (by rw [h.1]; exact c)]; exact h1, h2⟩
  · have hl := (List.getElem?_eq_some_iff.mp e).1
    rw [List.length_append] at hl
    have ei : i = ts.length := by simp at hl; omega
    subst ei
    rw [List.getElem?_append_right (Nat.le_refl _), Nat.sub_self] at e
    have eu : t = u := by simpa using e
    subst eu
    exact ⟨a, by rw [List.getElem?_append_right (by rw [h.1]; exact Nat.le_refl _), h.1, Nat.sub_self] <;> rfl, ha⟩
theorem TupsAt.nil {H : Hp} : TupsAt H [] [] := ⟨rfl, fun i t e => by simp at e⟩
theorem chg_len (s s' : Sd) : (chg s s').length ≤ s.n + 1 := by
  unfold chg
  rw [List.length_map]
  have := List.length_filter_le (fun g => !decide (stT s g = stT s' g)) (List.range (s.n + 1))
  rw [List.length_range] at this
  exact this
/-- the two ends of an operation: the gap, its state behind it -/
structure Ends2 (s : Sd) (op : Int) (es : List (Nat × Str)) : Prop where
  ex : ∃ c1 c2 : Bool, es = (if c1 then [(lowN s op, stT (stepS s op) (lowN s op))] else []) ++ (if c2 then [(hiN s op, stT (stepS s op) (hiN s op))] else []) ∧
    (c1 = false → stT (stepS s op) (lowN s op) = stT s (lowN s op)) ∧ (c2 = false → stT (stepS s op) (hiN s op) = stT s (hiN s op))
def chE (s : Sd) (es : List (Nat × Str)) : List Tr := (es.filter fun e => !decide (stT s e.1 = e.2)).map fun e => (e.1, stT s e.1, e.2)
theorem filter_two {n a b : Nat} {p : Nat → Bool} (hab : a < b) (hb : b < n) (h : ∀ g, g < n → g ≠ a → g ≠ b → p g = false) : (List.range n).filter p = (if p a then [a] else []) ++ (if p b then [b] else []) := by
  have key : ∀ m, (List.range m).filter p = (if a < m ∧ p a = true then [a] else []) ++ (if b < m ∧ p b = true then [b] else []) ∨ n < m := by
    intro m
    induction m with
    | zero => left; rw [if_neg (by omega), if_neg (by omega)]; rfl
    | succ m ih =>
      by_cases hm : n < m + 1
      · exact .inr hm
      rcases ih with ih | ih
      · left
        rw [List.range_succ, List.filter_append, ih]
        by_cases e1 : m = a
        · subst e1
          rw [if_neg (by omega), if_neg (by omega : ¬ (b < m ∧ p b = true)), if_neg (by omega : ¬ (b < m + 1 ∧ p b = true))]
          cases hp : p m with
          | true => rw [List.filter_cons_of_pos hp, if_pos ⟨by omega, rfl⟩]; rfl
          | false => rw [List.filter_cons_of_neg (by rw [hp]; exact Bool.false_ne_true), if_neg (by simp)]; rfl
        · by_cases e2 : m = b
          · subst e2
            rw [if_neg (by omega : ¬ (m < m ∧ p m = true))]
            have i1 : (a < m ∧ p a = true) = (a < m + 1 ∧ p a = true) := by
              refine propext ⟨fun z => ⟨by omega, z.2⟩, fun z => ⟨by omega, z.2⟩⟩
            simp only [i1, List.append_nil]
            cases hp : p m with
            | true => rw [List.filter_cons_of_pos hp, if_pos (⟨by omega, rfl⟩ : m < m + 1 ∧ true = true)]; rfl
            | false => rw [List.filter_cons_of_neg (by rw [hp]; exact Bool.false_ne_true), if_neg (by simp : ¬ (m < m + 1 ∧ false = true))]; rfl
          · rw [List.filter_cons_of_neg (by rw [h m (by omega) e1 e2]; exact Bool.false_ne_true)]
            have i1 : (a < m ∧ p a = true) = (a < m + 1 ∧ p a = true) := by
              refine propext ⟨fun z => ⟨by omega, z.2⟩, fun z => ⟨by omega, z.2⟩⟩
            have i2 : (b < m ∧ p b = true) = (b < m + 1 ∧ p b = true) := by
              refine propext ⟨fun z => ⟨by omega, z.2⟩, fun z => ⟨by omega, z.2⟩⟩
            simp only [i1, i2]
            rw [List.filter_nil, List.append_nil]
      · omega
  rcases key n with k | k
  · rw [k]
    congr 1
    · by_cases c : p a = true
      · rw [if_pos ⟨by omega, c⟩, if_pos c]
      · rw [if_neg (fun z => c z.2), if_neg c]
    · by_cases c : p b = true
      · rw [if_pos ⟨by omega, c⟩, if_pos c]
      · rw [if_neg (fun z => c z.2), if_neg c]
  · omega
theorem ends_chg {s : Sd} (w : Wf s) {op : Int} (h : IsOp s.n op) {es : List (Nat × Str)} (e : Ends2 s op es) : chE s es = chg s (stepS s op) := by
  obtain ⟨t1, t2, t3, t4, t5⟩ := touch_bd w h
  unfold chg
  rw [filter_two (a := lowN s op) (b := hiN s op) (by omega) (by omega) (fun g hg g1 g2 => by rw [step_st w h g1 g2, decide_eq_true rfl]; rfl)]
  obtain ⟨c1, c2, rfl, h1, h2⟩ := e.ex
  unfold chE
  rw [List.filter_append, List.map_append, List.map_append]
  congr 1
  · cases c1 with
    | true =>
      by_cases d : stT s (lowN s op) = stT (stepS s op) (lowN s op)
      · rw [decide_eq_true d]
        simp [d]
      · rw [decide_eq_false d]
        simp [d]
    | false =>
      have d := h1 rfl
      rw [d, decide_eq_true rfl]
      rfl
  · cases c2 with
    | true =>
      by_cases d : stT s (hiN s op) = stT (stepS s op) (hiN s op)
      · rw [decide_eq_true d]
        simp [d]
      · rw [decide_eq_false d]
        simp [d]
    | false =>
      have d := h2 rfl
      rw [d, decide_eq_true rfl]
      rfl
theorem ne_w : ¬ ("joined" : Str) = "lost" ∧ ¬ ("left" : Str) = "lost" ∧ ¬ ("right" : Str) = "lost" ∧ ¬ ("left" : Str) = "joined" ∧ ¬ ("right" : Str) = "joined" ∧ ¬ ("lost" : Str) = "joined" ∧ ¬ ("right" : Str) = "left" ∧ ¬ ("lost" : Str) = "left" ∧ ¬ ("lost" : Str) = "right" ∧ ¬ ("joined" : Str) = "left" ∧ ¬ ("joined" : Str) = "right" ∧ ¬ ("left" : Str) = "right" := by
  decide +kernel
theorem stT_lost {s : Sd} {g : Nat} : stT s g = "lost" ↔ gI s.R g ≠ (g : Int) + 1 ∧ gI s.L (g + 1) ≠ (g : Int) := by
  obtain ⟨a, b, c, _⟩ := ne_w
  unfold stT
  by_cases h1 : gI s.R g = (g : Int) + 1 <;> by_cases h2 : gI s.L (g + 1) = (g : Int)
  · rw [if_pos h1, if_pos h2]
    exact ⟨fun z => absurd z a, fun z => absurd h1 z.1⟩
  · rw [if_pos h1, if_neg h2]
    exact ⟨fun z => absurd z b, fun z => absurd h1 z.1⟩
  · rw [if_neg h1, if_pos h2]
    exact ⟨fun z => absurd z c, fun z => absurd h2 z.2⟩
  · rw [if_neg h1, if_neg h2]
    exact ⟨fun _ => ⟨h1, h2⟩, fun _ => rfl⟩
theorem step_gR {s : Sd} (w : Wf s) {op : Int} (h : IsOp s.n op) (g : Nat) : gI (stepS s op).R g = if g = lowN s op then (if op < 0 then (hiN s op : Int) + 1 else (op.natAbs : Int)) else gI s.R g := by
  obtain ⟨t1, t2, t3, t4, t5⟩ := touch_bd w h
  show gI (s.R.set _ _) g = _
  rw [gI_set (by rw [w.lR, t4]; have := h.2; omega), t4, Int.toNat_natCast, t5]
theorem step_gL {s : Sd} (w : Wf s) {op : Int} (h : IsOp s.n op) (g : Nat) : gI (stepS s op).L (g + 1) = if g = hiN s op then (if op < 0 then (lowN s op : Int) else (op.natAbs : Int)) else gI s.L (g + 1) := by
  obtain ⟨t1, t2, t3, t4, t5⟩ := touch_bd w h
  show gI (s.L.set _ _) (g + 1) = _
  rw [gI_set (by rw [w.lL, t5]; omega), t5, t4, show ((hiN s op : Int) + 1).toNat = hiN s op + 1 by omega]
  by_cases c : g = hiN s op
  · rw [if_pos c, if_pos (by omega)]
  · rw [if_neg c, if_neg (by omega)]
/-- what is lost stays lost -/
theorem lost_stays {s : Sd} (w : Wf s) {op : Int} (h : IsOp s.n op) {g : Nat} (hl : stT s g = "lost") : stT (stepS s op) g = "lost" := by
  obtain ⟨t1, t2, t3, t4, t5⟩ := touch_bd w h
  obtain ⟨a, b⟩ := stT_lost.mp hl
  refine stT_lost.mpr ⟨?_, ?_⟩
  · rw [step_gR w h]
    by_cases c : g = lowN s op
    · rw [if_pos c]
      by_cases o : op < 0
      · rw [if_pos o]
        omega
      · rw [if_neg o]
        intro z
        have e : g + 1 = op.natAbs := by omega
        rw [e, t4] at b
        omega
    · rw [if_neg c]
      exact a
  · rw [step_gL w h]
    by_cases c : g = hiN s op
    · rw [if_pos c]
      by_cases o : op < 0
      · rw [if_pos o]
        omega
      · rw [if_neg o]
        intro z
        have e : g = op.natAbs := by omega
        rw [e, t5] at a
        omega
    · rw [if_neg c]
      exact b
/-- the state of the lower gap behind the operation -/
theorem st_low {s : Sd} (w : Wf s) {op : Int} (h : IsOp s.n op) : stT (stepS s op) (lowN s op) = if lowN s op + 1 = op.natAbs then (if 0 < op then ("joined" : Str) else "right") else (if gI s.L (lowN s op + 1) = (lowN s op : Int) then ("right" : Str) else "lost") := by
  obtain ⟨t1, t2, t3, t4, t5⟩ := touch_bd w h
  have h1 := h.1
  have eR : gI (stepS s op).R (lowN s op) = if op < 0 then (hiN s op : Int) + 1 else (op.natAbs : Int) := by rw [step_gR w h, if_pos rfl]
  have eL : gI (stepS s op).L (lowN s op + 1) = gI s.L (lowN s op + 1) := by rw [step_gL w h, if_neg (by omega)]
  unfold stT
  rw [eR, eL]
  by_cases c : lowN s op + 1 = op.natAbs
  · rw [if_pos c]
    have e : gI s.L (lowN s op + 1) = (lowN s op : Int) := by rw [c]; exact t4
    rw [if_pos e, if_pos e]
    by_cases o : op < 0
    · rw [if_pos o, if_neg (by omega), if_neg (by omega)]
    · rw [if_neg o, if_pos (by omega), if_pos (by omega)]
  · rw [if_neg c]
    by_cases o : op < 0
    · rw [if_pos o, if_neg (by omega)]
    · rw [if_neg o, if_neg (by omega)]
theorem st_hi {s : Sd} (w : Wf s) {op : Int} (h : IsOp s.n op) : stT (stepS s op) (hiN s op) = if hiN s op = op.natAbs then (if 0 < op then ("joined" : Str) else "left") else (if gI s.R (hiN s op) = (hiN s op : Int) + 1 then ("left" : Str) else "lost") := by
  obtain ⟨t1, t2, t3, t4, t5⟩ := touch_bd w h
  have h1 := h.1
  have eR : gI (stepS s op).R (hiN s op) = gI s.R (hiN s op) := by rw [step_gR w h, if_neg (by omega)]
  have eL : gI (stepS s op).L (hiN s op + 1) = if op < 0 then (lowN s op : Int) else (op.natAbs : Int) := by rw [step_gL w h, if_pos rfl]
  unfold stT
  rw [eR, eL]
  by_cases c : hiN s op = op.natAbs
  · rw [if_pos c]
    have e : gI s.R (hiN s op) = (hiN s op : Int) + 1 := by rw [c, t5, c]
    rw [if_pos e]
    by_cases o : op < 0
    · rw [if_pos o, if_neg (by omega), if_neg (by omega)]
    · rw [if_neg o, if_pos (by omega), if_pos (by omega)]
  · rw [if_neg c]
    have n1 : ¬ (if op < 0 then (lowN s op : Int) else (op.natAbs : Int)) = (hiN s op : Int) := by
      by_cases o : op < 0
      · rw [if_pos o]
        omega
      · rw [if_neg o]
        omega
    rw [if_neg n1, if_neg n1]
/-! ### promises -/
section
def Num9 (l : List Int) : Prop := ∀ i ∈ l, 0 ≤ i ∧ i < 1000000000
/-- a new list -/
def NewL (H : Hp) (xs : List V) (Q : VK) : Prop := ∀ a H', H a = none → Kp [] H H' → H' a = some (.lst xs) → Q (.ref a) H'
def Any (H : Hp) (v : V) (Q : VK) : Prop := ∀ H', Kp [] H H' → Q v H'
def sp_is_positive (K : PySem.W.Frag) : Sp := fun vs H Q E => ∃ i : Int, vs = [.str (numI i)] ∧ 1 ≤ i ∧ i < 1000000000 ∧ Any H (.bl true) Q
def sp__read_numbers (K : PySem.W.Frag) : Sp := fun vs H Q E => ∃ (l : List Int) (part : Int), vs = [.str (joinI l), .int part] ∧ l ≠ [] ∧ Num9 l ∧ l.length ≤ 100 ∧ NewL H (l.map V.int) Q
def sp__read_rights (K : PySem.W.Frag) : Sp := fun vs H Q E => ∃ (n : Nat) (l : List Int), vs = [.str (joinI l)] ∧ n ≤ 60 ∧ l.length = n + 1 ∧ (∀ v, v ≤ n → (v : Int) < gI l v ∧ gI l v ≤ (n : Int) + 1) ∧ NewL H (l.map V.int) Q
def sp__read_lefts (K : PySem.W.Frag) : Sp := fun vs H Q E => ∃ (n : Nat) (l : List Int), vs = [.str (joinI l), .int (n : Int)] ∧ n ≤ 60 ∧ l.length = n + 1 ∧ (∀ v, v ≤ n → 0 ≤ gI l v ∧ gI l v ≤ (v : Int)) ∧ NewL H (l.map V.int) Q
def sp__read_outs (K : PySem.W.Frag) : Sp := fun vs H Q E => ∃ (n : Nat) (O : List Bool), vs = [.str (outsT (outN n O)), .int (n : Int)] ∧ n ≤ 60 ∧ NewL H ((outN n O).map V.int) Q
def sp_Links_read (K : PySem.W.Frag) : Sp := fun vs H Q E => ∃ s : Sd, vs = [.str (dumpS s)] ∧ Wf s ∧ Snd s ∧ NewS K H s Q
def sp__joined (K : PySem.W.Frag) : Sp := fun vs H Q E => ∃ (a : Addr) (l : List Int), vs = [.ref a] ∧ SqL K H a (l.map V.int) ∧ Num9 l ∧ l.length ≤ 100 ∧ Any H (.str (joinI l)) Q
def sp_dump_of (K : PySem.W.Frag) : Sp := fun vs H Q E => ∃ (r l o : Addr) (R L O : List Int), vs = [.ref r, .ref l, .ref o] ∧ SqL K H r (R.map V.int) ∧ SqL K H l (L.map V.int) ∧ SqL K H o (O.map V.int) ∧ (Num9 R ∧ R.length ≤ 100) ∧ (Num9 L ∧ L.length ≤ 100) ∧ (Num9 O ∧ O.length ≤ 100) ∧
  Any H (.str (Txt.join barS [joinI R, joinI L, outsT O])) Q
def sp_Links_dump (K : PySem.W.Frag) : Sp := fun vs H Q E => ∃ (p r l o : Addr) (s : Sd), vs = [.ref p] ∧ LinksAt K H p r l o s ∧ Any H (.str (dumpS s)) Q
def sp_foreign_writes (K : PySem.W.Frag) : Sp := fun vs H Q E => ∃ (p r l o : Addr) (s : Sd) (op : Int), vs = [.ref p, .int op] ∧ LinksAt K H p r l o s ∧ (OkOp s op → NewL H ((forW s op.natAbs).map V.int) Q) ∧ (¬ OkOp s op → OpE K s.n op 0 E H)
def sp_gap_changes (K : PySem.W.Frag) : Sp := fun vs H Q E => ∃ (p r l o : Addr) (s : Sd) (op : Int), vs = [.ref p, .int op] ∧ LinksAt K H p r l o s ∧
  (OkOp s op → ∀ xs q H', H q = none → Kp [] H H' → H' q = some (.lst xs) → TupsAt H' xs (chg s (stepS s op)) → Q (.ref q) H') ∧ (¬ OkOp s op → ∀ H', Kp [] H H' → OpE K s.n op 0 E H')
def sp__law_standing (K : PySem.W.Frag) : Sp := fun vs H Q E => ∃ (b : Addr) (n : Nat), vs = [.ref b, .int (n : Int)] ∧ n ≤ 60 ∧ Bag H b ∧ ∀ (s : Sd) w r l o H', s.n = n → Snd s → H w = none → H r = none → H l = none → H o = none → Kp [b] H H' → Bag H' b → LW H' w r l o s → Q (.ref w) H'
def sp__law_text (K : PySem.W.Frag) : Sp := fun vs H Q E => ∃ (w r l o : Addr) (s : Sd), vs = [.ref w] ∧ LW H w r l o s ∧ Any H (.str (dumpS s)) Q
def sp__law_words (K : PySem.W.Frag) : Sp := fun vs H Q E => ∃ (a b : Addr) (xs : List Str), vs = [.ref a, .ref b] ∧ xs.length ≤ 1000 ∧ H a = some (.lst (xs.map V.str)) ∧ H b = some (.lst (xs.map V.str)) ∧ Q (.bl true) H
def sp__law_triples (K : PySem.W.Frag) : Sp := fun vs H Q E => ∃ (a b : Addr) (xs ys : List V) (ts : List Tr), vs = [.ref a, .ref b] ∧ ts.length ≤ 1000 ∧ H a = some (.lst xs) ∧ H b = some (.lst ys) ∧ TupsAt H xs ts ∧ TupsAt H ys ts ∧ (∀ t ∈ ts, PyData.strOk t.2.1 = true ∧ PyData.strOk t.2.2 = true) ∧ Q (.bl true) H
def sp__law_states (K : PySem.W.Frag) : Sp := fun vs H Q E => ∃ (w r l o : Addr) (s : Sd), vs = [.ref w] ∧ LW H w r l o s ∧ NewL H ((List.range (s.n + 1)).map fun (v : Nat) => V.str (stT s v)) Q
def legO (s : Sd) (v : Nat) : Int := if gB s.O v then (v : Int) else -(v : Int)
def sp__law_legal (K : PySem.W.Frag) : Sp := fun vs H Q E => ∃ (w r l o : Addr) (s : Sd) (v : Nat), vs = [.ref w, .int (v : Int)] ∧ LW H w r l o s ∧ 1 ≤ v ∧ v ≤ s.n ∧ Q (.int (legO s v)) H
def sp__law_foreign (K : PySem.W.Frag) : Sp := fun vs H Q E => ∃ (w r l o : Addr) (s : Sd) (v : Nat), vs = [.ref w, .int (v : Int)] ∧ LW H w r l o s ∧ 1 ≤ v ∧ v ≤ s.n ∧ NewL H ((forW s v).map V.int) Q
/-- the pairs of a gap and a state -/
def PrsAt (H : Hp) (xs : List V) (es : List (Nat × Str)) : Prop := xs.length = es.length ∧ ∀ (i : Nat) (e : Nat × Str), es[i]? = some e → ∃ a, xs[i]? = some (.ref a) ∧ H a = some (.tup [.int (e.1 : Int), .str e.2])
def sp__law_ends (K : PySem.W.Frag) : Sp := fun vs H Q E => ∃ (w r l o : Addr) (s : Sd) (op : Int), vs = [.ref w, .int op] ∧ LW H w r l o s ∧ IsOp s.n op ∧ ∀ es xs q H', Ends2 s op es → H q = none → Kp [] H H' → H' q = some (.lst xs) → PrsAt H' xs es → Q (.ref q) H'
def sp__law_changes (K : PySem.W.Frag) : Sp := fun vs H Q E => ∃ (w r l o : Addr) (s : Sd) (op : Int), vs = [.ref w, .int op] ∧ LW H w r l o s ∧ IsOp s.n op ∧ ∀ xs q H', H q = none → Kp [] H H' → H' q = some (.lst xs) → TupsAt H' xs (chg s (stepS s op)) → Q (.ref q) H'
def sp7__law_agrees (K : PySem.W.Frag) : Sp := fun vs H Q E => ∃ (p r l o w wr wl wo : Addr) (s : Sd) (v : Nat), vs = [.ref p, .ref w, .int (v : Int)] ∧ LinksAt K H p r l o s ∧ LW H w wr wl wo s ∧ 1 ≤ v ∧ v ≤ s.n ∧ Any H (.bl true) Q
def sp__law_all_agree (K : PySem.W.Frag) : Sp := fun vs H Q E => ∃ (p r l o w wr wl wo a : Addr) (s : Sd) (ns : List Int), vs = [.ref p, .ref w, .ref a] ∧ LinksAt K H p r l o s ∧ LW H w wr wl wo s ∧ SqL K H a (ns.map V.int) ∧ (∀ x ∈ ns, 1 ≤ x ∧ x ≤ s.n) ∧ Any H (.bl true) Q
def sp__law_refusal (K : PySem.W.Frag) : Sp := fun vs H Q E => ∃ (p r l o : Addr) (s : Sd) (way op : Int), vs = [.int way, .ref p, .int op] ∧ LinksAt K H p r l o s ∧ ¬ OkOp s op ∧ ∀ t H', Kp [] H H' → H' t = some (.tup [.str (if IsOp s.n op then "not legal" else "no operation"), .int op, .int 0]) → Q (.ref t) H'
def sp7__law_refuses (K : PySem.W.Frag) : Sp := fun vs H Q E => ∃ (p r l o w wr wl wo a : Addr) (s : Sd) (ns : List Int) (far : Int), vs = [.ref p, .ref w, .ref a, .int far] ∧ LinksAt K H p r l o s ∧ LW H w wr wl wo s ∧ SqL K H a (ns.map V.int) ∧ (∀ x ∈ ns, 1 ≤ x ∧ x ≤ s.n) ∧ 0 ≤ far ∧ Any H (.bl true) Q
def sp__law_nodes (K : PySem.W.Frag) : Sp := fun vs H Q E => ∃ (b : Addr) (n : Nat), vs = [.ref b, .int (n : Int)] ∧ n ≤ 60 ∧ Bag H b ∧ ∀ (ns : List Int) a H', (∀ x ∈ ns, 1 ≤ x ∧ x ≤ n) → H a = none → Kp [b] H H' → Bag H' b → H' a = some (.lst (ns.map V.int)) → Q (.ref a) H'
/-- what stands apart -/
structure Apart (p r l o w wr wl wo b : Addr) : Prop where
  a1 : r ≠ wr ∧ r ≠ wl ∧ r ≠ wo ∧ l ≠ wr ∧ l ≠ wl ∧ l ≠ wo ∧ o ≠ wr ∧ o ≠ wl ∧ o ≠ wo
  a2 : w ≠ r ∧ w ≠ l ∧ w ≠ o ∧ p ≠ wr ∧ p ≠ wl ∧ p ≠ wo
  a3 : b ≠ p ∧ b ≠ r ∧ b ≠ l ∧ b ≠ o ∧ b ≠ w ∧ b ≠ wr ∧ b ≠ wl ∧ b ≠ wo
def sp__law_run (K : PySem.W.Frag) : Sp := fun vs H Q E => ∃ (p r l o w wr wl wo b : Addr) (s : Sd), vs = [.ref p, .ref w, .ref b] ∧ LinksAt K H p r l o s ∧ LW H w wr wl wo s ∧ Bag H b ∧ Apart p r l o w wr wl wo b ∧ 1 ≤ s.n ∧ Snd s ∧
  ∀ s' H', s'.n = s.n → LinksAt K H' p r l o s' → LW H' w wr wl wo s' → Kp [b, r, l, o, wr, wl, wo] H H' → Q (.bl true) H'
end
end G

set_option Elab.async false
set_option linter.all false
set_option maxRecDepth 100000
set_option maxHeartbeats 4000000
/-! Comprehensions over texts and pairs; cuts; all. -/
namespace G
open PySem PySem.Spec PyProof.Rows L2
section
variable {K : PySem.W.Frag} {σ : L2.St} {H : Hp} {Q : VK} {te : TE} {tt : TT} {g : TG} {vs : List Nat} {p : Addr} {xs ys : List V}
theorem cp_str {x : Str} (items : Nat → List V) (hz : ∀ i, i < x.cps.size → (items i).length < sizeLine) (h0 : items 0 = [])
    (hs : ∀ (i : Nat) (c : Nat) (H' : Hp) (S : V → Hp → Prop) (N : Hp → Prop), x.cps[i]? = some c → Kp [] H H' → (∀ y H4, Kp [] H' H4 → items (i + 1) = items i ++ [y] → S y H4) → (∀ H4, Kp [] H' H4 → items (i + 1) = items i → N H4) →
      g (.str ⟨#[c]⟩) (wipe σ vs) H' fun σ2 H2 => wipe σ2 vs = wipe σ vs ∧ tt σ2 H2 fun b H3 => if b = true then te σ2 H3 S else N H3)
    (hd : ∀ D H', H D = none → Kp [] H H' → H' D = some (.lst (items x.cps.size)) → Q (.ref D) H') : CompG (Its x) g tt te vs σ Q H :=
  cp_go (n := x.cps.size) items (fun _ => True) hz h0 (fun _ _ => trivial) (fun i H' hi _ => hi) (fun H' _ => Nat.le_refl _) (fun i v H' H'' S N hi k y a b => by
    obtain ⟨rfl, c, hc, rfl⟩ := y
    exact hs i c H'' S N hc k a b) hd
theorem cp_zip {a b : Addr} (h1 : SqL K H a xs) (h2 : SqL K H b ys) (hl : ys.length ≤ xs.length) (items : Nat → List V) (hz : ∀ i, i < ys.length → (items i).length < sizeLine) (h0 : items 0 = [])
    (hs : ∀ (i : Nat) (x y : V) (T : Addr) (H' : Hp) (S : V → Hp → Prop) (N : Hp → Prop), xs[i]? = some x → ys[i]? = some y → Kp [] H H' → H' T = none → (∀ z H4, Kp [] H' H4 → items (i + 1) = items i ++ [z] → S z H4) → (∀ H4, Kp [] H' H4 → items (i + 1) = items i → N H4) →
      g (.ref T) (wipe σ vs) (upd H' T (.tup [x, y])) fun σ2 H2 => wipe σ2 vs = wipe σ vs ∧ tt σ2 H2 fun b H3 => if b = true then te σ2 H3 S else N H3)
    (hd : ∀ D H', H D = none → Kp [] H H' → H' D = some (.lst (items ys.length)) → Q (.ref D) H') : CompG (Itz K a b) g tt te vs σ Q H :=
  cp_go (n := ys.length) items (fun H' => SqL K H' a xs ∧ SqL K H' b ys) hz h0 (fun _ k => ⟨k.sql (by simp) h1, k.sql (by simp) h2⟩)
    (fun i H' hi q => ⟨xs, ys, xs[i]'(by omega), ys[i], q.1, q.2, by simp [show i < xs.length by omega], by simp [hi]⟩) (fun H' q => ⟨xs, ys, q.1, q.2, .inr (Nat.le_refl _)⟩) (fun i v H' H'' S N hi k y e1 e2 => by
    obtain ⟨T, x, y, rfl, nT, rfl, hx, hy⟩ := y
    exact hs i x y T H' S N (hx xs (k.sql (by simp) h1)) (hy ys (k.sql (by simp) h2)) k nT e1 e2) hd
theorem w_slL {lo hi : Option Int} (h : SqL K H p xs) (g : ∀ q H', H q = none → Kp [] H H' → H' q = some (.lst (cutV xs lo hi)) → Q (.ref q) H') : rSlL K (.ref p) lo hi H Q := ⟨p, xs, rfl, h, nw g⟩
theorem cut_drop (xs : List V) (k : Nat) (h : k ≤ xs.length) : cutV xs (some (k : Int)) none = xs.drop k := by
  unfold cutV
  rw [HT.sIx_nat, HT.sIx_none, Nat.min_eq_left h]
  refine List.take_of_length_le ?_
  rw [List.length_drop] <;> omega
theorem cut_take (xs : List V) (k : Nat) (h : k ≤ xs.length) : cutV xs none (some (k : Int)) = xs.take k := by
  unfold cutV
  rw [HT.sIx_nat, HT.sIx_none, Nat.min_eq_left h, List.drop_zero, Nat.sub_zero]
theorem w_allT {n : Nat} (h : SqL K H p (List.replicate n (V.bl true))) (g : Q (.bl true) H) : rAll K [.ref p] H Q := ⟨p, List.replicate n true, rfl, by rw [List.map_replicate]; exact h, by
  have e : (List.replicate n true).all id = true := by
    rw [List.all_eq_true]
    intro x hx
    rw [(List.mem_replicate.mp hx).2] <;> rfl
  rw [e]
  exact g⟩
theorem w_asu {D : Ends} {k : Nat} {ts : TGs} (h : te σ H fun v H0 => gUnl K k ts v σ H0 D.nx) : tAsg te (gUnl K k ts) D σ H := h
theorem rep_snoc {α : Type} (n : Nat) (x : α) : List.replicate (n + 1) x = List.replicate n x ++ [x] := List.replicate_succ'
theorem map_snoc {l : List Int} {i : Nat} {x : Int} {f : Int → V} (h : l[i]? = some x) : (l.take (i + 1)).map f = (l.take i).map f ++ [f x] := by
  rw [List.take_succ, h, List.map_append] <;> rfl
end
/-! ### joins behind an if -/
section
variable {σ : L2.St} {H : Hp} {s1 s2 a b : TS} {t : TT} {D : Ends}
def SeqIf (t : TT) (a b s2 : TS) : TS := tSeq (tIfS t a b) s2
theorem w_seqI (g : SeqIf t a b s2 D σ H) : tSeq (tIfS t a b) s2 D σ H := g
theorem w_seqO (g : tSeq (tIfS t a b) s2 D σ H) : SeqIf t a b s2 D σ H := g
theorem w_ifK (P : Hp → Prop) (h1 : ∀ N : L2.St → Hp → Prop, (∀ H', P H' → N σ H') → tIfS t a b { D with nx := N } σ H) (h2 : ∀ H', P H' → s2 D σ H') : SeqIf t a b s2 D σ H := h1 _ h2
theorem w_ifJ (P : L2.St → Hp → Prop) (h1 : ∀ N : L2.St → Hp → Prop, (∀ σ' H', P σ' H' → N σ' H') → tIfS t a b { D with nx := N } σ H) (h2 : ∀ σ' H', P σ' H' → s2 D σ' H') : SeqIf t a b s2 D σ H := h1 _ h2
theorem w_seqK (P : Hp → Prop) (h1 : ∀ N : L2.St → Hp → Prop, (∀ H', P H' → N σ H') → s1 { D with nx := N } σ H) (h2 : ∀ H', P H' → s2 D σ H') : tSeq s1 s2 D σ H := h1 _ h2
theorem w_seqJ (P : L2.St → Hp → Prop) (h1 : ∀ N : L2.St → Hp → Prop, (∀ σ' H', P σ' H' → N σ' H') → s1 { D with nx := N } σ H) (h2 : ∀ σ' H', P σ' H' → s2 D σ' H') : tSeq s1 s2 D σ H := h1 _ h2
end
section
variable {K : PySem.W.Frag} {H : Hp} {Q : VK}
theorem w_isiS {x : Str} {t : String} {r : Bool} (h : kitB "str" t = some r) (g : Q (.bl r) H) : rIsi K [.str x, .ty t] H Q := ⟨_, _, _, _, r, rfl, .ty t, .base (.str x), kit_ty h, g⟩
theorem w_neT {p q : Addr} {xs : List V} {ds : List PyData} (h1 : H p = some (.tup xs)) (h2 : H q = some (.tup xs)) (d : DpAll K H xs ds) (s : SeqAt.shaped (.tuple ds) = true) (g : Q (.bl false) H) : rNeA K (.ref p) (.ref q) H Q :=
  w_neD (.tup (SqT.of h1) d) (.tup (SqT.of h2) d) s s (by
    rw [SeqAt.eqv_refl _ (SeqAt.canLay_of_shaped s)]
    exact g)
theorem inI (i : Int) (l : List Int) : inV (.int i) (l.map V.int) = decide (i ∈ l) := by
  unfold inV
  rw [Bool.eq_iff_iff, List.any_eq_true, decide_eq_true_iff]
  constructor
  · rintro ⟨y, hy, e⟩
    obtain ⟨j, hj, rfl⟩ := List.mem_map.mp hy
    have : j = i := by simpa [eqV] using e
    rw [← this]
    exact hj
  · intro h
    exact ⟨.int i, List.mem_map.mpr ⟨i, h, rfl⟩, by simp [eqV]⟩
theorem stOk (s : Sd) (g : Nat) : PyData.strOk (stT s g) = true := by
  unfold stT
  split <;> split <;> decide +kernel
end
end G

set_option Elab.async false
set_option linter.all false
set_option maxRecDepth 100000
set_option maxHeartbeats 4000000
/-! for over a tuple, a list, where an exception is handled. -/
namespace G
open PySem PySem.Spec PyProof.Rows L2 HotX
section
variable {prog : Program} {w : World} {A : Around} {E : Value → Shared → Prop} {s : Shared}
theorem pyNext_tuple_end_hot {it t x1 : Addr} {i : Nat} {items : Array Value} {Q : Option Value → Shared → Prop} (hot : HotAt A x1 s.heap) (hit : s.heap.IsTupleIter it t i) (ht : s.heap.IsTuple t items) (hx : items[i]? = none)
    (hQ : ∀ h', (∀ b o, b ≠ it → s.heap.get? b = some o → h'.get? b = some o) → Q none { s with heap := h' }) : wpAny (model prog w) A (pyNext (.ref it)) Q E s := by
  obtain ⟨o, ho, hc, hd⟩ := id hit
  obtain ⟨ol, hol, _, nl, hdl⟩ := ht
  obtain ⟨hh, o1, vs1, h1, d1, c1⟩ := hot
  have ne : x1 ≠ it := by
    rintro rfl
    rw [ho] at h1
    injection h1 with e
    subst e
    rw [hd] at d1
    injection d1 with e2
    subst e2
    simp at c1
  unfold pyNext
  refine wpAny_bind (wpAny_attempt (wpAny_callSpecial?_slot (name := Str.ofString "__next__") hit.typeIs F.slot_tuple_iterator_next
    (wpAny_call_entry F.slot_tuple_iterator_next hit.typeIs F.entry_tuple_iterator_next ?_ (F.args_tuple_iterator_next_1 _))))
  show wpAny _ _ (field (.ref it) 0 >>= _) _ _ s
  refine wpAny_bind (wpAny_field ho hd (x := .ref t) rfl ?_)
  show wpAny _ _ (if (Value.ref t == Value.none) = true then _ else _) _ _ s
  rw [if_neg (show ¬ ((Value.ref t == Value.none) = true) from Bool.false_ne_true)]
  show wpAny _ _ (field (.ref it) 1 >>= _) _ _ s
  refine wpAny_bind (wpAny_field ho hd (x := .int i 0) rfl ?_)
  show wpAny _ _ (seqItems? (.ref t) >>= _) _ _ s
  refine wpAny_bind (wpAny_seqItems hol hdl ?_)
  simp only [Int.toNat_natCast, hx]
  refine wpAny_bind (wpAny_rule (wpAny_bind (wpAny_setField ho hd (by simp) ?_)))
  show wpAny _ _ (newExc (.type "StopIteration") [] >>= _) _ _ _
  refine wpAny_bind ?_
  simp only [newExc, newTuple]
  refine wpAny_bind (wpAny_newObj_type ?_ (by size_fits))
  refine wpAny_bind (m := firstArgMember _ _) (wpAny_of_eq (a := Value.none) (by first | rfl | (simp only [firstArgMember]; rfl)) ?_)
  refine wpAny_newObj_type ?_ (by size_fits)
  have h1' := (Heap.get?_update_other (h := s.heap) (a := it) (b := x1) (Obj.mapFields (·.setIfInBounds 0 Value.none)) (Ne.symm ne)).trans h1
  refine raiseNew_hot ⟨hh, o1, vs1, Heap.get?_push_of_some _ (Heap.get?_push_of_some _ h1'), d1, c1⟩ (Nat.ne_of_lt (Heap.lt_size (Heap.get?_push_of_some _ h1'))) (Heap.get?_push_size _ rfl) rfl (by first | (simp; done) | (simp; omega) | (simp only [Array.size_append]; simp; omega)) ?_
  refine wpAny_bind (wpAny_isInstance (T := "StopIteration") (b := true) ⟨_, Heap.get?_update_self _ (Heap.get?_push_size _ rfl) rfl, rfl⟩ isSubtype_stop ?_)
  refine wpAny_pure (hQ _ fun b o nb e => ?_)
  have e' := (Heap.get?_update_other (h := s.heap) (a := it) (b := b) (Obj.mapFields (·.setIfInBounds 0 Value.none)) (Ne.symm nb)).trans e
  rw [Heap.get?_update_other _ _ (Nat.ne_of_gt (Heap.lt_size (Heap.get?_push_of_some _ e')))]
  exact Heap.get?_push_of_some _ (Heap.get?_push_of_some _ e')
end
theorem turn_tupH {P : Program} {w : World} {K : PySem.W.Frag} {tg : Expr} (a it : Addr) : L2H.TurnH P w K tg (Itt K a) [it] it (fun i h => h.IsTupleIter it a i) where
  mem := by simp
  obj := fun i h st b hb => by
    have e : b = it := by simpa using hb
    subst e
    obtain ⟨o, e, c, d⟩ := st
    exact ⟨o, e, fun v z => by rw [d] at z; cases z⟩
  keep := fun i h h' st k => st.at fun o e => k it (by simp) o e
  item := by
    intro X hP hw hK hc i pins s σ H E I hf st hg
    subst hP hw hK
    obtain ⟨xs, x, hq, hx⟩ := hg
    obtain ⟨its, rv, p, hz⟩ := I.tuple hq
    obtain ⟨u, hu, ru⟩ := rv.get hx
    obtain ⟨f0, f1, f2, f3, f4, f5⟩ := hf it (by simp)
    refine wpAny_pyNext_tuple_item st (show s.heap.IsTuple a its.toArray from p) (x := u) (by simpa using hu) fun h' st' sb => ?_
    have I1 : Inv X pins σ H { s with heap := h' } := I.turned (t' := s.toks) (fun b o hb e => (sb.2 b hb).trans e) f0 f1 f3 f4 f5
    obtain ⟨o, e, c, d⟩ := id st'
    exact ⟨u, rfl, go_of (s := { s with heap := h' }) e c d (by decide) ⟨x, H, I1, ru, ⟨rfl, fun ys hy => by rw [I.tuple_inj hy hq]; exact hx⟩, st', fun b hb => (hf b hb).1⟩⟩
  done := by
    intro X hP hw hK hc i pins s σ H E I hf st hg
    subst hP hw hK
    obtain ⟨xs, hq, hx⟩ := hg
    obtain ⟨its, rv, p, hz⟩ := I.tuple hq
    obtain ⟨f0, f1, f2, f3, f4, f5⟩ := hf it (by simp)
    have hl := rv.length
    obtain ⟨x1, hot⟩ := hc.at I
    exact pyNext_tuple_end_hot hot st (show s.heap.IsTuple a its.toArray from p) (by simp; omega) fun h' eb => ⟨rfl, I.turned (t' := s.toks) (fun b o hb e => eb b o hb e) f0 f1 f3 f4 f5⟩
  self := fun _ _ _ _ _ st h => wpAny_pyIter_tupleiter st h
theorem pi_tupH {X : Cx} {tg : Expr} {l : Expr} {tl : TE} (hl : PE X l tl) : L2H.PIH X tg l (iTup X.K tl) := by
  refine ⟨fun pins s σ H R I h => ?_⟩
  refine thn (hl.run pins s σ H _ I h) fun v s1 ⟨x, H1, I1, r1, q1⟩ => ?_
  obtain ⟨a, e, ⟨xs, hq⟩, q⟩ := q1
  subst e
  cases r1
  obtain ⟨its, rv, p, hz⟩ := I1.tuple hq
  refine wpAny_pyIter_tuple (show s1.heap.IsTuple a its.toArray from p) ?_
  refine ⟨s1.heap.objs.size, [s1.heap.objs.size], _, _, H1, rfl, I1.kept (t' := s1.toks) fun b o e => Heap.get?_push_of_some _ e, turn_tupH a _, ⟨_, Heap.get?_push_size _ rfl, rfl, rfl⟩, fun b hb => ?_, q⟩
  have e : b = s1.heap.objs.size := by simpa using hb
  subst e
  exact I1.fpOk (Nat.le_refl _) (I1.hok.fresh (Nat.le_refl _))
section
variable {K : PySem.W.Frag} {σ : L2.St} {H : Hp} {Q : VK} {x y v : V} {p q : Addr} {xs ys : List V} {k : Nat}
theorem w_catT (h1 : SqT K H p xs) (h2 : SqT K H q ys) (n1 : xs ≠ []) (n2 : ys ≠ []) (hl : xs.length + ys.length ≤ sizeLine) (g : ∀ r H', H r = none → Kp [] H H' → H' r = some (.tup (xs ++ ys)) → Q (.ref r) H') : rCatA K (.ref p) (.ref q) H Q :=
  ⟨p, q, xs, ys, rfl, rfl, h1, h2, hl, fun z => absurd z n1, fun _ z => absurd z n2, fun _ _ => nw g⟩
end
end G

set_option Elab.async false
set_option linter.all false
set_option maxRecDepth 100000
set_option maxHeartbeats 4000000
/-! xs[lo::k], `in` over data of any depth. -/
namespace G
open PySem PySem.Spec PyProof.Rows L2
section
variable {X : Cx} {e : Expr} {te : TE} {lo hi st : Option Expr} {tl th ts : TO} {pos p2 : Pos}
theorem op_inDA {k : Nat} (hr : Room k X.A) : OpR X (compareOp .In) (rInD X.K) := op_inD (by have := hr.un; omega)
/-- a stepped slice of a list: a new list of some of its items -/
def tSl3 (K : PySem.W.Frag) (te : TE) (tl th ts : TO) : TE := fun σ H Q => te σ H fun x H1 => tl σ H1 fun l H2 => th σ H2 fun u H3 => ts σ H3 fun z H4 => ∃ a xs, x = .ref a ∧ SqL K H4 a xs ∧ z ≠ some 0 ∧
  ∀ p ys, H4 p = none → ys.length ≤ xs.length → (∀ y ∈ ys, y ∈ xs) → Q (.ref p) (upd H4 p (.lst ys))
theorem vals_pick {xs : List V} {us : List Value} (r : Vals xs us) (f : Nat → Nat) : ∀ js : List Nat, ∃ ys : List V, Vals ys (js.filterMap fun m => us[f m]?) ∧ ys.length ≤ js.length ∧ ∀ y ∈ ys, y ∈ xs
  | [] => ⟨[], .nil, Nat.le_refl _, fun y h => by cases h⟩
  | j :: js => by
    obtain ⟨ys, h1, h2, h3⟩ := vals_pick r f js
    rw [List.filterMap_cons]
    cases c : us[f j]? with
    | none => exact ⟨ys, h1, Nat.le_trans h2 (Nat.le_succ _), h3⟩
    | some u =>
      have hl : f j < us.length := (List.getElem?_eq_some_iff.mp c).1
      obtain ⟨x, hx⟩ : ∃ x, xs[f j]? = some x := ⟨_, List.getElem?_eq_getElem (by rw [r.length]; exact hl)⟩
      obtain ⟨u', hu, ru⟩ := r.get hx
      rw [c] at hu
      injection hu with hu
      subst hu
      refine ⟨x :: ys, .cons ru h1, by rw [List.length_cons, List.length_cons]; omega, fun y hy => ?_⟩
      rcases List.mem_cons.mp hy with e | e
      · rw [e]
        exact List.mem_of_getElem? hx
      · exact h3 y e
theorem pe_sl3 {est : Expr} (he : PE X e te) (hl : PO X lo tl) (hu : PO X hi th) (hst : PO X (some est) ts) : PE X (.Subscript e (.Slice lo hi (some est) p2) pos) (tSl3 X.K te tl th ts) := by
  refine ⟨fun pins s σ H Q I h => ?_⟩
  refine Subscript_ (thn (he.run pins s σ H _ I h) fun v s1 ⟨x, H1, I1, r1, q1⟩ => ?_)
  refine wpAny_Slice (thn (hl.run pins s1 σ H1 _ I1 q1) fun vl s2 ⟨l, H2, I2, pl, q2⟩ => thn (hu.run pins s2 σ H2 _ I2 q2) fun vu s3 ⟨u, H3, I3, pu, q3⟩ => thn (hst.run pins s3 σ H3 _ I3 q3) fun vs s4 ⟨z, H4, I4, pz, q4⟩ => ?_)
  have I5 : Inv X pins σ H4 { s4 with heap := s4.heap.push { cls := .type "slice", data := .fields #[vl, vu, vs] } } := I4.kept (t' := s4.toks) fun b ob q => Heap.get?_push_of_some _ q
  obtain ⟨a, xs, rfl, hx, nz, q⟩ := q4
  cases r1
  obtain ⟨its, r, ht, hz⟩ := I5.list hx
  have hlen := r.length
  show wpAny (model X.prog X.w) X.A (subscriptTail e (.Slice lo hi (some est) p2) (.ref a) (.ref s4.heap.objs.size)) (EP X pins σ Q) X.xe { s4 with heap := s4.heap.push { cls := .type "slice", data := .fields #[vl, vu, vs] } }
  refine tail_any (ops := [.ref a, .ref s4.heap.objs.size]) (T := "list") ht.isList.typeIs slot_list_getitem.lookup ?_ (by with_unfolding_all rfl)
  refine wpAny_getItem_list_slice ht.isList (Heap.IsSliceOf.new ..) pl pu pz nz ?_ (by rw [List.size_toArray] <;> omega)
  obtain ⟨ys, h1, h2, h3⟩ := vals_pick r id (sliceRange (sliceBounds l u z its.toArray.size).1 (sliceBounds l u z its.toArray.size).2.1 (sliceBounds l u z its.toArray.size).2.2)
  have e : slicePick its.toArray l u z = ((sliceRange (sliceBounds l u z its.toArray.size).1 (sliceBounds l u z its.toArray.size).2.1 (sliceBounds l u z its.toArray.size).2.2).filterMap fun m => its[id m]?).toArray := by
    unfold slicePick
    simp
  have sz := slicePick_size_le its.toArray l u z
  rw [e] at sz ⊢
  have l1 := h1.length
  simp only [List.size_toArray] at sz l1
  rw [← l1] at sz
  refine ⟨.ref _, _, I5.laid (t' := s4.toks) (o := .lst ys) (fun b ob q => Heap.get?_push_of_some _ q) (Nat.le_refl _) ?_, rfl, q _ ys (I5.hok.fresh (Nat.le_refl _)) (by omega) h3⟩
  exact ⟨by omega, _, 0, h1, Heap.get?_push_size _ rfl⟩
end
end G

set_option Elab.async false
set_option linter.all false
set_option maxRecDepth 100000
set_option maxHeartbeats 1000000
/-! Words with a sign; f"{x:+d}". -/
namespace G
open PySem PySem.Spec PyProof.Rows L2 TL NumText
theorem signed_seen {x : Str} {c : Nat} {cs : List Nat} (hx : tl x = c :: cs) (hc : c = 43 ∨ c = 45) (h : AllDigits cs) : numTextOf x = tl x ∧ numSeenOf x = tl x := by
  have small : ∀ d ∈ tl x, 1 ≤ d ∧ d < 128 := by
    rw [hx]
    intro d hd
    rcases List.mem_cons.mp hd with e | hd
    · omega
    · have := h d hd
      omega
  have e1 : numTextOf x = tl x := if_pos (by
    rw [← Array.all_toList, List.all_eq_true]
    exact fun d hd => decide_eq_true (small d hd).2)
  refine ⟨e1, ?_⟩
  show (numTextOf x).takeWhile _ = _
  rw [e1]
  exact takeWhile_all fun d hd => bne_iff_ne.mpr (by have := small d hd; omega)
theorem intText_signed {x : Str} {c : Nat} {cs : List Nat} (hx : tl x = c :: cs) (hc : c = 43 ∨ c = 45) (h : AllDigits cs) (h1 : cs ≠ []) (h2 : x.length ≤ 4300) :
    intText? x = some (if c = 45 then -((digitsVal cs : Nat) : Int) else ((digitsVal cs : Nat) : Int)) := by
  obtain ⟨e1, e2⟩ := signed_seen hx hc h
  have hl : cs.length + 1 = x.length := by rw [len_tl, hx, List.length_cons]
  unfold intText?
  rw [e1, e2, hx, if_pos (beq_self_eq_true _)]
  have eb : (c :: cs).dropWhile blank = c :: cs := dropWhile_of (by omega)
  have es : sign (c :: cs) = (decide (c = 45), cs) := by
    rcases hc with rfl | rfl <;> rfl
  have ec : core (c :: cs) = cs := by
    unfold core
    rw [eb, es]
    show (cs.reverse.dropWhile blank).reverse = cs
    rw [dropWhile_digits h.reverse, List.reverse_reverse]
  rw [ec, eb, es, digits_of h h1]
  have sz : (cs.foldl (fun acc c => acc.push (c - 48)) (#[] : Array Nat)).size ≤ 4300 := by
    rw [push_size cs #[]]
    simp only [Array.size_empty]
    omega
  show (if _ ≤ 4300 then some (worth _ _) else none) = _
  rw [if_pos sz]
  have v : (cs.foldl (fun acc c => acc.push (c - 48)) (#[] : Array Nat)).foldl (fun acc d => acc * 10 + d) 0 = digitsVal cs := push_foldl cs #[]
  unfold worth
  rw [v]
  rcases hc with rfl | rfl <;> rfl
/-! ### a number in the form +d -/
def sgL (i : Int) : List Nat := (if i < 0 then 45 else 43) :: numL i.natAbs
def sgS (i : Int) : Str := ⟨(sgL i).toArray⟩
theorem tl_sgS (i : Int) : tl (sgS i) = sgL i := rfl
end G

set_option Elab.async false
set_option linter.all false
set_option maxRecDepth 100000
set_option maxHeartbeats 1000000
namespace G
open PySem PySem.Spec PyProof.Rows L2 TL NumText
def plusD : Str := "+d"
section
variable {M : Model} {A : Around} {E : Value → Shared → Prop} {s : Shared}
theorem ret_of {x y : Str} {Q : Fin → Shared → Prop} (e : x = y) (h : wpAny M A (retStr y) Q E s) : wpAny M A (retStr x) Q E s := e ▸ h
end
open Builtin Builtin.Int Builtin.Float in
theorem gives_plus (i : Int) (t u : Tok) (h : i.natAbs.log2 < 1920) : Gives («int.__format__» ⟨[.int i t, .str plusD u], []⟩) (.str (sgS i)) := by
  intro prog w A R s hq
  have e1 : (plusD.length == 0) = false := by decide +kernel
  have e2 : ((plusD.cps.toList.drop 1).any (· ≥ 128) || (plusD.cps.getD 0 0 ≥ 128 && !([60, 62, 61, 94] : List Nat).contains (plusD.cps.getD 1 0))) = false := by decide +kernel
  have e3 : ∀ n, parseFormatSpec plusD.cps.toList n 62 = .ok { align := 62, sign := some 43, type := some 100 } := fun n => by
    have : plusD.cps.toList = [43, 100] := by decide +kernel
    rw [this]
    rfl
  unfold Builtin.«int.__format__»
  simp only [selfAndOne, noKeywords, Int.intOfSelf, asInt?, asStr?, List.isEmpty_nil, if_true, pure_bind, bind_pure, bind_assoc, e1, e2, Bool.false_eq_true, if_false, show (Value.str plusD u == Value.none) = false from rfl]
  refine wpAny_bind (wpAny_typeNameOf (T := "str") (typeIs_str _ _ _) (by decide) fun _ => ?_)
  refine wpAny_bind (wpAny_typeNameOfCut_int ?_)
  simp only [e3]
  rw [if_pos (by decide)]
  show wpAny _ _ (Builtin.overDigitLimit? i >>= fun r => _) _ _ _
  rw [PySem.overDigitLimit_small h]
  refine wpAny_bind (wpAny_pure ?_)
  refine ret_of (y := sgS i) ?_ ?_
  · have e : numL i.natAbs = (Nat.toDigits 10 i.natAbs).map Char.toNat := rfl
    have hs : sgL i = (if i < 0 then 45 else 43) :: (Nat.toDigits 10 i.natAbs).map Char.toNat := rfl
    have ne : Nat.toDigits 10 i.natAbs ≠ [] := fun z => numL_ne i.natAbs (by rw [e, z] <;> rfl)
    unfold sgS
    rw [hs]
    generalize Nat.toDigits 10 i.natAbs = ds at ne
    cases ds with
    | nil => exact absurd rfl ne
    | cons c r =>
      by_cases c0 : i < 0
      · rw [decide_eq_true c0, if_pos c0]
        conv => lhs; whnf
        simp
        omega
      · rw [decide_eq_false c0, if_neg c0]
        conv => lhs; whnf
        simp
        omega
  · unfold retStr
    refine wpAny_bind (wpAny_mkStr (wpAny_pure hq.2) hq.1)
section
variable {X : Cx}
/-- f"{x:+d}" -/
def tFmtP (te : TE) : TE := fun σ H Q => te σ H fun x H1 => ∃ i : Int, x = .int i ∧ i.natAbs.log2 < 1920 ∧ (sgS i).length ≤ sizeLine ∧ Q (.str (sgS i)) H1
theorem pe_fmtP {e : Expr} {te : TE} {pos p1 p2 p3 : Pos} {k : Nat} (he : PE X e te) : PE X (.JoinedStr [.FormattedValue e (-1) (some (.JoinedStr [.Constant (.str plusD) k p1] p2)) pos] p3) (tFmtP te) := by
  refine ⟨fun pins s σ H Q I h => wpAny_JoinedStr_one ?_⟩
  refine wpAny_FormattedValue_spec (thn (he.run pins s σ H _ I h) fun v s1 hv => ?_)
  obtain ⟨x, H1, I1, r1, i, rfl, hz, hl, q⟩ := hv
  obtain ⟨t, rfl⟩ := r1
  refine wpAny_JoinedStr_one (PySem.wpAny_Constant_str ⟨plusD, _, rfl, ?_⟩)
  refine wpAny_formatField_spec (by decide +kernel) (fun s' => typeIs_int s' i t) PySem.F.slot_int_format PySem.F.entry_int_format PySem.F.args_int_format_2 (fun u => gives_plus i t u hz) ?_ (by decide +kernel) hl
  exact ⟨.str (sgS i), H1, (I1.tok _).tok _, ⟨_, rfl⟩, q⟩
end
end G

set_option Elab.async false
set_option linter.all false
set_option maxRecDepth 100000
set_option maxHeartbeats 1000000
/-! Words of logs, the text of a log, pieces of texts. -/
namespace G
open PySem PySem.Spec PyProof.Rows L2 TL NumText
def spC : Str := " "
theorem tl_spC : tl spC = [32] := by decide +kernel
theorem tl_from (z : Str) (n : Nat) : tl (cutS z (some (n : Int)) none) = (tl z).drop n := by
  show ((tl z).drop (HT.sIx z.length 0 (some (n : Int)))).take (HT.sIx z.length z.length none - HT.sIx z.length 0 (some (n : Int))) = _
  rw [HT.sIx_nat, HT.sIx_none, len_tl]
  by_cases c : n ≤ (tl z).length
  · rw [Nat.min_eq_left c]
    exact List.take_of_length_le (by rw [List.length_drop]; omega)
  · rw [Nat.min_eq_right (by omega), Nat.sub_self, List.take_zero, List.drop_eq_nil_of_le (by omega)]
theorem tl_upto (z : Str) (n : Nat) : tl (cutS z none (some (n : Int))) = (tl z).take n := by
  show ((tl z).drop (HT.sIx z.length 0 none)).take (HT.sIx z.length z.length (some (n : Int)) - HT.sIx z.length 0 none) = _
  rw [HT.sIx_nat, HT.sIx_none, len_tl, List.drop_zero, Nat.sub_zero]
  by_cases c : n ≤ (tl z).length
  · rw [Nat.min_eq_left c]
  · rw [Nat.min_eq_right (by omega), List.take_of_length_le (by omega), List.take_of_length_le (by omega)]
def posL (cs : List Nat) : Bool := decide (cs ≠ [] ∧ cs.length ≤ 9 ∧ cs.head? ≠ some 48) && cs.all fun c => decide (48 ≤ c ∧ c ≤ 57)
theorem posL_iff {cs : List Nat} : posL cs = true ↔ (cs ≠ [] ∧ cs.length ≤ 9 ∧ cs.head? ≠ some 48) ∧ AllDigits cs := by
  unfold posL
  rw [Bool.and_eq_true, decide_eq_true_iff, List.all_eq_true]
  refine and_congr Iff.rfl ⟨fun h c hc => of_decide_eq_true (h c hc), fun h c hc => decide_eq_true (h c hc)⟩
def okW (w : Str) : Bool := match tl w with
  | [] => false
  | c :: cs => decide (c = 43 ∨ c = 45) && posL cs
def valW (w : Str) : Int := match tl w with
  | [] => 0
  | c :: cs => if c = 45 then -((digitsVal cs : Nat) : Int) else ((digitsVal cs : Nat) : Int)
def numV (cs : List Nat) : Nat := if posL cs = true then digitsVal cs else 0
theorem fold_ge : ∀ (cs : List Nat) (a : Nat), a ≤ cs.foldl (fun acc c => acc * 10 + (c - 48)) a
  | [], a => Nat.le_refl _
  | c :: cs, a => Nat.le_trans (by omega) (fold_ge cs (a * 10 + (c - 48)))
theorem posL_val {cs : List Nat} (h : posL cs = true) : 1 ≤ digitsVal cs := by
  obtain ⟨⟨h1, h2, h3⟩, h4⟩ := posL_iff.mp h
  cases cs with
  | nil => exact absurd rfl h1
  | cons c r =>
    have hc := h4.head
    have h5 : c ≠ 48 := fun z => h3 (by rw [z] <;> rfl)
    have := fold_ge r (0 * 10 + (c - 48))
    show 1 ≤ r.foldl _ (0 * 10 + (c - 48))
    omega
theorem okW_cons {w : Str} (h : okW w = true) : ∃ c cs, tl w = c :: cs ∧ (c = 43 ∨ c = 45) ∧ posL cs = true := by
  unfold okW at h
  cases e : tl w with
  | nil => rw [e] at h; cases h
  | cons c cs =>
    rw [e] at h
    simp only [Bool.and_eq_true, decide_eq_true_eq] at h
    exact ⟨c, cs, rfl, h.1, h.2⟩
theorem okW_of {w : Str} {c : Nat} {cs : List Nat} (e : tl w = c :: cs) : okW w = (decide (c = 43 ∨ c = 45) && posL cs) := by
  unfold okW
  rw [e]
theorem valW_of {w : Str} {c : Nat} {cs : List Nat} (e : tl w = c :: cs) : valW w = if c = 45 then -((digitsVal cs : Nat) : Int) else ((digitsVal cs : Nat) : Int) := by
  unfold valW
  rw [e]
theorem okW_len {w : Str} (h : okW w = true) : w.length ≤ 10 := by
  obtain ⟨c, cs, e, hc, hp⟩ := okW_cons h
  obtain ⟨⟨_, h2, _⟩, _⟩ := posL_iff.mp hp
  rw [len_tl, e, List.length_cons]
  omega
theorem okW_int {w : Str} (h : okW w = true) : intText? w = some (valW w) := by
  have hl := okW_len h
  obtain ⟨c, cs, e, hc, hp⟩ := okW_cons h
  obtain ⟨⟨h1, h2, _⟩, h4⟩ := posL_iff.mp hp
  rw [valW_of e]
  exact intText_signed e hc h4 h1 (by omega)
theorem posL_int {w : Str} (h : posL (tl w) = true) : intText? w = some ((digitsVal (tl w) : Nat) : Int) := by
  obtain ⟨⟨h1, h2, _⟩, h4⟩ := posL_iff.mp h
  exact intText_digits h4 h1 (by rw [len_tl]; omega)
/-! ### the numbers of a log -/
def OpT (i : Int) : Prop := i ≠ 0 ∧ i.natAbs < 1000000000
theorem num_head : ∀ n : Nat, 1 ≤ n → (numL n).head? ≠ some 48 := by
  intro n
  induction n using Nat.strongRecOn with
  | _ n ih =>
    intro h
    by_cases h10 : n < 10
    · rw [numL_lt h10]
      show some (48 + n) ≠ some 48
      intro z
      injection z with z
      omega
    · rw [numL_step (by omega)]
      have i1 := ih (n / 10) (by omega) (by omega)
      cases e : numL (n / 10) with
      | nil => exact absurd e (numL_ne _)
      | cons d t =>
        rw [e] at i1
        exact i1
theorem posL_num {n : Nat} (h : 1 ≤ n) (h2 : n < 1000000000) : posL (numL n) = true :=
  posL_iff.mpr ⟨⟨numL_ne n, numL_len (by decide) (by omega), num_head n h⟩, numL_digits n⟩
theorem okW_sg {i : Int} (h : OpT i) : okW (sgS i) = true := by
  have e : tl (sgS i) = (if i < 0 then 45 else 43) :: numL i.natAbs := rfl
  rw [okW_of e, posL_num (by have := h.1; omega) h.2, Bool.and_true, decide_eq_true_iff]
  split
  · exact .inr rfl
  · exact .inl rfl
theorem valW_sg (i : Int) : valW (sgS i) = i := by
  have e : tl (sgS i) = (if i < 0 then 45 else 43) :: numL i.natAbs := rfl
  rw [valW_of e, numL_val]
  by_cases c : i < 0
  · rw [if_pos c, if_pos rfl]
    omega
  · rw [if_neg c, if_neg (by decide)]
    omega
theorem sgS_len {i : Int} (h : OpT i) : (sgS i).length ≤ 10 := okW_len (okW_sg h)
theorem sgS_minus {i : Int} (h : i < 0) : ("-" : Str) ++ Str.ofString (toString (-i)) = sgS i := by
  refine ext_tl ?_
  have e1 : tl ("-" : Str) = [45] := by decide +kernel
  have e2 : -i = ((i.natAbs : Nat) : Int) := by omega
  rw [tl_append, e1, e2, tl_num]
  show _ = (if i < 0 then 45 else 43) :: numL i.natAbs
  rw [if_pos h]
  rfl
theorem sgS_plus {i : Int} (h : ¬ i < 0) : ("+" : Str) ++ Str.ofString (toString i) = sgS i := by
  refine ext_tl ?_
  have e1 : tl ("+" : Str) = [43] := by decide +kernel
  have e2 : i = ((i.natAbs : Nat) : Int) := by omega
  rw [tl_append, e1]
  conv => lhs; rw [e2]
  rw [tl_num]
  show _ = (if i < 0 then 45 else 43) :: numL i.natAbs
  rw [if_neg h]
  rfl
def logT (log : List Int) : Str := Txt.join spC (log.map sgS)
def wordsT (t : Str) : List Str := if t = "" then [] else Txt.split t spC
def badW (ws : List Str) : Option Nat := ws.findIdx? fun w => !okW w
theorem logT_nil : logT [] = "" := by decide +kernel
theorem logT_ne {i : Int} {log : List Int} : ¬ logT (i :: log) = "" := fun z => by
  have e := congrArg tl z
  unfold logT at e
  rw [join_eq, tl_join] at e
  have e2 : tl ("" : Str) = [] := by decide +kernel
  rw [e2] at e
  cases log with
  | nil => exact absurd e (List.cons_ne_nil _ _)
  | cons j r => exact absurd e (List.cons_ne_nil _ _)
theorem words_log {log : List Int} (h : ∀ i ∈ log, OpT i) : wordsT (logT log) = log.map sgS := by
  unfold wordsT
  cases log with
  | nil => rw [if_pos logT_nil]; rfl
  | cons i r =>
    rw [if_neg logT_ne]
    refine split_join (y := spC) (s := 32) (S := []) tl_spC (by decide +kernel) (by simp) fun p hp => ?_
    obtain ⟨j, hj, rfl⟩ := List.mem_map.mp hp
    show 32 ∉ (if j < 0 then 45 else 43) :: numL j.natAbs
    intro z
    rcases List.mem_cons.mp z with z | z
    · split at z <;> omega
    · exact numL_free (by omega) z
theorem bad_log {log : List Int} (h : ∀ i ∈ log, OpT i) : badW (log.map sgS) = none := by
  unfold badW
  rw [List.findIdx?_eq_none_iff]
  intro w hw
  obtain ⟨i, hi, rfl⟩ := List.mem_map.mp hw
  rw [okW_sg (h i hi)]
  rfl
theorem vals_log (log : List Int) : (log.map sgS).map valW = log := by
  rw [List.map_map]
  conv => rhs; rw [← List.map_id log]
  exact List.map_congr_left fun i _ => valW_sg i
/-! ### lengths -/
def sumL (ws : List Str) : Nat := (ws.map (·.length)).sum
theorem sumL_cons (w : Str) (ws : List Str) : sumL (w :: ws) = w.length + sumL ws := by
  unfold sumL
  rw [List.map_cons, List.sum_cons]
theorem sumL_le {ws : List Str} {k : Nat} (h : ∀ w ∈ ws, w.length ≤ k) : sumL ws ≤ k * ws.length := by
  induction ws with
  | nil => exact Nat.zero_le _
  | cons w r ih =>
    have := ih fun z hz => h z (List.mem_cons_of_mem _ hz)
    have := h w List.mem_cons_self
    rw [sumL_cons, List.length_cons, Nat.mul_succ]
    omega
theorem sumL_mem {ws : List Str} {w : Str} (h : w ∈ ws) : w.length ≤ sumL ws := by
  induction ws with
  | nil => cases h
  | cons x r ih =>
    rw [sumL_cons]
    rcases List.mem_cons.mp h with rfl | h
    · omega
    · have := ih h
      omega
theorem sumL_append (a b : List Str) : sumL (a ++ b) = sumL a + sumL b := by
  unfold sumL
  rw [List.map_append, List.sum_append]
theorem sumL_set (x : Str) : ∀ (ws : List Str) (k : Nat), sumL (ws.set k x) ≤ sumL ws + x.length
  | [], k => by show sumL ([] : List Str) ≤ _; omega
  | w :: r, 0 => by
    show sumL (x :: r) ≤ _
    rw [sumL_cons, sumL_cons]
    omega
  | w :: r, k + 1 => by
    show sumL (w :: r.set k x) ≤ _
    have := sumL_set x r k
    rw [sumL_cons, sumL_cons]
    omega
theorem jn_len (S : List Nat) : ∀ ps : List (List Nat), (joinL S ps).length ≤ (ps.map List.length).sum + ps.length * S.length
  | [] => Nat.zero_le _
  | [p] => by
    show p.length ≤ _
    simp only [List.map_cons, List.map_nil, List.sum_cons, List.sum_nil]
    omega
  | p :: q :: r => by
    have ih := jn_len S (q :: r)
    show (p ++ (S ++ joinL S (q :: r))).length ≤ _
    simp only [List.length_append, List.map_cons, List.sum_cons, List.length_cons, Nat.add_mul, Nat.one_mul] at ih ⊢
    omega
theorem join_len (ws : List Str) : (Txt.join spC ws).length ≤ sumL ws + ws.length := by
  rw [len_tl, join_eq, tl_join, tl_spC]
  have h := jn_len [32] (ws.map tl)
  have e : (List.map List.length (ws.map tl)).sum = sumL ws := by
    unfold sumL
    rw [List.map_map]
    congr 1
  rw [e, List.length_map] at h
  show _ ≤ sumL ws + ws.length
  have : [32].length = 1 := rfl
  rw [this] at h
  omega
theorem spl_sum : ∀ (l acc : List Nat), ((spl [32] 0 acc l).map List.length).sum ≤ acc.length + l.length ∧ (spl [32] 0 acc l).length ≤ l.length + 1 ∧ spl [32] 0 acc l ≠ []
  | [], acc => by
    rw [spl_nil]
    refine ⟨by simp, by simp, by simp⟩
  | c :: r, acc => by
    cases h : pre [32] (c :: r) with
    | true =>
      rw [spl_hit h]
      obtain ⟨i1, i2, i3⟩ := spl_sum r []
      show ((acc :: spl [32] 0 [] r).map List.length).sum ≤ _ ∧ (acc :: spl [32] 0 [] r).length ≤ _ ∧ acc :: spl [32] 0 [] r ≠ []
      refine ⟨?_, ?_, by simp⟩
      · simp only [List.map_cons, List.sum_cons, List.length_cons, List.length_nil] at i1 ⊢
        omega
      · simp only [List.length_cons] at i2 ⊢
        omega
    | false =>
      rw [spl_miss h]
      obtain ⟨i1, i2, i3⟩ := spl_sum r (acc ++ [c])
      refine ⟨?_, ?_, i3⟩
      · simp only [List.length_append, List.length_cons, List.length_nil] at i1 ⊢
        omega
      · simp only [List.length_cons] at i2 ⊢
        omega
theorem split_sum (t : Str) : sumL (Txt.split t spC) ≤ t.length ∧ (Txt.split t spC).length ≤ t.length + 1 ∧ Txt.split t spC ≠ [] := by
  have e := split_spl t spC (by rw [tl_spC]; simp) (kind_ok (by decide +kernel))
  rw [tl_spC] at e
  obtain ⟨h1, h2, h3⟩ := spl_sum (tl t) []
  rw [← e] at h1 h2 h3
  refine ⟨?_, ?_, fun z => h3 (by rw [z] <;> rfl)⟩
  · have : (List.map List.length ((Txt.split t spC).map tl)).sum = sumL (Txt.split t spC) := by
      unfold sumL
      rw [List.map_map]
      congr 1
    rw [this] at h1
    rw [len_tl]
    simpa using h1
  · rw [List.length_map] at h2
    rw [len_tl]
    exact h2
theorem words_sum (t : Str) : sumL (wordsT t) ≤ t.length ∧ (wordsT t).length ≤ t.length + 1 := by
  unfold wordsT
  split
  · exact ⟨Nat.zero_le _, Nat.zero_le _⟩
  · exact ⟨(split_sum t).1, (split_sum t).2.1⟩
theorem logT_len {log : List Int} (h : ∀ i ∈ log, OpT i) : (logT log).length ≤ 11 * log.length := by
  have h1 := join_len (log.map sgS)
  have h2 := sumL_le (ws := log.map sgS) (k := 10) fun w hw => by
    obtain ⟨i, hi, rfl⟩ := List.mem_map.mp hw
    exact sgS_len (h i hi)
  rw [List.length_map] at h1 h2
  unfold logT
  omega
theorem logT_cost {log : List Int} (h : ∀ i ∈ log, OpT i) (hl : log.length ≤ 1000) : ((log.map sgS).map (·.length)).sum + (log.map sgS).length * spC.length ≤ 16777216 := by
  have h2 := sumL_le (ws := log.map sgS) (k := 10) fun w hw => by
    obtain ⟨i, hi, rfl⟩ := List.mem_map.mp hw
    exact sgS_len (h i hi)
  rw [List.length_map] at h2
  have e : spC.length = 1 := by decide +kernel
  rw [e, List.length_map]
  show sumL (log.map sgS) + _ ≤ _
  omega
end G

set_option Elab.async false
set_option linter.all false
set_option maxRecDepth 100000
set_option maxHeartbeats 4000000
/-! Steps over texts: cuts, signs that are not in a text, insert, f"{x:+d}". -/
namespace G
open PySem PySem.Spec PyProof.Rows L2
def rNInS : R2 := fun x y H Q => ∃ (c : Nat) (z : Str), x = .str ⟨#[c]⟩ ∧ y = .str z ∧ Q (.bl (!decide (c ∈ z.cps.toList))) H
def rInsert : V → List V → Hp → VK → Prop := fun x vs H Q => ∃ (l : Addr) (xs : List V) (i : Int) (y : V), x = .ref l ∧ vs = [.int i, y] ∧ H l = some (.lst xs) ∧ xs.length < sizeLine ∧ 0 ≤ i ∧ i < 2 ^ 63 ∧ Q .non (upd H l (.lst (xs.take i.toNat ++ [y] ++ xs.drop i.toNat)))
theorem op_ninS {X : Cx} : OpR X (compareOp .NotIn) rNInS := op_notIn_sign
section
variable {K : PySem.W.Frag} {σ : L2.St} {H : Hp} {Q : VK} {ta tb tc te : TE} {x y v : V} {i j : Int} {n m : Nat} {p q : Addr} {xs ys : List V} {b c : Bool}
theorem w_ninS {c : Nat} {z : Str} (g : Q (.bl (!decide (c ∈ z.cps.toList))) H) : rNInS (.str ⟨#[c]⟩) (.str z) H Q := ⟨c, z, rfl, rfl, g⟩
theorem w_ins {k : Nat} (h : H p = some (.lst xs)) (hl : xs.length < sizeLine) (hk : k < 2 ^ 62) (g : ∀ H', Kp [p] H H' → H' p = some (.lst (xs.take k ++ [y] ++ xs.drop k)) → Q .non H') : rInsert (.ref p) [.int (k : Int), y] H Q :=
  ⟨p, xs, (k : Int), y, rfl, rfl, h, hl, by omega, by omega, by
    rw [Int.toNat_natCast]
    exact g _ (Kp.put (by simp)) upd_same⟩
theorem w_fmtP (g : te σ H fun x H1 => ∃ i : Int, x = .int i ∧ i.natAbs.log2 < 1920 ∧ (sgS i).length ≤ sizeLine ∧ Q (.str (sgS i)) H1) : tFmtP te σ H Q := g
theorem lp_str {D : Ends} {tb : TS} {g : TG} {x : Str} (Pv : Nat → L2.St → Hp → Prop) (h0 : Pv 0 σ H) (hs : ∀ (i : Nat) (c : Nat) σ' H', x.cps[i]? = some c → Pv i σ' H' → g (.str ⟨#[c]⟩) σ' H' fun σ2 H2 => tb { D with nx := Pv (i + 1), ct := Pv (i + 1), bk := D.nx } σ2 H2)
    (hd : ∀ σ' H', Pv x.cps.size σ' H' → D.nx σ' H') : LoopG (Its x) g tb D σ H := by
  refine ⟨fun i m σ H => m = x.cps.size - i ∧ i ≤ x.cps.size ∧ Pv i σ H, ⟨x.cps.size, by simp, Nat.zero_le _, h0⟩, ?_⟩
  rintro i m σ H ⟨rfl, hi, p⟩
  by_cases lt : i < x.cps.size
  · refine .inr ⟨lt, Pv (i + 1), fun σ' H' p' => ⟨x.cps.size - (i + 1), by omega, rfl, lt, p'⟩, fun v H' y => ?_⟩
    obtain ⟨rfl, c, hc, rfl⟩ := y
    exact hs i c σ _ hc p
  · have e : i = x.cps.size := by omega
    subst e
    exact .inl ⟨Nat.le_refl _, hd σ H p⟩
/-- a cut of a text -/
theorem w_slS {z : Str} {lo hi : Option Int} (hz : z.length ≤ sizeLine) (g : Q (.str (cutS z lo hi)) H) : rSlS (.str z) lo hi H Q := ⟨z, rfl, hz, g⟩
/-- the sign of a word -/
def sgnB (w : Str) : Bool := match TL.tl w with
  | [] => false
  | c :: _ => decide (c = 43 ∨ c = 45)
theorem okW_sgn (w : Str) : okW w = (sgnB w && posL (TL.tl (cutS w (some 1) none))) := by
  have e : TL.tl (cutS w (some 1) none) = (TL.tl w).drop 1 := tl_from w 1
  rw [e]
  unfold okW sgnB
  cases TL.tl w with
  | nil => rfl
  | cons c cs => rfl
theorem sg1 (w : Str) : inV (.str (cutS w none (some 1))) [.str "-", .str "+"] = sgnB w := by
  have e : TL.tl (cutS w none (some 1)) = (TL.tl w).take 1 := tl_upto w 1
  have em : ("-" : Str) = ⟨#[45]⟩ := by decide +kernel
  have ep : ("+" : Str) = ⟨#[43]⟩ := by decide +kernel
  unfold sgnB
  generalize hz : cutS w none (some 1) = z at e
  have key : ∀ k : Nat, eqV (.str ⟨#[k]⟩) (.str z) = decide (TL.tl z = [k]) := fun k => by
    show ((⟨#[k]⟩ : Str) == z) = _
    rw [Bool.eq_iff_iff, beq_iff_eq, decide_eq_true_iff]
    exact ⟨fun h => by rw [← h], fun h => (TL.ext_tl (by rw [h])).symm⟩
  unfold inV
  rw [em, ep]
  show (eqV _ _ || (eqV _ _ || false)) = _
  rw [key, key, e]
  cases TL.tl w with
  | nil => rfl
  | cons c cs =>
    show (decide ([c] = [45]) || (decide ([c] = [43]) || false)) = decide (c = 43 ∨ c = 45)
    rw [Bool.eq_iff_iff]
    simp
    omega
theorem sg2 (w : Str) : inV (.str (cutS w none (some 1))) [.str "+", .str "-"] = sgnB w := by
  rw [← sg1 w]
  unfold inV
  show (_ || (_ || false)) = (_ || (_ || false))
  rw [Bool.or_false, Bool.or_false, Bool.or_comm]
theorem bad_at {ws : List Str} {i : Nat} {w : Str} (h : ws[i]? = some w) (hb : okW w = false) (hp : ∀ x ∈ ws.take i, okW x = true) : badW ws = some i := by
  unfold badW
  rw [List.findIdx?_eq_some_iff_getElem]
  obtain ⟨l, e⟩ := List.getElem?_eq_some_iff.mp h
  refine ⟨l, by rw [e, hb]; rfl, fun j hj => ?_⟩
  have := hp ws[j] (List.mem_iff_getElem.mpr ⟨j, by rw [List.length_take]; omega, by rw [List.getElem_take]⟩)
  rw [this]
  exact Bool.false_ne_true
theorem bad_no {ws : List Str} (hp : ∀ x ∈ ws, okW x = true) : badW ws = none := by
  unfold badW
  rw [List.findIdx?_eq_none_iff]
  intro x hx
  rw [hp x hx]
  rfl
theorem take_all {α : Type} {P : α → Prop} {l : List α} {i : Nat} {x : α} (hx : l[i]? = some x) (h : ∀ y ∈ l.take i, P y) (hP : P x) : ∀ y ∈ l.take (i + 1), P y := by
  rw [List.take_succ, hx]
  intro y hy
  rcases List.mem_append.mp hy with hy | hy
  · exact h y hy
  · rw [Option.mem_toList.mp hy |> Option.some.inj |> Eq.symm]
    exact hP
end
end G

set_option Elab.async false
set_option linter.all false
set_option maxRecDepth 100000
set_option maxHeartbeats 4000000
/-! k00: promises. -/
namespace G
open PySem PySem.Spec PyProof.Rows L2 TL
/-- the law's box of draws: cells, place, number, seed, count -/
structure BxI (H : Hp) (b c : Addr) : Prop where
  ob : ∃ p q m t : Int, H b = some (.lst [.ref c, .int p, .int q, .int m, .int t]) ∧ 0 ≤ p
  hc : ∃ ns : List Int, H c = some (.lst (ns.map V.int)) ∧ ns.length ≤ 63
theorem BxI.ne {H : Hp} {b c : Addr} (h : BxI H b c) : b ≠ c := by
  obtain ⟨p, q, m, t, h1, _⟩ := h.ob
  obtain ⟨ns, h2, _⟩ := h.hc
  rintro rfl
  rw [h1] at h2
  injection h2 with h2
  injection h2 with h2
  cases ns with
  | nil => cases h2
  | cons x ns =>
    injection h2 with h2
    cases h2
theorem BxI.kp {H H' : Hp} {b c : Addr} {S : List Addr} (a : BxI H b c) (k : Kp S H H') (h1 : b ∉ S) (h2 : c ∉ S) : BxI H' b c := by
  obtain ⟨p, q, m, t, e1, p0⟩ := a.ob
  obtain ⟨ns, e2, e3⟩ := a.hc
  exact ⟨⟨p, q, m, t, k _ _ h1 e1, p0⟩, ⟨ns, k _ _ h2 e2, e3⟩⟩
theorem BxI.k0 {H H' : Hp} {b c : Addr} (a : BxI H b c) (k : Kp [] H H') : BxI H' b c := a.kp k (by simp) (by simp)
theorem BxI.fr {H : Hp} {b c x : Addr} (a : BxI H b c) (n : H x = none) : x ≠ b ∧ x ≠ c := by
  obtain ⟨_, _, _, _, e1, _⟩ := a.ob
  obtain ⟨_, e2, _⟩ := a.hc
  exact ⟨(ne_of_none e1 n).symm, (ne_of_none e2 n).symm⟩
/-- what a reading of the text is due to tell -/
def DueA (H : Hp) (t : Str) (xs : List V) : Prop := (∃ k : Nat, badW (wordsT t) = some k ∧ xs = [.bl false, .int (k : Int)]) ∨ (badW (wordsT t) = none ∧ ∃ l, xs = [.bl true, .ref l] ∧ H l = some (.lst (((wordsT t).map valW).map V.int)))
theorem DueA.k0 {H H' : Hp} {t : Str} {xs : List V} (h : DueA H t xs) (k : Kp [] H H') : DueA H' t xs := by
  rcases h with h | ⟨h, l, e, hl⟩
  · exact .inl h
  · exact .inr ⟨h, l, e, k.at0 hl⟩
section
def sp00__law_box (K : PySem.W.Frag) : Sp := fun vs H Q E => ∃ (a : Addr) (ns : List Int), vs = [.ref a] ∧ SqL K H a (ns.map V.int) ∧ ns.length ≤ 63 ∧ ∀ b c H', H b = none → H c = none → Kp [] H H' → BxI H' b c → Q (.ref b) H'
def sp00__law_draw (K : PySem.W.Frag) : Sp := fun vs H Q E => ∃ (b c : Addr) (many : Int), vs = [.ref b, .int many] ∧ 0 < many ∧ many < 2 ^ 30 ∧ BxI H b c ∧ ∀ (d : Int) H', 0 ≤ d → d < many → Kp [b] H H' → BxI H' b c → Q (.int d) H'
def sp00__law_is (K : PySem.W.Frag) : Sp := fun vs H Q E => ∃ i : Int, vs = [.int i, .int i] ∧ Q (.bl true) H
def sp00__law_integers (K : PySem.W.Frag) : Sp := fun vs H Q E => ∃ (a b : Addr) (xs : List Int), vs = [.ref a, .ref b] ∧ xs.length ≤ 100000 ∧ H a = some (.lst (xs.map V.int)) ∧ H b = some (.lst (xs.map V.int)) ∧ Q (.bl true) H
def sp00__law_node (K : PySem.W.Frag) : Sp := fun vs H Q E => ∃ (b c : Addr), vs = [.ref b] ∧ BxI H b c ∧ ∀ (d : Int) H', 1 ≤ d → d < 1000000000 → Kp [b] H H' → BxI H' b c → Q (.int d) H'
def sp00__law_log (K : PySem.W.Frag) : Sp := fun vs H Q E => ∃ (b c : Addr), vs = [.ref b] ∧ BxI H b c ∧ ∀ (log : List Int) q H', (∀ i ∈ log, OpT i) → log.length ≤ 47 → H q = none → Kp [b] H H' → BxI H' b c → H' q = some (.lst (log.map V.int)) → Q (.ref q) H'
def sp00__law_word (K : PySem.W.Frag) : Sp := fun vs H Q E => ∃ i : Int, vs = [.int i] ∧ OpT i ∧ Q (.str (sgS i)) H
def sp00__law_sign (K : PySem.W.Frag) : Sp := fun vs H Q E => ∃ (b c : Addr), vs = [.ref b] ∧ BxI H b c ∧ ∀ (s : Str) H', s.length = 1 → Kp [b] H H' → BxI H' b c → Q (.str s) H'
def sp00__law_odd_word (K : PySem.W.Frag) : Sp := fun vs H Q E => ∃ (b c : Addr) (w : Str), vs = [.ref b, .str w] ∧ w.length ≤ 20000 ∧ BxI H b c ∧ ∀ (s : Str) H', s.length ≤ 2 * w.length + 12 → Kp [b] H H' → BxI H' b c → Q (.str s) H'
def sp00__law_spoilt (K : PySem.W.Frag) : Sp := fun vs H Q E => ∃ (b c : Addr) (t : Str), vs = [.ref b, .str t] ∧ t.length ≤ 6000 ∧ BxI H b c ∧ ∀ (s : Str) H', s.length ≤ 5 * t.length + 30 → Kp [b] H H' → BxI H' b c → Q (.str s) H'
def sp00__law_number (K : PySem.W.Frag) : Sp := fun vs H Q E => ∃ w : Str, vs = [.str w] ∧ w.length ≤ 1000000 ∧ Q (.int (numV (tl w) : Nat)) H
def sp00__law_read (K : PySem.W.Frag) : Sp := fun vs H Q E => ∃ t : Str, vs = [.str t] ∧ t.length ≤ 40000 ∧ ∀ q xs H', H q = none → Kp [] H H' → H' q = some (.tup xs) → DueA H' t xs → Q (.ref q) H'
def sp00_is_positive (K : PySem.W.Frag) : Sp := fun vs H Q E => ∃ w : Str, vs = [.str w] ∧ w.length ≤ 1000000 ∧ Any H (.bl (posL (tl w))) Q
def sp_parse_log (K : PySem.W.Frag) : Sp := fun vs H Q E => ∃ t : Str, vs = [.str t] ∧ t.length ≤ 40000 ∧ (∀ k : Nat, badW (wordsT t) = some k → ∀ H', Kp [] H H' → Ex K "BadText" [("place", .int (k : Int))] E H') ∧
  (badW (wordsT t) = none → NewL H (((wordsT t).map valW).map V.int) Q)
def sp_format_log (K : PySem.W.Frag) : Sp := fun vs H Q E => ∃ (a : Addr) (log : List Int), vs = [.ref a] ∧ H a = some (.lst (log.map V.int)) ∧ log.length ≤ 1000 ∧
  (∀ k : Nat, log[k]? = some 0 → (∀ x ∈ log.take k, x ≠ 0) → ∀ H', Kp [] H H' → Ex K "BadOperation" [("index", .int (k : Int)), ("operation", .int 0)] E H') ∧
  ((0 : Int) ∉ log → (∀ x ∈ log, OpT x) ∧ Any H (.str (logT log)) Q)
def sp00__law_parse_right (K : PySem.W.Frag) : Sp := fun vs H Q E => ∃ (t : Str) (q : Addr) (xs : List V), vs = [.str t, .ref q] ∧ t.length ≤ 40000 ∧ H q = some (.tup xs) ∧ DueA H t xs ∧ Any H (.bl true) Q
def sp00__law_format_right (K : PySem.W.Frag) : Sp := fun vs H Q E => ∃ (a : Addr) (log : List Int), vs = [.ref a, .str (logT log)] ∧ H a = some (.lst (log.map V.int)) ∧ log.length ≤ 100 ∧ (∀ i ∈ log, OpT i) ∧ Any H (.bl true) Q
def sp00__law_zero_refused (K : PySem.W.Frag) : Sp := fun vs H Q E => ∃ (a : Addr) (log : List Int) (place more : Nat), vs = [.ref a, .int (place : Int), .int (more : Int)] ∧ H a = some (.lst (log.map V.int)) ∧ log.length ≤ 100 ∧ (∀ i ∈ log, OpT i) ∧ place ≤ log.length ∧ more ≤ 1 ∧ Any H (.bl true) Q
end
end G

set_option Elab.async false
set_option linter.all false
set_option maxRecDepth 100000
set_option maxHeartbeats 4000000
/-! k03: dumps of any form. -/
namespace G
open PySem PySem.Spec PyProof.Rows L2 TL NumText
/-! ### canonical digits -/
theorem digitsVal_snoc (cs : List Nat) (d : Nat) : digitsVal (cs ++ [d]) = digitsVal cs * 10 + (d - 48) := by
  unfold digitsVal
  rw [List.foldl_append]
  rfl
theorem num_back : ∀ cs : List Nat, cs ≠ [] → cs.head? ≠ some 48 → AllDigits cs → 1 ≤ digitsVal cs ∧ numL (digitsVal cs) = cs := by
  intro cs
  induction cs using snoc_ind with
  | h0 => exact fun h => absurd rfl h
  | h1 l x ih =>
    intro _ hh ha
    have hx : 48 ≤ x ∧ x ≤ 57 := ha x (by simp)
    rw [digitsVal_snoc]
    cases l with
    | nil =>
      have h0 : x ≠ 48 := fun z => hh (by rw [z] <;> rfl)
      have e0 : digitsVal [] = 0 := rfl
      rw [e0]
      refine ⟨by omega, ?_⟩
      rw [numL_lt (by omega), show 48 + (0 * 10 + (x - 48)) = x by omega]
      rfl
    | cons c r =>
      obtain ⟨i1, i2⟩ := ih (by simp) (by simpa using hh) (fun d hd => ha d (List.mem_append_left _ hd))
      refine ⟨by omega, ?_⟩
      rw [numL_step (by omega), show (digitsVal (c :: r) * 10 + (x - 48)) / 10 = digitsVal (c :: r) by omega, i2, show 48 + (digitsVal (c :: r) * 10 + (x - 48)) % 10 = x by omega]
def okN (w : Str) : Bool := decide (tl w = [48]) || posL (tl w)
def numZ (w : Str) : Int := if tl w = [48] then 0 else if posL (tl w) = true then ((digitsVal (tl w) : Nat) : Int) else -1
theorem numZ_no {w : Str} (h : okN w = false) : numZ w = -1 := by
  unfold okN at h
  rw [Bool.or_eq_false_iff, decide_eq_false_iff_not] at h
  unfold numZ
  rw [if_neg h.1, if_neg (by rw [h.2]; exact Bool.false_ne_true)]
theorem numZ_ok {w : Str} (h : okN w = true) : 0 ≤ numZ w ∧ w = numI (numZ w) ∧ w.length ≤ 9 ∧ intText? w = some (numZ w) := by
  unfold okN at h
  rw [Bool.or_eq_true, decide_eq_true_iff] at h
  by_cases c : tl w = [48]
  · have e : numZ w = 0 := if_pos c
    have ew : w = numI 0 := ext_tl (by rw [c]; decide +kernel)
    rw [e]
    refine ⟨by omega, ew, by rw [len_tl, c]; decide, ?_⟩
    rw [ew]
    decide +kernel
  · have hp : posL (tl w) = true := by
      rcases h with h | h
      · exact absurd h c
      · exact h
    have e : numZ w = ((digitsVal (tl w) : Nat) : Int) := by
      unfold numZ
      rw [if_neg c, if_pos hp]
    obtain ⟨⟨h1, h2, h3⟩, h4⟩ := posL_iff.mp hp
    rw [e]
    refine ⟨by omega, ext_tl ?_, by rw [len_tl]; omega, posL_int hp⟩
    rw [tl_numI (by omega), Int.toNat_natCast, (num_back _ h1 h3 h4).2]
theorem numZ_lt {w : Str} (h : 0 ≤ numZ w) : okN w = true := by
  cases e : okN w with
  | true => rfl
  | false =>
    rw [numZ_no e] at h
    omega
theorem numZ_ge (w : Str) : -1 ≤ numZ w := by
  cases e : okN w with
  | true =>
    have := (numZ_ok e).1
    omega
  | false =>
    rw [numZ_no e]
    omega
/-! ### what is split is joined again -/
theorem joinL_cons {S p : List Nat} {ps : List (List Nat)} (h : ps ≠ []) : joinL S (p :: ps) = p ++ (S ++ joinL S ps) := by
  cases ps with
  | nil => exact absurd rfl h
  | cons q r => rfl
theorem spl_ne (S : List Nat) : ∀ (l acc : List Nat) (k : Nat), spl S k acc l ≠ [] := by
  intro l
  induction l with
  | nil =>
    intro acc k
    rw [spl_nil]
    simp
  | cons c r ih =>
    intro acc k
    cases k with
    | zero =>
      cases h : pre S (c :: r) with
      | true =>
        rw [spl_hit h]
        simp
      | false =>
        rw [spl_miss h]
        exact ih _ _
    | succ k => exact ih _ _
theorem join_spl {S : List Nat} (hS : S ≠ []) : ∀ (n : Nat) (l acc : List Nat), l.length ≤ n → joinL S (spl S 0 acc l) = acc ++ l := by
  intro n
  induction n with
  | zero =>
    intro l acc h
    cases l with
    | nil =>
      rw [spl_nil, List.append_nil]
      rfl
    | cons c r => simp at h
  | succ n ih =>
    intro l acc h
    cases l with
    | nil =>
      rw [spl_nil, List.append_nil]
      rfl
    | cons c r =>
      cases hp : pre S (c :: r) with
      | true =>
        have lS : 0 < S.length := List.length_pos_iff.mpr hS
        rw [spl_hit hp, joinL_cons (spl_ne _ _ _ _), spl_pass, ih _ _ (by rw [List.length_drop]; simp at h; omega), List.nil_append]
        congr 1
        have e : (c :: r).take S.length = S := eq_of_beq hp
        have e2 : r.drop (S.length - 1) = (c :: r).drop S.length := by
          obtain ⟨k, hk⟩ : ∃ k, S.length = k + 1 := ⟨S.length - 1, by omega⟩
          rw [hk]
          rfl
        rw [e2]
        conv => lhs; arg 1; rw [← e]
        exact List.take_append_drop _ _
      | false =>
        rw [spl_miss hp, ih _ _ (by simp at h; omega), List.append_assoc]
        rfl
theorem join_split' {x y : Str} (hy : tl y ≠ []) (hk : y.cps.all (· < 256) = true) : Txt.join y (Txt.split x y) = x := by
  refine ext_tl ?_
  rw [join_eq, tl_join, split_spl x y hy (kind_ok hk), join_spl hy _ _ _ (Nat.le_refl _), List.nil_append]
theorem join_words (t : Str) : Txt.join spS (Txt.split t spS) = t := join_split' (by rw [tl_spS]; simp) (by decide +kernel)
theorem join_parts (t : Str) : Txt.join barS (Txt.split t barS) = t := join_split' (by rw [tl_barS]; simp) (by decide +kernel)
theorem spl_sumG {S : List Nat} : ∀ (l acc : List Nat) (k : Nat), ((spl S k acc l).map List.length).sum ≤ acc.length + l.length ∧ (spl S k acc l).length ≤ l.length + 1 := by
  intro l
  induction l with
  | nil =>
    intro acc k
    rw [spl_nil]
    refine ⟨by simp, by simp⟩
  | cons c r ih =>
    intro acc k
    cases k with
    | zero =>
      cases h : pre S (c :: r) with
      | true =>
        rw [spl_hit h]
        obtain ⟨i1, i2⟩ := ih [] (S.length - 1)
        refine ⟨?_, ?_⟩
        · simp only [List.map_cons, List.sum_cons, List.length_cons, List.length_nil] at i1 ⊢
          omega
        · simp only [List.length_cons] at i2 ⊢
          omega
      | false =>
        rw [spl_miss h]
        obtain ⟨i1, i2⟩ := ih (acc ++ [c]) 0
        refine ⟨?_, ?_⟩
        · simp only [List.length_append, List.length_cons, List.length_nil] at i1 ⊢
          omega
        · simp only [List.length_cons] at i2 ⊢
          omega
    | succ k =>
      obtain ⟨i1, i2⟩ := ih acc k
      have e : spl S (k + 1) acc (c :: r) = spl S k acc r := rfl
      rw [e]
      simp only [List.length_cons]
      exact ⟨by omega, by omega⟩
theorem parts_sum (t : Str) : sumL (Txt.split t barS) ≤ t.length ∧ (Txt.split t barS).length ≤ t.length + 1 ∧ Txt.split t barS ≠ [] := by
  have e := split_spl t barS (by rw [tl_barS]; simp) (kind_ok (by decide +kernel))
  obtain ⟨h1, h2⟩ := spl_sumG (S := tl barS) (tl t) [] 0
  have h3 := spl_ne (tl barS) (tl t) [] 0
  rw [← e] at h1 h2 h3
  refine ⟨?_, ?_, fun z => h3 (by rw [z] <;> rfl)⟩
  · have : (List.map List.length ((Txt.split t barS).map tl)).sum = sumL (Txt.split t barS) := by
      unfold sumL
      rw [List.map_map]
      congr 1
    rw [this] at h1
    rw [len_tl]
    simpa using h1
  · rw [List.length_map] at h2
    rw [len_tl]
    exact h2
/-! ### the parts of a dump -/
def nz (t : Str) : List Int := (Txt.split t spS).map numZ
theorem nz_len (t : Str) : (nz t).length = (Txt.split t spS).length := List.length_map ..
theorem nz_ne (t : Str) : nz t ≠ [] := fun z => (split_sum t).2.2 (by
  have := nz_len t
  rw [z] at this
  exact List.length_eq_zero_iff.mp this.symm)
theorem nz_at {t : Str} {i : Nat} {w : Str} (h : (Txt.split t spS)[i]? = some w) : gI (nz t) i = numZ w := gI_of (by unfold nz; rw [List.getElem?_map, h] <;> rfl)
theorem emp_split : Txt.split ("" : Str) spS = ([""] : List Str) := by
  refine map_tl_inj ?_
  rw [split_spl _ spS (by rw [tl_spS]; simp) (kind_ok (by decide +kernel))]
  decide +kernel
theorem nz_emp : nz "" = [-1] := by
  unfold nz
  rw [emp_split]
  have : numZ "" = -1 := numZ_no (by decide +kernel)
  rw [List.map_cons, this]
  rfl
def okR (R : List Int) : Prop := R.length ≤ 61 ∧ ∀ v, v < R.length → (v : Int) < gI R v ∧ gI R v ≤ R.length
def okL (L : List Int) (n : Nat) : Prop := L.length = n + 1 ∧ ∀ v, v ≤ n → 0 ≤ gI L v ∧ gI L v ≤ v
def okO (O : List Int) (n : Nat) : Prop := ∀ i, i < O.length → gI (0 :: O) i < gI O i ∧ gI O i ≤ n
def prt (t : Str) (i : Nat) : Str := (Txt.split t barS ++ (["", ""] : List Str)).getD i ""
def szT (t : Str) : Nat := (nz (prt t 0)).length - 1
def osT (t : Str) : List Int := if prt t 2 = noneS then [] else nz (prt t 2)
open Classical in
noncomputable def badP (t : Str) : Int :=
  if ¬ okR (nz (prt t 0)) then 0 else if ¬ okL (nz (prt t 1)) (szT t) then 1 else if ¬ okO (osT t) (szT t) then 2 else if 3 < (Txt.split t barS).length then 3 else -1
def bitsO (n : Nat) (O : List Int) : List Bool := (List.range (n + 2)).map fun (v : Nat) => decide ((v : Int) ∈ O)
def sdT (t : Str) : Sd := ⟨szT t, nz (prt t 0), 0 :: nz (prt t 1), bitsO (szT t) (osT t)⟩
theorem bits_len (n : Nat) (O : List Int) : (bitsO n O).length = n + 2 := by
  unfold bitsO
  rw [List.length_map, List.length_range]
theorem bits_at {n v : Nat} (O : List Int) (h : v < n + 2) : gB (bitsO n O) v = decide ((v : Int) ∈ O) := gB_of (by
  unfold bitsO
  rw [List.getElem?_map, List.getElem?_range h] <;> rfl)
theorem okO_lt {O : List Int} {n : Nat} (h : okO O n) : ∀ i, i < O.length → 1 ≤ gI O i ∧ gI O i ≤ n := by
  intro i
  induction i with
  | zero =>
    intro hi
    have := h 0 hi
    have e : gI (0 :: O) 0 = 0 := rfl
    rw [e] at this
    omega
  | succ i ih =>
    intro hi
    have := h (i + 1) hi
    have e : gI (0 :: O) (i + 1) = gI O i := rfl
    rw [e] at this
    have := ih (by omega)
    omega
theorem okO_mem {O : List Int} {n : Nat} (h : okO O n) {x : Int} (hx : x ∈ O) : 1 ≤ x ∧ x ≤ n := by
  obtain ⟨i, hi, rfl⟩ := List.mem_iff_getElem.mp hx
  have := okO_lt h i hi
  rwa [gI_of (List.getElem?_eq_getElem hi)] at this
theorem okO_pair {O : List Int} {n : Nat} (h : okO O n) : O.Pairwise (· < ·) := by
  rw [List.pairwise_iff_getElem]
  intro i j hi hj hij
  have key : ∀ k, i + 1 + k < O.length → gI O i < gI O (i + 1 + k) := by
    intro k
    induction k with
    | zero => exact fun hk => (h (i + 1) hk).1
    | succ k ih =>
      intro hk
      have := (h (i + 1 + (k + 1)) hk).1
      have e : gI (0 :: O) (i + 1 + (k + 1)) = gI O (i + 1 + k) := rfl
      rw [e] at this
      have := ih (by omega)
      omega
  have := key (j - (i + 1)) (by omega)
  rw [show i + 1 + (j - (i + 1)) = j by omega, gI_of (List.getElem?_eq_getElem hi), gI_of (List.getElem?_eq_getElem hj)] at this
  exact this
theorem filter_range_eq {n : Nat} : ∀ {O : List Int}, O.Pairwise (· < ·) → (∀ x ∈ O, 1 ≤ x ∧ x ≤ n) → (((List.range n).map fun (v : Nat) => v + 1).filter fun (v : Nat) => decide ((v : Int) ∈ O)).map (fun (v : Nat) => (v : Int)) = O := by
  intro O hp hb
  have s1 : ((((List.range n).map fun (v : Nat) => v + 1).filter fun (v : Nat) => decide ((v : Int) ∈ O)).map (fun (v : Nat) => (v : Int))).Pairwise (· < ·) := by
    rw [List.pairwise_map]
    refine List.Pairwise.imp (fun {a b} (h : a < b) => by omega) (List.Pairwise.filter _ ?_)
    rw [List.pairwise_map]
    exact List.Pairwise.imp (fun {a b} (h : a < b) => by omega) List.pairwise_lt_range
  have m : ∀ x : Int, x ∈ ((((List.range n).map fun (v : Nat) => v + 1).filter fun (v : Nat) => decide ((v : Int) ∈ O)).map (fun (v : Nat) => (v : Int))) ↔ x ∈ O := by
    intro x
    rw [List.mem_map]
    constructor
    · rintro ⟨v, hv, rfl⟩
      exact of_decide_eq_true (List.mem_filter.mp hv).2
    · intro hx
      have := hb x hx
      refine ⟨x.toNat, List.mem_filter.mpr ⟨List.mem_map.mpr ⟨x.toNat - 1, List.mem_range.mpr (by omega), by omega⟩, decide_eq_true ?_⟩, by omega⟩
      rw [Int.toNat_of_nonneg (by omega)]
      exact hx
  have nd : ∀ {l : List Int}, l.Pairwise (· < ·) → l.Nodup := fun h => List.Pairwise.imp (fun h => by omega) h
  have perm := (List.perm_ext_iff_of_nodup (nd s1) (nd hp)).mpr m
  exact perm.eq_of_pairwise (fun a b _ _ h1 h2 => by omega) s1 hp
theorem outs_bits {n : Nat} {O : List Int} (h : okO O n) : outN n (bitsO n O) = O := by
  unfold outN
  have e : (((List.range n).map fun (v : Nat) => v + 1).filter fun v => gB (bitsO n O) v) = (((List.range n).map fun (v : Nat) => v + 1).filter fun (v : Nat) => decide ((v : Int) ∈ O)) := by
    refine List.filter_congr fun v hv => ?_
    obtain ⟨u, hu, rfl⟩ := List.mem_map.mp hv
    have := List.mem_range.mp hu
    exact bits_at O (by omega)
  rw [e]
  exact filter_range_eq (okO_pair h) fun x hx => okO_mem h hx
/-- a right text -/
structure RightT (t : Str) : Prop where
  r : okR (nz (prt t 0))
  l : okL (nz (prt t 1)) (szT t)
  o : okO (osT t) (szT t)
theorem RightT.wf {t : Str} (h : RightT t) : Wf (sdT t) := by
  have hn := List.length_pos_iff.mpr (nz_ne (prt t 0))
  have e : (nz (prt t 0)).length = szT t + 1 := by
    unfold szT
    omega
  refine ⟨?_, e, by show (nz (prt t 1)).length + 1 = _; rw [h.l.1] <;> rfl, bits_len _ _, fun v hv => ?_, fun v h1 h2 => ?_⟩
  · have := h.r.1
    show szT t ≤ 60
    omega
  · have := h.r.2 v (by rw [e]; exact Nat.lt_succ_of_le hv)
    rw [e] at this
    exact this
  · obtain ⟨u, rfl⟩ : ∃ u, v = u + 1 := ⟨v - 1, by omega⟩
    have := h.l.2 u (by show u ≤ szT t; have : u + 1 ≤ szT t + 1 := h2; omega)
    show 0 ≤ gI (nz (prt t 1)) u ∧ gI (nz (prt t 1)) u < _
    omega
theorem RightT.snd {t : Str} (h : RightT t) : Snd (sdT t) := by
  refine ⟨⟨_, rfl⟩, ?_, ?_⟩
  · show gB (bitsO (szT t) (osT t)) 0 = false
    rw [bits_at _ (by omega)]
    exact decide_eq_false fun z => by have := okO_mem h.o z; omega
  · show gB (bitsO (szT t) (osT t)) (szT t + 1) = false
    rw [bits_at _ (by omega)]
    exact decide_eq_false fun z => by have := okO_mem h.o z; omega
theorem okR_num {t : Str} (h : okR (nz t)) : ∀ w ∈ Txt.split t spS, okN w = true := by
  intro w hw
  obtain ⟨i, hi, rfl⟩ := List.mem_iff_getElem.mp hw
  have := h.2 i (by rw [nz_len]; exact hi)
  rw [nz_at (List.getElem?_eq_getElem hi)] at this
  exact numZ_lt (by omega)
theorem okL_num {t : Str} {n : Nat} (h : okL (nz t) n) : ∀ w ∈ Txt.split t spS, okN w = true := by
  intro w hw
  obtain ⟨i, hi, rfl⟩ := List.mem_iff_getElem.mp hw
  have := h.2 i (by have := h.1; rw [nz_len] at this; omega)
  rw [nz_at (List.getElem?_eq_getElem hi)] at this
  exact numZ_lt (by omega)
theorem okO_num {t : Str} {n : Nat} (h : okO (nz t) n) : ∀ w ∈ Txt.split t spS, okN w = true := by
  intro w hw
  obtain ⟨i, hi, rfl⟩ := List.mem_iff_getElem.mp hw
  have := okO_lt h i (by rw [nz_len]; exact hi)
  rw [nz_at (List.getElem?_eq_getElem hi)] at this
  exact numZ_lt (by omega)
theorem joinI_nz {t : Str} (h : ∀ w ∈ Txt.split t spS, okN w = true) : joinI (nz t) = t := by
  unfold joinI nz
  rw [List.map_map]
  conv => rhs; rw [← join_words t]
  congr 1
  conv => rhs; rw [← List.map_id (Txt.split t spS)]
  exact List.map_congr_left fun w hw => (numZ_ok (h w hw)).2.1.symm
theorem prt_len {t : Str} (h : RightT t) : 3 ≤ (Txt.split t barS).length := by
  apply Classical.byContradiction
  intro z
  have ne := List.length_pos_iff.mpr (parts_sum t).2.2
  generalize eP : Txt.split t barS = P at z ne
  match P, z, ne with
  | [a], _, _ =>
    have e : prt t 1 = "" := by
      unfold prt
      rw [eP]
      rfl
    have := h.l
    rw [e, nz_emp] at this
    have := this.2 0 (by omega)
    have e1 : gI [-1] 0 = -1 := rfl
    rw [e1] at this
    omega
  | [a, b], _, _ =>
    have e : prt t 2 = "" := by
      unfold prt
      rw [eP]
      rfl
    have h2 := h.o
    have e2 : osT t = [-1] := by
      unfold osT
      rw [e, if_neg (by decide +kernel), nz_emp]
    rw [e2] at h2
    have := (h2 0 (by decide)).1
    have e1 : gI [-1] 0 = -1 := rfl
    have e3 : gI [0, -1] 0 = 0 := rfl
    rw [e1, e3] at this
    omega
  | _ :: _ :: _ :: r, z, _ => simp at z
theorem dump_back {t : Str} (h : RightT t) (hl : ¬ 3 < (Txt.split t barS).length) : dumpS (sdT t) = t := by
  have l3 := prt_len h
  conv => rhs; rw [← join_parts t]
  unfold dumpS
  show Txt.join barS [joinI (nz (prt t 0)), joinI (nz (prt t 1)), outsT (outN (szT t) (bitsO (szT t) (osT t)))] = _
  rw [outs_bits h.o, joinI_nz (okR_num h.r), joinI_nz (okL_num h.l)]
  have eo : outsT (osT t) = prt t 2 := by
    have ho := h.o
    unfold osT at ho ⊢
    by_cases c : prt t 2 = noneS
    · rw [if_pos c, c]
      rfl
    · rw [if_neg c] at ho ⊢
      unfold outsT
      rw [if_neg (nz_ne _), joinI_nz (okO_num ho)]
  rw [eo]
  unfold prt
  generalize Txt.split t barS = P at l3 hl
  match P, l3, hl with
  | [a, b, c], _, _ => rfl
  | _ :: _ :: _ :: _ :: r, _, hl => simp at hl
theorem badP_0 {t : Str} (h : ¬ okR (nz (prt t 0))) : badP t = 0 := if_pos h
theorem badP_1 {t : Str} (h0 : okR (nz (prt t 0))) (h : ¬ okL (nz (prt t 1)) (szT t)) : badP t = 1 := by
  unfold badP
  rw [if_neg (fun z => z h0), if_pos h]
theorem badP_2 {t : Str} (h0 : okR (nz (prt t 0))) (h1 : okL (nz (prt t 1)) (szT t)) (h : ¬ okO (osT t) (szT t)) : badP t = 2 := by
  unfold badP
  rw [if_neg (fun z => z h0), if_neg (fun z => z h1), if_pos h]
theorem badP_3 {t : Str} (h : RightT t) (hl : 3 < (Txt.split t barS).length) : badP t = 3 := by
  unfold badP
  rw [if_neg (fun z => z h.r), if_neg (fun z => z h.l), if_neg (fun z => z h.o), if_pos hl]
theorem badP_no {t : Str} (h : RightT t) (hl : ¬ 3 < (Txt.split t barS).length) : badP t = -1 := by
  unfold badP
  rw [if_neg (fun z => z h.r), if_neg (fun z => z h.l), if_neg (fun z => z h.o), if_neg hl]
theorem badP_right {t : Str} (h : badP t = -1) : RightT t ∧ ¬ 3 < (Txt.split t barS).length := by
  by_cases h0 : okR (nz (prt t 0))
  · by_cases h1 : okL (nz (prt t 1)) (szT t)
    · by_cases h2 : okO (osT t) (szT t)
      · by_cases hl : 3 < (Txt.split t barS).length
        · rw [badP_3 ⟨h0, h1, h2⟩ hl] at h
          omega
        · exact ⟨⟨h0, h1, h2⟩, hl⟩
      · rw [badP_2 h0 h1 h2] at h
        omega
    · rw [badP_1 h0 h1] at h
      omega
  · rw [badP_0 h0] at h
    omega
end G

set_option Elab.async false
set_option linter.all false
set_option maxRecDepth 100000
set_option maxHeartbeats 4000000
/-! k03: promises. -/
namespace G
open PySem PySem.Spec PyProof.Rows L2 TL
/-- the law's lists of links -/
structure WdZ (H : Hp) (r l o : Addr) (n : Nat) (R L : List Int) (O : List Bool) : Prop where
  hr : H r = some (.lst (R.map V.int))
  hl : H l = some (.lst (L.map V.int))
  ho : H o = some (.lst (O.map V.bl))
  ne : r ≠ l ∧ r ≠ o ∧ l ≠ o
  lR : R.length = n + 1
  lL : L.length = n + 2
  lO : O.length = n + 2
  rb : ∀ v : Nat, v ≤ n → (v : Int) < gI R v ∧ gI R v ≤ (n : Int) + 1
  lb : ∀ v : Nat, 1 ≤ v → v ≤ n + 1 → 0 ≤ gI L v ∧ gI L v < (v : Int)
  o0 : gB O 0 = false
  o1 : gB O (n + 1) = false
theorem WdZ.kp {H H' : Hp} {r l o : Addr} {n : Nat} {R L : List Int} {O : List Bool} {S : List Addr} (a : WdZ H r l o n R L O) (k : Kp S H H') (h1 : r ∉ S) (h2 : l ∉ S) (h3 : o ∉ S) : WdZ H' r l o n R L O :=
  ⟨k _ _ h1 a.hr, k _ _ h2 a.hl, k _ _ h3 a.ho, a.ne, a.lR, a.lL, a.lO, a.rb, a.lb, a.o0, a.o1⟩
theorem WdZ.k0 {H H' : Hp} {r l o : Addr} {n : Nat} {R L : List Int} {O : List Bool} (a : WdZ H r l o n R L O) (k : Kp [] H H') : WdZ H' r l o n R L O := a.kp k (by simp) (by simp) (by simp)
theorem WdZ.setR {H H' : Hp} {r l o : Addr} {n v : Nat} {x : Int} {R L : List Int} {O : List Bool} (a : WdZ H r l o n R L O) (hv : v ≤ n) (h1 : (v : Int) < x) (h2 : x ≤ (n : Int) + 1) (k : Kp [r] H H') (h : H' r = some (.lst ((R.map V.int).set v (.int x)))) : WdZ H' r l o n (R.set v x) L O := by
  refine ⟨by rw [h, set_I], k.at1 (Ne.symm a.ne.1) a.hl, k.at1 (Ne.symm a.ne.2.1) a.ho, a.ne, by rw [List.length_set, a.lR], a.lL, a.lO, fun u hu => ?_, a.lb, a.o0, a.o1⟩
  rw [gI_set (by rw [a.lR]; omega)]
  by_cases c : u = v
  · rw [if_pos c]
    omega
  · rw [if_neg c]
    exact a.rb u hu
theorem WdZ.setL {H H' : Hp} {r l o : Addr} {n v : Nat} {x : Int} {R L : List Int} {O : List Bool} (a : WdZ H r l o n R L O) (hv1 : 1 ≤ v) (hv : v ≤ n + 1) (h1 : 0 ≤ x) (h2 : x < (v : Int)) (k : Kp [l] H H') (h : H' l = some (.lst ((L.map V.int).set v (.int x)))) : WdZ H' r l o n R (L.set v x) O := by
  refine ⟨k.at1 a.ne.1 a.hr, by rw [h, set_I], k.at1 (Ne.symm a.ne.2.2) a.ho, a.ne, a.lR, by rw [List.length_set, a.lL], a.lO, a.rb, fun u hu1 hu => ?_, a.o0, a.o1⟩
  rw [gI_set (by rw [a.lL]; omega)]
  by_cases c : u = v
  · rw [if_pos c]
    omega
  · rw [if_neg c]
    exact a.lb u hu1 hu
theorem WdZ.setO {H H' : Hp} {r l o : Addr} {n v : Nat} {x : Bool} {R L : List Int} {O : List Bool} (a : WdZ H r l o n R L O) (hv1 : 1 ≤ v) (hv : v ≤ n) (k : Kp [o] H H') (h : H' o = some (.lst ((O.map V.bl).set v (.bl x)))) : WdZ H' r l o n R L (O.set v x) := by
  refine ⟨k.at1 a.ne.2.1 a.hr, k.at1 a.ne.2.2 a.hl, by rw [h, set_B], a.ne, a.lR, a.lL, by rw [List.length_set, a.lO], a.rb, a.lb, ?_, ?_⟩
  · rw [gB_set (by rw [a.lO]; omega), if_neg (by omega)]
    exact a.o0
  · rw [gB_set (by rw [a.lO]; omega), if_neg (by omega)]
    exact a.o1
def dumpW (n : Nat) (R L : List Int) (O : List Bool) : Str := Txt.join barS [joinI R, joinI (L.drop 1), outsT (outN n O)]
section
def sp03__law_world (K : PySem.W.Frag) : Sp := fun vs H Q E => ∃ (b c : Addr) (n : Nat), vs = [.ref b, .int (n : Int)] ∧ n ≤ 62 ∧ BxI H b c ∧ ∀ (R L : List Int) (O : List Bool) w r l o H', H w = none → H r = none → H l = none → H o = none → Kp [b] H H' → BxI H' b c → H' w = some (.lst [.ref r, .ref l, .ref o]) → WdZ H' r l o n R L O → Q (.ref w) H'
def sp03__law_bend (K : PySem.W.Frag) : Sp := fun vs H Q E => ∃ (b c r l o : Addr) (n : Nat) (R L : List Int) (O : List Bool), vs = [.ref b, .int (n : Int), .ref r, .ref l] ∧ n ≤ 62 ∧ BxI H b c ∧ WdZ H r l o n R L O ∧ (b ≠ r ∧ b ≠ l ∧ b ≠ o ∧ c ≠ r ∧ c ≠ l) ∧ ∀ (R' L' : List Int) H', Kp [b, r, l] H H' → BxI H' b c → WdZ H' r l o n R' L' O → Q .non H'
def sp03__law_dump (K : PySem.W.Frag) : Sp := fun vs H Q E => ∃ (r l o : Addr) (n : Nat) (R L : List Int) (O : List Bool), vs = [.int (n : Int), .ref r, .ref l, .ref o] ∧ n ≤ 62 ∧ WdZ H r l o n R L O ∧ Any H (.str (dumpW n R L O)) Q
def sp03__law_dump_size (K : PySem.W.Frag) : Sp := fun vs H Q E => ∃ (b c : Addr), vs = [.ref b] ∧ BxI H b c ∧ ∀ (n : Nat) H', n ≤ 62 → Kp [b] H H' → BxI H' b c → Q (.int (n : Int)) H'
def sp03__law_any_word (K : PySem.W.Frag) : Sp := fun vs H Q E => ∃ (b c : Addr) (n p : Nat), vs = [.ref b, .int (n : Int), .int (p : Int)] ∧ n ≤ 100 ∧ p ≤ 1000000 ∧ BxI H b c ∧ ∀ (s : Str) H', s.length ≤ 12 → Kp [b] H H' → BxI H' b c → Q (.str s) H'
def sp03__law_bent_words (K : PySem.W.Frag) : Sp := fun vs H Q E => ∃ (b c a : Addr) (n : Nat) (W : List Str), vs = [.ref b, .int (n : Int), .ref a] ∧ n ≤ 100 ∧ H a = some (.lst (W.map V.str)) ∧ W ≠ [] ∧ W.length ≤ 100000 ∧ sumL W ≤ 100000 ∧ BxI H b c ∧
  ∀ (X : List Str) q H', sumL X ≤ 3 * sumL W + 24 → X.length ≤ W.length + 1 → H q = none → Kp [b] H H' → BxI H' b c → H' q = some (.lst (X.map V.str)) → Q (.ref q) H'
def sp03__law_sign (K : PySem.W.Frag) : Sp := fun vs H Q E => ∃ (b c : Addr), vs = [.ref b] ∧ BxI H b c ∧ ∀ (s : Str) H', s.length = 1 → Kp [b] H H' → BxI H' b c → Q (.str s) H'
def sp03__law_bent_text (K : PySem.W.Frag) : Sp := fun vs H Q E => ∃ (b c a : Addr) (x y z : Str), vs = [.ref b, .ref a] ∧ H a = some (.lst [.str x, .str y, .str z]) ∧ x.length ≤ 30000 ∧ y.length ≤ 30000 ∧ z.length ≤ 30000 ∧ BxI H b c ∧ a ≠ b ∧
  ∀ (s : Str) H', s.length ≤ 200000 → Kp [b] H H' → BxI H' b c → Q (.str s) H'
def sp03__law_number (K : PySem.W.Frag) : Sp := fun vs H Q E => ∃ w : Str, vs = [.str w] ∧ w.length ≤ 1000000 ∧ Q (.int (numZ w)) H
def sp03__law_bad_part (K : PySem.W.Frag) : Sp := fun vs H Q E => ∃ t : Str, vs = [.str t] ∧ t.length ≤ 300000 ∧ Any H (.int (badP t)) Q
def sp03__law_standing_right (K : PySem.W.Frag) : Sp := fun vs H Q E => ∃ (p r l o : Addr) (t : Str), vs = [.ref p, .str t] ∧ t.length ≤ 300000 ∧ LinksAt K H p r l o (sdT t) ∧ RightT t ∧ ¬ 3 < (Txt.split t barS).length ∧ Any H (.bl true) Q
def sp03__law_read_right (K : PySem.W.Frag) : Sp := fun vs H Q E => ∃ t : Str, vs = [.str t] ∧ t.length ≤ 300000 ∧ Any H (.bl true) Q
def BadD (K : PySem.W.Frag) (k : Int) (E : XK) (H : Hp) : Prop := ∀ H', Kp [] H H' → Ex K "BadDump" [("part", .int k)] E H'
def sp03__read_numbers (K : PySem.W.Frag) : Sp := fun vs H Q E => ∃ (t : Str) (k : Int), vs = [.str t, .int k] ∧ t.length ≤ 300000 ∧ ((∃ w ∈ Txt.split t spS, okN w = false) → BadD K k E H) ∧ ((∀ w ∈ Txt.split t spS, okN w = true) → NewL H ((nz t).map V.int) Q)
def sp03__read_rights (K : PySem.W.Frag) : Sp := fun vs H Q E => ∃ (t : Str), vs = [.str t] ∧ t.length ≤ 300000 ∧ (¬ okR (nz t) → BadD K 0 E H) ∧ (okR (nz t) → NewL H ((nz t).map V.int) Q)
def sp03__read_lefts (K : PySem.W.Frag) : Sp := fun vs H Q E => ∃ (t : Str) (n : Nat), vs = [.str t, .int (n : Int)] ∧ t.length ≤ 300000 ∧ n ≤ 60 ∧ (¬ okL (nz t) n → BadD K 1 E H) ∧ (okL (nz t) n → NewL H ((nz t).map V.int) Q)
def sp03__read_outs (K : PySem.W.Frag) : Sp := fun vs H Q E => ∃ (t : Str) (n : Nat), vs = [.str t, .int (n : Int)] ∧ t.length ≤ 300000 ∧ n ≤ 60 ∧ (¬ okO (if t = noneS then [] else nz t) n → BadD K 2 E H) ∧ (okO (if t = noneS then [] else nz t) n → NewL H ((if t = noneS then [] else nz t).map V.int) Q)
def sp03_Links_read (K : PySem.W.Frag) : Sp := fun vs H Q E => ∃ t : Str, vs = [.str t] ∧ t.length ≤ 300000 ∧ (badP t ≠ -1 → BadD K (badP t) E H) ∧ (badP t = -1 → NewS K H (sdT t) Q)
def sp03_Links_is_out (K : PySem.W.Frag) : Sp := fun vs H Q E => ∃ (p r l o : Addr) (s : Sd) (v : Nat), vs = [.ref p, .int (v : Int)] ∧ LinksAt K H p r l o s ∧ v ≤ s.n + 1 ∧ Q (.bl (gB s.O v)) H
end
end G

set_option Elab.async false
set_option linter.all false
set_option maxRecDepth 100000
set_option maxHeartbeats 4000000
/-! Two clauses under one name. -/
namespace G
open PySem PySem.Spec PyProof.Rows L2
/-- an except clause of the text with the name y: the class it names, what its suite does -/
structure Cls1 (Y : Cx) (y : Str) (hd : ExceptHandler) (kl : Value) (su : Addr → Value → Option Addr → TS) : Prop where
  ex : ∃ (nm : Str) (p1 p2 : Pos) (st : Stmt) (sts : List Stmt), hd = .ExceptHandler (some (.Name nm p1)) (some y) (st :: sts) p2 ∧ Names Y nm kl ∧
    ∀ (e : Addr) (ob : Obj) (kc : Value) (dd : Option Addr) (pp : List (Addr × Obj)), L2N.Zn kc dd ob → (∃ fs, ob.data = .fields fs) → PSs (Y.suite e ((e, ob) :: pp)) (st :: sts) (su e kc dd)
/-- what stands of an error that has come down to its try -/
structure Down (Y : Cx) (pp : List (Addr × Obj)) (τ : L2.St) (G0 : Hp) (e : Addr) (kc : Value) (dd : Option Addr) (B : Heap) (u0 : Shared) (u : Shared) (g : Heap) : Prop where
  inv : Inv Y pp τ G0 u0
  keep : ∀ b o, u0.heap.get? b = some o → b ∉ frs Y.stack → B.get? b = some o
  slots : u0.heap.UpToSlots g
  fly : PySem.HandSPX.FlyingZ B (Y.env :: Y.outer) e (L2N.Zn kc dd) g
  nw : G0 e = none
  os : u.os = u0.os
  bare : AllBare u.gens
  nl : e ≠ Y.env.locals
  nf : e ∉ Y.fs
section
variable {Y : Cx} {y : Str} {k : Nat} {pp : List (Addr × Obj)} {τ : L2.St} {G0 : Hp} {e : Addr} {kc : Value} {dd : Option Addr} {B : Heap} {u0 u : Shared} {g : Heap} {D : Ends} {Wo : WX}
/-- what the clauses from here on do with it -/
def After (Y : Cx) (pp : List (Addr × Obj)) (D : Ends) (e : Addr) (hds : List ExceptHandler) (u : Shared) (g : Heap) : Prop :=
  wpAny (model Y.prog Y.w) Y.A (handleBy (.ref e) Y.env hds) (SP Y pp D) Y.xe { u with heap := g }
theorem Down.held (d0 : Down Y pp τ G0 e kc dd B u0 u g) : Inv Y pp τ G0 { u with heap := g } := Inv.landed d0.inv d0.keep d0.fly.1 d0.slots d0.os d0.bare
/-- no clause takes it: it goes on -/
theorem after_none (sk : Y.stack = Y.env :: Y.outer) (fr : Y.env.frame = some Y.env.locals) (tk : L2N.Takes Y Wo) (d0 : Down Y pp τ G0 e kc dd B u0 u g) (w : Wo kc dd τ G0) : After Y pp D e [] u g := by
  refine wpAny_handleBy_nil ?_
  obtain ⟨-, -, -, ob, fs, T, -, -, hob, -, hfs, h1, -⟩ := id d0.fly
  unfold PySem.passOn
  refine wpAny_bind (wpAny_field hob hfs h1 ?_)
  rw [if_neg (by simp : ¬ ((Value.ref T == Value.none) = true))]
  have out : wpAny (model Y.prog Y.w) Y.A (setFlight (.ref e) Y.env.frame) (fun _ v => wpAny (model Y.prog Y.w) Y.A (throw (.ref e) : Sem Flow) (SP Y pp D) Y.xe v) Y.xe { u with heap := g } := by
    rw [fr]
    exact HandSPX.setFlight_upZ d0.fly fun g2 hh2 up2 => wpAny_throw (tk _ _ ⟨e, B, u0, pp, τ, G0, kc, dd, rfl, d0.inv, d0.keep, d0.slots.trans up2, .inr (.inr (sk ▸ hh2)), d0.nw, d0.os, d0.bare, w⟩)
  first
    | exact wpAny_bind (wpAny_pure (wpAny_bind out))
    | exact wpAny_bind out
/-- one clause, the others behind it -/
theorem after_one {hd : ExceptHandler} {hds : List ExceptHandler} {kl : Value} {su : Addr → Value → Option Addr → TS} (nd : Y.N.Nodup) (at_ : Y.N[k]? = some y) (lo : Y.env.kindOf y = some .local) (c : Cls1 Y y hd kl su)
    (rest : ∀ g2, Down Y pp τ G0 e kc dd B u0 u g2 → Wo kc dd τ G0 → After Y pp D e hds u g2) (d0 : Down Y pp τ G0 e kc dd B u0 u g) (w : wAs Y.K kl k su Wo D kc dd τ G0) : After Y pp D e (hd :: hds) u g := by
  obtain ⟨nm, p1, p2, st, sts, rfl, hn, hs⟩ := c.ex
  obtain ⟨hit, m1, yes, no⟩ := w
  obtain ⟨ob, fs, hob, hz, hfs⟩ := d0.fly.there
  have J := d0.held
  have here : Inv (Y.suite e ((e, ob) :: (Y.pn ++ pp))) [] τ G0 { u with heap := g } := J.suite hob hfs d0.nw d0.nl d0.nf
  have told := PySem.W.exm_one (M := model Y.prog Y.w) J.kIn (fun A Q E s keep q => wpAny_typeOf_ref (keep _ _ hob) (by rw [hz.1]; exact q) : PySem.W.Looks (model Y.prog Y.w) g (typeOf (.ref e)) kc) m1
  have name_ : ∀ {Q : Value → Shared → Prop} {E : Value → Shared → Prop}, Q kl { u with heap := g } → wpAny (model Y.prog Y.w) (Y.A.mark (some (.ref e))) (eval (.Name nm p1) Y.env) Q E { u with heap := g } := fun {Q E} q => by
    rcases hn with ⟨hg, hb, m | ⟨m, v, nn⟩⟩
    · exact ld_glob (X := Y.suite e ((e, ob) :: (Y.pn ++ pp))) here hg m q hb
    · exact ld_blt (X := Y.suite e ((e, ob) :: (Y.pn ++ pp))) here hg m v q nn hb
  refine wpAny_handleBy_cons (codeAny_handlers_test (name_ (told.here ?_))) (by rintro ⟨⟩)
  cases hit with
  | false => exact rest g d0 (no rfl)
  | true =>
    refine codeAny_handlers_suite_as (HandSPX.lands_againZ d0.fly fun g2 f2 up2 => ?_)
    have d2 : Down Y pp τ G0 e kc dd B u0 u g2 := { d0 with slots := d0.slots.trans up2, fly := f2 }
    obtain ⟨ob2, fs2, hob2, hz2, hfs2⟩ := f2.there
    have here2 := d2.held.suite hob2 hfs2 d0.nw d0.nl d0.nf
    refine store_ok (X := Y.suite e ((e, ob2) :: (Y.pn ++ pp))) (v := .ref e) here2 nd at_ (.inl lo) rfl (fun u5 I5 => ?_) (.inr lo)
    have bye : ∀ {τ6 : L2.St} {G6 : Hp} {u6 : Shared} {R : Shared → Prop}, Inv (Y.suite e ((e, ob2) :: (Y.pn ++ pp))) [] τ6 G6 u6 → (∀ u7, Inv Y pp (τ6.set k none) G6 u7 → R u7) →
        wpAny (model Y.prog Y.w) Y.A (do bindName Y.env y .none; unbindBehindTheSuite Y.env y p2) (fun _ u7 => R u7) Y.xe u6 := fun i6 q => gone_ok (i6.unsuite J.ok) nd at_ lo q
    refine wpAny_mono ((hs e ob2 kc dd (Y.pn ++ pp) hz2 ⟨_, hfs2⟩).run [] u5 _ G0 _ I5 (yes rfl e d0.nw)) (fun fl u6 sp => ?_) (fun _ _ z => z.elim)
    rcases fl with _ | _ | _ | v
    · obtain ⟨τ6, G6, i6, q6⟩ := sp
      exact bye i6 fun u7 j7 => ⟨_, _, j7, q6⟩
    · obtain ⟨τ6, G6, i6, q6⟩ := sp
      exact bye i6 fun u7 j7 => ⟨_, _, j7, q6⟩
    · obtain ⟨τ6, G6, i6, q6⟩ := sp
      exact bye i6 fun u7 j7 => ⟨_, _, j7, q6⟩
    · obtain ⟨v6, τ6, G6, i6, r6, q6⟩ := sp
      exact bye i6 fun u7 j7 => ⟨_, _, _, j7, r6, q6⟩
/-- a try with two clauses under one name -/
theorem ps_try2 {body : List Stmt} {h1 h2 : ExceptHandler} {pos : Pos} {tb : WX → TS} {c1 c2 : Value} {s1 s2 : Addr → Value → Option Addr → TS} (sk : Y.stack = Y.env :: Y.outer) (fr : Y.env.frame = some Y.env.locals) (nd : Y.N.Nodup) (at_ : Y.N[k]? = some y)
    (lo : Y.env.kindOf y = some .local) (tk : L2N.Takes Y Wo) (hb : ∀ (W : WX) (pn : List (Addr × Obj)) (xe : Value → Shared → Prop), L2N.Takes (Y.tr pn xe) W → PassesOwn (model Y.prog Y.w) Y.A Y.env xe → PSs (Y.tr pn xe) body (tb W))
    (k1 : Cls1 Y y h1 c1 s1) (k2 : Cls1 Y y h2 c2 s2) : PS Y (.Try body [h1, h2] [] [] pos) (fun D σ H => tb (wAs Y.K c1 k s1 (wAs Y.K c2 k s2 Wo D) D) D σ H) := by
  refine ⟨fun pp u τ G0 D I q => ?_⟩
  have ok := I.ok
  refine wpAny_Try_except (wpAny_mono ((hb (wAs Y.K c1 k s1 (wAs Y.K c2 k s2 Wo D) D) (Y.pn ++ pp) (fun v v1 => wpAny (model Y.prog Y.w) Y.A (noteFrame v Y.env) (fun _ v2 => wpAny (model Y.prog Y.w) Y.A (setFlight v none) (fun _ v3 =>
    wpAny (model Y.prog Y.w) Y.A (handleBy v Y.env [h1, h2]) (SP Y pp D) Y.xe v3) Y.xe v2) Y.xe v1) (fun v u' air => ?_) PassesOwn.looking).run [] u τ G0 D (I.toTry _) q) (fun fl v1 sp => ?_) fun _ _ z => z)
  · obtain ⟨e, B, u0, pp', τ1, G1, kc, dd, rfl, J', keep, up, sky, na, os, ag, w⟩ := air
    have J : Inv Y pp τ1 G1 u0 := J'.ofTry ok
    refine L2N.Sky.land L2N.Zn.steady (by rw [ok.frames, sk]) fr (sk ▸ sky) fun g f1 up1 => ?_
    obtain ⟨ob, fs, hob, -, hfs⟩ := f1.there
    have off : e ∉ frs (Y.env :: Y.outer) := fun hm => by
      obtain ⟨-, o', e', nf⟩ := f1.2.2.1.mem hm
      rw [hob] at e'
      cases e'
      exact nf _ hfs
    have d0 : Down Y pp τ1 G1 e kc dd B u0 u' g := ⟨J, keep, up.trans up1, f1, na, os, ag, fun z => off (List.mem_filterMap.mpr ⟨Y.env, List.mem_cons_self, by rw [fr, z]⟩), fun hm => by
      obtain ⟨v, hv, q⟩ := List.mem_filterMap.mp hm
      exact off (List.mem_filterMap.mpr ⟨v, List.mem_cons_of_mem _ hv, q⟩)⟩
    exact after_one nd at_ lo k1 (fun g2 d2 w2 => after_one nd at_ lo k2 (fun g3 d3 w3 => after_none sk fr tk d3 w3) d2 w2) d0 w
  · rcases fl with _ | _ | _ | v
    · obtain ⟨τ1, G1, j1, q1⟩ := sp
      exact wpAny_execs_nil ⟨τ1, G1, j1.ofTry ok, q1⟩
    · obtain ⟨τ1, G1, j1, q1⟩ := sp
      exact ⟨τ1, G1, j1.ofTry ok, q1⟩
    · obtain ⟨τ1, G1, j1, q1⟩ := sp
      exact ⟨τ1, G1, j1.ofTry ok, q1⟩
    · obtain ⟨v1, τ1, G1, j1, r1, q1⟩ := sp
      exact ⟨v1, τ1, G1, j1.ofTry ok, r1, q1⟩
end
end G

set_option Elab.async false
set_option linter.all false
set_option maxRecDepth 100000
set_option maxHeartbeats 4000000
/-! == with data of another kind, len and str by an own method, len(range(..)). -/
namespace G
open PySem PySem.Spec PyProof.Rows L2
/-- an own def, run behind built-ins -/
theorem run_at {X : Cx} {k : Nat} {f : Addr} {fd : FuncData} {ps : List Str} {sp : Sp} {A' : Around} {pins : List (Addr × Obj)} {σ : L2.St} {H : Hp} {s : Shared} {Q : VK} {E : XK} {us : List Value} {vs : List V} (F : FnOk X.prog X.w X.K X.mg X.base (L2N.CX X.prog X.w) k f fd ps sp) (hr : Room k A') (hb : Binds X.K fd ps [])
    (he : Env0 X.prog X.w X.K X.mg X.base A' X.stack s H) (hx : PAt X (fun _ => E)) (I : Inv X pins σ H s) (r : Vals vs us) (h : sp vs H Q E) : wpAny (model X.prog X.w) A' (call (.ref f) us) (EP X pins σ Q) X.xe s := by
  have hl : us.length = ps.length := by rw [← r.length]; exact F.len _ _ _ _ h
  have b := hb s us I.kIn (by rw [List.append_nil]; exact hl)
  rw [List.append_nil] at b
  refine wpAny_call (codeAny_mono (F.run A' X.stack s H ⟨us, []⟩ us vs Q E hr he b r h) fun r s' hq => ?_)
  cases r with
  | error e => exact hx σ pins H s e s' I hq
  | ok fl =>
    cases fl with
    | ret u => exact I.after hq
    | next => exact False.elim hq
    | brk => exact False.elim hq
    | cont => exact False.elim hq
section
variable {X : Cx} {j k : Nat} {ps : List Str} {sp : Sp} {E : XK} {C f : Addr} {fd : FuncData}
/-- == of an instance with text or a number -/
def rOwnF (K : PySem.W.Frag) (C : Addr) (sp : Sp) (E : XK) : R2 := fun x y H Q => ∃ a dx fs, x = .ref a ∧ H a = some (.ins C dx fs) ∧ ((∃ z, y = .str z ∧ PySem.W.notFirst K C (.type "str") = true) ∨ (∃ i, y = .int i ∧ PySem.W.notFirst K C (.type "int") = true)) ∧ sp [.ref a, y] H (fun v H' => (∃ k, v = .bl k) ∧ Q v H') E
theorem op_ownF (F : FnOk X.prog X.w X.K X.mg X.base (L2N.CX X.prog X.w) k f fd ps sp) (hb : Binds X.K fd ps []) (hr : Room j X.A) (hk : k ≤ j) (hx : PAt X (fun _ => E))
    (hs : PySem.W.findIn X.K (.ref C) "__eq__" = some (some (.ref f))) (hf : PySem.W.isFn X.K (.ref f) = true) : OpR X (compareOp .Eq) (rOwnF X.K C sp E) := by
  intro pins s σ H x y u v Q I rx ry hq
  obtain ⟨a, dx, fs, rfl, ha, hy, q⟩ := hq
  cases rx
  obtain ⟨mA, J, _⟩ := ins_get I.hok ha
  obtain ⟨od, J, _⟩ := J.look
  obtain ⟨m, hF⟩ := I.fr
  show wpAny (model X.prog X.w) X.A (richCompare .Eq (.ref a) v) (EP X pins σ Q) X.xe s
  have body := run_fnS (E := fun _ => E) (us := [.ref a, v]) (vs := [.ref a, y]) F (hr.mono hk) hb (hx σ) I (.cons rfl (.cons ry .nil)) q
  have body' : wpAny (model X.prog X.w) X.A (call (.ref f) [.ref a, v]) (PySem.W.CmpBack (EP X pins σ Q)) X.xe s := by
    refine wpAny_mono body (fun r s' z => ?_) fun _ _ x => x
    obtain ⟨w, H', I', rw_, ⟨kk, rfl⟩, qq⟩ := z
    cases rw_
    exact ⟨.bl kk, H', I', rfl, qq⟩
  rcases hy with ⟨z, rfl, hn⟩ | ⟨i, rfl, hn⟩
  · obtain ⟨t, rfl⟩ := ry
    exact PySem.W.cmp_K (op := .Eq) (tb := .type "str") hr.units0 hF I.ok.mod.kin J (fun A Q E s _ q => wpAny_pure q) hn hs hf body'
  · obtain ⟨t, rfl⟩ := ry
    exact PySem.W.cmp_K (op := .Eq) (tb := .type "int") hr.units0 hF I.ok.mod.kin J (fun A Q E s _ q => wpAny_pure q) hn hs hf body'
end
end G
namespace G
open PySem PySem.Spec PyProof.Rows L2
section
variable {X : Cx} {j k : Nat} {ps : List Str} {sp : Sp} {E : XK} {C f : Addr} {fd : FuncData}
/-- == of data, of two instances, of an instance with text or a number -/
def rEqF (K : PySem.W.Frag) (C : Addr) (sp : Sp) (E : XK) : R2 := fun x y H Q => rEqO K C sp E x y H Q ∨ rOwnF K C sp E x y H Q
theorem op_eqF {i : Nat} (c : Met X.prog X.w X.K X.mg X.base k C "__eq__" ps sp) (hr : Room j X.A) (hk : k ≤ j) (hx : PAt X (fun _ => E)) : OpR X (compareOp .Eq) (rEqF X.K C sp E) := by
  have o1 : OpR X (compareOp .Eq) (rEqO X.K C sp E) := op_eqO (i := i) c hr hk hx
  obtain ⟨f, fd, F, hm, hb⟩ := c.ex
  exact OpR.or o1 (op_ownF F hb hr hk hx hm.at_ hm.fn)
/-- len(e) by an own method -/
def rLenO (C : Addr) (sp : Sp) (E : XK) : List V → Hp → VK → Prop := fun xs H Q => ∃ a dx fs, xs = [.ref a] ∧ H a = some (.ins C dx fs) ∧ sp [.ref a] H (fun v H' => ∃ n : Int, v = .int n ∧ (0 ≤ n ∧ n < 2 ^ 63) ∧ Q (.int n) H') E
theorem call_lenO (c : Met X.prog X.w X.K X.mg X.base k C "__len__" ps sp) (hr : Room j X.A) (hk : k + 1 ≤ j) (hx : PAt X (fun _ => E)) : CallR X (.builtin "len") (rLenO C sp E) := by
  obtain ⟨f, fd, F, hm, hb⟩ := c.ex
  intro pins s σ H xs us Q I r h
  obtain ⟨a, dx, fs, rfl, ha, q⟩ := h
  obtain ⟨u, rfl, ru⟩ := vals1 r
  cases ru
  obtain ⟨mA, J, _⟩ := ins_get I.hok ha
  obtain ⟨od, J, _⟩ := J.look
  obtain ⟨m, hF⟩ := I.fr
  refine PySem.W.len_K hF I.ok.mod.kin J hm.at_ hm.fn ?_
  refine wpAny_mono (run_at (E := E) (us := [.ref a]) (vs := [.ref a]) F ((hr.mono hk).in1) hb I.env0.in1 hx I (.cons rfl .nil) q) (fun r s' z => ?_) fun _ _ x => x
  obtain ⟨w, H', I', rw_, ⟨n, rfl, hn, qq⟩⟩ := z
  obtain ⟨t, rfl⟩ := rw_
  exact ⟨hn, ⟨.int n, H', I'.tok _, ⟨_, rfl⟩, qq⟩⟩
/-- str(e) by an own method -/
def rStrO (C : Addr) (sp : Sp) (E : XK) : List V → Hp → VK → Prop := fun xs H Q => ∃ a dx fs, xs = [.ref a] ∧ H a = some (.ins C dx fs) ∧ sp [.ref a] H (fun v H' => ∃ z : Str, v = .str z ∧ Q (.str z) H') E
theorem call_strO (c : Met X.prog X.w X.K X.mg X.base k C "__str__" ps sp) (hr : Room j X.A) (hk : k + 2 ≤ j) (hx : PAt X (fun _ => E)) : CallR X (.type "str") (rStrO C sp E) := by
  obtain ⟨f, fd, F, hm, hb⟩ := c.ex
  intro pins s σ H xs us Q I r h
  obtain ⟨a, dx, fs, rfl, ha, q⟩ := h
  obtain ⟨u, rfl, ru⟩ := vals1 r
  cases ru
  obtain ⟨mA, J, _⟩ := ins_get I.hok ha
  obtain ⟨od, J, _⟩ := J.look
  have hr2 : Room k X.A.in1.in1 := ((show Room (k + 1 + 1) X.A from hr.mono hk).in1).in1
  refine PySem.W.kso_call hr2.units0 I.kIn J hm.at_ hm.fn ?_
  refine wpAny_mono (run_at (E := E) (us := [.ref a]) (vs := [.ref a]) F hr2 hb I.env0.in1.in1 hx I (.cons rfl .nil) q) (fun r s' z => ?_) fun _ _ x => x
  obtain ⟨w, H', I', rw_, ⟨z, rfl, qq⟩⟩ := z
  obtain ⟨t, rfl⟩ := rw_
  exact ⟨.str z, H', I', ⟨_, rfl⟩, qq⟩
/-- str(text) -/
def rStrS : List V → Hp → VK → Prop := fun xs H Q => ∃ z, xs = [.str z] ∧ Q (.str z) H
theorem call_strS : CallR X (.type "str") rStrS := SkE.call_str_str
/-- len(range(n)) -/
def tLenRg (te : L2.St → Hp → (Int → Int → Hp → Prop) → Prop) : TE := fun σ H Q => te σ H fun a b H1 => ∃ n : Nat, b - a = n ∧ n < 1000000 ∧ Q (.int n) H1
theorem pe_lenRg {e : Expr} {te : L2.St → Hp → (Int → Int → Hp → Prop) → Prop} {p pos : Pos} (hg : Gl X "len") (hm : X.mg "len" = none) (he : PRg X e te) (na : starEach [e] X.env = (false, eval e X.env) :: starEach [] X.env := by rfl) : PE X (.Call (.Name "len" p) [e] [] pos) (tLenRg te) := by
  refine ⟨fun pins s σ H Q I h => ?_⟩
  refine Call_ (ld_blt (u := .builtin "len") I hg hm (by decide +kernel) ?_)
  refine PyProof.Rows.callWith_builtin1 ?_ na (by rfl)
  rw [na]
  show wpAny _ _ (spliced ((false, eval e X.env) :: backTo pos (starEach [] X.env))) _ _ s
  refine Calls.spliced_cons (thn (he pins s σ H _ I h) fun x s1 ⟨r, a, b, t, u, v, H1, ex, hr, I1, n, e1, e2, q⟩ => ?_)
  refine Calls.spliced_nil ?_
  subst ex
  have e3 := rangeSize_nat a b
  have e4 : (b - a).toNat = n := by omega
  rw [e4] at e3
  exact PySem.call_len_range (n := n) hr e3 (by omega) ⟨.int n, H1, I1.tok _, ⟨_, rfl⟩, q⟩
end
section
variable {K : PySem.W.Frag} {σ : L2.St} {H : Hp} {Q : VK} {sp : Sp} {E : XK} {C : Addr} {x y : V}
theorem w_lenRg {te : TE} {i : Int} (h : te σ H fun x H1 => x = .int i ∧ 0 ≤ i ∧ i < 1000000 ∧ Q (.int i) H1) (mono : ∀ {P P' : VK}, te σ H P → (∀ x H1, P x H1 → P' x H1) → te σ H P') : tLenRg (tRg1 te) σ H Q :=
  mono h fun x H1 ⟨e, h0, h1, q⟩ => ⟨i, e, i.toNat, by omega, by omega, by rw [Int.toNat_of_nonneg h0]; exact q⟩
theorem w_strS {z : Str} (g : Q (.str z) H) : rStrS [.str z] H Q := ⟨z, rfl, g⟩
theorem w_lenO {a dx : Addr} {fs} (ha : H a = some (.ins C dx fs)) (g : sp [.ref a] H (fun v H' => ∃ n : Int, v = .int n ∧ (0 ≤ n ∧ n < 2 ^ 63) ∧ Q (.int n) H') E) : rLenO C sp E [.ref a] H Q := ⟨a, dx, fs, rfl, ha, g⟩
theorem w_strO {a dx : Addr} {fs} (ha : H a = some (.ins C dx fs)) (g : sp [.ref a] H (fun v H' => ∃ z : Str, v = .str z ∧ Q (.str z) H') E) : rStrO C sp E [.ref a] H Q := ⟨a, dx, fs, rfl, ha, g⟩
theorem w_eqFS {a dx : Addr} {fs} {z : Str} (ha : H a = some (.ins C dx fs)) (hn : PySem.W.notFirst K C (.type "str") = true) (g : sp [.ref a, .str z] H (fun v H' => (∃ k, v = .bl k) ∧ Q v H') E) : rEqF K C sp E (.ref a) (.str z) H Q := .inr ⟨a, dx, fs, rfl, ha, .inl ⟨z, rfl, hn⟩, g⟩
theorem w_eqFI {a dx : Addr} {fs} {i : Int} (ha : H a = some (.ins C dx fs)) (hn : PySem.W.notFirst K C (.type "int") = true) (g : sp [.ref a, .int i] H (fun v H' => (∃ k, v = .bl k) ∧ Q v H') E) : rEqF K C sp E (.ref a) (.int i) H Q := .inr ⟨a, dx, fs, rfl, ha, .inr ⟨i, rfl, hn⟩, g⟩
theorem w_eqFO {a b dx dy : Addr} {fs gs} (ha : H a = some (.ins C dx fs)) (hb : H b = some (.ins C dy gs)) (g : sp [.ref a, .ref b] H (fun v H' => (∃ k, v = .bl k) ∧ Q v H') E) : rEqF K C sp E (.ref a) (.ref b) H Q := .inl (.inr ⟨a, b, dx, dy, fs, gs, rfl, rfl, ha, hb, g⟩)
end
/-- facts: text, numbers and an own class -/
def frB (x : Str) (t : String) (K : PySem.W.Frag) : Bool := PySem.W.notFirst K (He.ga K x) (.type t) && eqT (PySem.W.kitOne K (.type t) (.ref (He.ga K x))) (some false)
theorem frB_ok {x : Str} {t : String} {K : PySem.W.Frag} (q : frB x t K = true) : PySem.W.notFirst K (He.ga K x) (.type t) = true ∧ PySem.W.kitOne K (.type t) (.ref (He.ga K x)) = some false := by
  obtain ⟨q1, q2⟩ := He.ba q
  exact ⟨q1, of_decide_eq_true q2⟩
end G

set_option Elab.async false
set_option linter.all false
set_option maxRecDepth 100000
set_option maxHeartbeats 4000000
/-! k02: mathematics and promises. -/
namespace G
open PySem PySem.Spec PyProof.Rows L2 TL
/-! ### the standing of the law's lists -/
def wS (n : Nat) (R L : List Int) (O : List Bool) : Sd := ⟨n, R, 0 :: L.drop 1, O⟩
theorem gI_wL {L : List Int} {v : Nat} (h : 1 ≤ v) : gI (0 :: L.drop 1) v = gI L v := by
  obtain ⟨u, rfl⟩ : ∃ u, v = u + 1 := ⟨v - 1, by omega⟩
  show (L.drop 1).getD u 0 = L.getD (u + 1) 0
  rw [List.getD_eq_getElem?_getD, List.getD_eq_getElem?_getD, List.getElem?_drop, Nat.add_comm]
theorem set_wL {L : List Int} {v : Nat} {x : Int} (h : 1 ≤ v) : 0 :: (L.set v x).drop 1 = (0 :: L.drop 1).set v x := by
  obtain ⟨u, rfl⟩ : ∃ u, v = u + 1 := ⟨v - 1, by omega⟩
  rw [List.set_cons_succ]
  congr 1
  cases L with
  | nil => simp
  | cons a r => rfl
theorem WdZ.wf {H : Hp} {r l o : Addr} {n : Nat} {R L : List Int} {O : List Bool} (a : WdZ H r l o n R L O) (hn : n ≤ 60) : Wf (wS n R L O) := by
  refine ⟨hn, a.lR, ?_, a.lO, a.rb, fun v h1 h2 => ?_⟩
  · show (L.drop 1).length + 1 = n + 2
    rw [List.length_drop, a.lL]
    omega
  · show 0 ≤ gI (0 :: L.drop 1) v ∧ gI (0 :: L.drop 1) v < _
    rw [gI_wL h1]
    exact a.lb v h1 h2
theorem WdZ.snd {H : Hp} {r l o : Addr} {n : Nat} {R L : List Int} {O : List Bool} (a : WdZ H r l o n R L O) : Snd (wS n R L O) := ⟨⟨_, rfl⟩, a.o0, a.o1⟩
theorem dump_wS (n : Nat) (R L : List Int) (O : List Bool) : dumpS (wS n R L O) = dumpW n R L O := rfl
theorem whole_wS (n : Nat) : wS n (rgI 1 (n + 1)) (rgI (-1) (n + 2)) (List.replicate (n + 2) false) = wholeS n := by
  have e : (rgI (-1) (n + 2)).drop 1 = rgI 0 (n + 1) := by
    refine List.ext_getElem? fun i => ?_
    unfold rgI
    rw [List.getElem?_drop, List.getElem?_map, List.getElem?_map]
    by_cases h : i < n + 1
    · rw [List.getElem?_range (by omega), List.getElem?_range h]
      simp only [Option.map_some]
      congr 1
      omega
    · rw [List.getElem?_eq_none (by rw [List.length_range]; omega), List.getElem?_eq_none (by rw [List.length_range]; omega)]
      rfl
  unfold wS wholeS
  rw [e]
theorem step_wS {n : Nat} {R L : List Int} {O : List Bool} (w : Wf (wS n R L O)) {op : Int} (h : IsOp n op) :
    stepS (wS n R L O) op = wS n (R.set (gI L op.natAbs).toNat (if op < 0 then gI R op.natAbs else (op.natAbs : Int))) (L.set (gI R op.natAbs).toNat (if op < 0 then gI L op.natAbs else (op.natAbs : Int))) (O.set op.natAbs (decide (op < 0))) := by
  have h1 := h.1
  have h2 := h.2
  have hr := w.rb op.natAbs h2
  have e : gI (wS n R L O).L op.natAbs = gI L op.natAbs := gI_wL h1
  show Sd.mk n (R.set (gI (wS n R L O).L op.natAbs).toNat (if op < 0 then gI R op.natAbs else (op.natAbs : Int))) ((0 :: L.drop 1).set (gI R op.natAbs).toNat (if op < 0 then gI (wS n R L O).L op.natAbs else (op.natAbs : Int))) _ = wS _ _ _ _
  rw [e]
  unfold wS
  rw [set_wL (by have : (op.natAbs : Int) < gI R op.natAbs := hr.1; omega)]
/-! ### dumps are alike exactly if the standings are -/
theorem map_numI_inj : ∀ {a b : List Int}, (∀ i ∈ a, 0 ≤ i) → (∀ i ∈ b, 0 ≤ i) → a.map numI = b.map numI → a = b
  | [], [], _, _, _ => rfl
  | [], _ :: _, _, _, e => by simp at e
  | _ :: _, [], _, _, e => by simp at e
  | x :: a, y :: b, ha, hb, e => by
    rw [List.map_cons, List.map_cons, List.cons.injEq] at e
    rw [numI_inj (ha x (List.mem_cons_self ..)) (hb y (List.mem_cons_self ..)) e.1, map_numI_inj (fun i h => ha i (List.mem_cons_of_mem _ h)) (fun i h => hb i (List.mem_cons_of_mem _ h)) e.2]
theorem joinI_inj {a b : List Int} (na : a ≠ []) (nb : b ≠ []) (ha : ∀ i ∈ a, 0 ≤ i) (hb : ∀ i ∈ b, 0 ≤ i) (e : joinI a = joinI b) : a = b := by
  have e2 := congrArg (fun t => Txt.split t spS) e
  simp only [split_joinI na ha, split_joinI nb hb] at e2
  exact map_numI_inj ha hb e2
theorem outsT_inj {a b : List Int} (ha : ∀ i ∈ a, 0 ≤ i) (hb : ∀ i ∈ b, 0 ≤ i) (e : outsT a = outsT b) : a = b := by
  unfold outsT at e
  by_cases ca : a = [] <;> by_cases cb : b = []
  · rw [ca, cb]
  · rw [if_pos ca, if_neg cb] at e
    exact absurd e.symm (joinI_ne_none cb hb)
  · rw [if_neg ca, if_pos cb] at e
    exact absurd e (joinI_ne_none ca ha)
  · rw [if_neg ca, if_neg cb] at e
    exact joinI_inj ca cb ha hb e
theorem Wf.goods {s : Sd} (w : Wf s) : (s.R ≠ [] ∧ ∀ i ∈ s.R, 0 ≤ i) ∧ (s.L.drop 1 ≠ [] ∧ ∀ i ∈ s.L.drop 1, 0 ≤ i) ∧ ∀ i ∈ outN s.n s.O, 0 ≤ i := by
  refine ⟨⟨fun z => ?_, fun i hi => ?_⟩, ⟨fun z => ?_, fun i hi => ?_⟩, fun i hi => ?_⟩
  · have := w.lR
    rw [z] at this
    simp at this
  · obtain ⟨k, hk, rfl⟩ := List.mem_iff_getElem.mp hi
    have h1 := w.lR
    have := (w.rb k (by omega)).1
    rw [gI_of (List.getElem?_eq_getElem hk)] at this
    omega
  · have := congrArg List.length z
    rw [List.length_drop, w.lL] at this
    simp at this
  · obtain ⟨k, hk, rfl⟩ := List.mem_iff_getElem.mp hi
    have h1 := w.lL
    rw [List.length_drop] at hk
    have e : s.L[k + 1]? = some ((s.L.drop 1)[k]) := by
      rw [← List.getElem?_eq_getElem, List.getElem?_drop, Nat.add_comm]
    have := (w.lb (k + 1) (by omega) (by omega)).1
    rw [gI_of e] at this
    exact this
  · exact Int.le_trans (by decide) (outN_bd hi).1
theorem good_outs {l : List Int} (h : ∀ i ∈ l, 0 ≤ i) : GoodP (tl (outsT l)) := by
  unfold outsT
  by_cases c : l = []
  · rw [if_pos c]
    exact good_none
  · rw [if_neg c]
    exact good_joinI c h
theorem split_dumpS {s : Sd} (w : Wf s) : Txt.split (dumpS s) barS = [joinI s.R, joinI (s.L.drop 1), outsT (outN s.n s.O)] :=
  split_bar (good_joinI w.goods.1.1 w.goods.1.2) (good_joinI w.goods.2.1.1 w.goods.2.1.2) (good_outs w.goods.2.2)
theorem outN_inj {n : Nat} {O P : List Bool} (e : outN n O = outN n P) : ∀ v, 1 ≤ v → v ≤ n → gB O v = gB P v := by
  intro v h1 h2
  have key : ∀ (Z : List Bool), gB Z v = decide ((v : Int) ∈ outN n Z) := by
    intro Z
    cases c : gB Z v with
    | true =>
      refine (decide_eq_true ?_).symm
      unfold outN
      exact List.mem_map.mpr ⟨v, List.mem_filter.mpr ⟨List.mem_map.mpr ⟨v - 1, List.mem_range.mpr (by omega), by omega⟩, c⟩, rfl⟩
    | false =>
      refine (decide_eq_false fun z => ?_).symm
      have := (outN_bd z).2.2
      rw [Int.toNat_natCast, c] at this
      exact absurd this (by decide)
  rw [key O, key P, e]
theorem dump_inj {s t : Sd} (w : Wf s) (d : Snd s) (w' : Wf t) (d' : Snd t) (e : dumpS s = dumpS t) : s = t := by
  have e2 := congrArg (fun x => Txt.split x barS) e
  simp only [split_dumpS w, split_dumpS w', List.cons.injEq, and_true] at e2
  obtain ⟨a, b, c⟩ := e2
  have eR := joinI_inj w.goods.1.1 w'.goods.1.1 w.goods.1.2 w'.goods.1.2 a
  have eL := joinI_inj w.goods.2.1.1 w'.goods.2.1.1 w.goods.2.1.2 w'.goods.2.1.2 b
  have eO := outsT_inj w.goods.2.2 w'.goods.2.2 c
  have en : s.n = t.n := by
    have h1 := w.lR
    have h2 := w'.lR
    rw [eR] at h1
    omega
  obtain ⟨x, hx⟩ := d.l0
  obtain ⟨y, hy⟩ := d'.l0
  rw [hx, hy] at eL
  have eL2 : x = y := eL
  have eO2 : s.O = t.O := by
    refine List.ext_getElem? fun i => ?_
    have h1 := w.lO
    have h2 := w'.lO
    by_cases hi : i < s.n + 2
    · rw [gB_at (l := s.O) (by omega), gB_at (l := t.O) (by omega)]
      congr 1
      by_cases c0 : i = 0
      · rw [c0, d.o0, d'.o0]
      · by_cases c1 : i = s.n + 1
        · have := d'.o1
          rw [← en] at this
          rw [c1, d.o1, this]
        · rw [← en] at eO
          exact outN_inj eO i (by omega) (by omega)
    · rw [List.getElem?_eq_none (by omega), List.getElem?_eq_none (by omega)]
  obtain ⟨n, R, L, O⟩ := s
  obtain ⟨n', R', L', O'⟩ := t
  subst en eR eO2
  rw [show L = _ from hx, show L' = _ from hy, eL2]
def eqS (s t : Sd) : Bool := decide (s.R = t.R) && (decide (s.L = t.L) && decide (s.O = t.O))
theorem eqS_self (s : Sd) : eqS s s = true := by simp [eqS]
theorem eqS_dump {s t : Sd} (w : Wf s) (d : Snd s) (w' : Wf t) (d' : Snd t) : eqS s t = decide (dumpS t = dumpS s) := by
  by_cases c : dumpS t = dumpS s
  · rw [decide_eq_true c, dump_inj w' d' w d c, eqS_self]
  · rw [decide_eq_false c]
    cases h : eqS s t with
    | false => rfl
    | true =>
      unfold eqS at h
      simp only [Bool.and_eq_true, decide_eq_true_eq] at h
      obtain ⟨h1, h2, h3⟩ := h
      refine absurd ?_ c
      have en : s.n = t.n := by
        have e1 := w.lR
        have e2 := w'.lR
        rw [h1] at e1
        omega
      obtain ⟨n, R, L, O⟩ := s
      obtain ⟨n', R', L', O'⟩ := t
      cases en; cases h1; cases h2; cases h3
      rfl
theorem eqS_O {s t : Sd} {v : Nat} (h : gB s.O v ≠ gB t.O v) : eqS s t = false := by
  cases e : eqS s t with
  | false => rfl
  | true =>
    unfold eqS at e
    simp only [Bool.and_eq_true, decide_eq_true_eq] at e
    exact absurd (by rw [e.2.2]) h
theorem eqS_n {s t : Sd} (w : Wf s) (w' : Wf t) (h : s.n ≠ t.n) : eqS s t = false := by
  cases e : eqS s t with
  | false => rfl
  | true =>
    unfold eqS at e
    simp only [Bool.and_eq_true, decide_eq_true_eq] at e
    have e1 := w.lR
    have e2 := w'.lR
    rw [e.1] at e1
    exact absurd (by omega) h
theorem step_O {s : Sd} (w : Wf s) {op : Int} (h : IsOp s.n op) : gB (stepS s op).O op.natAbs = decide (op < 0) := by
  show gB (s.O.set op.natAbs _) op.natAbs = _
  have := w.lO
  have := h.2
  rw [gB_set (by omega), if_pos rfl]
theorem ok_O {s : Sd} {op : Int} (h : OkOp s op) : gB s.O op.natAbs ≠ decide (op < 0) := by
  rw [h.2]
  have := h.1.1
  by_cases c : op < 0
  · rw [decide_eq_true c, decide_eq_false (by omega)]
    decide
  · rw [decide_eq_false c, decide_eq_true (by omega)]
    decide
theorem ok_not {s : Sd} {op : Int} (h : IsOp s.n op) : OkOp s op ↔ gB s.O op.natAbs ≠ decide (op < 0) := by
  refine ⟨ok_O, fun z => ⟨h, ?_⟩⟩
  have := h.1
  by_cases c : op < 0
  · rw [decide_eq_true c] at z
    rw [decide_eq_false (by omega)]
    simpa using z
  · rw [decide_eq_false c] at z
    rw [decide_eq_true (by omega)]
    simpa using z
theorem ok_back {s : Sd} (w : Wf s) {op : Int} (h : OkOp s op) : OkOp (stepS s op) (-op) ∧ ¬ OkOp (stepS s op) op := by
  have h1 := h.1.1
  have e := step_O w h.1
  refine ⟨⟨⟨by omega, by have := h.1.2; show (-op).natAbs ≤ s.n; omega⟩, ?_⟩, fun z => ?_⟩
  · rw [Int.natAbs_neg, e]
    by_cases c : op < 0
    · rw [decide_eq_true c, decide_eq_true (by omega)]
    · rw [decide_eq_false c, decide_eq_false (by omega)]
  · exact ok_O z e
end G

set_option Elab.async false
set_option linter.all false
set_option maxRecDepth 100000
set_option maxHeartbeats 4000000
/-! k02: promises. -/
namespace G
open PySem PySem.Spec PyProof.Rows L2 TL
def sp02_Links_left (K : PySem.W.Frag) : Sp := fun vs H Q E => ∃ (p r l o : Addr) (s : Sd) (v : Int), vs = [.ref p, .int v] ∧ LinksAt K H p r l o s ∧ ((1 ≤ v ∧ v ≤ (s.n : Int) + 1) → Q (.int (gI s.L v.toNat)) H) ∧ (¬ (1 ≤ v ∧ v ≤ (s.n : Int) + 1) → Ex K "BadNode" [("node", .int v)] E H)
def sp02_Links_right (K : PySem.W.Frag) : Sp := fun vs H Q E => ∃ (p r l o : Addr) (s : Sd) (v : Int), vs = [.ref p, .int v] ∧ LinksAt K H p r l o s ∧ ((0 ≤ v ∧ v ≤ (s.n : Int)) → Q (.int (gI s.R v.toNat)) H) ∧ (¬ (0 ≤ v ∧ v ≤ (s.n : Int)) → Ex K "BadNode" [("node", .int v)] E H)
def sp02_Links_is_out (K : PySem.W.Frag) : Sp := fun vs H Q E => ∃ (p r l o : Addr) (s : Sd) (v : Int), vs = [.ref p, .int v] ∧ LinksAt K H p r l o s ∧ ((0 ≤ v ∧ v ≤ (s.n : Int) + 1) → Q (.bl (gB s.O v.toNat)) H) ∧ (¬ (0 ≤ v ∧ v ≤ (s.n : Int) + 1) → Ex K "BadNode" [("node", .int v)] E H)
def sp02_Links___eq__ (K : PySem.W.Frag) : Sp := fun vs H Q E => ∃ (p r l o : Addr) (s : Sd) (y : V), vs = [.ref p, y] ∧ LinksAt K H p r l o s ∧
  ((∃ (p2 r2 l2 o2 : Addr) (t : Sd), y = .ref p2 ∧ LinksAt K H p2 r2 l2 o2 t ∧ Q (.bl (eqS s t)) H) ∨ (((∃ z, y = .str z) ∨ ∃ i, y = .int i) ∧ Q (.bl false) H))
def sp02_Links___len__ (K : PySem.W.Frag) : Sp := fun vs H Q E => ∃ (p r l o : Addr) (s : Sd), vs = [.ref p] ∧ LinksAt K H p r l o s ∧ Q (.int (s.n : Int)) H
def sp02_Links___str__ (K : PySem.W.Frag) : Sp := fun vs H Q E => ∃ (p r l o : Addr) (s : Sd), vs = [.ref p] ∧ LinksAt K H p r l o s ∧ Any H (.str (dumpS s)) Q
def sp02__law_size (K : PySem.W.Frag) : Sp := fun vs H Q E => ∃ (b c : Addr), vs = [.ref b] ∧ BxI H b c ∧ ∀ (n : Nat) H', n ≤ 60 → Kp [b] H H' → BxI H' b c → Q (.int (n : Int)) H'
def sp02__law_far_size (K : PySem.W.Frag) : Sp := fun vs H Q E => ∃ (b c : Addr), vs = [.ref b] ∧ BxI H b c ∧ ∀ (f : Int) H', ¬ SizeOk f → Kp [b] H H' → BxI H' b c → Q (.int f) H'
def sp02__law_near (K : PySem.W.Frag) : Sp := fun vs H Q E => ∃ (b c w r l o : Addr) (n : Nat) (R L : List Int) (O : List Bool), vs = [.ref b, .int (n : Int), .ref w] ∧ n ≤ 60 ∧ BxI H b c ∧ H w = some (.lst [.ref r, .ref l, .ref o]) ∧ WdZ H r l o n R L O ∧
  ∀ (R' L' : List Int) (O' : List Bool) w' r' l' o' H', H w' = none → H r' = none → H l' = none → H o' = none → Kp [b] H H' → BxI H' b c → H' w' = some (.lst [.ref r', .ref l', .ref o']) → WdZ H' r' l' o' n R' L' O' → Q (.ref w') H'
def sp02__law_operation (K : PySem.W.Frag) : Sp := fun vs H Q E => ∃ (b c o : Addr) (n : Nat) (O : List Bool), vs = [.ref b, .int (n : Int), .ref o] ∧ n ≤ 60 ∧ BxI H b c ∧ o ≠ b ∧ H o = some (.lst (O.map V.bl)) ∧ O.length = n + 2 ∧ ∀ (op : Int) H', Kp [b] H H' → BxI H' b c → Q (.int op) H'
def sp02__law_write (K : PySem.W.Frag) : Sp := fun vs H Q E => ∃ (r l o : Addr) (n : Nat) (R L : List Int) (O : List Bool) (op : Int), vs = [.ref r, .ref l, .ref o, .int op] ∧ n ≤ 60 ∧ WdZ H r l o n R L O ∧ IsOp n op ∧
  ∀ (R' L' : List Int) (O' : List Bool) H', wS n R' L' O' = stepS (wS n R L O) op → Kp [r, l, o] H H' → WdZ H' r l o n R' L' O' → Q .non H'
def sp02__law_shown (K : PySem.W.Frag) : Sp := fun vs H Q E => ∃ (p a b c r l o : Addr) (n : Nat) (R L : List Int) (O : List Bool), vs = [.ref p, .int (n : Int), .ref r, .ref l, .ref o] ∧ n ≤ 60 ∧ LinksAt K H p a b c (wS n R L O) ∧ WdZ H r l o n R L O ∧ Any H (.bl true) Q
def NoNd (s : Sd) (w : Nat) (v : Int) : Prop := if w = 0 then ¬ (1 ≤ v ∧ v ≤ (s.n : Int) + 1) else if w = 1 then ¬ (0 ≤ v ∧ v ≤ (s.n : Int)) else ¬ (0 ≤ v ∧ v ≤ (s.n : Int) + 1)
def sp02__law_node_refused (K : PySem.W.Frag) : Sp := fun vs H Q E => ∃ (p a b c : Addr) (s : Sd) (w : Nat) (v : Int), vs = [.int (w : Int), .ref p, .int v] ∧ LinksAt K H p a b c s ∧ NoNd s w v ∧ Any H (.bl true) Q
def sp02__law_nodes_refused (K : PySem.W.Frag) : Sp := fun vs H Q E => ∃ (p a b c : Addr) (s : Sd) (far : Int), vs = [.ref p, .int (s.n : Int), .int far] ∧ LinksAt K H p a b c s ∧ 0 ≤ far ∧ Any H (.bl true) Q
def sp02__law_whole_right (K : PySem.W.Frag) : Sp := fun vs H Q E => ∃ (n : Nat) (far : Int), vs = [.int (n : Int), .int far] ∧ n ≤ 60 ∧ ¬ SizeOk far ∧ Any H (.bl true) Q
def sp02__law_equal (K : PySem.W.Frag) : Sp := fun vs H Q E => ∃ (p r l o : Addr) (s : Sd) (y : V) (due : Bool), vs = [.ref p, y, .bl due] ∧ LinksAt K H p r l o s ∧
  ((∃ (p2 r2 l2 o2 : Addr) (t : Sd), y = .ref p2 ∧ LinksAt K H p2 r2 l2 o2 t ∧ due = eqS s t) ∨ (((∃ z, y = .str z) ∨ ∃ i, y = .int i) ∧ due = false)) ∧ Q (.bl true) H
def sp02__law_equals_right (K : PySem.W.Frag) : Sp := fun vs H Q E => ∃ (p a b c : Addr) (n : Nat) (w r l o : Addr) (R L : List Int) (O : List Bool) (x r' l' o' : Addr) (R' L' : List Int) (O' : List Bool), vs = [.ref p, .int (n : Int), .ref w, .ref x] ∧ n ≤ 60 ∧ LinksAt K H p a b c (wS n R L O) ∧
  H w = some (.lst [.ref r, .ref l, .ref o]) ∧ WdZ H r l o n R L O ∧ H x = some (.lst [.ref r', .ref l', .ref o']) ∧ WdZ H r' l' o' n R' L' O' ∧ Any H (.bl true) Q
def sp02__law_refused (K : PySem.W.Frag) : Sp := fun vs H Q E => ∃ (p a b c : Addr) (s : Sd) (op : Int) (bad : Bool), vs = [.ref p, .int op, .bl bad] ∧ LinksAt K H p a b c s ∧ (bad = true ↔ ¬ IsOp s.n op) ∧ ¬ OkOp s op ∧ Any H (.bl true) Q
def sp02__law_turn_right (K : PySem.W.Frag) : Sp := fun vs H Q E => ∃ (p a b c r l o : Addr) (n : Nat) (R L : List Int) (O : List Bool) (op : Int), vs = [.ref p, .int (n : Int), .ref r, .ref l, .ref o, .int op] ∧ n ≤ 60 ∧ LinksAt K H p a b c (wS n R L O) ∧ WdZ H r l o n R L O ∧
  (p ∉ [r, l, o] ∧ a ∉ [r, l, o] ∧ b ∉ [r, l, o] ∧ c ∉ [r, l, o]) ∧
  ∀ (R' L' : List Int) (O' : List Bool) H', Kp [a, b, c, r, l, o] H H' → LinksAt K H' p a b c (wS n R' L' O') → WdZ H' r l o n R' L' O' → Q (.bl true) H'
end G

set_option Elab.async false
set_option linter.all false
set_option maxRecDepth 100000
set_option maxHeartbeats 4000000
/-! Generators by a method, `in` by an own method, comprehensions over reversed lists. -/
namespace G
open PySem PySem.Spec PyProof.Rows L2
/-- a generator method and its promise -/
structure MetG (P : Program) (w : World) (K : PySem.W.Frag) (mg : Str → Option Value) (base : Heap) (k : Nat) (C : Addr) (m : Str) (ps : List Str) (sp : SpG) : Prop where
  ex : ∃ (f : Addr) (fd : FuncData), GFn P w K mg base k f fd ps sp ∧ Meth K C m f ∧ Binds K fd ps []
section
variable {P : Program} {w : World} {K : PySem.W.Frag} {mg : Str → Option Value} {base : Heap} {x qual : Str} {params : Arguments} {body : List Stmt} {scope : Scope} {dvs : List V} {kws : List (Str × V)} {f : Addr} {fd : FuncData}
theorem okG {N ps : List Str} {k : Nat} {sp : SpG} (F : FunD K x qual params body scope dvs kws f fd) (S : GScope N ps scope) (len : ∀ vs H Q E, sp vs H Q E → vs.length = ps.length)
    (hbody : ∀ (cdv : Value) (A : Around) (outer : List Env) (s : Shared) (H : Hp) (vs : List V) (Q : List V → Hp → Prop) (E : XK) (pn : List (Addr × Obj)), Room k (A.deeper (envOfC qual scope s.heap.objs.size f cdv)) → sp vs H Q E →
      ∃ t, GSs (gcxOf P w K mg base N qual scope f cdv A outer s H E pn) body t ∧ t { nx := fun ys _ H' => Q ys H', rt := fun ys v H' => v = .non ∧ Q ys H' } [] (start N vs) H) : GFn P w K mg base (k + 1) f fd ps sp := by
  obtain ⟨oc, od, dV, kV, doc, pm, an, cdv, ct, osl, rfl, lk, hcd, _, _⟩ := F.ex
  exact gfn_of lk hcd S len fun A outer s H vs Q E pn hr h => hbody cdv A outer s H vs Q E pn hr h
end
def tListMG (C : Addr) (m : Str) (sp : SpG) (ta : TE) : TE := tListG (tMethG C m sp [] L2.E0 ta tNil)
section
variable {X : Cx} {j k : Nat} {ps : List Str} {C : Addr} {m : Str} {o : Expr} {ta : TE} {p pos pos' apos : Pos}
theorem noStop0 {K : PySem.W.Frag} : NoStop K L2.E0 := fun _ _ _ h => False.elim h
theorem pe_listMG {sp : SpG} {pl : Sem Bool} (c : MetG X.prog X.w X.K X.mg X.base k C m ps sp) (cl : Cls X.K C) (hr : Room j X.A) (hk : k + 3 ≤ j) (hg : Gl X "list") (hmg : X.mg "list" = none) (he : PE X o ta)
    (ht : eval (.Call (.Attribute o m apos) [] [] pos') X.env = (do
      let ov ← eval o X.env
      standAt apos.atName
      let (f, first) ← holding [ov] (getMethod ov m pl)
      callWith pos' f first (backTo pos' (starEach [] X.env)) (backToKw pos' (keywordEach [] X.env))) := by rfl)
    (hs : starEach [Expr.Call (.Attribute o m apos) [] [] pos'] X.env = (false, eval (.Call (.Attribute o m apos) [] [] pos') X.env) :: starEach [] X.env := by rfl) :
    PE X (.Call (.Name "list" p) [.Call (.Attribute o m apos) [] [] pos'] [] pos) (tListMG C m sp ta) := by
  obtain ⟨f, fd, F, hm, hb⟩ := c.ex
  exact pe_listG (pgen_meth0 (pl := pl) he cl hm F ((hr.mono hk).mono (by omega)) hb .nil ht) (fun pins σ H s e s' I h => by
    obtain ⟨a, B, H', cls, d, z1, fl, z2, ub, z3, z4, z5, z6⟩ := h
    exact False.elim z6) noStop0 (hr.mono hk) hg hmg (by decide +kernel) (he := hs)
/-- x in e by an own method -/
def rInO (C : Addr) (sp : Sp) (E : XK) : R2 := fun x y H Q => ∃ a dx fs, y = .ref a ∧ H a = some (.ins C dx fs) ∧ sp [.ref a, x] H (fun v H' => ∃ b, v = .bl b ∧ Q (.bl b) H') E
theorem op_inO {sp : Sp} {E : XK} (c : Met X.prog X.w X.K X.mg X.base k C "__contains__" ps sp) (hr : Room j X.A) (hk : k ≤ j) (hx : PAt X (fun _ => E)) : OpR X (compareOp .In) (rInO C sp E) := by
  obtain ⟨f, fd, F, hm, hb⟩ := c.ex
  intro pins s σ H x y u v Q I rx ry h
  obtain ⟨a, dx, fs, rfl, ha, q⟩ := h
  cases ry
  obtain ⟨mA, J, _⟩ := ins_get I.hok ha
  obtain ⟨od, J, _⟩ := J.look
  obtain ⟨m, hF⟩ := I.fr
  refine PySem.W.in_K hF I.ok.mod.kin J hm.at_ hm.fn ?_
  refine wpAny_mono (run_fnS (E := fun _ => E) (us := [.ref a, u]) (vs := [.ref a, x]) F (hr.mono hk) hb (hx σ) I (.cons rfl (.cons rx .nil)) q) (fun r s' z => ?_) fun _ _ x => x
  obtain ⟨w, H', I', rw_, ⟨b, rfl, qq⟩⟩ := z
  cases rw_
  exact wpAny_truthy_bool ⟨.bl b, H', I', rfl, qq⟩
end
section
variable {K : PySem.W.Frag} {σ : L2.St} {H : Hp} {Q : VK} {C : Addr} {m : Str} {ta : TE} {sp : SpG}
theorem w_listMG (g : ta σ H fun x H1 => ∃ a dx fs, x = .ref a ∧ H1 a = some (.ins C dx fs) ∧ fs.lookup m = none ∧ sp [x] H1 (fun out H2 => ∀ q, H2 q = none → Q (.ref q) (upd H2 q (.lst out))) L2.E0) : tListMG C m sp ta σ H Q := g
theorem nwL {xs : List V} (g : ∀ q H', H q = none → Kp [] H H' → H' q = some (.lst xs) → Q (.ref q) H') : ∀ q, H q = none → Q (.ref q) (upd H q (.lst xs)) := nw g
theorem w_inO {a dx : Addr} {fs} {sp : Sp} {E : XK} {x : V} (ha : H a = some (.ins C dx fs)) (g : sp [.ref a, x] H (fun v H' => ∃ b, v = .bl b ∧ Q (.bl b) H') E) : rInO C sp E x (.ref a) H Q := ⟨a, dx, fs, rfl, ha, g⟩
/-- the loops of a generator -/
theorem gw {c : TT} {tb : TGn} {D : GEnds} {ys : List V} (W : Nat → List V → L2.St → Hp → Prop) (m : Nat) (h0 : W m ys σ H) (hs : ∀ m ys σ H, W m ys σ H → c σ H fun b H1 => if b = true then ∃ N : List V → L2.St → Hp → Prop, (∀ ys' σ' H', N ys' σ' H' → ∃ m', m' < m ∧ W m' ys' σ' H') ∧ tb { D with nx := N, ct := N, bk := D.nx } ys σ H1 else D.nx ys σ H1) : tGWhile c tb D ys σ H := ⟨W, ⟨m, h0⟩, hs⟩
end
section
variable {K : PySem.W.Frag} {σ : L2.St} {H : Hp} {Q : VK} {g : TG} {tt : TT} {te : TE} {vs : List Nat}
theorem cp_rev {a : Addr} {xs : List V} (h : SqL K H a xs) (items : Nat → List V) (hz : ∀ i, i < xs.length → (items i).length < sizeLine) (h0 : items 0 = [])
    (hs : ∀ (i : Nat) (x : V) (H' : Hp) (S : V → Hp → Prop) (N : Hp → Prop), i < xs.length → xs[xs.length - 1 - i]? = some x → Kp [] H H' → (∀ y H4, Kp [] H' H4 → items (i + 1) = items i ++ [y] → S y H4) → (∀ H4, Kp [] H' H4 → items (i + 1) = items i → N H4) →
      g x (wipe σ vs) H' fun σ2 H2 => wipe σ2 vs = wipe σ vs ∧ tt σ2 H2 fun b H3 => if b = true then te σ2 H3 S else N H3)
    (hd : ∀ D H', H D = none → Kp [] H H' → H' D = some (.lst (items xs.length)) → Q (.ref D) H') : CompG (Itv K a xs.length) g tt te vs σ Q H :=
  cp_go (n := xs.length) items (fun H' => SqL K H' a xs) hz h0 (fun _ k => k.sql (by simp) h) (fun i H' hi q => ⟨hi, xs, xs[xs.length - 1 - i]'(by omega), q, List.getElem?_eq_getElem (by omega)⟩) (fun H' q => Nat.le_refl _) (fun i x H' H'' S N hi k y a b => by
    obtain ⟨rfl, hx⟩ := y
    exact hs i x H'' S N hi (hx xs (k.sql (by simp) h)) k a b) hd
theorem w_rev {a : Addr} {xs : List V} {R : It → Hp → Prop} (h : SqL K H a xs) (g : R (Itv K a xs.length) H) : ∃ (b : Addr) (ys : List V), V.ref a = .ref b ∧ ((SqL K H b ys ∧ R (Itv K b ys.length) H) ∨ (SqT K H b ys ∧ R (RT.ItvT K b ys.length) H)) := ⟨a, xs, rfl, .inl ⟨h, g⟩⟩
end
end G

set_option Elab.async false
set_option linter.all false
set_option maxRecDepth 100000
set_option maxHeartbeats 4000000
/-! k04: mathematics. -/
namespace G
open PySem PySem.Spec PyProof.Rows L2 TL
/-! ### walks -/
def wkF (R : List Int) (n : Nat) : Nat → Int → List Int
  | 0, _ => []
  | k + 1, v => if v ≤ (n : Int) then v :: wkF R n k (gI R v.toNat) else []
def wbF (L : List Int) : Nat → Int → List Int
  | 0, _ => []
  | k + 1, v => if 1 ≤ v then v :: wbF L k (gI L v.toNat) else []
def walkL (n : Nat) (R : List Int) : List Int := wkF R n (n + 1) (gI R 0)
def walkB (n : Nat) (L : List Int) : List Int := wbF L (n + 1) (gI L (n + 1))
theorem wkF_len (R : List Int) (n : Nat) : ∀ k v, (wkF R n k v).length ≤ k
  | 0, _ => Nat.le_refl _
  | k + 1, v => by
    unfold wkF
    split
    · rw [List.length_cons]
      have := wkF_len R n k (gI R v.toNat)
      omega
    · simp
theorem wbF_len (L : List Int) : ∀ k v, (wbF L k v).length ≤ k
  | 0, _ => Nat.le_refl _
  | k + 1, v => by
    unfold wbF
    split
    · rw [List.length_cons]
      have := wbF_len L k (gI L v.toNat)
      omega
    · simp
theorem wbF_w {L : List Int} : ∀ k v, wbF (0 :: L.drop 1) k v = wbF L k v
  | 0, _ => rfl
  | k + 1, v => by
    unfold wbF
    split
    · rename_i h
      rw [gI_wL (by omega), wbF_w k]
    · rfl
theorem walkB_w (n : Nat) (L : List Int) : walkB n (0 :: L.drop 1) = walkB n L := by
  unfold walkB
  rw [gI_wL (by omega), wbF_w]
/-! ### sound, whole -/
def chk (R L : List Int) : Int → List Int → Bool
  | _, [] => true
  | a, x :: xs => (decide (gI R a.toNat = x) && decide (gI L x.toNat = a)) && chk R L x xs
def inN (n : Nat) (O : List Bool) : List Int := (((List.range (n + 1)).map fun (v : Nat) => v + 1).filter fun v => !gB O v).map fun (v : Nat) => (v : Int)
def sndB (n : Nat) (R L : List Int) (O : List Bool) : Bool := chk R L 0 (inN n O)
def whS (n : Nat) (R L : List Int) (O : List Bool) : Bool := (List.range (n + 1)).all fun v => !gB O v && (decide (gI R v = (v : Int) + 1) && decide (gI L (v + 1) = (v : Int)))
theorem chk_zip {R L : List Int} : ∀ (a : Int) (xs : List Int), ((List.range xs.length).map fun j => decide (gI R (gI (a :: xs) j).toNat = gI xs j) && decide (gI L (gI xs j).toNat = gI (a :: xs) j)).all id = chk R L a xs
  | a, [] => rfl
  | a, x :: xs => by
    rw [List.length_cons, List.range_succ_eq_map, List.map_cons, List.all_cons, List.map_map]
    have ih := chk_zip (R := R) (L := L) x xs
    have e : ((fun j => decide (gI R (gI (a :: x :: xs) j).toNat = gI (x :: xs) j) && decide (gI L (gI (x :: xs) j).toNat = gI (a :: x :: xs) j)) ∘ Nat.succ) = fun j => decide (gI R (gI (x :: xs) j).toNat = gI xs j) && decide (gI L (gI xs j).toNat = gI (x :: xs) j) := rfl
    rw [e, ih]
    rfl
theorem chk_L {R L L' : List Int} (h : ∀ v, 1 ≤ v → gI L v = gI L' v) : ∀ (a : Int) (xs : List Int), (∀ x ∈ xs, 1 ≤ x) → chk R L a xs = chk R L' a xs
  | a, [], _ => rfl
  | a, x :: xs, hx => by
    unfold chk
    have := hx x (List.mem_cons_self ..)
    rw [h x.toNat (by omega), chk_L h x xs fun y hy => hx y (List.mem_cons_of_mem _ hy)]
theorem inN_bd {n : Nat} {O : List Bool} {x : Int} (h : x ∈ inN n O) : 1 ≤ x ∧ x ≤ (n : Int) + 1 := by
  unfold inN at h
  obtain ⟨v, hv, rfl⟩ := List.mem_map.mp h
  obtain ⟨u, hu, rfl⟩ := List.mem_map.mp (List.mem_filter.mp hv).1
  have := List.mem_range.mp hu
  omega
theorem inN_len (n : Nat) (O : List Bool) : (inN n O).length ≤ n + 1 := by
  unfold inN
  rw [List.length_map]
  refine Nat.le_trans (List.length_filter_le _ _) ?_
  rw [List.length_map, List.length_range]
  exact Nat.le_refl _
theorem sndB_w (n : Nat) (R L : List Int) (O : List Bool) : sndB n R (0 :: L.drop 1) O = sndB n R L O := chk_L (fun v hv => gI_wL hv) 0 _ fun x hx => (inN_bd hx).1
theorem whS_w (n : Nat) (R L : List Int) (O : List Bool) : whS n R (0 :: L.drop 1) O = whS n R L O := by
  unfold whS
  congr 1
  funext v
  rw [gI_wL (by omega)]
theorem whS_eq {s : Sd} (w : Wf s) (d : Snd s) : eqS s (wholeS s.n) = whS s.n s.R s.L s.O := by
  have wW := Wf.whole w.n60
  have gf : ∀ v, v < s.n + 2 → gB (wholeS s.n).O v = false := fun v hv => gB_of (List.getElem?_replicate_of_lt hv)
  cases e : whS s.n s.R s.L s.O with
  | true =>
    unfold whS at e
    rw [List.all_eq_true] at e
    have key : ∀ v, v ≤ s.n → gB s.O v = false ∧ gI s.R v = (v : Int) + 1 ∧ gI s.L (v + 1) = (v : Int) := fun v hv => by
      have := e v (List.mem_range.mpr (by omega))
      simpa using this
    obtain ⟨t, ht⟩ := d.l0
    have e1 : s.R = (wholeS s.n).R := by
      refine List.ext_getElem? fun i => ?_
      by_cases hi : i < s.n + 1
      · rw [gI_at (l := s.R) (by rw [w.lR]; omega), gI_at (l := (wholeS s.n).R) (by rw [wW.lR]; exact hi), (key i (by omega)).2.1]
        congr 1
        show _ = gI (rgI 1 (s.n + 1)) i
        rw [gI_range hi]
        omega
      · rw [List.getElem?_eq_none (by rw [w.lR]; omega), List.getElem?_eq_none (by rw [wW.lR]; show s.n + 1 ≤ i; omega)]
    have e2 : s.L = (wholeS s.n).L := by
      refine List.ext_getElem? fun i => ?_
      by_cases hi : i < s.n + 2
      · cases i with
        | zero =>
          rw [ht]
          rfl
        | succ i =>
          rw [gI_at (l := s.L) (by rw [w.lL]; omega), gI_at (l := (wholeS s.n).L) (by rw [wW.lL]; exact hi), (key i (by omega)).2.2]
          congr 1
          show _ = gI (rgI 0 (s.n + 1)) i
          rw [gI_range (by omega)]
          omega
      · rw [List.getElem?_eq_none (by rw [w.lL]; omega), List.getElem?_eq_none (by rw [wW.lL]; show s.n + 2 ≤ i; omega)]
    have e3 : s.O = (wholeS s.n).O := by
      refine List.ext_getElem? fun i => ?_
      by_cases hi : i < s.n + 2
      · rw [gB_at (l := s.O) (by rw [w.lO]; omega), gB_at (l := (wholeS s.n).O) (by rw [wW.lO]; exact hi), gf i hi]
        congr 1
        by_cases c : i = s.n + 1
        · rw [c]
          exact d.o1
        · exact (key i (by omega)).1
      · rw [List.getElem?_eq_none (by rw [w.lO]; omega), List.getElem?_eq_none (by rw [wW.lO]; show s.n + 2 ≤ i; omega)]
    unfold eqS
    rw [decide_eq_true e1, decide_eq_true e2, decide_eq_true e3]
    rfl
  | false =>
    cases h : eqS s (wholeS s.n) with
    | false => rfl
    | true =>
      unfold eqS at h
      simp only [Bool.and_eq_true, decide_eq_true_eq] at h
      obtain ⟨h1, h2, h3⟩ := h
      have : whS s.n s.R s.L s.O = true := by
        unfold whS
        rw [List.all_eq_true]
        intro v hv
        have := List.mem_range.mp hv
        rw [h1, h2, h3, gf v (by omega)]
        have a1 : gI (wholeS s.n).R v = (v : Int) + 1 := by
          show gI (rgI 1 (s.n + 1)) v = _
          rw [gI_range (by omega)]
          omega
        have a2 : gI (wholeS s.n).L (v + 1) = (v : Int) := by
          show gI (rgI 0 (s.n + 1)) v = _
          rw [gI_range (by omega)]
          omega
        rw [a1, a2]
        simp
      rw [this] at e
      cases e
/-! ### the mirror -/
def mirS (s : Sd) : Sd := ⟨s.n, (List.range (s.n + 1)).map fun (v : Nat) => (s.n : Int) + 1 - gI s.L (s.n + 1 - v), 0 :: (List.range (s.n + 1)).map fun (v : Nat) => (s.n : Int) + 1 - gI s.R (s.n - v), (List.range (s.n + 2)).map fun (v : Nat) => gB s.O (s.n + 1 - v)⟩
def opp (n : Nat) (op : Int) : Int := if op < 0 then -((n : Int) + 1 + op) else (n : Int) + 1 - op
theorem gI_map {n v : Nat} {f : Nat → Int} (h : v < n) : gI ((List.range n).map f) v = f v := gI_of (by rw [List.getElem?_map, List.getElem?_range h] <;> rfl)
theorem gB_map {n v : Nat} {f : Nat → Bool} (h : v < n) : gB ((List.range n).map f) v = f v := gB_of (by rw [List.getElem?_map, List.getElem?_range h] <;> rfl)
theorem mir_R {s : Sd} {v : Nat} (h : v ≤ s.n) : gI (mirS s).R v = (s.n : Int) + 1 - gI s.L (s.n + 1 - v) := gI_map (by omega)
theorem mir_L {s : Sd} {v : Nat} (h0 : 1 ≤ v) (h : v ≤ s.n + 1) : gI (mirS s).L v = (s.n : Int) + 1 - gI s.R (s.n + 1 - v) := by
  obtain ⟨u, rfl⟩ : ∃ u, v = u + 1 := ⟨v - 1, by omega⟩
  show gI ((List.range (s.n + 1)).map fun (v : Nat) => (s.n : Int) + 1 - gI s.R (s.n - v)) u = _
  rw [gI_map (by omega), show s.n + 1 - (u + 1) = s.n - u by omega]
theorem mir_O {s : Sd} {v : Nat} (h : v ≤ s.n + 1) : gB (mirS s).O v = gB s.O (s.n + 1 - v) := gB_map (by omega)
theorem mir_lens (s : Sd) : (mirS s).R.length = s.n + 1 ∧ (mirS s).L.length = s.n + 2 ∧ (mirS s).O.length = s.n + 2 := by
  simp [mirS]
theorem mir_wf {s : Sd} (w : Wf s) : Wf (mirS s) := by
  obtain ⟨h1, h2, h3⟩ := mir_lens s
  refine ⟨w.n60, h1, h2, h3, fun v hv => ?_, fun v h1 h2 => ?_⟩
  · have hv : v ≤ s.n := hv
    rw [mir_R hv]
    have := w.lb (s.n + 1 - v) (by omega) (by omega)
    show _ ∧ _ ≤ (s.n : Int) + 1
    omega
  · have h2 : v ≤ s.n + 1 := h2
    rw [mir_L h1 h2]
    have := w.rb (s.n + 1 - v) (by omega)
    omega
theorem mir_snd {s : Sd} (d : Snd s) : Snd (mirS s) := by
  refine ⟨⟨_, rfl⟩, ?_, ?_⟩
  · rw [mir_O (by omega)]
    exact d.o1
  · show gB (mirS s).O (s.n + 1) = false
    rw [mir_O (by omega), Nat.sub_self]
    exact d.o0
theorem sd_ext {s t : Sd} (w : Wf s) (w' : Wf t) (d : Snd s) (d' : Snd t) (hn : s.n = t.n) (hR : ∀ v, v ≤ s.n → gI s.R v = gI t.R v) (hL : ∀ v, 1 ≤ v → v ≤ s.n + 1 → gI s.L v = gI t.L v) (hO : ∀ v, v ≤ s.n + 1 → gB s.O v = gB t.O v) : s = t := by
  have l1 := w.lR
  have l2 := w.lL
  have l3 := w.lO
  have m1 := w'.lR
  have m2 := w'.lL
  have m3 := w'.lO
  obtain ⟨x, hx⟩ := d.l0
  obtain ⟨y, hy⟩ := d'.l0
  have e1 : s.R = t.R := List.ext_getElem? fun i => by
    by_cases hi : i < s.n + 1
    · rw [gI_at (l := s.R) (by omega), gI_at (l := t.R) (by omega), hR i (by omega)]
    · rw [List.getElem?_eq_none (by omega), List.getElem?_eq_none (by omega)]
  have e2 : s.L = t.L := List.ext_getElem? fun i => by
    by_cases hi : i < s.n + 2
    · cases i with
      | zero => rw [hx, hy] <;> rfl
      | succ i => rw [gI_at (l := s.L) (by omega), gI_at (l := t.L) (by omega), hL (i + 1) (by omega) (by omega)]
    · rw [List.getElem?_eq_none (by omega), List.getElem?_eq_none (by omega)]
  have e3 : s.O = t.O := List.ext_getElem? fun i => by
    by_cases hi : i < s.n + 2
    · rw [gB_at (l := s.O) (by omega), gB_at (l := t.O) (by omega), hO i (by omega)]
    · rw [List.getElem?_eq_none (by omega), List.getElem?_eq_none (by omega)]
  obtain ⟨n, R, L, O⟩ := s
  obtain ⟨n', R', L', O'⟩ := t
  cases hn; cases e1; cases e2; cases e3
  rfl
theorem mir_mir {s : Sd} (w : Wf s) (d : Snd s) : mirS (mirS s) = s := by
  have w1 := mir_wf w
  have hn : (mirS s).n = s.n := rfl
  refine sd_ext (mir_wf w1) w (mir_snd (mir_snd d)) d rfl (fun v hv => ?_) (fun v h1 h2 => ?_) fun v hv => ?_
  · have hv : v ≤ s.n := hv
    rw [mir_R (s := mirS s) hv, hn, mir_L (by omega) (by omega), show s.n + 1 - (s.n + 1 - v) = v by omega]
    omega
  · have h2 : v ≤ s.n + 1 := h2
    rw [mir_L (s := mirS s) h1 h2, hn, mir_R (by omega), show s.n + 1 - (s.n + 1 - v) = v by omega]
    omega
  · have hv : v ≤ s.n + 1 := hv
    rw [mir_O (s := mirS s) hv, hn, mir_O (by omega), show s.n + 1 - (s.n + 1 - v) = v by omega]
theorem opp_abs {n : Nat} {op : Int} (h : IsOp n op) : (opp n op).natAbs = n + 1 - op.natAbs ∧ (opp n op < 0 ↔ op < 0) ∧ IsOp n (opp n op) ∧ opp n op = (if op > 0 then (n : Int) + 1 - (op.natAbs : Int) else -((n : Int) + 1 - (op.natAbs : Int))) := by
  obtain ⟨h1, h2⟩ := h
  unfold opp IsOp
  split <;> split <;> omega
theorem opp_ok {s : Sd} {op : Int} (h : OkOp s op) : OkOp (mirS s) (opp s.n op) := by
  obtain ⟨a1, a2, a3, _⟩ := opp_abs h.1
  refine ⟨a3, ?_⟩
  have := h.1.1
  have := h.1.2
  rw [a1, mir_O (by omega), show s.n + 1 - (s.n + 1 - op.natAbs) = op.natAbs by omega, h.2]
  by_cases c : op < 0
  · rw [decide_eq_false (by omega), decide_eq_false (by have := a2.mpr c; omega)]
  · have c2 : ¬ opp s.n op < 0 := fun z => c (a2.mp z)
    rw [decide_eq_true (by omega), decide_eq_true (by have := a3.1; omega)]
theorem step_gB {s : Sd} (w : Wf s) {op : Int} (h : IsOp s.n op) (v : Nat) : gB (stepS s op).O v = if v = op.natAbs then decide (op < 0) else gB s.O v := by
  show gB (s.O.set op.natAbs (decide (op < 0))) v = _
  have := w.lO
  have := h.2
  rw [gB_set (by omega)]
theorem step_gI {s : Sd} (w : Wf s) {op : Int} (h : IsOp s.n op) (v : Nat) : gI (stepS s op).R v = (if v = (gI s.L op.natAbs).toNat then (if op < 0 then gI s.R op.natAbs else (op.natAbs : Int)) else gI s.R v) ∧ gI (stepS s op).L v = (if v = (gI s.R op.natAbs).toNat then (if op < 0 then gI s.L op.natAbs else (op.natAbs : Int)) else gI s.L v) := by
  have h1 := h.1
  have h2 := h.2
  have rb := w.rb op.natAbs h2
  have lb := w.lb op.natAbs h1 (by omega)
  have l1 := w.lR
  have l2 := w.lL
  refine ⟨?_, ?_⟩
  · show gI (s.R.set _ _) v = _
    rw [gI_set (by omega)]
  · show gI (s.L.set _ _) v = _
    rw [gI_set (by omega)]
theorem mir_step {s : Sd} (w : Wf s) (d : Snd s) {op : Int} (h : IsOp s.n op) : mirS (stepS s op) = stepS (mirS s) (opp s.n op) := by
  obtain ⟨a1, a2, a3, _⟩ := opp_abs h
  have w1 := mir_wf w
  have h1 := h.1
  have h2 := h.2
  have wst := w.step h
  have hn : (mirS s).n = s.n := rfl
  have hn2 : (stepS s op).n = s.n := rfl
  have rb := w.rb op.natAbs h2
  have lb := w.lb op.natAbs h1 (by omega)
  have sg : ∀ (a b : Int), (if opp s.n op < 0 then a else b) = if op < 0 then a else b := fun a b => by
    by_cases c : op < 0
    · rw [if_pos c, if_pos (a2.mpr c)]
    · rw [if_neg c, if_neg fun z => c (a2.mp z)]
  have mR : gI (mirS s).R (s.n + 1 - op.natAbs) = (s.n : Int) + 1 - gI s.L op.natAbs := by
    rw [mir_R (by omega), show s.n + 1 - (s.n + 1 - op.natAbs) = op.natAbs by omega]
  have mL : gI (mirS s).L (s.n + 1 - op.natAbs) = (s.n : Int) + 1 - gI s.R op.natAbs := by
    rw [mir_L (by omega) (by omega), show s.n + 1 - (s.n + 1 - op.natAbs) = op.natAbs by omega]
  refine sd_ext (mir_wf wst) (w1.step a3) (mir_snd (stepS_snd w d h)) (stepS_snd w1 (mir_snd d) a3) rfl (fun v hv => ?_) (fun v v1 v2 => ?_) fun v hv => ?_
  · have hv : v ≤ s.n := hv
    rw [mir_R (s := stepS s op) hv, hn2, (step_gI w h _).2, (step_gI w1 a3 _).1, a1, mR, mL, sg, mir_R hv]
    by_cases c : v = ((s.n : Int) + 1 - gI s.R op.natAbs).toNat
    · rw [if_pos c, if_pos (by omega)]
      by_cases c2 : op < 0
      · rw [if_pos c2, if_pos c2]
      · rw [if_neg c2, if_neg c2]
        omega
    · rw [if_neg c, if_neg (by omega)]
  · have v2 : v ≤ s.n + 1 := v2
    rw [mir_L (s := stepS s op) v1 v2, hn2, (step_gI w h _).1, (step_gI w1 a3 _).2, a1, mR, mL, sg, mir_L v1 v2]
    by_cases c : v = ((s.n : Int) + 1 - gI s.L op.natAbs).toNat
    · rw [if_pos c, if_pos (by omega)]
      by_cases c2 : op < 0
      · rw [if_pos c2, if_pos c2]
      · rw [if_neg c2, if_neg c2]
        omega
    · rw [if_neg c, if_neg (by omega)]
  · have hv : v ≤ s.n + 1 := hv
    rw [mir_O (s := stepS s op) hv, hn2, step_gB w h, step_gB w1 a3, a1, mir_O hv]
    have e : decide (opp s.n op < 0) = decide (op < 0) := by
      by_cases c : op < 0
      · rw [decide_eq_true c, decide_eq_true (a2.mpr c)]
      · rw [decide_eq_false c, decide_eq_false fun z => c (a2.mp z)]
    by_cases c : v = s.n + 1 - op.natAbs
    · rw [if_pos c, if_pos (by omega), e]
    · rw [if_neg c, if_neg (by omega)]
end G

set_option Elab.async false
set_option linter.all false
set_option maxRecDepth 100000
set_option maxHeartbeats 4000000
/-! k04: runs, outs, promises. -/
namespace G
open PySem PySem.Spec PyProof.Rows L2 TL
theorem leg_split {s : Sd} {l : List Int} {x : Int} (h : Leg s (l ++ [x])) : Leg s l ∧ OkOp (runS s l) x := by
  refine ⟨?_, ?_⟩
  · have := h.take l.length
    rwa [List.take_left'] at this
    rfl
  · have := h l.length x (by simp)
    rwa [List.take_left'] at this
    rfl
theorem mir_run {s : Sd} (w : Wf s) (d : Snd s) : ∀ log : List Int, Leg s log → mirS (runS s log) = runS (mirS s) (log.map (opp s.n)) := by
  intro log
  induction log using snoc_ind with
  | h0 => exact fun _ => rfl
  | h1 l x ih =>
    intro h
    obtain ⟨hl, hx⟩ := leg_split h
    have e : (runS s l).n = s.n := runS_n s l
    rw [runS_snoc, mir_step (hl.wf w) (runS_snd w d hl) hx.1, e, ih hl, List.map_append]
    exact (runS_snoc _ _ _).symm
theorem mir_leg {s : Sd} (w : Wf s) (d : Snd s) {log : List Int} (h : Leg s log) : Leg (mirS s) (log.map (opp s.n)) := by
  intro i op hop
  rw [List.getElem?_map] at hop
  obtain ⟨o, ho, rfl⟩ := Option.map_eq_some_iff.mp hop
  rw [← List.map_take, ← mir_run w d _ (h.take i)]
  have := opp_ok (h i o ho)
  rwa [runS_n] at this
theorem leg_ops {s : Sd} {log : List Int} (h : Leg s log) : ∀ op ∈ log, IsOp s.n op := by
  intro op hop
  obtain ⟨i, hi, rfl⟩ := List.mem_iff_getElem.mp hop
  have := (h i _ (List.getElem?_eq_getElem hi)).1
  rwa [runS_n] at this
theorem outN_pair (n : Nat) (O : List Bool) : (outN n O).Pairwise (· < ·) := by
  unfold outN
  rw [List.pairwise_map]
  refine List.Pairwise.imp (fun {a b} (h : a < b) => by omega) (List.Pairwise.filter _ ?_)
  rw [List.pairwise_map]
  exact List.Pairwise.imp (fun {a b} (h : a < b) => by omega) List.pairwise_lt_range
theorem mem_outN4 {n v : Nat} {O : List Bool} (h1 : 1 ≤ v) (h2 : v ≤ n) : ((v : Int) ∈ outN n O) ↔ gB O v = true := by
  constructor
  · intro z
    have := (outN_bd z).2.2
    rwa [Int.toNat_natCast] at this
  · intro c
    unfold outN
    exact List.mem_map.mpr ⟨v, List.mem_filter.mpr ⟨List.mem_map.mpr ⟨v - 1, List.mem_range.mpr (by omega), by omega⟩, c⟩, rfl⟩
theorem mir_outs (s : Sd) : ((outN s.n s.O).reverse.map fun (v : Int) => (s.n : Int) + 1 - v) = outN s.n (mirS s).O := by
  have hp : ((outN s.n s.O).reverse.map fun (v : Int) => (s.n : Int) + 1 - v).Pairwise (· < ·) := by
    rw [List.pairwise_map, List.pairwise_reverse]
    exact List.Pairwise.imp (fun {a b} (h : a < b) => by omega) (outN_pair s.n s.O)
  have hb : ∀ x ∈ ((outN s.n s.O).reverse.map fun (v : Int) => (s.n : Int) + 1 - v), 1 ≤ x ∧ x ≤ (s.n : Int) := by
    intro x hx
    obtain ⟨v, hv, rfl⟩ := List.mem_map.mp hx
    have := outN_bd (List.mem_reverse.mp hv)
    omega
  have e := filter_range_eq hp hb
  rw [← e]
  unfold outN
  congr 1
  refine List.filter_congr fun v hv => ?_
  obtain ⟨u, hu, rfl⟩ := List.mem_map.mp hv
  have hu := List.mem_range.mp hu
  rw [mir_O (by omega)]
  have key : (((u + 1 : Nat) : Int) ∈ ((outN s.n s.O).reverse.map fun (v : Int) => (s.n : Int) + 1 - v)) ↔ gB s.O (s.n + 1 - (u + 1)) = true := by
    rw [List.mem_map]
    constructor
    · rintro ⟨y, hy, e⟩
      have hy := List.mem_reverse.mp hy
      have b := outN_bd hy
      rw [show s.n + 1 - (u + 1) = y.toNat by omega]
      exact b.2.2
    · intro c
      refine ⟨((s.n + 1 - (u + 1) : Nat) : Int), List.mem_reverse.mpr ((mem_outN4 (by omega) (by omega)).mpr c), by omega⟩
  cases c : gB s.O (s.n + 1 - (u + 1)) with
  | true => exact decide_eq_true (key.mpr c)
  | false =>
    refine decide_eq_false fun z => ?_
    have := key.mp z
    rw [c] at this
    cases this
section

def sp04_Links_walk (K : PySem.W.Frag) : SpG := fun vs H Q E => ∃ (p r l o : Addr) (s : Sd), vs = [.ref p] ∧ LinksAt K H p r l o s ∧ Q ((walkL s.n s.R).map V.int) H
def sp04_Links_walk_back (K : PySem.W.Frag) : SpG := fun vs H Q E => ∃ (p r l o : Addr) (s : Sd), vs = [.ref p] ∧ LinksAt K H p r l o s ∧ Q ((walkB s.n s.L).map V.int) H
def sp04_Links_is_sound (K : PySem.W.Frag) : Sp := fun vs H Q E => ∃ (p r l o : Addr) (s : Sd), vs = [.ref p] ∧ LinksAt K H p r l o s ∧ Snd s ∧ Any H (.bl (sndB s.n s.R s.L s.O)) Q
def sp04_Links_is_whole (K : PySem.W.Frag) : Sp := fun vs H Q E => ∃ (p r l o : Addr) (s : Sd), vs = [.ref p] ∧ LinksAt K H p r l o s ∧ Snd s ∧ Any H (.bl (whS s.n s.R s.L s.O)) Q
def sp04_Links___contains__ (K : PySem.W.Frag) : Sp := fun vs H Q E => ∃ (p r l o : Addr) (s : Sd) (v : Int), vs = [.ref p, .int v] ∧ LinksAt K H p r l o s ∧ Q (.bl (decide (1 ≤ v ∧ v ≤ (s.n : Int)) && !gB s.O v.toNat)) H
def sp04_mirrored (K : PySem.W.Frag) : Sp := fun vs H Q E => ∃ (p r l o : Addr) (s : Sd), vs = [.ref p] ∧ LinksAt K H p r l o s ∧ Snd s ∧ NewS K H (mirS s) Q
def sp04__check_operations (K : PySem.W.Frag) : Sp := fun vs H Q E => ∃ (n : Nat) (a : Addr) (log : List Int), vs = [.int (n : Int), .ref a] ∧ n ≤ 60 ∧ SqL K H a (log.map V.int) ∧ (∀ op ∈ log, IsOp n op) ∧ Any H .non Q
def sp04__on_node (K : PySem.W.Frag) : Sp := fun vs H Q E => ∃ (op v : Int), vs = [.int op, .int v] ∧ Q (.int (if op > 0 then v else -v)) H
def sp04_mirror (K : PySem.W.Frag) : Sp := fun vs H Q E => ∃ (n : Nat) (a : Addr) (log : List Int), vs = [.int (n : Int), .ref a] ∧ n ≤ 60 ∧ H a = some (.lst (log.map V.int)) ∧ log.length ≤ 1000 ∧ (∀ op ∈ log, IsOp n op) ∧ NewL H ((log.map (opp n)).map V.int) Q
def sp04__law_run (K : PySem.W.Frag) : Sp := fun vs H Q E => ∃ (b c w r l o : Addr) (n : Nat) (R L : List Int) (O : List Bool), vs = [.ref b, .int (n : Int), .ref w] ∧ n ≤ 60 ∧ BxI H b c ∧ w ≠ b ∧ o ≠ b ∧ H w = some (.lst [.ref r, .ref l, .ref o]) ∧ WdZ H r l o n R L O ∧
  ∀ (run : List Int) q H', Leg (wS n R L O) run → run.length ≤ 100 → H q = none → Kp [b] H H' → BxI H' b c → H' q = some (.lst (run.map V.int)) → Q (.ref q) H'
def sp04__law_walked (K : PySem.W.Frag) : Sp := fun vs H Q E => ∃ (r : Addr) (n : Nat) (R : List Int), vs = [.int (n : Int), .ref r] ∧ n ≤ 60 ∧ H r = some (.lst (R.map V.int)) ∧ R.length = n + 1 ∧ (∀ v : Nat, v ≤ n → (v : Int) < gI R v ∧ gI R v ≤ (n : Int) + 1) ∧ NewL H ((walkL n R).map V.int) Q
def sp04__law_walked_back (K : PySem.W.Frag) : Sp := fun vs H Q E => ∃ (l : Addr) (n : Nat) (L : List Int), vs = [.int (n : Int), .ref l] ∧ n ≤ 60 ∧ H l = some (.lst (L.map V.int)) ∧ L.length = n + 2 ∧ (∀ v : Nat, 1 ≤ v → v ≤ n + 1 → 0 ≤ gI L v ∧ gI L v < (v : Int)) ∧ NewL H ((walkB n L).map V.int) Q
def sp04__law_sound (K : PySem.W.Frag) : Sp := fun vs H Q E => ∃ (r l o : Addr) (n : Nat) (R L : List Int) (O : List Bool), vs = [.int (n : Int), .ref r, .ref l, .ref o] ∧ n ≤ 60 ∧ WdZ H r l o n R L O ∧ Any H (.bl (sndB n R L O)) Q
def sp04__law_whole (K : PySem.W.Frag) : Sp := fun vs H Q E => ∃ (r l o : Addr) (n : Nat) (R L : List Int) (O : List Bool), vs = [.int (n : Int), .ref r, .ref l, .ref o] ∧ n ≤ 60 ∧ WdZ H r l o n R L O ∧ Any H (.bl (whS n R L O)) Q
def sp04__law_outs_right (K : PySem.W.Frag) : Sp := fun vs H Q E => ∃ (p a b c r l o : Addr) (n : Nat) (R L : List Int) (O : List Bool), vs = [.ref p, .int (n : Int), .ref o] ∧ n ≤ 60 ∧ LinksAt K H p a b c (wS n R L O) ∧ WdZ H r l o n R L O ∧ Any H (.bl true) Q
def sp04__law_asked_right (K : PySem.W.Frag) : Sp := fun vs H Q E => ∃ (p a b c r l o : Addr) (n : Nat) (R L : List Int) (O : List Bool), vs = [.ref p, .int (n : Int), .ref r, .ref l, .ref o] ∧ n ≤ 60 ∧ LinksAt K H p a b c (wS n R L O) ∧ WdZ H r l o n R L O ∧ Any H (.bl true) Q
def sp04__law_turned (K : PySem.W.Frag) : Sp := fun vs H Q E => ∃ (w r l o : Addr) (n : Nat) (R L : List Int) (O : List Bool), vs = [.int (n : Int), .ref w] ∧ n ≤ 60 ∧ H w = some (.lst [.ref r, .ref l, .ref o]) ∧ WdZ H r l o n R L O ∧
  ∀ (R' L' : List Int) (O' : List Bool) w' r' l' o' H', H w' = none → H r' = none → H l' = none → H o' = none → Kp [] H H' → H' w' = some (.lst [.ref r', .ref l', .ref o']) → WdZ H' r' l' o' n R' L' O' → wS n R' L' O' = mirS (wS n R L O) → Q (.ref w') H'
def sp04__law_mirror_right (K : PySem.W.Frag) : Sp := fun vs H Q E => ∃ (p a b c w r l o : Addr) (n : Nat) (R L : List Int) (O : List Bool) (v : Int), vs = [.ref p, .int (n : Int), .ref w, .int v] ∧ n ≤ 60 ∧ LinksAt K H p a b c (wS n R L O) ∧ H w = some (.lst [.ref r, .ref l, .ref o]) ∧ WdZ H r l o n R L O ∧ 0 ≤ v ∧ v ≤ (n : Int) ∧ Any H (.bl true) Q
def sp04__law_opposite (K : PySem.W.Frag) : Sp := fun vs H Q E => ∃ (n : Nat) (op : Int), vs = [.int (n : Int), .int op] ∧ Q (.int (opp n op)) H
def sp04__law_run_mirrored (K : PySem.W.Frag) : Sp := fun vs H Q E => ∃ (p a b c q w r l o : Addr) (s : Sd) (run : List Int) (R L : List Int) (O : List Bool), vs = [.ref p, .int (s.n : Int), .ref q, .ref w] ∧ LinksAt K H p a b c s ∧ Snd s ∧ H q = some (.lst (run.map V.int)) ∧ Leg s run ∧ run.length ≤ 100 ∧
  H w = some (.lst [.ref r, .ref l, .ref o]) ∧ WdZ H r l o s.n R L O ∧ wS s.n R L O = runS s run ∧ Any H (.bl true) Q
end
end G

set_option Elab.async false
set_option linter.all false
set_option maxRecDepth 100000
set_option maxHeartbeats 4000000

namespace G
open PySem PySem.Spec PyProof.Rows L2
def top (i : Nat) : Stmt := PySem.Challenge.pw_latelink_k04_whole_walks.main.body.getD i (.Pass ⟨0, 0, 0, 0⟩)
abbrev s_Links_is_legal : Stmt := inClass (top 12) 11
abbrev s_check_operation : Stmt := top 14
abbrev s_Links_check : Stmt := inClass (top 12) 12
abbrev s_Links_apply_at : Stmt := inClass (top 12) 14
abbrev s_Links_apply : Stmt := inClass (top 12) 13
abbrev s_check_size : Stmt := top 13
abbrev s_Links___init__ : Stmt := inClass (top 12) 1
abbrev s_Links_copy : Stmt := inClass (top 12) 19
abbrev s_is_positive : Stmt := top 15
abbrev s__read_numbers : Stmt := top 18
abbrev s__read_lefts : Stmt := top 20
abbrev s__read_outs : Stmt := top 21
abbrev s__read_rights : Stmt := top 19
abbrev s_Links_read : Stmt := inClass (top 12) 2
abbrev s_Links_outs : Stmt := inClass (top 12) 10
abbrev s__joined : Stmt := top 17
abbrev s_dump_of : Stmt := top 16
abbrev s_Links_dump : Stmt := inClass (top 12) 21
abbrev s_Links_is_sound : Stmt := inClass (top 12) 17
abbrev s_Links___eq__ : Stmt := inClass (top 12) 5
abbrev s_Links_is_whole : Stmt := inClass (top 12) 18
abbrev s_Links_walk : Stmt := inClass (top 12) 15
abbrev s_Links_walk_back : Stmt := inClass (top 12) 16
abbrev s__law_dump : Stmt := top 37
abbrev s__law_is : Stmt := top 32
abbrev s__law_integers : Stmt := top 33
abbrev s_Links___contains__ : Stmt := inClass (top 12) 4
abbrev s__law_outs_right : Stmt := top 44
abbrev s__law_sound : Stmt := top 42
abbrev s__law_walked : Stmt := top 40
abbrev s__law_walked_back : Stmt := top 41
abbrev s__law_whole : Stmt := top 43
abbrev s__law_asked_right : Stmt := top 45
abbrev s__law_box : Stmt := top 30
abbrev s__law_draw : Stmt := top 31
abbrev s__law_opposite : Stmt := top 48
abbrev s__law_turned : Stmt := top 46
abbrev s__law_write : Stmt := top 38
abbrev s_Links_left : Stmt := inClass (top 12) 7
abbrev s_Links_right : Stmt := inClass (top 12) 8
abbrev s_mirrored : Stmt := top 24
abbrev s__law_mirror_right : Stmt := top 47
abbrev s__law_run : Stmt := top 39
abbrev s__check_operations : Stmt := top 27
abbrev s__on_node : Stmt := top 28
abbrev s_mirror : Stmt := top 26
abbrev s_play : Stmt := top 23
abbrev s__law_run_mirrored : Stmt := top 49
abbrev s__law_size : Stmt := top 34
abbrev s__law_bend : Stmt := top 36
abbrev s__law_world : Stmt := top 35
abbrev s_law : Stmt := top 50
abbrev s_BadDump___init__ : Stmt := inClass (top 8) 0
abbrev s_BadNode___init__ : Stmt := inClass (top 7) 0
abbrev s_BadSize___init__ : Stmt := inClass (top 6) 0
abbrev s_LogError___init__ : Stmt := inClass (top 3) 0
theorem sc_Links_is_legal : FnScope ["self", "operation"] ["self", "operation"] (defScope s_Links_is_legal) := ⟨rfl, rfl, rfl, by decide +kernel, rfl, by decide +kernel, by decide +kernel⟩
theorem sc_check_operation : FnScope ["size", "operation", "index"] ["size", "operation", "index"] (defScope s_check_operation) := ⟨rfl, rfl, rfl, by decide +kernel, rfl, by decide +kernel, by decide +kernel⟩
theorem sc_Links_check : FnScope ["self", "operation", "index"] ["self", "operation", "index"] (defScope s_Links_check) := ⟨rfl, rfl, rfl, by decide +kernel, rfl, by decide +kernel, by decide +kernel⟩
theorem sc_Links_apply_at : FnScope ["self", "operation", "index", "node", "low", "high", "is_unlink"] ["self", "operation", "index"] (defScope s_Links_apply_at) := ⟨rfl, rfl, rfl, by decide +kernel, rfl, by decide +kernel, by decide +kernel⟩
theorem sc_Links_apply : FnScope ["self", "operation"] ["self", "operation"] (defScope s_Links_apply) := ⟨rfl, rfl, rfl, by decide +kernel, rfl, by decide +kernel, by decide +kernel⟩
theorem sc_check_size : FnScope ["size"] ["size"] (defScope s_check_size) := ⟨rfl, rfl, rfl, by decide +kernel, rfl, by decide +kernel, by decide +kernel⟩
theorem sc_Links___init__ : FnScope ["self", "size"] ["self", "size"] (defScope s_Links___init__) := ⟨rfl, rfl, rfl, by decide +kernel, rfl, by decide +kernel, by decide +kernel⟩
theorem sc_Links_copy : FnScope ["self", "twin"] ["self"] (defScope s_Links_copy) := ⟨rfl, rfl, rfl, by decide +kernel, rfl, by decide +kernel, by decide +kernel⟩
theorem sc_is_positive : FnScope ["word", "letter"] ["word"] (defScope s_is_positive) := ⟨rfl, rfl, rfl, by decide +kernel, rfl, by decide +kernel, by decide +kernel⟩
theorem sc__read_numbers : FnScope ["text", "part", "words", "word"] ["text", "part"] (defScope s__read_numbers) := ⟨rfl, rfl, rfl, by decide +kernel, rfl, by decide +kernel, by decide +kernel⟩
theorem sc__read_lefts : FnScope ["text", "size", "lefts", "place", "link"] ["text", "size"] (defScope s__read_lefts) := ⟨rfl, rfl, rfl, by decide +kernel, rfl, by decide +kernel, by decide +kernel⟩
theorem sc__read_outs : FnScope ["text", "size", "outs", "bounds", "low", "high"] ["text", "size"] (defScope s__read_outs) := ⟨rfl, rfl, rfl, by decide +kernel, rfl, by decide +kernel, by decide +kernel⟩
theorem sc__read_rights : FnScope ["text", "rights", "size", "node", "link"] ["text"] (defScope s__read_rights) := ⟨rfl, rfl, rfl, by decide +kernel, rfl, by decide +kernel, by decide +kernel⟩
theorem sc_Links_read : FnScope ["text", "parts", "rights", "lefts", "outs", "right_links", "links", "node"] ["text"] (defScope s_Links_read) := ⟨rfl, rfl, rfl, by decide +kernel, rfl, by decide +kernel, by decide +kernel⟩
theorem sc_Links_outs : FnScope ["self", "node"] ["self"] (defScope s_Links_outs) := ⟨rfl, rfl, rfl, by decide +kernel, rfl, by decide +kernel, by decide +kernel⟩
theorem sc__joined : FnScope ["numbers", "number"] ["numbers"] (defScope s__joined) := ⟨rfl, rfl, rfl, by decide +kernel, rfl, by decide +kernel, by decide +kernel⟩
theorem sc_dump_of : FnScope ["rights", "lefts", "outs"] ["rights", "lefts", "outs"] (defScope s_dump_of) := ⟨rfl, rfl, rfl, by decide +kernel, rfl, by decide +kernel, by decide +kernel⟩
theorem sc_Links_dump : FnScope ["self"] ["self"] (defScope s_Links_dump) := ⟨rfl, rfl, rfl, by decide +kernel, rfl, by decide +kernel, by decide +kernel⟩
theorem sc_Links_is_sound : FnScope ["self", "present", "node", "low", "high"] ["self"] (defScope s_Links_is_sound) := ⟨rfl, rfl, rfl, by decide +kernel, rfl, by decide +kernel, by decide +kernel⟩
theorem sc_Links___eq__ : FnScope ["self", "other"] ["self", "other"] (defScope s_Links___eq__) := ⟨rfl, rfl, rfl, by decide +kernel, rfl, by decide +kernel, by decide +kernel⟩
theorem sc_Links_is_whole : FnScope ["self"] ["self"] (defScope s_Links_is_whole) := ⟨rfl, rfl, rfl, by decide +kernel, rfl, by decide +kernel, by decide +kernel⟩
theorem sc_Links_walk : GScope ["self", "node"] ["self"] (defScope s_Links_walk) := ⟨rfl, rfl, rfl, by decide +kernel, rfl, by decide +kernel, by decide +kernel⟩
theorem sc_Links_walk_back : GScope ["self", "node"] ["self"] (defScope s_Links_walk_back) := ⟨rfl, rfl, rfl, by decide +kernel, rfl, by decide +kernel, by decide +kernel⟩
theorem sc__law_dump : FnScope ["size", "rights", "lefts", "outs", "gone", "first", "second", "node"] ["size", "rights", "lefts", "outs"] (defScope s__law_dump) := ⟨rfl, rfl, rfl, by decide +kernel, rfl, by decide +kernel, by decide +kernel⟩
theorem sc__law_is : FnScope ["told", "due"] ["told", "due"] (defScope s__law_is) := ⟨rfl, rfl, rfl, by decide +kernel, rfl, by decide +kernel, by decide +kernel⟩
theorem sc__law_integers : FnScope ["told", "due", "k"] ["told", "due"] (defScope s__law_integers) := ⟨rfl, rfl, rfl, by decide +kernel, rfl, by decide +kernel, by decide +kernel⟩
theorem sc_Links___contains__ : FnScope ["self", "node"] ["self", "node"] (defScope s_Links___contains__) := ⟨rfl, rfl, rfl, by decide +kernel, rfl, by decide +kernel, by decide +kernel⟩
theorem sc__law_outs_right : FnScope ["links", "size", "outs", "due", "told", "node"] ["links", "size", "outs"] (defScope s__law_outs_right) := ⟨rfl, rfl, rfl, by decide +kernel, rfl, by decide +kernel, by decide +kernel⟩
theorem sc__law_sound : FnScope ["size", "rights", "lefts", "outs", "last", "node"] ["size", "rights", "lefts", "outs"] (defScope s__law_sound) := ⟨rfl, rfl, rfl, by decide +kernel, rfl, by decide +kernel, by decide +kernel⟩
theorem sc__law_walked : FnScope ["size", "rights", "seen", "node", "k"] ["size", "rights"] (defScope s__law_walked) := ⟨rfl, rfl, rfl, by decide +kernel, rfl, by decide +kernel, by decide +kernel⟩
theorem sc__law_walked_back : FnScope ["size", "lefts", "seen", "node", "k"] ["size", "lefts"] (defScope s__law_walked_back) := ⟨rfl, rfl, rfl, by decide +kernel, rfl, by decide +kernel, by decide +kernel⟩
theorem sc__law_whole : FnScope ["size", "rights", "lefts", "outs", "node"] ["size", "rights", "lefts", "outs"] (defScope s__law_whole) := ⟨rfl, rfl, rfl, by decide +kernel, rfl, by decide +kernel, by decide +kernel⟩
theorem sc__law_asked_right : FnScope ["links", "size", "rights", "lefts", "outs", "sound", "whole"] ["links", "size", "rights", "lefts", "outs"] (defScope s__law_asked_right) := ⟨rfl, rfl, rfl, by decide +kernel, rfl, by decide +kernel, by decide +kernel⟩
theorem sc__law_box : FnScope ["script"] ["script"] (defScope s__law_box) := ⟨rfl, rfl, rfl, by decide +kernel, rfl, by decide +kernel, by decide +kernel⟩
theorem sc__law_draw : FnScope ["box", "many", "cell", "digit", "mixed"] ["box", "many"] (defScope s__law_draw) := ⟨rfl, rfl, rfl, by decide +kernel, rfl, by decide +kernel, by decide +kernel⟩
theorem sc__law_opposite : FnScope ["size", "operation"] ["size", "operation"] (defScope s__law_opposite) := ⟨rfl, rfl, rfl, by decide +kernel, rfl, by decide +kernel, by decide +kernel⟩
theorem sc__law_turned : FnScope ["size", "world", "rights", "lefts", "outs", "node"] ["size", "world"] (defScope s__law_turned) := ⟨rfl, rfl, rfl, by decide +kernel, rfl, by decide +kernel, by decide +kernel⟩
theorem sc__law_write : FnScope ["rights", "lefts", "outs", "operation", "node", "low", "high"] ["rights", "lefts", "outs", "operation"] (defScope s__law_write) := ⟨rfl, rfl, rfl, by decide +kernel, rfl, by decide +kernel, by decide +kernel⟩
theorem sc_Links_left : FnScope ["self", "node"] ["self", "node"] (defScope s_Links_left) := ⟨rfl, rfl, rfl, by decide +kernel, rfl, by decide +kernel, by decide +kernel⟩
theorem sc_Links_right : FnScope ["self", "node"] ["self", "node"] (defScope s_Links_right) := ⟨rfl, rfl, rfl, by decide +kernel, rfl, by decide +kernel, by decide +kernel⟩
theorem sc_mirrored : FnScope ["links", "end", "rights", "lefts", "outs", "node"] ["links"] (defScope s_mirrored) := ⟨rfl, rfl, rfl, by decide +kernel, rfl, by decide +kernel, by decide +kernel⟩
theorem sc__law_mirror_right : FnScope ["links", "size", "world", "node", "due", "base", "other", "walk", "operation", "seen"] ["links", "size", "world", "node"] (defScope s__law_mirror_right) := ⟨rfl, rfl, rfl, by decide +kernel, rfl, by decide +kernel, by decide +kernel⟩
theorem sc__law_run : FnScope ["box", "size", "world", "run", "count", "outs", "node", "k"] ["box", "size", "world"] (defScope s__law_run) := ⟨rfl, rfl, rfl, by decide +kernel, rfl, by decide +kernel, by decide +kernel⟩
theorem sc__check_operations : FnScope ["size", "log", "index", "operation"] ["size", "log"] (defScope s__check_operations) := ⟨rfl, rfl, rfl, by decide +kernel, rfl, by decide +kernel, by decide +kernel⟩
theorem sc__on_node : FnScope ["operation", "node"] ["operation", "node"] (defScope s__on_node) := ⟨rfl, rfl, rfl, by decide +kernel, rfl, by decide +kernel, by decide +kernel⟩
theorem sc_mirror : FnScope ["size", "log", "operation"] ["size", "log"] (defScope s_mirror) := ⟨rfl, rfl, rfl, by decide +kernel, rfl, by decide +kernel, by decide +kernel⟩
theorem sc_play : FnScope ["links", "log", "after", "index", "operation"] ["links", "log"] (defScope s_play) := ⟨rfl, rfl, rfl, by decide +kernel, rfl, by decide +kernel, by decide +kernel⟩
theorem sc__law_run_mirrored : FnScope ["first", "size", "run", "last", "due", "given", "told", "led", "end", "operation"] ["first", "size", "run", "last"] (defScope s__law_run_mirrored) := ⟨rfl, rfl, rfl, by decide +kernel, rfl, by decide +kernel, by decide +kernel⟩
theorem sc__law_size : FnScope ["box", "kind"] ["box"] (defScope s__law_size) := ⟨rfl, rfl, rfl, by decide +kernel, rfl, by decide +kernel, by decide +kernel⟩
theorem sc__law_bend : FnScope ["box", "size", "rights", "lefts", "node", "kind"] ["box", "size", "rights", "lefts"] (defScope s__law_bend) := ⟨rfl, rfl, rfl, by decide +kernel, rfl, by decide +kernel, by decide +kernel⟩
theorem sc__law_world : FnScope ["box", "size", "style", "rights", "lefts", "outs", "node", "last"] ["box", "size"] (defScope s__law_world) := ⟨rfl, rfl, rfl, by decide +kernel, rfl, by decide +kernel, by decide +kernel⟩
theorem sc_law : FnScope ["script", "box", "size", "world", "run", "near", "rights", "lefts", "outs", "first", "links", "operation"] ["script"] (defScope s_law) := ⟨rfl, rfl, rfl, by decide +kernel, rfl, by decide +kernel, by decide +kernel⟩
theorem sc_BadDump___init__ : FnScope ["self", "part"] ["self", "part"] (defScope s_BadDump___init__) := ⟨rfl, rfl, rfl, by decide +kernel, rfl, by decide +kernel, by decide +kernel⟩
theorem sc_BadNode___init__ : FnScope ["self", "node"] ["self", "node"] (defScope s_BadNode___init__) := ⟨rfl, rfl, rfl, by decide +kernel, rfl, by decide +kernel, by decide +kernel⟩
theorem sc_BadSize___init__ : FnScope ["self", "size"] ["self", "size"] (defScope s_BadSize___init__) := ⟨rfl, rfl, rfl, by decide +kernel, rfl, by decide +kernel, by decide +kernel⟩
theorem sc_LogError___init__ : FnScope ["self", "operation", "index"] ["self", "operation", "index"] (defScope s_LogError___init__) := ⟨rfl, rfl, rfl, by decide +kernel, rfl, by decide +kernel, by decide +kernel⟩
def d_Links_is_legal : He5.DefA := ⟨fun K => He.fAd K ("Links", some "is_legal"), "is_legal", "Links.is_legal", defArgs s_Links_is_legal, defBody s_Links_is_legal, defScope s_Links_is_legal, [], []⟩
def d_check_operation : He5.DefA := ⟨fun K => He.fAd K ("check_operation", none), "check_operation", "check_operation", defArgs s_check_operation, defBody s_check_operation, defScope s_check_operation, [], []⟩
def d_Links_check : He5.DefA := ⟨fun K => He.fAd K ("Links", some "check"), "check", "Links.check", defArgs s_Links_check, defBody s_Links_check, defScope s_Links_check, [], []⟩
def d_Links_apply_at : He5.DefA := ⟨fun K => He.fAd K ("Links", some "apply_at"), "apply_at", "Links.apply_at", defArgs s_Links_apply_at, defBody s_Links_apply_at, defScope s_Links_apply_at, [], []⟩
def d_Links_apply : He5.DefA := ⟨fun K => He.fAd K ("Links", some "apply"), "apply", "Links.apply", defArgs s_Links_apply, defBody s_Links_apply, defScope s_Links_apply, [], []⟩
def d_check_size : He5.DefA := ⟨fun K => He.fAd K ("check_size", none), "check_size", "check_size", defArgs s_check_size, defBody s_check_size, defScope s_check_size, [], []⟩
def d_Links___init__ : He5.DefA := ⟨fun K => He.fAd K ("Links", some "__init__"), "__init__", "Links.__init__", defArgs s_Links___init__, defBody s_Links___init__, defScope s_Links___init__, [], []⟩
def d_Links_copy : He5.DefA := ⟨fun K => He.fAd K ("Links", some "copy"), "copy", "Links.copy", defArgs s_Links_copy, defBody s_Links_copy, defScope s_Links_copy, [], []⟩
def d_is_positive : He5.DefA := ⟨fun K => He.fAd K ("is_positive", none), "is_positive", "is_positive", defArgs s_is_positive, defBody s_is_positive, defScope s_is_positive, [], []⟩
def d__read_numbers : He5.DefA := ⟨fun K => He.fAd K ("_read_numbers", none), "_read_numbers", "_read_numbers", defArgs s__read_numbers, defBody s__read_numbers, defScope s__read_numbers, [], []⟩
def d__read_lefts : He5.DefA := ⟨fun K => He.fAd K ("_read_lefts", none), "_read_lefts", "_read_lefts", defArgs s__read_lefts, defBody s__read_lefts, defScope s__read_lefts, [], []⟩
def d__read_outs : He5.DefA := ⟨fun K => He.fAd K ("_read_outs", none), "_read_outs", "_read_outs", defArgs s__read_outs, defBody s__read_outs, defScope s__read_outs, [], []⟩
def d__read_rights : He5.DefA := ⟨fun K => He.fAd K ("_read_rights", none), "_read_rights", "_read_rights", defArgs s__read_rights, defBody s__read_rights, defScope s__read_rights, [], []⟩
def d_Links_read : He5.DefA := ⟨fun K => He5.wf K (He.ga K "Links") "staticmethod" "read", "read", "Links.read", defArgs s_Links_read, defBody s_Links_read, defScope s_Links_read, [], []⟩
def d_Links_outs : He5.DefA := ⟨fun K => He.fAd K ("Links", some "outs"), "outs", "Links.outs", defArgs s_Links_outs, defBody s_Links_outs, defScope s_Links_outs, [], []⟩
def d__joined : He5.DefA := ⟨fun K => He.fAd K ("_joined", none), "_joined", "_joined", defArgs s__joined, defBody s__joined, defScope s__joined, [], []⟩
def d_dump_of : He5.DefA := ⟨fun K => He.fAd K ("dump_of", none), "dump_of", "dump_of", defArgs s_dump_of, defBody s_dump_of, defScope s_dump_of, [], []⟩
def d_Links_dump : He5.DefA := ⟨fun K => He.fAd K ("Links", some "dump"), "dump", "Links.dump", defArgs s_Links_dump, defBody s_Links_dump, defScope s_Links_dump, [], []⟩
def d_Links_is_sound : He5.DefA := ⟨fun K => He.fAd K ("Links", some "is_sound"), "is_sound", "Links.is_sound", defArgs s_Links_is_sound, defBody s_Links_is_sound, defScope s_Links_is_sound, [], []⟩
def d_Links___eq__ : He5.DefA := ⟨fun K => He.fAd K ("Links", some "__eq__"), "__eq__", "Links.__eq__", defArgs s_Links___eq__, defBody s_Links___eq__, defScope s_Links___eq__, [], []⟩
def d_Links_is_whole : He5.DefA := ⟨fun K => He.fAd K ("Links", some "is_whole"), "is_whole", "Links.is_whole", defArgs s_Links_is_whole, defBody s_Links_is_whole, defScope s_Links_is_whole, [], []⟩
def d_Links_walk : He5.DefA := ⟨fun K => He.fAd K ("Links", some "walk"), "walk", "Links.walk", defArgs s_Links_walk, defBody s_Links_walk, defScope s_Links_walk, [], []⟩
def d_Links_walk_back : He5.DefA := ⟨fun K => He.fAd K ("Links", some "walk_back"), "walk_back", "Links.walk_back", defArgs s_Links_walk_back, defBody s_Links_walk_back, defScope s_Links_walk_back, [], []⟩
def d__law_dump : He5.DefA := ⟨fun K => He.fAd K ("_law_dump", none), "_law_dump", "_law_dump", defArgs s__law_dump, defBody s__law_dump, defScope s__law_dump, [], []⟩
def d__law_is : He5.DefA := ⟨fun K => He.fAd K ("_law_is", none), "_law_is", "_law_is", defArgs s__law_is, defBody s__law_is, defScope s__law_is, [], []⟩
def d__law_integers : He5.DefA := ⟨fun K => He.fAd K ("_law_integers", none), "_law_integers", "_law_integers", defArgs s__law_integers, defBody s__law_integers, defScope s__law_integers, [], []⟩
def d_Links___contains__ : He5.DefA := ⟨fun K => He.fAd K ("Links", some "__contains__"), "__contains__", "Links.__contains__", defArgs s_Links___contains__, defBody s_Links___contains__, defScope s_Links___contains__, [], []⟩
def d__law_outs_right : He5.DefA := ⟨fun K => He.fAd K ("_law_outs_right", none), "_law_outs_right", "_law_outs_right", defArgs s__law_outs_right, defBody s__law_outs_right, defScope s__law_outs_right, [], []⟩
def d__law_sound : He5.DefA := ⟨fun K => He.fAd K ("_law_sound", none), "_law_sound", "_law_sound", defArgs s__law_sound, defBody s__law_sound, defScope s__law_sound, [], []⟩
def d__law_walked : He5.DefA := ⟨fun K => He.fAd K ("_law_walked", none), "_law_walked", "_law_walked", defArgs s__law_walked, defBody s__law_walked, defScope s__law_walked, [], []⟩
def d__law_walked_back : He5.DefA := ⟨fun K => He.fAd K ("_law_walked_back", none), "_law_walked_back", "_law_walked_back", defArgs s__law_walked_back, defBody s__law_walked_back, defScope s__law_walked_back, [], []⟩
def d__law_whole : He5.DefA := ⟨fun K => He.fAd K ("_law_whole", none), "_law_whole", "_law_whole", defArgs s__law_whole, defBody s__law_whole, defScope s__law_whole, [], []⟩
def d__law_asked_right : He5.DefA := ⟨fun K => He.fAd K ("_law_asked_right", none), "_law_asked_right", "_law_asked_right", defArgs s__law_asked_right, defBody s__law_asked_right, defScope s__law_asked_right, [], []⟩
def d__law_box : He5.DefA := ⟨fun K => He.fAd K ("_law_box", none), "_law_box", "_law_box", defArgs s__law_box, defBody s__law_box, defScope s__law_box, [], []⟩
def d__law_draw : He5.DefA := ⟨fun K => He.fAd K ("_law_draw", none), "_law_draw", "_law_draw", defArgs s__law_draw, defBody s__law_draw, defScope s__law_draw, [], []⟩
def d__law_opposite : He5.DefA := ⟨fun K => He.fAd K ("_law_opposite", none), "_law_opposite", "_law_opposite", defArgs s__law_opposite, defBody s__law_opposite, defScope s__law_opposite, [], []⟩
def d__law_turned : He5.DefA := ⟨fun K => He.fAd K ("_law_turned", none), "_law_turned", "_law_turned", defArgs s__law_turned, defBody s__law_turned, defScope s__law_turned, [], []⟩
def d__law_write : He5.DefA := ⟨fun K => He.fAd K ("_law_write", none), "_law_write", "_law_write", defArgs s__law_write, defBody s__law_write, defScope s__law_write, [], []⟩
def d_Links_left : He5.DefA := ⟨fun K => He.fAd K ("Links", some "left"), "left", "Links.left", defArgs s_Links_left, defBody s_Links_left, defScope s_Links_left, [], []⟩
def d_Links_right : He5.DefA := ⟨fun K => He.fAd K ("Links", some "right"), "right", "Links.right", defArgs s_Links_right, defBody s_Links_right, defScope s_Links_right, [], []⟩
def d_mirrored : He5.DefA := ⟨fun K => He.fAd K ("mirrored", none), "mirrored", "mirrored", defArgs s_mirrored, defBody s_mirrored, defScope s_mirrored, [], []⟩
def d__law_mirror_right : He5.DefA := ⟨fun K => He.fAd K ("_law_mirror_right", none), "_law_mirror_right", "_law_mirror_right", defArgs s__law_mirror_right, defBody s__law_mirror_right, defScope s__law_mirror_right, [], []⟩
def d__law_run : He5.DefA := ⟨fun K => He.fAd K ("_law_run", none), "_law_run", "_law_run", defArgs s__law_run, defBody s__law_run, defScope s__law_run, [], []⟩
def d__check_operations : He5.DefA := ⟨fun K => He.fAd K ("_check_operations", none), "_check_operations", "_check_operations", defArgs s__check_operations, defBody s__check_operations, defScope s__check_operations, [], []⟩
def d__on_node : He5.DefA := ⟨fun K => He.fAd K ("_on_node", none), "_on_node", "_on_node", defArgs s__on_node, defBody s__on_node, defScope s__on_node, [], []⟩
def d_mirror : He5.DefA := ⟨fun K => He.fAd K ("mirror", none), "mirror", "mirror", defArgs s_mirror, defBody s_mirror, defScope s_mirror, [], []⟩
def d_play : He5.DefA := ⟨fun K => He.fAd K ("play", none), "play", "play", defArgs s_play, defBody s_play, defScope s_play, [], []⟩
def d__law_run_mirrored : He5.DefA := ⟨fun K => He.fAd K ("_law_run_mirrored", none), "_law_run_mirrored", "_law_run_mirrored", defArgs s__law_run_mirrored, defBody s__law_run_mirrored, defScope s__law_run_mirrored, [], []⟩
def d__law_size : He5.DefA := ⟨fun K => He.fAd K ("_law_size", none), "_law_size", "_law_size", defArgs s__law_size, defBody s__law_size, defScope s__law_size, [], []⟩
def d__law_bend : He5.DefA := ⟨fun K => He.fAd K ("_law_bend", none), "_law_bend", "_law_bend", defArgs s__law_bend, defBody s__law_bend, defScope s__law_bend, [], []⟩
def d__law_world : He5.DefA := ⟨fun K => He.fAd K ("_law_world", none), "_law_world", "_law_world", defArgs s__law_world, defBody s__law_world, defScope s__law_world, [], []⟩
def d_law : He5.DefA := ⟨fun K => He.fAd K ("law", none), "law", "law", defArgs s_law, defBody s_law, defScope s_law, [], []⟩
def d_BadDump___init__ : He5.DefA := ⟨fun K => He.fAd K ("BadDump", some "__init__"), "__init__", "BadDump.__init__", defArgs s_BadDump___init__, defBody s_BadDump___init__, defScope s_BadDump___init__, [], []⟩
def d_BadNode___init__ : He5.DefA := ⟨fun K => He.fAd K ("BadNode", some "__init__"), "__init__", "BadNode.__init__", defArgs s_BadNode___init__, defBody s_BadNode___init__, defScope s_BadNode___init__, [], []⟩
def d_BadSize___init__ : He5.DefA := ⟨fun K => He.fAd K ("BadSize", some "__init__"), "__init__", "BadSize.__init__", defArgs s_BadSize___init__, defBody s_BadSize___init__, defScope s_BadSize___init__, [], []⟩
def d_LogError___init__ : He5.DefA := ⟨fun K => He.fAd K ("LogError", some "__init__"), "__init__", "LogError.__init__", defArgs s_LogError___init__, defBody s_LogError___init__, defScope s_LogError___init__, [], []⟩
def fnL : List He5.DefA := [d_Links_is_legal, d_check_operation, d_Links_check, d_Links_apply_at, d_Links_apply, d_check_size, d_Links___init__, d_Links_copy, d_is_positive, d__read_numbers, d__read_lefts, d__read_outs, d__read_rights, d_Links_read, d_Links_outs, d__joined, d_dump_of, d_Links_dump, d_Links_is_sound, d_Links___eq__, d_Links_is_whole, d_Links_walk, d_Links_walk_back, d__law_dump, d__law_is, d__law_integers, d_Links___contains__, d__law_outs_right, d__law_sound, d__law_walked, d__law_walked_back, d__law_whole, d__law_asked_right, d__law_box, d__law_draw, d__law_opposite, d__law_turned, d__law_write, d_Links_left, d_Links_right, d_mirrored, d__law_mirror_right, d__law_run, d__check_operations, d__on_node, d_mirror, d_play, d__law_run_mirrored, d__law_size, d__law_bend, d__law_world, d_law, d_BadDump___init__, d_BadNode___init__, d_BadSize___init__, d_LogError___init__]
def chkL : List Chk := [fa_ (.glo "LinkError"),
  fa_ (.glo "LogError"),
  fa_ (.glo "BadOperation"),
  fa_ (.glo "Illegal"),
  fa_ (.glo "BadSize"),
  fa_ (.glo "BadNode"),
  fa_ (.glo "BadDump"),
  fa_ (.glo "Links"),
  fa_ (.glo "check_operation"),
  fa_ (.glo "check_size"),
  fa_ (.glo "is_positive"),
  fa_ (.glo "_read_numbers"),
  fa_ (.glo "_read_lefts"),
  fa_ (.glo "_read_outs"),
  fa_ (.glo "_read_rights"),
  fa_ (.glo "_joined"),
  fa_ (.glo "dump_of"),
  fa_ (.glo "_law_dump"),
  fa_ (.glo "_law_is"),
  fa_ (.glo "_law_integers"),
  fa_ (.glo "_law_outs_right"),
  fa_ (.glo "_law_sound"),
  fa_ (.glo "_law_walked"),
  fa_ (.glo "_law_walked_back"),
  fa_ (.glo "_law_whole"),
  fa_ (.glo "_law_asked_right"),
  fa_ (.glo "_law_box"),
  fa_ (.glo "_law_draw"),
  fa_ (.glo "_law_opposite"),
  fa_ (.glo "_law_turned"),
  fa_ (.glo "_law_write"),
  fa_ (.glo "mirrored"),
  fa_ (.glo "_law_mirror_right"),
  fa_ (.glo "_law_run"),
  fa_ (.glo "_check_operations"),
  fa_ (.glo "_on_node"),
  fa_ (.glo "mirror"),
  fa_ (.glo "play"),
  fa_ (.glo "_law_run_mirrored"),
  fa_ (.glo "_law_size"),
  fa_ (.glo "_law_bend"),
  fa_ (.glo "_law_world"),
  fa_ (.glo "law"),
  fa_ (.free "ValueError"),
  fa_ (.free "abs"),
  fa_ (.free "all"),
  fa_ (.free "bool"),
  fa_ (.free "enumerate"),
  fa_ (.free "int"),
  fa_ (.free "isinstance"),
  fa_ (.free "len"),
  fa_ (.free "list"),
  fa_ (.free "max"),
  fa_ (.free "min"),
  fa_ (.free "range"),
  fa_ (.free "reversed"),
  fa_ (.free "str"),
  fa_ (.free "tuple"),
  fa_ (.free "zip"),
  fa_ (.str "DIGITS" "0123456789"),
  fa_ (.int "MOST_DIGITS" 9),
  ccB "Links" "MOST" 60,
  fa_ (.cls "Links"),
  tyB "Links",
  frB "Links" "str",
  frB "Links" "int",
  fa_ (.noat "Links" "_lefts"),
  fa_ (.noat "Links" "_out"),
  fa_ (.noat "Links" "_rights"),
  fa_ (.noat "Links" "size"),
  fa_ (.meth "Links" "is_legal"),
  fa_ (.meth "Links" "check"),
  fa_ (.meth "Links" "apply_at"),
  fa_ (.meth "Links" "apply"),
  fa_ (.mkr "Links"),
  fa_ (.meth "Links" "copy"),
  smB "Links" "read",
  fa_ (.meth "Links" "outs"),
  fa_ (.meth "Links" "dump"),
  fa_ (.meth "Links" "is_sound"),
  fa_ (.meth "Links" "__eq__"),
  fa_ (.meth "Links" "is_whole"),
  fa_ (.meth "Links" "walk"),
  fa_ (.meth "Links" "walk_back"),
  fa_ (.meth "Links" "__contains__"),
  fa_ (.meth "Links" "left"),
  fa_ (.meth "Links" "right"),
  askB "BadDump",
  askB "BadNode",
  askB "BadOperation",
  askB "BadSize",
  askB "Illegal",
  askB "LinkError",
  askB "LogError",
  excB "BadDump" ["part"],
  iniB "BadDump",
  kitB2 "BadDump" "BadDump" true,
  kitB2 "BadDump" "BadNode" false,
  kitB2 "BadDump" "BadOperation" false,
  kitB2 "BadDump" "BadSize" false,
  kitB2 "BadDump" "Illegal" false,
  kitB2 "BadDump" "LinkError" true,
  kitB2 "BadDump" "LogError" false,
  kitT2 "BadDump" "ValueError" true,
  excB "BadNode" ["node"],
  iniB "BadNode",
  kitB2 "BadNode" "BadDump" false,
  kitB2 "BadNode" "BadNode" true,
  kitB2 "BadNode" "BadOperation" false,
  kitB2 "BadNode" "BadSize" false,
  kitB2 "BadNode" "Illegal" false,
  kitB2 "BadNode" "LinkError" true,
  kitB2 "BadNode" "LogError" false,
  kitT2 "BadNode" "ValueError" true,
  excB "BadOperation" ["operation", "index"],
  iniB "BadOperation",
  (fun K => decide (He.ma K (He.ga K "BadOperation") "__init__" = He.ma K (He.ga K "LogError") "__init__")),
  kitB2 "BadOperation" "BadDump" false,
  kitB2 "BadOperation" "BadNode" false,
  kitB2 "BadOperation" "BadOperation" true,
  kitB2 "BadOperation" "BadSize" false,
  kitB2 "BadOperation" "Illegal" false,
  kitB2 "BadOperation" "LinkError" true,
  kitB2 "BadOperation" "LogError" true,
  kitT2 "BadOperation" "ValueError" true,
  excB "BadSize" ["size"],
  iniB "BadSize",
  kitB2 "BadSize" "BadDump" false,
  kitB2 "BadSize" "BadNode" false,
  kitB2 "BadSize" "BadOperation" false,
  kitB2 "BadSize" "BadSize" true,
  kitB2 "BadSize" "Illegal" false,
  kitB2 "BadSize" "LinkError" true,
  kitB2 "BadSize" "LogError" false,
  kitT2 "BadSize" "ValueError" true,
  excB "Illegal" ["operation", "index"],
  iniB "Illegal",
  (fun K => decide (He.ma K (He.ga K "Illegal") "__init__" = He.ma K (He.ga K "LogError") "__init__")),
  kitB2 "Illegal" "BadDump" false,
  kitB2 "Illegal" "BadNode" false,
  kitB2 "Illegal" "BadOperation" false,
  kitB2 "Illegal" "BadSize" false,
  kitB2 "Illegal" "Illegal" true,
  kitB2 "Illegal" "LinkError" true,
  kitB2 "Illegal" "LogError" true,
  kitT2 "Illegal" "ValueError" true]
abbrev R : PySem.W.OpenRow := PySem.W.OpenLaw.row PySem.Challenge.rw_latelink_k04_whole_walks
abbrev hk : PySem.W.Hook := hookY 6 chkL fnL
def ob (s : PySem.W.SharedT) : He.AlD := obsYG 6 chkL fnL (HandSHeadRun.getT s)
theorem ob_eq (s : PySem.W.SharedT) : ob s = hk.obs s.abs := obsYG_eq (HandSHeadRun.getT_eq s)
def loose0 : List Str := ["_wall", "__name__", "LinkError", "LogError", "BadOperation", "Illegal", "BadSize", "BadNode", "BadDump", "DIGITS", "MOST_DIGITS", "Links", "check_size", "check_operation", "is_positive", "dump_of", "_joined", "_read_numbers", "_read_rights", "_read_lefts"]
def loose1 : List Str := ["_read_outs", "play", "mirrored", "mirror", "_check_operations", "_on_node", "_law_box", "_law_draw", "_law_is", "_law_integers", "_law_size", "_law_world", "_law_bend", "_law_dump", "_law_write", "_law_run", "_law_walked", "_law_walked_back", "_law_sound", "_law_whole"]
def loose2 : List Str := ["_law_outs_right", "_law_asked_right", "_law_turned", "_law_mirror_right", "_law_opposite", "_law_run_mirrored"]
def loose : List Str := loose0 ++ loose1 ++ loose2
set_option maxHeartbeats 0 in
theorem run (w : World) : HandSHeadRun.RunEq R (PySem.W.view R.prog [50]) hk ob 8000 loose w := by
  intro os
  kernel_rfl
/-- what the top has written -/
structure Txt (K : PySem.W.Frag) (mg : Str → Option Value) : Prop where
  g_LinkError : mg "LinkError" = some (.ref (He.ga K "LinkError"))
  g_LogError : mg "LogError" = some (.ref (He.ga K "LogError"))
  g_BadOperation : mg "BadOperation" = some (.ref (He.ga K "BadOperation"))
  g_Illegal : mg "Illegal" = some (.ref (He.ga K "Illegal"))
  g_BadSize : mg "BadSize" = some (.ref (He.ga K "BadSize"))
  g_BadNode : mg "BadNode" = some (.ref (He.ga K "BadNode"))
  g_BadDump : mg "BadDump" = some (.ref (He.ga K "BadDump"))
  g_Links : mg "Links" = some (.ref (He.ga K "Links"))
  gf_check_operation : mg "check_operation" = some (.ref (He.ga K "check_operation"))
  gf_check_size : mg "check_size" = some (.ref (He.ga K "check_size"))
  gf_is_positive : mg "is_positive" = some (.ref (He.ga K "is_positive"))
  gf__read_numbers : mg "_read_numbers" = some (.ref (He.ga K "_read_numbers"))
  gf__read_lefts : mg "_read_lefts" = some (.ref (He.ga K "_read_lefts"))
  gf__read_outs : mg "_read_outs" = some (.ref (He.ga K "_read_outs"))
  gf__read_rights : mg "_read_rights" = some (.ref (He.ga K "_read_rights"))
  gf__joined : mg "_joined" = some (.ref (He.ga K "_joined"))
  gf_dump_of : mg "dump_of" = some (.ref (He.ga K "dump_of"))
  gf__law_dump : mg "_law_dump" = some (.ref (He.ga K "_law_dump"))
  gf__law_is : mg "_law_is" = some (.ref (He.ga K "_law_is"))
  gf__law_integers : mg "_law_integers" = some (.ref (He.ga K "_law_integers"))
  gf__law_outs_right : mg "_law_outs_right" = some (.ref (He.ga K "_law_outs_right"))
  gf__law_sound : mg "_law_sound" = some (.ref (He.ga K "_law_sound"))
  gf__law_walked : mg "_law_walked" = some (.ref (He.ga K "_law_walked"))
  gf__law_walked_back : mg "_law_walked_back" = some (.ref (He.ga K "_law_walked_back"))
  gf__law_whole : mg "_law_whole" = some (.ref (He.ga K "_law_whole"))
  gf__law_asked_right : mg "_law_asked_right" = some (.ref (He.ga K "_law_asked_right"))
  gf__law_box : mg "_law_box" = some (.ref (He.ga K "_law_box"))
  gf__law_draw : mg "_law_draw" = some (.ref (He.ga K "_law_draw"))
  gf__law_opposite : mg "_law_opposite" = some (.ref (He.ga K "_law_opposite"))
  gf__law_turned : mg "_law_turned" = some (.ref (He.ga K "_law_turned"))
  gf__law_write : mg "_law_write" = some (.ref (He.ga K "_law_write"))
  gf_mirrored : mg "mirrored" = some (.ref (He.ga K "mirrored"))
  gf__law_mirror_right : mg "_law_mirror_right" = some (.ref (He.ga K "_law_mirror_right"))
  gf__law_run : mg "_law_run" = some (.ref (He.ga K "_law_run"))
  gf__check_operations : mg "_check_operations" = some (.ref (He.ga K "_check_operations"))
  gf__on_node : mg "_on_node" = some (.ref (He.ga K "_on_node"))
  gf_mirror : mg "mirror" = some (.ref (He.ga K "mirror"))
  gf_play : mg "play" = some (.ref (He.ga K "play"))
  gf__law_run_mirrored : mg "_law_run_mirrored" = some (.ref (He.ga K "_law_run_mirrored"))
  gf__law_size : mg "_law_size" = some (.ref (He.ga K "_law_size"))
  gf__law_bend : mg "_law_bend" = some (.ref (He.ga K "_law_bend"))
  gf__law_world : mg "_law_world" = some (.ref (He.ga K "_law_world"))
  gf_law : mg "law" = some (.ref (He.ga K "law"))
  b_ValueError : mg "ValueError" = none
  b_abs : mg "abs" = none
  b_all : mg "all" = none
  b_bool : mg "bool" = none
  b_enumerate : mg "enumerate" = none
  b_int : mg "int" = none
  b_isinstance : mg "isinstance" = none
  b_len : mg "len" = none
  b_list : mg "list" = none
  b_max : mg "max" = none
  b_min : mg "min" = none
  b_range : mg "range" = none
  b_reversed : mg "reversed" = none
  b_str : mg "str" = none
  b_tuple : mg "tuple" = none
  b_zip : mg "zip" = none
  k_DIGITS : ∃ t, mg "DIGITS" = some (.str "0123456789" t)
  k_MOST_DIGITS : ∃ t, mg "MOST_DIGITS" = some (.int 9 t)
  cc_Links_MOST : ∃ mc u, ClX.CRead K (He.ga K "Links") mc ∧ ClX.CVal K (He.ga K "Links") mc "MOST" (.int 60) u
  cl_Links : Cls K (He.ga K "Links")
  ty_Links : PySem.W.findIn K (.ref (He.ga K "Links")) "__class__" = some (some (.builtin "object.__class__")) ∧ PySem.W.mroIn K (He.ga K "Links") (.type "object") = some true
  fr_Links_str : PySem.W.notFirst K (He.ga K "Links") (.type "str") = true ∧ PySem.W.kitOne K (.type "str") (.ref (He.ga K "Links")) = some false
  fr_Links_int : PySem.W.notFirst K (He.ga K "Links") (.type "int") = true ∧ PySem.W.kitOne K (.type "int") (.ref (He.ga K "Links")) = some false
  na_Links__lefts : NoAttr K (He.ga K "Links") "_lefts"
  na_Links__out : NoAttr K (He.ga K "Links") "_out"
  na_Links__rights : NoAttr K (He.ga K "Links") "_rights"
  na_Links_size : NoAttr K (He.ga K "Links") "size"
  me_Links_is_legal : Meth K (He.ga K "Links") "is_legal" (He.ma K (He.ga K "Links") "is_legal")
  me_Links_check : Meth K (He.ga K "Links") "check" (He.ma K (He.ga K "Links") "check")
  me_Links_apply_at : Meth K (He.ga K "Links") "apply_at" (He.ma K (He.ga K "Links") "apply_at")
  me_Links_apply : Meth K (He.ga K "Links") "apply" (He.ma K (He.ga K "Links") "apply")
  mk_Links : Mk K (He.ga K "Links") (He.ma K (He.ga K "Links") "__init__")
  me_Links_copy : Meth K (He.ga K "Links") "copy" (He.ma K (He.ga K "Links") "copy")
  sm_Links_read : ClX.CRead K (He.ga K "Links") (.type "type") ∧ ∃ (p : Addr) (rest : List Value), PySem.W.findCls K (.ref (He.ga K "Links")) (.type "type") "read" = some (.get (.builtin "staticmethod.__get__") (.ref p) .none (.ref (He.ga K "Links"))) ∧ PySem.W.recIn K p "staticmethod" = some (.ref (He5.wf K (He.ga K "Links") "staticmethod" "read") :: rest)
  me_Links_outs : Meth K (He.ga K "Links") "outs" (He.ma K (He.ga K "Links") "outs")
  me_Links_dump : Meth K (He.ga K "Links") "dump" (He.ma K (He.ga K "Links") "dump")
  me_Links_is_sound : Meth K (He.ga K "Links") "is_sound" (He.ma K (He.ga K "Links") "is_sound")
  me_Links___eq__ : Meth K (He.ga K "Links") "__eq__" (He.ma K (He.ga K "Links") "__eq__")
  me_Links_is_whole : Meth K (He.ga K "Links") "is_whole" (He.ma K (He.ga K "Links") "is_whole")
  me_Links_walk : Meth K (He.ga K "Links") "walk" (He.ma K (He.ga K "Links") "walk")
  me_Links_walk_back : Meth K (He.ga K "Links") "walk_back" (He.ma K (He.ga K "Links") "walk_back")
  me_Links___contains__ : Meth K (He.ga K "Links") "__contains__" (He.ma K (He.ga K "Links") "__contains__")
  me_Links_left : Meth K (He.ga K "Links") "left" (He.ma K (He.ga K "Links") "left")
  me_Links_right : Meth K (He.ga K "Links") "right" (He.ma K (He.ga K "Links") "right")
  ex_BadDump : ExK K (He.ga K "BadDump")
  ex_BadNode : ExK K (He.ga K "BadNode")
  ex_BadOperation : ExK K (He.ga K "BadOperation")
  ex_BadSize : ExK K (He.ga K "BadSize")
  ex_Illegal : ExK K (He.ga K "Illegal")
  ex_LinkError : ExK K (He.ga K "LinkError")
  ex_LogError : ExK K (He.ga K "LogError")
  oe_BadDump : OexC K (He.ga K "BadDump") ∧ ∀ f ∈ (["part"] : List Str), PySem.W.findIn K (.ref (He.ga K "BadDump")) f = some none
  in_BadDump : PySem.W.findIn K (.ref (He.ga K "BadDump")) "__init__" = some (some (.ref (He.ma K (He.ga K "BadDump") "__init__"))) ∧ PySem.W.typeIn K (.ref (He.ma K (He.ga K "BadDump") "__init__")) = some (.type "function")
  kit_BadDump_BadDump : PySem.W.kitOne K (.ref (He.ga K "BadDump")) (.ref (He.ga K "BadDump")) = some true
  kit_BadDump_BadNode : PySem.W.kitOne K (.ref (He.ga K "BadDump")) (.ref (He.ga K "BadNode")) = some false
  kit_BadDump_BadOperation : PySem.W.kitOne K (.ref (He.ga K "BadDump")) (.ref (He.ga K "BadOperation")) = some false
  kit_BadDump_BadSize : PySem.W.kitOne K (.ref (He.ga K "BadDump")) (.ref (He.ga K "BadSize")) = some false
  kit_BadDump_Illegal : PySem.W.kitOne K (.ref (He.ga K "BadDump")) (.ref (He.ga K "Illegal")) = some false
  kit_BadDump_LinkError : PySem.W.kitOne K (.ref (He.ga K "BadDump")) (.ref (He.ga K "LinkError")) = some true
  kit_BadDump_LogError : PySem.W.kitOne K (.ref (He.ga K "BadDump")) (.ref (He.ga K "LogError")) = some false
  kit_BadDump_ValueError : PySem.W.kitOne K (.ref (He.ga K "BadDump")) (.type "ValueError") = some true
  oe_BadNode : OexC K (He.ga K "BadNode") ∧ ∀ f ∈ (["node"] : List Str), PySem.W.findIn K (.ref (He.ga K "BadNode")) f = some none
  in_BadNode : PySem.W.findIn K (.ref (He.ga K "BadNode")) "__init__" = some (some (.ref (He.ma K (He.ga K "BadNode") "__init__"))) ∧ PySem.W.typeIn K (.ref (He.ma K (He.ga K "BadNode") "__init__")) = some (.type "function")
  kit_BadNode_BadDump : PySem.W.kitOne K (.ref (He.ga K "BadNode")) (.ref (He.ga K "BadDump")) = some false
  kit_BadNode_BadNode : PySem.W.kitOne K (.ref (He.ga K "BadNode")) (.ref (He.ga K "BadNode")) = some true
  kit_BadNode_BadOperation : PySem.W.kitOne K (.ref (He.ga K "BadNode")) (.ref (He.ga K "BadOperation")) = some false
  kit_BadNode_BadSize : PySem.W.kitOne K (.ref (He.ga K "BadNode")) (.ref (He.ga K "BadSize")) = some false
  kit_BadNode_Illegal : PySem.W.kitOne K (.ref (He.ga K "BadNode")) (.ref (He.ga K "Illegal")) = some false
  kit_BadNode_LinkError : PySem.W.kitOne K (.ref (He.ga K "BadNode")) (.ref (He.ga K "LinkError")) = some true
  kit_BadNode_LogError : PySem.W.kitOne K (.ref (He.ga K "BadNode")) (.ref (He.ga K "LogError")) = some false
  kit_BadNode_ValueError : PySem.W.kitOne K (.ref (He.ga K "BadNode")) (.type "ValueError") = some true
  oe_BadOperation : OexC K (He.ga K "BadOperation") ∧ ∀ f ∈ (["operation", "index"] : List Str), PySem.W.findIn K (.ref (He.ga K "BadOperation")) f = some none
  in_BadOperation : PySem.W.findIn K (.ref (He.ga K "BadOperation")) "__init__" = some (some (.ref (He.ma K (He.ga K "BadOperation") "__init__"))) ∧ PySem.W.typeIn K (.ref (He.ma K (He.ga K "BadOperation") "__init__")) = some (.type "function")
  sm_BadOperation : He.ma K (He.ga K "BadOperation") "__init__" = He.ma K (He.ga K "LogError") "__init__"
  kit_BadOperation_BadDump : PySem.W.kitOne K (.ref (He.ga K "BadOperation")) (.ref (He.ga K "BadDump")) = some false
  kit_BadOperation_BadNode : PySem.W.kitOne K (.ref (He.ga K "BadOperation")) (.ref (He.ga K "BadNode")) = some false
  kit_BadOperation_BadOperation : PySem.W.kitOne K (.ref (He.ga K "BadOperation")) (.ref (He.ga K "BadOperation")) = some true
  kit_BadOperation_BadSize : PySem.W.kitOne K (.ref (He.ga K "BadOperation")) (.ref (He.ga K "BadSize")) = some false
  kit_BadOperation_Illegal : PySem.W.kitOne K (.ref (He.ga K "BadOperation")) (.ref (He.ga K "Illegal")) = some false
  kit_BadOperation_LinkError : PySem.W.kitOne K (.ref (He.ga K "BadOperation")) (.ref (He.ga K "LinkError")) = some true
  kit_BadOperation_LogError : PySem.W.kitOne K (.ref (He.ga K "BadOperation")) (.ref (He.ga K "LogError")) = some true
  kit_BadOperation_ValueError : PySem.W.kitOne K (.ref (He.ga K "BadOperation")) (.type "ValueError") = some true
  oe_BadSize : OexC K (He.ga K "BadSize") ∧ ∀ f ∈ (["size"] : List Str), PySem.W.findIn K (.ref (He.ga K "BadSize")) f = some none
  in_BadSize : PySem.W.findIn K (.ref (He.ga K "BadSize")) "__init__" = some (some (.ref (He.ma K (He.ga K "BadSize") "__init__"))) ∧ PySem.W.typeIn K (.ref (He.ma K (He.ga K "BadSize") "__init__")) = some (.type "function")
  kit_BadSize_BadDump : PySem.W.kitOne K (.ref (He.ga K "BadSize")) (.ref (He.ga K "BadDump")) = some false
  kit_BadSize_BadNode : PySem.W.kitOne K (.ref (He.ga K "BadSize")) (.ref (He.ga K "BadNode")) = some false
  kit_BadSize_BadOperation : PySem.W.kitOne K (.ref (He.ga K "BadSize")) (.ref (He.ga K "BadOperation")) = some false
  kit_BadSize_BadSize : PySem.W.kitOne K (.ref (He.ga K "BadSize")) (.ref (He.ga K "BadSize")) = some true
  kit_BadSize_Illegal : PySem.W.kitOne K (.ref (He.ga K "BadSize")) (.ref (He.ga K "Illegal")) = some false
  kit_BadSize_LinkError : PySem.W.kitOne K (.ref (He.ga K "BadSize")) (.ref (He.ga K "LinkError")) = some true
  kit_BadSize_LogError : PySem.W.kitOne K (.ref (He.ga K "BadSize")) (.ref (He.ga K "LogError")) = some false
  kit_BadSize_ValueError : PySem.W.kitOne K (.ref (He.ga K "BadSize")) (.type "ValueError") = some true
  oe_Illegal : OexC K (He.ga K "Illegal") ∧ ∀ f ∈ (["operation", "index"] : List Str), PySem.W.findIn K (.ref (He.ga K "Illegal")) f = some none
  in_Illegal : PySem.W.findIn K (.ref (He.ga K "Illegal")) "__init__" = some (some (.ref (He.ma K (He.ga K "Illegal") "__init__"))) ∧ PySem.W.typeIn K (.ref (He.ma K (He.ga K "Illegal") "__init__")) = some (.type "function")
  sm_Illegal : He.ma K (He.ga K "Illegal") "__init__" = He.ma K (He.ga K "LogError") "__init__"
  kit_Illegal_BadDump : PySem.W.kitOne K (.ref (He.ga K "Illegal")) (.ref (He.ga K "BadDump")) = some false
  kit_Illegal_BadNode : PySem.W.kitOne K (.ref (He.ga K "Illegal")) (.ref (He.ga K "BadNode")) = some false
  kit_Illegal_BadOperation : PySem.W.kitOne K (.ref (He.ga K "Illegal")) (.ref (He.ga K "BadOperation")) = some false
  kit_Illegal_BadSize : PySem.W.kitOne K (.ref (He.ga K "Illegal")) (.ref (He.ga K "BadSize")) = some false
  kit_Illegal_Illegal : PySem.W.kitOne K (.ref (He.ga K "Illegal")) (.ref (He.ga K "Illegal")) = some true
  kit_Illegal_LinkError : PySem.W.kitOne K (.ref (He.ga K "Illegal")) (.ref (He.ga K "LinkError")) = some true
  kit_Illegal_LogError : PySem.W.kitOne K (.ref (He.ga K "Illegal")) (.ref (He.ga K "LogError")) = some true
  kit_Illegal_ValueError : PySem.W.kitOne K (.ref (He.ga K "Illegal")) (.type "ValueError") = some true
theorem txt_of {K : PySem.W.Frag} {h : Heap} {mg : Str → Option Value} (X : K.In h) (G : h.Ns mainGlobals mg) (c : SaysY chkL fnL K) : Txt K mg where
  g_LinkError := He.glo_ok X G (c.fact 0 (f := fa_ (.glo "LinkError")) rfl)
  g_LogError := He.glo_ok X G (c.fact 1 (f := fa_ (.glo "LogError")) rfl)
  g_BadOperation := He.glo_ok X G (c.fact 2 (f := fa_ (.glo "BadOperation")) rfl)
  g_Illegal := He.glo_ok X G (c.fact 3 (f := fa_ (.glo "Illegal")) rfl)
  g_BadSize := He.glo_ok X G (c.fact 4 (f := fa_ (.glo "BadSize")) rfl)
  g_BadNode := He.glo_ok X G (c.fact 5 (f := fa_ (.glo "BadNode")) rfl)
  g_BadDump := He.glo_ok X G (c.fact 6 (f := fa_ (.glo "BadDump")) rfl)
  g_Links := He.glo_ok X G (c.fact 7 (f := fa_ (.glo "Links")) rfl)
  gf_check_operation := He.glo_ok X G (c.fact 8 (f := fa_ (.glo "check_operation")) rfl)
  gf_check_size := He.glo_ok X G (c.fact 9 (f := fa_ (.glo "check_size")) rfl)
  gf_is_positive := He.glo_ok X G (c.fact 10 (f := fa_ (.glo "is_positive")) rfl)
  gf__read_numbers := He.glo_ok X G (c.fact 11 (f := fa_ (.glo "_read_numbers")) rfl)
  gf__read_lefts := He.glo_ok X G (c.fact 12 (f := fa_ (.glo "_read_lefts")) rfl)
  gf__read_outs := He.glo_ok X G (c.fact 13 (f := fa_ (.glo "_read_outs")) rfl)
  gf__read_rights := He.glo_ok X G (c.fact 14 (f := fa_ (.glo "_read_rights")) rfl)
  gf__joined := He.glo_ok X G (c.fact 15 (f := fa_ (.glo "_joined")) rfl)
  gf_dump_of := He.glo_ok X G (c.fact 16 (f := fa_ (.glo "dump_of")) rfl)
  gf__law_dump := He.glo_ok X G (c.fact 17 (f := fa_ (.glo "_law_dump")) rfl)
  gf__law_is := He.glo_ok X G (c.fact 18 (f := fa_ (.glo "_law_is")) rfl)
  gf__law_integers := He.glo_ok X G (c.fact 19 (f := fa_ (.glo "_law_integers")) rfl)
  gf__law_outs_right := He.glo_ok X G (c.fact 20 (f := fa_ (.glo "_law_outs_right")) rfl)
  gf__law_sound := He.glo_ok X G (c.fact 21 (f := fa_ (.glo "_law_sound")) rfl)
  gf__law_walked := He.glo_ok X G (c.fact 22 (f := fa_ (.glo "_law_walked")) rfl)
  gf__law_walked_back := He.glo_ok X G (c.fact 23 (f := fa_ (.glo "_law_walked_back")) rfl)
  gf__law_whole := He.glo_ok X G (c.fact 24 (f := fa_ (.glo "_law_whole")) rfl)
  gf__law_asked_right := He.glo_ok X G (c.fact 25 (f := fa_ (.glo "_law_asked_right")) rfl)
  gf__law_box := He.glo_ok X G (c.fact 26 (f := fa_ (.glo "_law_box")) rfl)
  gf__law_draw := He.glo_ok X G (c.fact 27 (f := fa_ (.glo "_law_draw")) rfl)
  gf__law_opposite := He.glo_ok X G (c.fact 28 (f := fa_ (.glo "_law_opposite")) rfl)
  gf__law_turned := He.glo_ok X G (c.fact 29 (f := fa_ (.glo "_law_turned")) rfl)
  gf__law_write := He.glo_ok X G (c.fact 30 (f := fa_ (.glo "_law_write")) rfl)
  gf_mirrored := He.glo_ok X G (c.fact 31 (f := fa_ (.glo "mirrored")) rfl)
  gf__law_mirror_right := He.glo_ok X G (c.fact 32 (f := fa_ (.glo "_law_mirror_right")) rfl)
  gf__law_run := He.glo_ok X G (c.fact 33 (f := fa_ (.glo "_law_run")) rfl)
  gf__check_operations := He.glo_ok X G (c.fact 34 (f := fa_ (.glo "_check_operations")) rfl)
  gf__on_node := He.glo_ok X G (c.fact 35 (f := fa_ (.glo "_on_node")) rfl)
  gf_mirror := He.glo_ok X G (c.fact 36 (f := fa_ (.glo "mirror")) rfl)
  gf_play := He.glo_ok X G (c.fact 37 (f := fa_ (.glo "play")) rfl)
  gf__law_run_mirrored := He.glo_ok X G (c.fact 38 (f := fa_ (.glo "_law_run_mirrored")) rfl)
  gf__law_size := He.glo_ok X G (c.fact 39 (f := fa_ (.glo "_law_size")) rfl)
  gf__law_bend := He.glo_ok X G (c.fact 40 (f := fa_ (.glo "_law_bend")) rfl)
  gf__law_world := He.glo_ok X G (c.fact 41 (f := fa_ (.glo "_law_world")) rfl)
  gf_law := He.glo_ok X G (c.fact 42 (f := fa_ (.glo "law")) rfl)
  b_ValueError := He.free_ok X G (c.fact 43 (f := fa_ (.free "ValueError")) rfl)
  b_abs := He.free_ok X G (c.fact 44 (f := fa_ (.free "abs")) rfl)
  b_all := He.free_ok X G (c.fact 45 (f := fa_ (.free "all")) rfl)
  b_bool := He.free_ok X G (c.fact 46 (f := fa_ (.free "bool")) rfl)
  b_enumerate := He.free_ok X G (c.fact 47 (f := fa_ (.free "enumerate")) rfl)
  b_int := He.free_ok X G (c.fact 48 (f := fa_ (.free "int")) rfl)
  b_isinstance := He.free_ok X G (c.fact 49 (f := fa_ (.free "isinstance")) rfl)
  b_len := He.free_ok X G (c.fact 50 (f := fa_ (.free "len")) rfl)
  b_list := He.free_ok X G (c.fact 51 (f := fa_ (.free "list")) rfl)
  b_max := He.free_ok X G (c.fact 52 (f := fa_ (.free "max")) rfl)
  b_min := He.free_ok X G (c.fact 53 (f := fa_ (.free "min")) rfl)
  b_range := He.free_ok X G (c.fact 54 (f := fa_ (.free "range")) rfl)
  b_reversed := He.free_ok X G (c.fact 55 (f := fa_ (.free "reversed")) rfl)
  b_str := He.free_ok X G (c.fact 56 (f := fa_ (.free "str")) rfl)
  b_tuple := He.free_ok X G (c.fact 57 (f := fa_ (.free "tuple")) rfl)
  b_zip := He.free_ok X G (c.fact 58 (f := fa_ (.free "zip")) rfl)
  k_DIGITS := He.str_ok X G (c.fact 59 (f := fa_ (.str "DIGITS" "0123456789")) rfl)
  k_MOST_DIGITS := He.int_ok X G (c.fact 60 (f := fa_ (.int "MOST_DIGITS" 9)) rfl)
  cc_Links_MOST := ccB_ok (c.fact 61 (f := ccB "Links" "MOST" 60) rfl)
  cl_Links := He.cls_ok (c.fact 62 (f := fa_ (.cls "Links")) rfl)
  ty_Links := tyB_ok (c.fact 63 (f := tyB "Links") rfl)
  fr_Links_str := frB_ok (c.fact 64 (f := frB "Links" "str") rfl)
  fr_Links_int := frB_ok (c.fact 65 (f := frB "Links" "int") rfl)
  na_Links__lefts := He.noat_ok (c.fact 66 (f := fa_ (.noat "Links" "_lefts")) rfl)
  na_Links__out := He.noat_ok (c.fact 67 (f := fa_ (.noat "Links" "_out")) rfl)
  na_Links__rights := He.noat_ok (c.fact 68 (f := fa_ (.noat "Links" "_rights")) rfl)
  na_Links_size := He.noat_ok (c.fact 69 (f := fa_ (.noat "Links" "size")) rfl)
  me_Links_is_legal := He.meth_ok (c.fact 70 (f := fa_ (.meth "Links" "is_legal")) rfl)
  me_Links_check := He.meth_ok (c.fact 71 (f := fa_ (.meth "Links" "check")) rfl)
  me_Links_apply_at := He.meth_ok (c.fact 72 (f := fa_ (.meth "Links" "apply_at")) rfl)
  me_Links_apply := He.meth_ok (c.fact 73 (f := fa_ (.meth "Links" "apply")) rfl)
  mk_Links := He.mkr_ok (c.fact 74 (f := fa_ (.mkr "Links")) rfl)
  me_Links_copy := He.meth_ok (c.fact 75 (f := fa_ (.meth "Links" "copy")) rfl)
  sm_Links_read := smB_ok (c.fact 76 (f := smB "Links" "read") rfl)
  me_Links_outs := He.meth_ok (c.fact 77 (f := fa_ (.meth "Links" "outs")) rfl)
  me_Links_dump := He.meth_ok (c.fact 78 (f := fa_ (.meth "Links" "dump")) rfl)
  me_Links_is_sound := He.meth_ok (c.fact 79 (f := fa_ (.meth "Links" "is_sound")) rfl)
  me_Links___eq__ := He.meth_ok (c.fact 80 (f := fa_ (.meth "Links" "__eq__")) rfl)
  me_Links_is_whole := He.meth_ok (c.fact 81 (f := fa_ (.meth "Links" "is_whole")) rfl)
  me_Links_walk := He.meth_ok (c.fact 82 (f := fa_ (.meth "Links" "walk")) rfl)
  me_Links_walk_back := He.meth_ok (c.fact 83 (f := fa_ (.meth "Links" "walk_back")) rfl)
  me_Links___contains__ := He.meth_ok (c.fact 84 (f := fa_ (.meth "Links" "__contains__")) rfl)
  me_Links_left := He.meth_ok (c.fact 85 (f := fa_ (.meth "Links" "left")) rfl)
  me_Links_right := He.meth_ok (c.fact 86 (f := fa_ (.meth "Links" "right")) rfl)
  ex_BadDump := askB_ok (c.fact 87 (f := askB "BadDump") rfl)
  ex_BadNode := askB_ok (c.fact 88 (f := askB "BadNode") rfl)
  ex_BadOperation := askB_ok (c.fact 89 (f := askB "BadOperation") rfl)
  ex_BadSize := askB_ok (c.fact 90 (f := askB "BadSize") rfl)
  ex_Illegal := askB_ok (c.fact 91 (f := askB "Illegal") rfl)
  ex_LinkError := askB_ok (c.fact 92 (f := askB "LinkError") rfl)
  ex_LogError := askB_ok (c.fact 93 (f := askB "LogError") rfl)
  oe_BadDump := excB_ok (c.fact 94 (f := excB "BadDump" ["part"]) rfl)
  in_BadDump := iniB_ok (c.fact 95 (f := iniB "BadDump") rfl)
  kit_BadDump_BadDump := of_decide_eq_true (c.fact 96 (f := kitB2 "BadDump" "BadDump" true) rfl)
  kit_BadDump_BadNode := of_decide_eq_true (c.fact 97 (f := kitB2 "BadDump" "BadNode" false) rfl)
  kit_BadDump_BadOperation := of_decide_eq_true (c.fact 98 (f := kitB2 "BadDump" "BadOperation" false) rfl)
  kit_BadDump_BadSize := of_decide_eq_true (c.fact 99 (f := kitB2 "BadDump" "BadSize" false) rfl)
  kit_BadDump_Illegal := of_decide_eq_true (c.fact 100 (f := kitB2 "BadDump" "Illegal" false) rfl)
  kit_BadDump_LinkError := of_decide_eq_true (c.fact 101 (f := kitB2 "BadDump" "LinkError" true) rfl)
  kit_BadDump_LogError := of_decide_eq_true (c.fact 102 (f := kitB2 "BadDump" "LogError" false) rfl)
  kit_BadDump_ValueError := of_decide_eq_true (c.fact 103 (f := kitT2 "BadDump" "ValueError" true) rfl)
  oe_BadNode := excB_ok (c.fact 104 (f := excB "BadNode" ["node"]) rfl)
  in_BadNode := iniB_ok (c.fact 105 (f := iniB "BadNode") rfl)
  kit_BadNode_BadDump := of_decide_eq_true (c.fact 106 (f := kitB2 "BadNode" "BadDump" false) rfl)
  kit_BadNode_BadNode := of_decide_eq_true (c.fact 107 (f := kitB2 "BadNode" "BadNode" true) rfl)
  kit_BadNode_BadOperation := of_decide_eq_true (c.fact 108 (f := kitB2 "BadNode" "BadOperation" false) rfl)
  kit_BadNode_BadSize := of_decide_eq_true (c.fact 109 (f := kitB2 "BadNode" "BadSize" false) rfl)
  kit_BadNode_Illegal := of_decide_eq_true (c.fact 110 (f := kitB2 "BadNode" "Illegal" false) rfl)
  kit_BadNode_LinkError := of_decide_eq_true (c.fact 111 (f := kitB2 "BadNode" "LinkError" true) rfl)
  kit_BadNode_LogError := of_decide_eq_true (c.fact 112 (f := kitB2 "BadNode" "LogError" false) rfl)
  kit_BadNode_ValueError := of_decide_eq_true (c.fact 113 (f := kitT2 "BadNode" "ValueError" true) rfl)
  oe_BadOperation := excB_ok (c.fact 114 (f := excB "BadOperation" ["operation", "index"]) rfl)
  in_BadOperation := iniB_ok (c.fact 115 (f := iniB "BadOperation") rfl)
  sm_BadOperation := of_decide_eq_true (c.fact 116 (f := (fun K => decide (He.ma K (He.ga K "BadOperation") "__init__" = He.ma K (He.ga K "LogError") "__init__"))) rfl)
  kit_BadOperation_BadDump := of_decide_eq_true (c.fact 117 (f := kitB2 "BadOperation" "BadDump" false) rfl)
  kit_BadOperation_BadNode := of_decide_eq_true (c.fact 118 (f := kitB2 "BadOperation" "BadNode" false) rfl)
  kit_BadOperation_BadOperation := of_decide_eq_true (c.fact 119 (f := kitB2 "BadOperation" "BadOperation" true) rfl)
  kit_BadOperation_BadSize := of_decide_eq_true (c.fact 120 (f := kitB2 "BadOperation" "BadSize" false) rfl)
  kit_BadOperation_Illegal := of_decide_eq_true (c.fact 121 (f := kitB2 "BadOperation" "Illegal" false) rfl)
  kit_BadOperation_LinkError := of_decide_eq_true (c.fact 122 (f := kitB2 "BadOperation" "LinkError" true) rfl)
  kit_BadOperation_LogError := of_decide_eq_true (c.fact 123 (f := kitB2 "BadOperation" "LogError" true) rfl)
  kit_BadOperation_ValueError := of_decide_eq_true (c.fact 124 (f := kitT2 "BadOperation" "ValueError" true) rfl)
  oe_BadSize := excB_ok (c.fact 125 (f := excB "BadSize" ["size"]) rfl)
  in_BadSize := iniB_ok (c.fact 126 (f := iniB "BadSize") rfl)
  kit_BadSize_BadDump := of_decide_eq_true (c.fact 127 (f := kitB2 "BadSize" "BadDump" false) rfl)
  kit_BadSize_BadNode := of_decide_eq_true (c.fact 128 (f := kitB2 "BadSize" "BadNode" false) rfl)
  kit_BadSize_BadOperation := of_decide_eq_true (c.fact 129 (f := kitB2 "BadSize" "BadOperation" false) rfl)
  kit_BadSize_BadSize := of_decide_eq_true (c.fact 130 (f := kitB2 "BadSize" "BadSize" true) rfl)
  kit_BadSize_Illegal := of_decide_eq_true (c.fact 131 (f := kitB2 "BadSize" "Illegal" false) rfl)
  kit_BadSize_LinkError := of_decide_eq_true (c.fact 132 (f := kitB2 "BadSize" "LinkError" true) rfl)
  kit_BadSize_LogError := of_decide_eq_true (c.fact 133 (f := kitB2 "BadSize" "LogError" false) rfl)
  kit_BadSize_ValueError := of_decide_eq_true (c.fact 134 (f := kitT2 "BadSize" "ValueError" true) rfl)
  oe_Illegal := excB_ok (c.fact 135 (f := excB "Illegal" ["operation", "index"]) rfl)
  in_Illegal := iniB_ok (c.fact 136 (f := iniB "Illegal") rfl)
  sm_Illegal := of_decide_eq_true (c.fact 137 (f := (fun K => decide (He.ma K (He.ga K "Illegal") "__init__" = He.ma K (He.ga K "LogError") "__init__"))) rfl)
  kit_Illegal_BadDump := of_decide_eq_true (c.fact 138 (f := kitB2 "Illegal" "BadDump" false) rfl)
  kit_Illegal_BadNode := of_decide_eq_true (c.fact 139 (f := kitB2 "Illegal" "BadNode" false) rfl)
  kit_Illegal_BadOperation := of_decide_eq_true (c.fact 140 (f := kitB2 "Illegal" "BadOperation" false) rfl)
  kit_Illegal_BadSize := of_decide_eq_true (c.fact 141 (f := kitB2 "Illegal" "BadSize" false) rfl)
  kit_Illegal_Illegal := of_decide_eq_true (c.fact 142 (f := kitB2 "Illegal" "Illegal" true) rfl)
  kit_Illegal_LinkError := of_decide_eq_true (c.fact 143 (f := kitB2 "Illegal" "LinkError" true) rfl)
  kit_Illegal_LogError := of_decide_eq_true (c.fact 144 (f := kitB2 "Illegal" "LogError" true) rfl)
  kit_Illegal_ValueError := of_decide_eq_true (c.fact 145 (f := kitT2 "Illegal" "ValueError" true) rfl)
end G


set_option Elab.async false
set_option linter.all false
set_option maxRecDepth 100000
set_option maxHeartbeats 4000000

namespace G
open PySem PySem.Spec PyProof.Rows L2
def t_Links_is_legal (K : PySem.W.Frag) (E : XK) : TS :=
  tRet (tOp (rEqA K) (tOp (rIx K) (tFld K (tVar 0) "_out") (tCB rAbsA (tCons (tVar 1) (tNil)))) (tOp rGtA (tVar 1) (tC (.int 0))))
def t_check_operation (K : PySem.W.Frag) (E : XK) : TS :=
  tIfS (tNot (tTest (tChain rLeA rLeA (tC (.int 1)) (tCB rAbsA (tCons (tVar 1) (tNil))) (tVar 0)))) (tRz (He.ga K "BadOperation") ["operation", "index"] (fun cls d _ H => E cls d H) (tCons (tVar 1) (tCons (tVar 2) (tNil)))) (tNext)
def t_Links_check (K : PySem.W.Frag) (E : XK) : TS :=
  tSeq (tDrop (tCl (sp_check_operation K) (fun _ => E) (tCons (tFld K (tVar 0) "size") (tCons (tVar 1) (tCons (tVar 2) (tNil)))))) (tIfS (tNot (tB (tMt (He.ga K "Links") "is_legal" (sp_Links_is_legal K) (fun _ => E) (tVar 0) (tCons (tVar 1) (tNil))))) (tRz (He.ga K "Illegal") ["operation", "index"] (fun cls d _ H => E cls d H) (tCons (tVar 1) (tCons (tVar 2) (tNil)))) (tNext))
def t_Links_apply_at (K : PySem.W.Frag) (E : XK) : TS :=
  tSeq (tDrop (tMt (He.ga K "Links") "check" (sp_Links_check K) (fun _ => E) (tVar 0) (tCons (tVar 1) (tCons (tVar 2) (tNil))))) (tSeq (tAsg (tCB rAbsA (tCons (tVar 1) (tNil))) (gName 3)) (tSeq (tAsg (tOp (rIx K) (tFld K (tVar 0) "_lefts") (tVar 3)) (gName 4)) (tSeq (tAsg (tOp (rIx K) (tFld K (tVar 0) "_rights") (tVar 3)) (gName 5)) (tSeq (tAsg (tOp rLtA (tVar 1) (tC (.int 0))) (gName 6)) (tSeq (tAsg (tIf (tB (tVar 6)) (tVar 5) (tVar 3)) (gSub (tFld K (tVar 0) "_rights") (tVar 4) rSetL)) (tSeq (tAsg (tIf (tB (tVar 6)) (tVar 4) (tVar 3)) (gSub (tFld K (tVar 0) "_lefts") (tVar 5) rSetL)) (tAsg (tVar 6) (gSub (tFld K (tVar 0) "_out") (tVar 3) rSetL))))))))
def t_Links_apply (K : PySem.W.Frag) (E : XK) : TS :=
  tDrop (tMt (He.ga K "Links") "apply_at" (sp_Links_apply_at K) (fun _ => E) (tVar 0) (tCons (tVar 1) (tCons (tC (.int 0)) (tNil))))
def t_check_size (K : PySem.W.Frag) (E : XK) : TS :=
  tIfS (tNot (tTest (tChain rLeA rLeA (tC (.int 0)) (tVar 0) (tC (.int 60))))) (tRz (He.ga K "BadSize") ["size"] (fun cls d _ H => E cls d H) (tCons (tVar 0) (tNil))) (tNext)
def t_Links___init__ (K : PySem.W.Frag) (E : XK) : TS :=
  tSeq (tDrop (tCl (sp_check_size K) (fun _ => E) (tCons (tVar 1) (tNil)))) (tSeq (sFld K (tVar 0) (tVar 1) "size") (tSeq (sFld K (tVar 0) (tLstRg (tRg2 (tC (.int 1)) (tOp rAddA (tVar 1) (tC (.int 2))))) "_rights") (tSeq (sFld K (tVar 0) (tOp rAddA (tLst (tCons (tC (.int 0)) (tNil))) (tLstRg (tRg1 (tOp rAddA (tVar 1) (tC (.int 1)))))) "_lefts") (sFld K (tVar 0) (tOp rMulA (tLst (tCons (tC (.bl false)) (tNil))) (tOp rAddA (tVar 1) (tC (.int 2)))) "_out"))))
def t_Links_copy (K : PySem.W.Frag) (E : XK) : TS :=
  tSeq (tAsg (tMk (He.ga K "Links") (sp_Links___init__ K) (fun _ => E) (tCons (tFld K (tVar 0) "size") (tNil))) (gName 1)) (tSeq (sFld K (tVar 1) (tCB (rListA K) (tCons (tFld K (tVar 0) "_rights") (tNil))) "_rights") (tSeq (sFld K (tVar 1) (tCB (rListA K) (tCons (tFld K (tVar 0) "_lefts") (tNil))) "_lefts") (tSeq (sFld K (tVar 1) (tCB (rListA K) (tCons (tFld K (tVar 0) "_out") (tNil))) "_out") (tRet (tVar 1)))))
def t_is_positive (K : PySem.W.Frag) (E : XK) : TS :=
  tRet (tAndV (tChain rLeA rLeA (tC (.int 1)) (tCB (rLenA K) (tCons (tVar 0) (tNil))) (tC (.int (9)))) (tAndV (tOp (rNeA K) (tOp (rIx K) (tVar 0) (tC (.int 0))) (tC (.str "0"))) (tCB (rAll K) (tCons (tLc (iStr (tVar 0)) (gName 1) (tYes) (tOp rInS (tVar 1) (tC (.str "0123456789"))) [1]) (tNil)))))
def t__read_numbers (K : PySem.W.Frag) (E : XK) : TS :=
  tSeq (tAsg (tM1 rSplit (tVar 0) (tC (.str " "))) (gName 2)) (tSeq (tIfS (tNot (tB (tCB (rAll K) (tCons (tLc (iList K (tVar 2)) (gName 3) (tYes) (tOrV (tOp (rEqA K) (tVar 3) (tC (.str "0"))) (tCl (sp_is_positive K) (fun _ => E0) (tCons (tVar 3) (tNil)))) [3]) (tNil))))) (tRz (He.ga K "BadDump") ["part"] (fun cls d _ H => E cls d H) (tCons (tVar 1) (tNil))) (tNext)) (tRet (tLc (iList K (tVar 2)) (gName 3) (tYes) (tCB rIntS (tCons (tVar 3) (tNil))) [3])))
def t__read_lefts (K : PySem.W.Frag) (E : XK) : TS :=
  tSeq (tAsg (tCl (sp__read_numbers K) (fun _ => E) (tCons (tVar 0) (tCons (tC (.int 1)) (tNil)))) (gName 2)) (tSeq (tIfS (tOr (tTest (tOp (rNeA K) (tCB (rLenA K) (tCons (tVar 2) (tNil))) (tOp rAddA (tVar 1) (tC (.int 1))))) (tNot (tB (tCB (rAll K) (tCons (tLc (iEnum K (tCons (tVar 2) (tNil))) (gTup K 2 (gCons (gName 3) (gCons (gName 4) (gNil)))) (tYes) (tOp rLeA (tVar 4) (tVar 3)) [3, 4]) (tNil)))))) (tRz (He.ga K "BadDump") ["part"] (fun cls d _ H => E cls d H) (tCons (tC (.int 1)) (tNil))) (tNext)) (tRet (tVar 2)))
def t__read_outs (K : PySem.W.Frag) (E : XK) : TS :=
  tSeq (tIfS (tTest (tOp (rEqA K) (tVar 0) (tC (.str "none")))) (tRet (tLst (tNil))) (tNext)) (tSeq (tAsg (tCl (sp__read_numbers K) (fun _ => E) (tCons (tVar 0) (tCons (tC (.int 2)) (tNil)))) (gName 2)) (tSeq (tAsg (tOp rAddA (tOp rAddA (tLst (tCons (tC (.int 0)) (tNil))) (tVar 2)) (tLst (tCons (tOp rAddA (tVar 1) (tC (.int 1))) (tNil)))) (gName 3)) (tSeq (tIfS (tNot (tB (tCB (rAll K) (tCons (tLc (iZip K (tCons (tVar 3) (tCons (tSl (rSlL K) (tVar 3) (tPart (tC (.int 1))) (tNoPart)) (tNil)))) (gTup K 2 (gCons (gName 4) (gCons (gName 5) (gNil)))) (tYes) (tOp rLtA (tVar 4) (tVar 5)) [4, 5]) (tNil))))) (tRz (He.ga K "BadDump") ["part"] (fun cls d _ H => E cls d H) (tCons (tC (.int 2)) (tNil))) (tNext)) (tRet (tVar 2)))))
def t__read_rights (K : PySem.W.Frag) (E : XK) : TS :=
  tSeq (tAsg (tCl (sp__read_numbers K) (fun _ => E) (tCons (tVar 0) (tCons (tC (.int 0)) (tNil)))) (gName 1)) (tSeq (tAsg (tOp rSubA (tCB (rLenA K) (tCons (tVar 1) (tNil))) (tC (.int 1))) (gName 2)) (tSeq (tIfS (tOr (tTest (tOp rGtA (tVar 2) (tC (.int 60)))) (tNot (tB (tCB (rAll K) (tCons (tLc (iEnum K (tCons (tVar 1) (tNil))) (gTup K 2 (gCons (gName 3) (gCons (gName 4) (gNil)))) (tYes) (tChain rLtA rLeA (tVar 3) (tVar 4) (tOp rAddA (tVar 2) (tC (.int 1)))) [3, 4]) (tNil)))))) (tRz (He.ga K "BadDump") ["part"] (fun cls d _ H => E cls d H) (tCons (tC (.int 0)) (tNil))) (tNext)) (tRet (tVar 1))))
def t_Links_read (K : PySem.W.Frag) (E : XK) : TS :=
  tSeq (tAsg (tM1 rSplit (tVar 0) (tC (.str " | "))) (gName 1)) (tSeq (tAsg (tSl (rSlL K) (tOp rAddA (tVar 1) (tLst (tCons (tC (.str "")) (tCons (tC (.str "")) (tNil))))) (tNoPart) (tPart (tC (.int 3)))) (gUnl K 3 (gCons (gName 2) (gCons (gName 3) (gCons (gName 4) (gNil)))))) (tSeq (tAsg (tCl (sp__read_rights K) (fun _ => E) (tCons (tVar 2) (tNil))) (gName 5)) (tSeq (tAsg (tMk (He.ga K "Links") (sp_Links___init__ K) (fun _ => E) (tCons (tOp rSubA (tCB (rLenA K) (tCons (tVar 5) (tNil))) (tC (.int 1))) (tNil))) (gName 6)) (tSeq (sFld K (tVar 6) (tVar 5) "_rights") (tSeq (sFld K (tVar 6) (tOp rAddA (tLst (tCons (tC (.int 0)) (tNil))) (tCl (sp__read_lefts K) (fun _ => E) (tCons (tVar 3) (tCons (tFld K (tVar 6) "size") (tNil))))) "_lefts") (tSeq (tFor (iList K (tCl (sp__read_outs K) (fun _ => E) (tCons (tVar 4) (tCons (tFld K (tVar 6) "size") (tNil))))) (gName 7) (tAsg (tC (.bl true)) (gSub (tFld K (tVar 6) "_out") (tVar 7) rSetL))) (tSeq (tIfS (tTest (tOp rGtA (tCB (rLenA K) (tCons (tVar 1) (tNil))) (tC (.int 3)))) (tRz (He.ga K "BadDump") ["part"] (fun cls d _ H => E cls d H) (tCons (tC (.int 3)) (tNil))) (tNext)) (tRet (tVar 6)))))))))
def t_Links_outs (K : PySem.W.Frag) (E : XK) : TS :=
  tRet (tLc (iRng2 (tCons (tC (.int 1)) (tCons (tOp rAddA (tFld K (tVar 0) "size") (tC (.int 1))) (tNil)))) (gName 1) (tB (tOp (rIx K) (tFld K (tVar 0) "_out") (tVar 1))) (tVar 1) [1])
def t__joined (K : PySem.W.Frag) (E : XK) : TS :=
  tRet (tM1 (rJoin K) (tC (.str " ")) (tLc (iList K (tVar 0)) (gName 1) (tYes) (tCB rStrA (tCons (tVar 1) (tNil))) [1]))
def t_dump_of (K : PySem.W.Frag) (E : XK) : TS :=
  tRet (tM1 (rJoin K) (tC (.str " | ")) (tLst (tCons (tCl (sp__joined K) (fun _ => E) (tCons (tVar 0) (tNil))) (tCons (tCl (sp__joined K) (fun _ => E) (tCons (tVar 1) (tNil))) (tCons (tIf (tTr K (tVar 2)) (tCl (sp__joined K) (fun _ => E) (tCons (tVar 2) (tNil))) (tC (.str "none"))) (tNil))))))
def t_Links_dump (K : PySem.W.Frag) (E : XK) : TS :=
  tRet (tCl (sp_dump_of K) (fun _ => E) (tCons (tFld K (tVar 0) "_rights") (tCons (tSl (rSlL K) (tFld K (tVar 0) "_lefts") (tPart (tC (.int 1))) (tNoPart)) (tCons (tMt (He.ga K "Links") "outs" (sp_Links_outs K) (fun _ => E) (tVar 0) tNil) (tNil)))))
def t_Links_is_sound (K : PySem.W.Frag) (E : XK) : TS :=
  tSeq (tAsg (tLc (iRng1 (tCons (tOp rAddA (tFld K (tVar 0) "size") (tC (.int 2))) (tNil))) (gName 2) (tNot (tB (tOp (rIx K) (tFld K (tVar 0) "_out") (tVar 2)))) (tVar 2) [2]) (gName 1)) (tRet (tCB (rAll K) (tCons (tLc (iZip K (tCons (tVar 1) (tCons (tSl (rSlL K) (tVar 1) (tPart (tC (.int 1))) (tNoPart)) (tNil)))) (gTup K 2 (gCons (gName 3) (gCons (gName 4) (gNil)))) (tYes) (tAndV (tOp (rEqA K) (tOp (rIx K) (tFld K (tVar 0) "_rights") (tVar 3)) (tVar 4)) (tOp (rEqA K) (tOp (rIx K) (tFld K (tVar 0) "_lefts") (tVar 4)) (tVar 3))) [3, 4]) (tNil))))
def t_Links___eq__ (K : PySem.W.Frag) (E : XK) : TS :=
  tRet (tAndV (tCB (rIsi K) (tCons (tVar 1) (tCons (tC (.ref (He.ga K "Links"))) (tNil)))) (tAndV (tOp (rEqA K) (tFld K (tVar 0) "_rights") (tFld K (tVar 1) "_rights")) (tAndV (tOp (rEqA K) (tFld K (tVar 0) "_lefts") (tFld K (tVar 1) "_lefts")) (tOp (rEqA K) (tFld K (tVar 0) "_out") (tFld K (tVar 1) "_out")))))
def t_Links_is_whole (K : PySem.W.Frag) (E : XK) : TS :=
  tRet (tOp (rEqO K (He.ga K "Links") (sp02_Links___eq__ K) E) (tVar 0) (tMk (He.ga K "Links") (sp_Links___init__ K) (fun _ => E) (tCons (tFld K (tVar 0) "size") (tNil))))
def t_Links_walk (K : PySem.W.Frag) : TGn :=
  tGThen (tPlain (tAsg (tOp (rIx K) (tFld K (tVar 0) "_rights") (tC (.int 0))) (gName 1))) (tGThen (tGWhile (tTest (tOp rLeA (tVar 1) (tFld K (tVar 0) "size"))) (tGThen (tGYield (tVar 1)) (tGThen (tPlain (tAsg (tOp (rIx K) (tFld K (tVar 0) "_rights") (tVar 1)) (gName 1))) (tG0)))) (tG0))
def t_Links_walk_back (K : PySem.W.Frag) : TGn :=
  tGThen (tPlain (tAsg (tOp (rIx K) (tFld K (tVar 0) "_lefts") (tOp rAddA (tFld K (tVar 0) "size") (tC (.int 1)))) (gName 1))) (tGThen (tGWhile (tTest (tOp rGeA (tVar 1) (tC (.int 1)))) (tGThen (tGYield (tVar 1)) (tGThen (tPlain (tAsg (tOp (rIx K) (tFld K (tVar 0) "_lefts") (tVar 1)) (gName 1))) (tG0)))) (tG0))
def t__law_dump (K : PySem.W.Frag) (E : XK) : TS :=
  tSeq (tAsg (tLc (iRng2 (tCons (tC (.int 1)) (tCons (tOp rAddA (tVar 0) (tC (.int 1))) (tNil)))) (gName 7) (tB (tOp (rIx K) (tVar 3) (tVar 7))) (tCB rStrA (tCons (tVar 7) (tNil))) [7]) (gName 4)) (tSeq (tIfS (tTest (tOp (rEqA K) (tVar 4) (tLst (tNil)))) (tAsg (tLst (tCons (tC (.str "none")) (tNil))) (gName 4)) (tNext)) (tSeq (tAsg (tM1 (rJoin K) (tC (.str " ")) (tLc (iRng1 (tCons (tOp rAddA (tVar 0) (tC (.int 1))) (tNil))) (gName 7) (tYes) (tCB rStrA (tCons (tOp (rIx K) (tVar 1) (tVar 7)) (tNil))) [7])) (gName 5)) (tSeq (tAsg (tM1 (rJoin K) (tC (.str " ")) (tLc (iRng1 (tCons (tOp rAddA (tVar 0) (tC (.int 1))) (tNil))) (gName 7) (tYes) (tCB rStrA (tCons (tOp (rIx K) (tVar 2) (tOp rAddA (tVar 7) (tC (.int 1)))) (tNil))) [7])) (gName 6)) (tRet (tOp rAddA (tOp rAddA (tOp rAddA (tOp rAddA (tVar 5) (tC (.str " | "))) (tVar 6)) (tC (.str " | "))) (tM1 (rJoin K) (tC (.str " ")) (tVar 4)))))))
def t__law_is (K : PySem.W.Frag) (E : XK) : TS :=
  tRet (tAndV (tCB (rIsi K) (tCons (tVar 0) (tCons (tC (.ty "int")) (tNil)))) (tAndV (tNotV (tCB (rIsi K) (tCons (tVar 0) (tCons (tC (.ty "bool")) (tNil))))) (tOp (rEqA K) (tVar 0) (tVar 1))))
def t__law_integers (K : PySem.W.Frag) (E : XK) : TS :=
  tSeq (tIfS (tOr (tNot (tB (tCB (rIsi K) (tCons (tVar 0) (tCons (tC (.ty "list")) (tNil)))))) (tTest (tOp (rNeA K) (tCB (rLenA K) (tCons (tVar 0) (tNil))) (tCB (rLenA K) (tCons (tVar 1) (tNil)))))) (tRet (tC (.bl false))) (tNext)) (tSeq (tFor (iRng1 (tCons (tCB (rLenA K) (tCons (tVar 1) (tNil))) (tNil))) (gName 2) (tIfS (tNot (tB (tCl (sp00__law_is K) (fun _ => E) (tCons (tOp (rIx K) (tVar 0) (tVar 2)) (tCons (tOp (rIx K) (tVar 1) (tVar 2)) (tNil)))))) (tRet (tC (.bl false))) (tNext))) (tRet (tC (.bl true))))
def t_Links___contains__ (K : PySem.W.Frag) (E : XK) : TS :=
  tRet (tAndV (tChain rLeA rLeA (tC (.int 1)) (tVar 1) (tFld K (tVar 0) "size")) (tNotV (tOp (rIx K) (tFld K (tVar 0) "_out") (tVar 1))))
def t__law_outs_right (K : PySem.W.Frag) (E : XK) : TS :=
  tSeq (tAsg (tLc (iRng2 (tCons (tC (.int 1)) (tCons (tOp rAddA (tVar 1) (tC (.int 1))) (tNil)))) (gName 5) (tB (tOp (rIx K) (tVar 2) (tVar 5))) (tVar 5) [5]) (gName 3)) (tSeq (tAsg (tMt (He.ga K "Links") "outs" (sp_Links_outs K) (fun _ => E) (tVar 0) tNil) (gName 4)) (tSeq (tIfS (tNot (tB (tCl (sp00__law_integers K) (fun _ => E) (tCons (tVar 4) (tCons (tVar 3) (tNil)))))) (tRet (tC (.bl false))) (tNext)) (tSeq (tDrop (tBM K "list" rAppend (tVar 4) (tCons (tOp rAddA (tVar 1) (tC (.int 1))) (tNil)))) (tSeq (tDrop (tBM0 K "list" rReverse (tVar 4))) (tSeq (tIfS (tNot (tB (tCl (sp00__law_integers K) (fun _ => E) (tCons (tMt (He.ga K "Links") "outs" (sp_Links_outs K) (fun _ => E) (tVar 0) tNil) (tCons (tVar 3) (tNil)))))) (tRet (tC (.bl false))) (tNext)) (tSeq (tFor (iRng2 (tCons (tC (.int 1)) (tCons (tOp rAddA (tVar 1) (tC (.int 1))) (tNil)))) (gName 5) (tIfS (tTest (tOp (rEqA K) (tOp (rInO (He.ga K "Links") (sp04_Links___contains__ K) E) (tVar 5) (tVar 0)) (tOp (rIx K) (tVar 2) (tVar 5)))) (tRet (tC (.bl false))) (tNext))) (tSeq (tFor (iList K (tLst (tCons (tC (.int 0)) (tCons (tUn rNegA (tC (.int 1))) (tCons (tUn rNegA (tVar 1)) (tCons (tOp rSubA (tUn rNegA (tVar 1)) (tC (.int 1))) (tCons (tOp rAddA (tVar 1) (tC (.int 1))) (tCons (tOp rAddA (tVar 1) (tC (.int 2))) (tCons (tOp rAddA (tOp rMulA (tC (.int 3)) (tVar 1)) (tC (.int 61))) (tNil)))))))))) (gName 5) (tIfS (tTest (tOp (rInO (He.ga K "Links") (sp04_Links___contains__ K) E) (tVar 5) (tVar 0))) (tRet (tC (.bl false))) (tNext))) (tRet (tC (.bl true))))))))))
def t__law_sound (K : PySem.W.Frag) (E : XK) : TS :=
  tSeq (tAsg (tC (.int 0)) (gName 4)) (tSeq (tFor (iRng2 (tCons (tC (.int 1)) (tCons (tOp rAddA (tVar 0) (tC (.int 2))) (tNil)))) (gName 5) (tIfS (tNot (tB (tOp (rIx K) (tVar 3) (tVar 5)))) (tSeq (tIfS (tOr (tTest (tOp (rNeA K) (tOp (rIx K) (tVar 1) (tVar 4)) (tVar 5))) (tTest (tOp (rNeA K) (tOp (rIx K) (tVar 2) (tVar 5)) (tVar 4)))) (tRet (tC (.bl false))) (tNext)) (tAsg (tVar 5) (gName 4))) (tNext))) (tRet (tC (.bl true))))
def t__law_walked (K : PySem.W.Frag) (E : XK) : TS :=
  tSeq (tAsg (tLst (tNil)) (gName 2)) (tSeq (tAsg (tOp (rIx K) (tVar 1) (tC (.int 0))) (gName 3)) (tSeq (tFor (iRng1 (tCons (tOp rAddA (tVar 0) (tC (.int 1))) (tNil))) (gName 4) (tSeq (tIfS (tTest (tOp (rEqA K) (tVar 3) (tOp rAddA (tVar 0) (tC (.int 1))))) (tBreak) (tNext)) (tSeq (tDrop (tBM K "list" rAppend (tVar 2) (tCons (tVar 3) (tNil)))) (tAsg (tOp (rIx K) (tVar 1) (tVar 3)) (gName 3))))) (tRet (tVar 2))))
def t__law_walked_back (K : PySem.W.Frag) (E : XK) : TS :=
  tSeq (tAsg (tLst (tNil)) (gName 2)) (tSeq (tAsg (tOp (rIx K) (tVar 1) (tOp rAddA (tVar 0) (tC (.int 1)))) (gName 3)) (tSeq (tFor (iRng1 (tCons (tOp rAddA (tVar 0) (tC (.int 1))) (tNil))) (gName 4) (tSeq (tIfS (tTest (tOp (rEqA K) (tVar 3) (tC (.int 0)))) (tBreak) (tNext)) (tSeq (tDrop (tBM K "list" rAppend (tVar 2) (tCons (tVar 3) (tNil)))) (tAsg (tOp (rIx K) (tVar 1) (tVar 3)) (gName 3))))) (tRet (tVar 2))))
def t__law_whole (K : PySem.W.Frag) (E : XK) : TS :=
  tSeq (tFor (iRng1 (tCons (tOp rAddA (tVar 0) (tC (.int 1))) (tNil))) (gName 4) (tIfS (tOr (tB (tOp (rIx K) (tVar 3) (tVar 4))) (tOr (tTest (tOp (rNeA K) (tOp (rIx K) (tVar 1) (tVar 4)) (tOp rAddA (tVar 4) (tC (.int 1))))) (tTest (tOp (rNeA K) (tOp (rIx K) (tVar 2) (tOp rAddA (tVar 4) (tC (.int 1)))) (tVar 4))))) (tRet (tC (.bl false))) (tNext))) (tRet (tC (.bl true)))
def t__law_asked_right (K : PySem.W.Frag) (E : XK) : TS :=
  tSeq (tIfS (tNot (tB (tCl (sp00__law_integers K) (fun _ => E) (tCons (tListMG (He.ga K "Links") "walk" (sp04_Links_walk K) (tVar 0)) (tCons (tCl (sp04__law_walked K) (fun _ => E) (tCons (tVar 1) (tCons (tVar 2) (tNil)))) (tNil)))))) (tRet (tC (.bl false))) (tNext)) (tSeq (tIfS (tNot (tB (tCl (sp00__law_integers K) (fun _ => E) (tCons (tListMG (He.ga K "Links") "walk_back" (sp04_Links_walk_back K) (tVar 0)) (tCons (tCl (sp04__law_walked_back K) (fun _ => E) (tCons (tVar 1) (tCons (tVar 3) (tNil)))) (tNil)))))) (tRet (tC (.bl false))) (tNext)) (tSeq (tAsg (tMt (He.ga K "Links") "is_sound" (sp04_Links_is_sound K) (fun _ => E) (tVar 0) tNil) (gName 5)) (tSeq (tIfS (tOr (tNot (tB (tCB (rIsi K) (tCons (tVar 5) (tCons (tC (.ty "bool")) (tNil)))))) (tTest (tOp (rNeA K) (tVar 5) (tCl (sp04__law_sound K) (fun _ => E) (tCons (tVar 1) (tCons (tVar 2) (tCons (tVar 3) (tCons (tVar 4) (tNil))))))))) (tRet (tC (.bl false))) (tNext)) (tSeq (tAsg (tMt (He.ga K "Links") "is_whole" (sp04_Links_is_whole K) (fun _ => E) (tVar 0) tNil) (gName 6)) (tSeq (tIfS (tOr (tNot (tB (tCB (rIsi K) (tCons (tVar 6) (tCons (tC (.ty "bool")) (tNil)))))) (tTest (tOp (rNeA K) (tVar 6) (tCl (sp04__law_whole K) (fun _ => E) (tCons (tVar 1) (tCons (tVar 2) (tCons (tVar 3) (tCons (tVar 4) (tNil))))))))) (tRet (tC (.bl false))) (tNext)) (tRet (tAndV (tCl (sp04__law_outs_right K) (fun _ => E) (tCons (tVar 0) (tCons (tVar 1) (tCons (tVar 4) (tNil))))) (tOp (rEqA K) (tMt (He.ga K "Links") "dump" (sp_Links_dump K) (fun _ => E) (tVar 0) tNil) (tCl (sp03__law_dump K) (fun _ => E) (tCons (tVar 1) (tCons (tVar 2) (tCons (tVar 3) (tCons (tVar 4) (tNil))))))))))))))
def t__law_box (K : PySem.W.Frag) (E : XK) : TS :=
  tRet (tLst (tCons (tCB (rListA K) (tCons (tSl (rSlL K) (tVar 0) (tNoPart) (tPart (tC (.int 63)))) (tNil))) (tCons (tC (.int 0)) (tCons (tC (.int 0)) (tCons (tC (.int 211)) (tCons (tC (.int 0)) (tNil)))))))
def t__law_draw (K : PySem.W.Frag) (E : XK) : TS :=
  tSeq (tIfS (tAnd (tTest (tOp (rEqA K) (tOp (rIx K) (tVar 0) (tC (.int 2))) (tC (.int 0)))) (tTest (tOp rLtA (tOp (rIx K) (tVar 0) (tC (.int 1))) (tCB (rLenA K) (tCons (tOp (rIx K) (tVar 0) (tC (.int 0))) (tNil)))))) (tSeq (tAsg (tOp (rIx K) (tOp (rIx K) (tVar 0) (tC (.int 0))) (tOp (rIx K) (tVar 0) (tC (.int 1)))) (gName 2)) (tSeq (tAsg (tOp rAddA (tOp (rIx K) (tVar 0) (tC (.int 1))) (tC (.int 1))) (gSub (tVar 0) (tC (.int 1)) rSetL)) (tIfS (tTest (tOp rGeA (tVar 2) (tOp rPowA (tC (.int 10)) (tC (.int 18))))) (tAsg (tVar 2) (gSub (tVar 0) (tC (.int 2)) rSetL)) (tAsg (tOp rModA (tCB rIntA (tCons (tOp rAddA (tOp rAddA (tOp rMulA (tOp (rIx K) (tVar 0) (tC (.int 3))) (tC (.int 48271))) (tOp rMulA (tVar 2) (tC (.int 69621)))) (tC (.int 11))) (tNil))) (tC (.int 2147483647))) (gSub (tVar 0) (tC (.int 3)) rSetL))))) (tNext)) (tSeq (tIfS (tTest (tOp rGtA (tOp (rIx K) (tVar 0) (tC (.int 2))) (tC (.int 0)))) (tSeq (tAsg (tOp rModA (tCB rIntA (tCons (tOp (rIx K) (tVar 0) (tC (.int 2))) (tNil))) (tVar 1)) (gName 3)) (tSeq (tAsg (tOp rDivA (tOp (rIx K) (tVar 0) (tC (.int 2))) (tVar 1)) (gSub (tVar 0) (tC (.int 2)) rSetL)) (tRet (tVar 3)))) (tNext)) (tSeq (tAsg (tOp rAddA (tOp (rIx K) (tVar 0) (tC (.int 4))) (tC (.int 1))) (gSub (tVar 0) (tC (.int 4)) rSetL)) (tSeq (tAsg (tOp rModA (tCB rIntA (tCons (tOp rAddA (tOp rMulA (tOp (rIx K) (tVar 0) (tC (.int 3))) (tC (.int 742938285))) (tOp rMulA (tOp (rIx K) (tVar 0) (tC (.int 4))) (tC (.int 1299709)))) (tNil))) (tC (.int 2147483647))) (gSub (tVar 0) (tC (.int 3)) rSetL)) (tSeq (tAsg (tOp rModA (tCB rIntA (tCons (tOp rAddA (tOp rAddA (tOp rMulA (tOp rDivA (tOp (rIx K) (tVar 0) (tC (.int 3))) (tC (.int 13))) (tC (.int 69621))) (tOp (rIx K) (tVar 0) (tC (.int 3)))) (tOp (rIx K) (tVar 0) (tC (.int 4)))) (tNil))) (tC (.int 2147483629))) (gName 4)) (tRet (tOp rModA (tCB rIntA (tCons (tOp rDivA (tVar 4) (tC (.int 7))) (tNil))) (tVar 1)))))))
def t__law_opposite (K : PySem.W.Frag) (E : XK) : TS :=
  tSeq (tIfS (tTest (tOp rLtA (tVar 1) (tC (.int 0)))) (tRet (tUn rNegA (tOp rAddA (tOp rAddA (tVar 0) (tC (.int 1))) (tVar 1)))) (tNext)) (tRet (tOp rSubA (tOp rAddA (tVar 0) (tC (.int 1))) (tVar 1)))
def t__law_turned (K : PySem.W.Frag) (E : XK) : TS :=
  tSeq (tAsg (tLc (iRng1 (tCons (tOp rAddA (tVar 0) (tC (.int 1))) (tNil))) (gName 5) (tYes) (tOp rSubA (tOp rAddA (tVar 0) (tC (.int 1))) (tOp (rIx K) (tOp (rIx K) (tVar 1) (tC (.int 1))) (tOp rSubA (tOp rAddA (tVar 0) (tC (.int 1))) (tVar 5)))) [5]) (gName 2)) (tSeq (tAsg (tOp rAddA (tLst (tCons (tUn rNegA (tC (.int 1))) (tNil))) (tLc (iRng1 (tCons (tOp rAddA (tVar 0) (tC (.int 1))) (tNil))) (gName 5) (tYes) (tOp rSubA (tOp rAddA (tVar 0) (tC (.int 1))) (tOp (rIx K) (tOp (rIx K) (tVar 1) (tC (.int 0))) (tOp rSubA (tVar 0) (tVar 5)))) [5])) (gName 3)) (tSeq (tAsg (tLc (iRng1 (tCons (tOp rAddA (tVar 0) (tC (.int 2))) (tNil))) (gName 5) (tYes) (tOp (rIx K) (tOp (rIx K) (tVar 1) (tC (.int 2))) (tOp rSubA (tOp rAddA (tVar 0) (tC (.int 1))) (tVar 5))) [5]) (gName 4)) (tRet (tLst (tCons (tVar 2) (tCons (tVar 3) (tCons (tVar 4) (tNil))))))))
def t__law_write (K : PySem.W.Frag) (E : XK) : TS :=
  tSeq (tAsg (tCB rAbsA (tCons (tVar 3) (tNil))) (gName 4)) (tSeq (tAsg (tOp (rIx K) (tVar 1) (tVar 4)) (gName 5)) (tSeq (tAsg (tOp (rIx K) (tVar 0) (tVar 4)) (gName 6)) (tSeq (tAsg (tOp rLtA (tVar 3) (tC (.int 0))) (gSub (tVar 2) (tVar 4) rSetL)) (tIfS (tTest (tOp rLtA (tVar 3) (tC (.int 0)))) (tSeq (tAsg (tVar 6) (gSub (tVar 0) (tVar 5) rSetL)) (tAsg (tVar 5) (gSub (tVar 1) (tVar 6) rSetL))) (tSeq (tAsg (tVar 4) (gSub (tVar 0) (tVar 5) rSetL)) (tAsg (tVar 4) (gSub (tVar 1) (tVar 6) rSetL)))))))
def t_Links_left (K : PySem.W.Frag) (E : XK) : TS :=
  tSeq (tIfS (tNot (tTest (tChain rLeA rLeA (tC (.int 1)) (tVar 1) (tOp rAddA (tFld K (tVar 0) "size") (tC (.int 1)))))) (tRz (He.ga K "BadNode") ["node"] (fun cls d _ H => E cls d H) (tCons (tVar 1) (tNil))) (tNext)) (tRet (tOp (rIx K) (tFld K (tVar 0) "_lefts") (tVar 1)))
def t_Links_right (K : PySem.W.Frag) (E : XK) : TS :=
  tSeq (tIfS (tNot (tTest (tChain rLeA rLeA (tC (.int 0)) (tVar 1) (tFld K (tVar 0) "size")))) (tRz (He.ga K "BadNode") ["node"] (fun cls d _ H => E cls d H) (tCons (tVar 1) (tNil))) (tNext)) (tRet (tOp (rIx K) (tFld K (tVar 0) "_rights") (tVar 1)))
def t_mirrored (K : PySem.W.Frag) (E : XK) : TS :=
  tSeq (tAsg (tOp rAddA (tFld K (tVar 0) "size") (tC (.int 1))) (gName 1)) (tSeq (tAsg (tLc (iRng1 (tCons (tVar 1) (tNil))) (gName 5) (tYes) (tOp rSubA (tVar 1) (tMt (He.ga K "Links") "left" (sp02_Links_left K) (fun _ => E0) (tVar 0) (tCons (tOp rSubA (tVar 1) (tVar 5)) (tNil)))) [5]) (gName 2)) (tSeq (tAsg (tLc (iRng2 (tCons (tC (.int 1)) (tCons (tOp rAddA (tVar 1) (tC (.int 1))) (tNil)))) (gName 5) (tYes) (tOp rSubA (tVar 1) (tMt (He.ga K "Links") "right" (sp02_Links_right K) (fun _ => E0) (tVar 0) (tCons (tOp rSubA (tVar 1) (tVar 5)) (tNil)))) [5]) (gName 3)) (tSeq (tAsg (tLc (RT.iRevA K (tMt (He.ga K "Links") "outs" (sp_Links_outs K) (fun _ => E) (tVar 0) tNil)) (gName 5) (tYes) (tOp rSubA (tVar 1) (tVar 5)) [5]) (gName 4)) (tRet (tCl (sp_Links_read K) (fun _ => E) (tCons (tCl (sp_dump_of K) (fun _ => E) (tCons (tVar 2) (tCons (tVar 3) (tCons (tVar 4) (tNil))))) (tNil)))))))
def t__law_mirror_right (K : PySem.W.Frag) (E : XK) : TS :=
  tSeq (tAsg (tCl (sp04__law_turned K) (fun _ => E) (tCons (tVar 1) (tCons (tVar 2) (tNil)))) (gName 4)) (tSeq (tAsg (tMt (He.ga K "Links") "copy" (sp_Links_copy K) (fun _ => E) (tVar 0) tNil) (gName 5)) (tSeq (tAsg (tCl (sp04_mirrored K) (fun _ => E) (tCons (tVar 5) (tNil))) (gName 6)) (tSeq (tIfS (tNot (tB (tCl (sp04__law_asked_right K) (fun _ => E) (tCons (tVar 6) (tCons (tVar 1) (tCons (tOp (rIx K) (tVar 4) (tC (.int 0))) (tCons (tOp (rIx K) (tVar 4) (tC (.int 1))) (tCons (tOp (rIx K) (tVar 4) (tC (.int 2))) (tNil))))))))) (tRet (tC (.bl false))) (tNext)) (tSeq (tIfS (tNot (tB (tCl (sp04__law_asked_right K) (fun _ => E) (tCons (tVar 5) (tCons (tVar 1) (tCons (tOp (rIx K) (tVar 2) (tC (.int 0))) (tCons (tOp (rIx K) (tVar 2) (tC (.int 1))) (tCons (tOp (rIx K) (tVar 2) (tC (.int 2))) (tNil))))))))) (tRet (tC (.bl false))) (tNext)) (tSeq (tAsg (tLc (iList K (tCl (sp04__law_walked K) (fun _ => E) (tCons (tVar 1) (tCons (tOp (rIx K) (tVar 2) (tC (.int 0))) (tNil))))) (gName 9) (tYes) (tOp rSubA (tOp rAddA (tVar 1) (tC (.int 1))) (tVar 9)) [9]) (gName 7)) (tSeq (tIfS (tNot (tB (tCl (sp00__law_integers K) (fun _ => E) (tCons (tListMG (He.ga K "Links") "walk_back" (sp04_Links_walk_back K) (tVar 6)) (tCons (tVar 7) (tNil)))))) (tRet (tC (.bl false))) (tNext)) (tSeq (tIfS (tTest (tOp (rNeA K) (tMt (He.ga K "Links") "dump" (sp_Links_dump K) (fun _ => E) (tCl (sp04_mirrored K) (fun _ => E) (tCons (tVar 6) (tNil))) tNil) (tCl (sp03__law_dump K) (fun _ => E) (tCons (tVar 1) (tCons (tOp (rIx K) (tVar 2) (tC (.int 0))) (tCons (tOp (rIx K) (tVar 2) (tC (.int 1))) (tCons (tOp (rIx K) (tVar 2) (tC (.int 2))) (tNil)))))))) (tRet (tC (.bl false))) (tNext)) (tSeq (tIfS (tTest (tOp (rEqA K) (tVar 3) (tC (.int 0)))) (tRet (tC (.bl true))) (tNext)) (tSeq (tAsg (tUn rNegA (tVar 3)) (gName 8)) (tSeq (tIfS (tB (tOp (rIx K) (tOp (rIx K) (tVar 2) (tC (.int 2))) (tVar 3))) (tAsg (tVar 3) (gName 8)) (tNext)) (tSeq (tDrop (tMt (He.ga K "Links") "apply" (sp_Links_apply K) (fun _ => E) (tVar 5) (tCons (tVar 8) (tNil)))) (tSeq (tIfS (tNot (tB (tCl (sp04__law_asked_right K) (fun _ => E) (tCons (tVar 6) (tCons (tVar 1) (tCons (tOp (rIx K) (tVar 4) (tC (.int 0))) (tCons (tOp (rIx K) (tVar 4) (tC (.int 1))) (tCons (tOp (rIx K) (tVar 4) (tC (.int 2))) (tNil))))))))) (tRet (tC (.bl false))) (tNext)) (tSeq (tDrop (tMt (He.ga K "Links") "apply" (sp_Links_apply K) (fun _ => E) (tVar 6) (tCons (tCl (sp04__law_opposite K) (fun _ => E) (tCons (tVar 1) (tCons (tVar 8) (tNil)))) (tNil)))) (tSeq (tDrop (tCl (sp02__law_write K) (fun _ => E) (tCons (tOp (rIx K) (tVar 4) (tC (.int 0))) (tCons (tOp (rIx K) (tVar 4) (tC (.int 1))) (tCons (tOp (rIx K) (tVar 4) (tC (.int 2))) (tCons (tCl (sp04__law_opposite K) (fun _ => E) (tCons (tVar 1) (tCons (tVar 8) (tNil)))) (tNil))))))) (tSeq (tIfS (tNot (tB (tCl (sp04__law_asked_right K) (fun _ => E) (tCons (tVar 6) (tCons (tVar 1) (tCons (tOp (rIx K) (tVar 4) (tC (.int 0))) (tCons (tOp (rIx K) (tVar 4) (tC (.int 1))) (tCons (tOp (rIx K) (tVar 4) (tC (.int 2))) (tNil))))))))) (tRet (tC (.bl false))) (tNext)) (tRet (tOp (rEqA K) (tMt (He.ga K "Links") "dump" (sp_Links_dump K) (fun _ => E) (tCl (sp04_mirrored K) (fun _ => E) (tCons (tVar 5) (tNil))) tNil) (tCl (sp03__law_dump K) (fun _ => E) (tCons (tVar 1) (tCons (tOp (rIx K) (tVar 4) (tC (.int 0))) (tCons (tOp (rIx K) (tVar 4) (tC (.int 1))) (tCons (tOp (rIx K) (tVar 4) (tC (.int 2))) (tNil)))))))))))))))))))))))
def t__law_run (K : PySem.W.Frag) (E : XK) : TS :=
  tSeq (tAsg (tLst (tNil)) (gName 3)) (tSeq (tAsg (tCl (sp00__law_draw K) (fun _ => E) (tCons (tVar 0) (tCons (tC (.int 8)) (tNil)))) (gName 4)) (tSeq (tIfS (tTest (tOp (rEqA K) (tVar 4) (tC (.int 7)))) (tAsg (tOp rAddA (tC (.int 7)) (tCl (sp00__law_draw K) (fun _ => E) (tCons (tVar 0) (tCons (tC (.int 7)) (tNil))))) (gName 4)) (tNext)) (tSeq (tIfS (tTest (tOp (rEqA K) (tVar 1) (tC (.int 0)))) (tRet (tVar 3)) (tNext)) (tSeq (tAsg (tCB (rListA K) (tCons (tOp (rIx K) (tVar 2) (tC (.int 2))) (tNil))) (gName 5)) (tSeq (tAsg (tC (.int 1)) (gName 6)) (tSeq (tFor (iRng1 (tCons (tVar 4) (tNil))) (gName 7) (tSeq (tIfS (tTest (tOp rGtA (tCl (sp00__law_draw K) (fun _ => E) (tCons (tVar 0) (tCons (tC (.int 3)) (tNil)))) (tC (.int 0)))) (tAsg (tOp rAddA (tC (.int 1)) (tCl (sp00__law_draw K) (fun _ => E) (tCons (tVar 0) (tCons (tVar 1) (tNil))))) (gName 6)) (tNext)) (tSeq (tIfS (tB (tOp (rIx K) (tVar 5) (tVar 6))) (tDrop (tBM K "list" rAppend (tVar 3) (tCons (tVar 6) (tNil)))) (tDrop (tBM K "list" rAppend (tVar 3) (tCons (tUn rNegA (tVar 6)) (tNil))))) (tAsg (tNotV (tOp (rIx K) (tVar 5) (tVar 6))) (gSub (tVar 5) (tVar 6) rSetL))))) (tRet (tVar 3))))))))
def t__check_operations (K : PySem.W.Frag) (E : XK) : TS :=
  tSeq (tDrop (tCl (sp_check_size K) (fun _ => E) (tCons (tVar 0) (tNil)))) (tFor (iEnum K (tCons (tVar 1) (tNil))) (gTup K 2 (gCons (gName 2) (gCons (gName 3) (gNil)))) (tDrop (tCl (sp_check_operation K) (fun _ => E) (tCons (tVar 0) (tCons (tVar 3) (tCons (tVar 2) (tNil)))))))
def t__on_node (K : PySem.W.Frag) (E : XK) : TS :=
  tRet (tIf (tTest (tOp rGtA (tVar 0) (tC (.int 0)))) (tVar 1) (tUn rNegA (tVar 1)))
def t_mirror (K : PySem.W.Frag) (E : XK) : TS :=
  tSeq (tDrop (tCl (sp04__check_operations K) (fun _ => E) (tCons (tVar 0) (tCons (tVar 1) (tNil))))) (tRet (tLc (iList K (tVar 1)) (gName 2) (tYes) (tCl (sp04__on_node K) (fun _ => E0) (tCons (tVar 2) (tCons (tOp rSubA (tOp rAddA (tVar 0) (tC (.int 1))) (tCB rAbsA (tCons (tVar 2) (tNil)))) (tNil)))) [2]))
def t_play (K : PySem.W.Frag) (E : XK) : TS :=
  tSeq (tAsg (tMt (He.ga K "Links") "copy" (sp_Links_copy K) (fun _ => E) (tVar 0) tNil) (gName 2)) (tSeq (tFor (iEnum K (tCons (tVar 1) (tNil))) (gTup K 2 (gCons (gName 3) (gCons (gName 4) (gNil)))) (tDrop (tMt (He.ga K "Links") "apply_at" (sp_Links_apply_at K) (fun _ => E) (tVar 2) (tCons (tVar 4) (tCons (tVar 3) (tNil)))))) (tRet (tVar 2)))
def t__law_run_mirrored (K : PySem.W.Frag) (E : XK) : TS :=
  tSeq (tAsg (tLc (iList K (tVar 2)) (gName 9) (tYes) (tCl (sp04__law_opposite K) (fun _ => E0) (tCons (tVar 1) (tCons (tVar 9) (tNil)))) [9]) (gName 4)) (tSeq (tAsg (tCB (rListA K) (tCons (tVar 2) (tNil))) (gName 5)) (tSeq (tAsg (tCl (sp04_mirror K) (fun _ => E) (tCons (tVar 1) (tCons (tVar 5) (tNil)))) (gName 6)) (tSeq (tIfS (tOr (tNot (tB (tCl (sp00__law_integers K) (fun _ => E) (tCons (tVar 6) (tCons (tVar 4) (tNil)))))) (tNot (tB (tCl (sp00__law_integers K) (fun _ => E) (tCons (tVar 5) (tCons (tVar 2) (tNil))))))) (tRet (tC (.bl false))) (tNext)) (tSeq (tAsg (tCl (sp_play K) (fun _ => E) (tCons (tCl (sp04_mirrored K) (fun _ => E) (tCons (tVar 0) (tNil))) (tCons (tVar 6) (tNil)))) (gName 7)) (tSeq (tAsg (tCl (sp04__law_turned K) (fun _ => E) (tCons (tVar 1) (tCons (tVar 3) (tNil)))) (gName 8)) (tSeq (tIfS (tNot (tB (tCl (sp00__law_integers K) (fun _ => E) (tCons (tVar 6) (tCons (tVar 4) (tNil)))))) (tRet (tC (.bl false))) (tNext)) (tRet (tOp (rEqA K) (tMt (He.ga K "Links") "dump" (sp_Links_dump K) (fun _ => E) (tVar 7) tNil) (tCl (sp03__law_dump K) (fun _ => E) (tCons (tVar 1) (tCons (tOp (rIx K) (tVar 8) (tC (.int 0))) (tCons (tOp (rIx K) (tVar 8) (tC (.int 1))) (tCons (tOp (rIx K) (tVar 8) (tC (.int 2))) (tNil))))))))))))))
def t__law_size (K : PySem.W.Frag) (E : XK) : TS :=
  tSeq (tAsg (tCl (sp00__law_draw K) (fun _ => E) (tCons (tVar 0) (tCons (tC (.int 8)) (tNil)))) (gName 1)) (tSeq (tIfS (tTest (tOp (rEqA K) (tVar 1) (tC (.int 7)))) (tRet (tCl (sp00__law_draw K) (fun _ => E) (tCons (tVar 0) (tCons (tC (.int 61)) (tNil))))) (tNext)) (tSeq (tIfS (tTest (tOp (rEqA K) (tVar 1) (tC (.int 6)))) (tRet (tCl (sp00__law_draw K) (fun _ => E) (tCons (tVar 0) (tCons (tC (.int 3)) (tNil))))) (tNext)) (tRet (tOp rAddA (tC (.int 1)) (tVar 1)))))
def t__law_bend (K : PySem.W.Frag) (E : XK) : TS :=
  tSeq (tAsg (tCl (sp00__law_draw K) (fun _ => E) (tCons (tVar 0) (tCons (tOp rAddA (tVar 1) (tC (.int 1))) (tNil)))) (gName 4)) (tSeq (tAsg (tCl (sp00__law_draw K) (fun _ => E) (tCons (tVar 0) (tCons (tC (.int 4)) (tNil)))) (gName 5)) (tSeq (tIfS (tTest (tOp (rEqA K) (tVar 5) (tC (.int 0)))) (tAsg (tOp rAddA (tOp rAddA (tVar 4) (tC (.int 1))) (tCl (sp00__law_draw K) (fun _ => E) (tCons (tVar 0) (tCons (tOp rSubA (tOp rAddA (tVar 1) (tC (.int 1))) (tVar 4)) (tNil))))) (gSub (tVar 2) (tVar 4) rSetL)) (tNext)) (tIfS (tTest (tOp (rEqA K) (tVar 5) (tC (.int 1)))) (tAsg (tCl (sp00__law_draw K) (fun _ => E) (tCons (tVar 0) (tCons (tOp rAddA (tVar 4) (tC (.int 1))) (tNil)))) (gSub (tVar 3) (tOp rAddA (tVar 4) (tC (.int 1))) rSetL)) (tNext))))
def t__law_world (K : PySem.W.Frag) (E : XK) : TS :=
  tSeq (tAsg (tCl (sp00__law_draw K) (fun _ => E) (tCons (tVar 0) (tCons (tC (.int 4)) (tNil)))) (gName 2)) (tSeq (tAsg (tLc (iRng1 (tCons (tOp rAddA (tVar 1) (tC (.int 1))) (tNil))) (gName 6) (tYes) (tOp rAddA (tVar 6) (tC (.int 1))) [6]) (gName 3)) (tSeq (tAsg (tLc (iRng1 (tCons (tOp rAddA (tVar 1) (tC (.int 2))) (tNil))) (gName 6) (tYes) (tOp rSubA (tVar 6) (tC (.int 1))) [6]) (gName 4)) (tSeq (tAsg (tLc (iRng1 (tCons (tOp rAddA (tVar 1) (tC (.int 2))) (tNil))) (gName 6) (tYes) (tC (.bl false)) [6]) (gName 5)) (tSeq (tIfS (tTest (tOp (rEqA K) (tVar 2) (tC (.int 0)))) (tRet (tLst (tCons (tVar 3) (tCons (tVar 4) (tCons (tVar 5) (tNil)))))) (tNext)) (tSeq (tFor (iRng2 (tCons (tC (.int 1)) (tCons (tOp rAddA (tVar 1) (tC (.int 1))) (tNil)))) (gName 6) (tAsg (tOp (rEqA K) (tCl (sp00__law_draw K) (fun _ => E) (tCons (tVar 0) (tCons (tC (.int 2)) (tNil)))) (tC (.int 0))) (gSub (tVar 5) (tVar 6) rSetL))) (tSeq (tFor (iRng1 (tCons (tOp rAddA (tVar 1) (tC (.int 1))) (tNil))) (gName 6) (tSeq (tIfS (tOr (tTest (tOp rGtA (tVar 2) (tC (.int 1)))) (tTest (tOp (rEqA K) (tCl (sp00__law_draw K) (fun _ => E) (tCons (tVar 0) (tCons (tC (.int 3)) (tNil)))) (tC (.int 0))))) (tAsg (tOp rAddA (tOp rAddA (tVar 6) (tC (.int 1))) (tCl (sp00__law_draw K) (fun _ => E) (tCons (tVar 0) (tCons (tOp rSubA (tOp rAddA (tVar 1) (tC (.int 1))) (tVar 6)) (tNil))))) (gSub (tVar 3) (tVar 6) rSetL)) (tNext)) (tIfS (tOr (tTest (tOp rGtA (tVar 2) (tC (.int 1)))) (tTest (tOp (rEqA K) (tCl (sp00__law_draw K) (fun _ => E) (tCons (tVar 0) (tCons (tC (.int 3)) (tNil)))) (tC (.int 0))))) (tAsg (tCl (sp00__law_draw K) (fun _ => E) (tCons (tVar 0) (tCons (tOp rAddA (tVar 6) (tC (.int 1))) (tNil)))) (gSub (tVar 4) (tOp rAddA (tVar 6) (tC (.int 1))) rSetL)) (tNext)))) (tSeq (tIfS (tTest (tOp (rEqA K) (tVar 2) (tC (.int 3)))) (tSeq (tAsg (tC (.int 0)) (gName 7)) (tSeq (tFor (iRng2 (tCons (tC (.int 1)) (tCons (tOp rAddA (tVar 1) (tC (.int 2))) (tNil)))) (gName 6) (tIfS (tNot (tB (tOp (rIx K) (tVar 5) (tVar 6)))) (tSeq (tAsg (tVar 6) (gSub (tVar 3) (tVar 7) rSetL)) (tSeq (tAsg (tVar 7) (gSub (tVar 4) (tVar 6) rSetL)) (tAsg (tVar 6) (gName 7)))) (tNext))) (tDrop (tCl (sp03__law_bend K) (fun _ => E) (tCons (tVar 0) (tCons (tVar 1) (tCons (tVar 3) (tCons (tVar 4) (tNil))))))))) (tNext)) (tRet (tLst (tCons (tVar 3) (tCons (tVar 4) (tCons (tVar 5) (tNil)))))))))))))
def t_law (K : PySem.W.Frag) (E : XK) : TS :=
  tSeq (tAsg (tCl (sp00__law_box K) (fun _ => E) (tCons (tVar 0) (tNil))) (gName 1)) (tSeq (tAsg (tCl (sp02__law_size K) (fun _ => E) (tCons (tVar 1) (tNil))) (gName 2)) (tSeq (tAsg (tCl (sp03__law_world K) (fun _ => E) (tCons (tVar 1) (tCons (tVar 2) (tNil)))) (gName 3)) (tSeq (tAsg (tCl (sp04__law_run K) (fun _ => E) (tCons (tVar 1) (tCons (tVar 2) (tCons (tVar 3) (tNil))))) (gName 4)) (tSeq (tAsg (tOp rAddA (tCl (sp00__law_draw K) (fun _ => E) (tCons (tVar 1) (tCons (tCB rMax2A (tCons (tC (.int 1)) (tCons (tVar 2) (tNil)))) (tNil)))) (tCB rMin2A (tCons (tC (.int 1)) (tCons (tVar 2) (tNil))))) (gName 5)) (tSeq (tAsg (tCB (rListA K) (tCons (tOp (rIx K) (tVar 3) (tC (.int 0))) (tNil))) (gName 6)) (tSeq (tAsg (tCB (rListA K) (tCons (tOp (rIx K) (tVar 3) (tC (.int 1))) (tNil))) (gName 7)) (tSeq (tAsg (tCB (rListA K) (tCons (tOp (rIx K) (tVar 3) (tC (.int 2))) (tNil))) (gName 8)) (tSeq (tAsg (tCl (sp_Links_read K) (fun _ => E) (tCons (tCl (sp03__law_dump K) (fun _ => E) (tCons (tVar 2) (tCons (tVar 6) (tCons (tVar 7) (tCons (tVar 8) (tNil)))))) (tNil))) (gName 9)) (tSeq (tAsg (tMt (He.ga K "Links") "copy" (sp_Links_copy K) (fun _ => E) (tVar 9) tNil) (gName 10)) (tSeq (tIfS (tAnd (tTest (tOp (rEqA K) (tCl (sp00__law_draw K) (fun _ => E) (tCons (tVar 1) (tCons (tC (.int 2)) (tNil)))) (tC (.int 0)))) (tNot (tB (tCl (sp04__law_asked_right K) (fun _ => E) (tCons (tVar 10) (tCons (tVar 2) (tCons (tVar 6) (tCons (tVar 7) (tCons (tVar 8) (tNil)))))))))) (tRet (tC (.bl false))) (tNext)) (tSeq (tFor (iList K (tVar 4)) (gName 11) (tSeq (tDrop (tMt (He.ga K "Links") "apply" (sp_Links_apply K) (fun _ => E) (tVar 10) (tCons (tVar 11) (tNil)))) (tSeq (tDrop (tCl (sp02__law_write K) (fun _ => E) (tCons (tVar 6) (tCons (tVar 7) (tCons (tVar 8) (tCons (tVar 11) (tNil))))))) (tIfS (tAnd (tTest (tOp (rEqA K) (tCl (sp00__law_draw K) (fun _ => E) (tCons (tVar 1) (tCons (tC (.int 2)) (tNil)))) (tC (.int 0)))) (tNot (tB (tCl (sp04__law_asked_right K) (fun _ => E) (tCons (tVar 10) (tCons (tVar 2) (tCons (tVar 6) (tCons (tVar 7) (tCons (tVar 8) (tNil)))))))))) (tRet (tC (.bl false))) (tNext))))) (tSeq (tIfS (tNot (tB (tCl (sp04__law_asked_right K) (fun _ => E) (tCons (tVar 10) (tCons (tVar 2) (tCons (tVar 6) (tCons (tVar 7) (tCons (tVar 8) (tNil))))))))) (tRet (tC (.bl false))) (tNext)) (tSeq (tIfS (tNot (tB (tCl (sp04__law_run_mirrored K) (fun _ => E) (tCons (tVar 9) (tCons (tVar 2) (tCons (tVar 4) (tCons (tLst (tCons (tVar 6) (tCons (tVar 7) (tCons (tVar 8) (tNil))))) (tNil)))))))) (tRet (tC (.bl false))) (tNext)) (tSeq (tIfS (tNot (tB (tCl (sp04__law_mirror_right K) (fun _ => E) (tCons (tVar 9) (tCons (tVar 2) (tCons (tVar 3) (tCons (tVar 5) (tNil)))))))) (tRet (tC (.bl false))) (tNext)) (tRet (tCl (sp04__law_mirror_right K) (fun _ => E) (tCons (tVar 10) (tCons (tVar 2) (tCons (tLst (tCons (tVar 6) (tCons (tVar 7) (tCons (tVar 8) (tNil))))) (tCons (tVar 5) (tNil)))))))))))))))))))))
end G

set_option Elab.async false
set_option linter.all false
set_option maxRecDepth 100000
set_option maxHeartbeats 1000000
namespace G
--#FAM KL
open PySem PySem.Spec PyProof.Rows L2
local macro_rules
  | `(tactic| walk_at "1") => `(tactic| first
    | with_reducible refine w_seq ?_
    | with_reducible refine w_asg ?_
    | with_reducible refine w_asgS ?_
    | with_reducible refine w_asf ?_
    | with_reducible refine w_drop ?_
    | with_reducible refine w_ret ?_
    | with_reducible refine w_if ?_
    | with_reducible refine w_not ?_
    | with_reducible refine w_and ?_
    | with_reducible refine w_or ?_
    | with_reducible refine w_test ?_
    | with_reducible refine w_tb ?_
    | with_reducible refine w_chain ?_
    | with_reducible refine w_op ?_
    | with_reducible refine w_un ?_
    | with_reducible refine w_andV ?_
    | with_reducible refine w_orV ?_
    | with_reducible refine w_notV ?_
    | with_reducible refine w_ifE ?_
    | with_reducible refine w_cons ?_
    | with_reducible refine w_nil ?_
    | with_reducible refine w_cb ?_
    | with_reducible refine w_cl ?_
    | with_reducible refine w_mt ?_
    | with_reducible refine w_fld ?_
    | with_reducible refine w_tupN ?_
    | with_reducible refine w_lstN ?_
    | with_reducible refine w_bm ?_
    | with_reducible refine w_bm0 ?_
    | with_reducible refine w_for ?_
    | with_reducible refine w_lc ?_
    | with_reducible refine w_iR1 ?_
    | with_reducible refine w_iR2 ?_
    | with_reducible refine w_iL ?_
    | with_reducible refine w_iT ?_
    | with_reducible refine w_iE ?_
    | with_reducible refine w_iZ ?_
    | with_reducible refine w_var (by with_unfolding_all rfl) ?_
    | with_reducible refine w_c ?_
    | with_reducible refine w_next ?_
    | with_reducible refine w_i0 ?_
    | with_reducible refine w_u1 ?_
    | with_reducible refine w_addI ?_
    | with_reducible refine w_eqI ?_
    | with_reducible refine w_eqS ?_
    | with_reducible refine w_eqB ?_
    | with_reducible refine w_neI ?_
    | with_reducible refine w_neS ?_
    | with_reducible refine w_neB ?_
    | with_reducible refine w_abs ?_
    | with_reducible refine w_intI ?_
    | with_reducible refine w_min2 ?_
    | with_reducible refine w_max2 ?_
    | with_reducible refine w_isN0 ?_
    | with_reducible refine w_isN1 ref_ne ?_
    | with_reducible refine w_isN1 int_ne ?_
    | with_reducible refine w_notN0 ?_
    | with_reducible refine w_notN1 ref_ne ?_
    | with_reducible refine w_notN1 int_ne ?_
    | with_reducible refine w_ex1 ?_
    | with_reducible refine w_n1 ?_
    | with_reducible refine w_n2 ?_
    | with_reducible refine w_tT ?_
    | with_reducible refine w_tF ?_
    | with_reducible refine w_nT ?_
    | with_reducible refine w_nF ?_
    | with_reducible refine w_rz ?_
    | with_reducible refine w_mkN ?_
    | with_reducible refine w_lrgN ?_
    | with_reducible refine w_rg1 ?_
    | with_reducible refine w_rg2 ?_
    | with_reducible refine w_sl ?_
    | with_reducible refine w_np ?_
    | with_reducible refine w_pt ?_
    | with_reducible refine w_tr ?_
    | with_reducible refine w_gn ?_
    | with_reducible refine w_yes ?_
    | with_reducible refine w_m1 ?_
    | with_reducible refine w_asu ?_
    | with_reducible refine w_exS ?_
    | with_reducible refine w_iS ?_
    | with_reducible refine w_g1 ?_
    | with_reducible refine w_gc ?_
    | with_reducible refine w_gt (SqT.of upd_same) rfl ?_)
local macro_rules
  | `(tactic| walk_at "g") => `(tactic| repeat walk_at "1")
local macro_rules
  | `(tactic| walk_at "j1") => `(tactic| first
    | with_reducible refine w_seqI ?_
    | walk_at "1")
local macro_rules
  | `(tactic| walk_at "j") => `(tactic| repeat walk_at "j1")
section
variable {K : PySem.W.Frag} {mg : Str → Option Value}
theorem Kp.cut {S S' : List Addr} {H H' : Hp} (k : Kp S H H') (h : ∀ b ∈ S, b ∈ S' ∨ H b = none) : Kp S' H H' := fun b o n e => k b o (fun z => by
  rcases h b z with q | q
  · exact n q
  · rw [q] at e
    cases e) e
theorem Kp.cut1 {H H' : Hp} {p : Addr} (k : Kp [p] H H') (h : H p = none) : Kp [] H H' := k.cut (by simp [h])
theorem cmulR {i j : Int} (h1 : -(2 ^ 64) < j) (h2 : j < 2 ^ 64) : CMul i j := .inr ⟨h1, h2⟩
theorem cmulL {i j : Int} (h1 : -(2 ^ 64) < i) (h2 : i < 2 ^ 64) : CMul i j := .inl ⟨h1, h2⟩
theorem at_map {α : Type} {f : α → V} {l : List α} {i : Nat} {x : V} (h : (l.map f)[i]? = some x) : ∃ y, l[i]? = some y ∧ f y = x := by
  rw [List.getElem?_map] at h
  cases e : l[i]? with
  | none => rw [e] at h; cases h
  | some y => rw [e] at h; exact ⟨y, rfl, by injection h⟩
theorem len__law_box (K : PySem.W.Frag) : ∀ vs H Q E, sp00__law_box K vs H Q E → vs.length = (["script"] : List Str).length := by
  rintro vs H Q E ⟨_, _, rfl, _⟩
  rfl
theorem rd__law_box (T : Txt K mg) (vs : List V) (H : Hp) (Q : VK) (E : XK) (h : sp00__law_box K vs H Q E) : t__law_box K E { nx := fun _ H' => Q .non H', rt := Q } (start ["script"] vs) H := by
  obtain ⟨a, ns, rfl, hs, hl, g⟩ := h
  unfold t__law_box
  have e63 : cutV (ns.map V.int) none (some 63) = ns.map V.int := by
    unfold cutV
    have : HT.sIx (ns.map V.int).length (ns.map V.int).length (some 63) = (ns.map V.int).length := by
      rw [show (63 : Int) = ((63 : Nat) : Int) from rfl, HT.sIx_nat]
      rw [List.length_map]
      omega
    rw [this, HT.sIx_none, List.drop_zero, Nat.sub_zero, List.take_length]
  walk_at "g"
  refine w_slL hs fun q H1 nq k1 hq => ?_
  rw [e63] at hq
  walk_at "g"
  refine w_listLN (SqL.of hq) fun q2 H2 nq2 k2 hq2 => ?_
  walk_at "g"
  refine ⟨sz_ok (by show 5 ≤ 1000000; omega), nw fun b H3 nb k3 hb => ?_⟩
  exact g b q2 H3 ((k1.trans k2).free0 nb) (k1.free0 nq2) ((k1.trans k2).trans k3) ⟨⟨_, _, _, _, hb, by omega⟩, ns, k3.at0 hq2, hl⟩
theorem len__law_draw (K : PySem.W.Frag) : ∀ vs H Q E, sp00__law_draw K vs H Q E → vs.length = (["box", "many"] : List Str).length := by
  rintro vs H Q E ⟨_, _, _, rfl, _⟩
  rfl
theorem rd__law_draw (T : Txt K mg) (vs : List V) (H : Hp) (Q : VK) (E : XK) (h : sp00__law_draw K vs H Q E) : t__law_draw K E { nx := fun _ H' => Q .non H', rt := Q } (start ["box", "many", "cell", "digit", "mixed"] vs) H := by
  obtain ⟨b, c, many, rfl, hm, hm2, bx, g⟩ := h
  unfold t__law_draw
  have bc := bx.ne
  obtain ⟨p, q, m, t, hb, p0⟩ := bx.ob
  obtain ⟨ns, hc, lns⟩ := bx.hc
  walk_at "j"
  refine w_ifJ (fun σ' H' => ∃ (p q m : Int) (x2 : Option V), σ' = [some (.ref b), some (.int many), x2, none, none] ∧ Kp [b] H H' ∧ H' b = some (.lst [.ref c, .int p, .int q, .int m, .int t]) ∧ 0 ≤ p) (fun N hN => ?_) (fun σ' H2 ⟨p, q, m, x2, es, k2, h2, p0⟩ => ?_)
  · walk_at "g"
    refine w_ixL (SqL.of hb) (i := 2) (v := .int q) rfl ?_
    walk_at "g"
    refine w_iteD (fun c1 => ?_) (fun c1 => ?_)
    · walk_at "g"
      refine w_ixL (SqL.of hb) (i := 1) (v := .int p) rfl ?_
      walk_at "g"
      refine w_ixL (SqL.of hb) at_0 ?_
      walk_at "g"
      refine w_lenL (SqL.of hc) ?_
      walk_at "g"
      rw [List.length_map]
      refine w_iteD (fun c2 => ?_) (fun c2 => ?_)
      · walk_at "g"
        refine w_ixL (SqL.of hb) at_0 ?_
        walk_at "g"
        refine w_ixL (SqL.of hb) (i := 1) (v := .int p) rfl ?_
        refine w_ixL (SqL.of hc) (at_I p0 c2) ?_
        walk_at "g"
        refine w_ixL (SqL.of hb) (i := 1) (v := .int p) rfl ?_
        walk_at "g"
        refine w_seT hb (n := 1) rfl fun H2 k2 h2 => ?_
        have h2 : H2 b = some (.lst [.ref c, .int (p + 1), .int q, .int m, .int t]) := h2
        walk_at "g"
        refine w_ic ⟨by omega, by omega, by decide⟩ ?_
        walk_at "g"
        refine w_iteD (fun c3 => ?_) (fun c3 => ?_)
        · walk_at "g"
          refine w_seT h2 (n := 2) rfl fun H3 k3 h3 => ?_
          exact hN _ _ ⟨p + 1, _, m, _, rfl, k2.trans k3, h3, by omega⟩
        · walk_at "g"
          refine w_ixL (SqL.of h2) (i := 3) (v := .int m) rfl ?_
          walk_at "g"
          refine w_mulI (cmulR (by omega) (by omega)) ?_
          walk_at "g"
          refine w_mulI (cmulR (by omega) (by omega)) ?_
          walk_at "g"
          refine w_ic (by omega) ?_
          walk_at "g"
          refine w_seT h2 (n := 3) rfl fun H3 k3 h3 => ?_
          exact hN _ _ ⟨p + 1, q, _, _, rfl, k2.trans k3, h3, by omega⟩
      · walk_at "g"
        exact hN _ _ ⟨p, q, m, _, rfl, Kp.refl _ _, hb, p0⟩
    · walk_at "g"
      exact hN _ _ ⟨p, q, m, _, rfl, Kp.refl _ _, hb, p0⟩
  subst es
  have hc2 := k2.at1 (Ne.symm bc) hc
  walk_at "j"
  refine w_ifK (fun H' => H' = H2) (fun N hN => ?_) (fun H' eH => ?_)
  · walk_at "g"
    refine w_ixL (SqL.of h2) (i := 2) (v := .int q) rfl ?_
    walk_at "g"
    refine w_iteD (fun c1 => ?_) (fun c1 => ?_)
    · walk_at "g"
      refine w_ixL (SqL.of h2) (i := 2) (v := .int q) rfl ?_
      walk_at "g"
      refine w_ic hm ?_
      walk_at "g"
      refine w_ixL (SqL.of h2) (i := 2) (v := .int q) rfl ?_
      walk_at "g"
      refine w_ic ⟨hm, by omega⟩ ?_
      walk_at "g"
      refine w_seT h2 (n := 2) rfl fun H3 k3 h3 => ?_
      walk_at "g"
      exact g _ H3 (Int.emod_nonneg _ (by omega)) (Int.emod_lt_of_pos _ hm) (k2.trans k3) ⟨⟨_, _, _, _, h3, p0⟩, ns, k3.at1 (Ne.symm bc) hc2, lns⟩
    · exact hN _ rfl
  subst H'
  walk_at "g"
  refine w_ixL (SqL.of h2) (i := 4) (v := .int t) rfl ?_
  walk_at "g"
  refine w_seT h2 (n := 4) rfl fun H3 k3 h3 => ?_
  have h3 : H3 b = some (.lst [.ref c, .int p, .int q, .int m, .int (t + 1)]) := h3
  walk_at "g"
  refine w_ixL (SqL.of h3) (i := 3) (v := .int m) rfl ?_
  walk_at "g"
  refine w_mulI (cmulR (by omega) (by omega)) ?_
  walk_at "g"
  refine w_ixL (SqL.of h3) (i := 4) (v := .int (t + 1)) rfl ?_
  walk_at "g"
  refine w_mulI (cmulR (by omega) (by omega)) ?_
  walk_at "g"
  refine w_ic (by omega) ?_
  walk_at "g"
  refine w_seT h3 (n := 3) rfl fun H4 k4 h4 => ?_
  have h4 : H4 b = some (.lst [.ref c, .int p, .int q, .int ((m * 742938285 + (t + 1) * 1299709) % 2147483647), .int (t + 1)]) := h4
  walk_at "g"
  refine w_ixL (SqL.of h4) (i := 3) (v := .int _) rfl ?_
  walk_at "g"
  refine w_ic ⟨by omega, by omega⟩ ?_
  walk_at "g"
  refine w_mulI (cmulR (by omega) (by omega)) ?_
  walk_at "g"
  refine w_ixL (SqL.of h4) (i := 3) (v := .int _) rfl ?_
  walk_at "g"
  refine w_ixL (SqL.of h4) (i := 4) (v := .int (t + 1)) rfl ?_
  walk_at "g"
  refine w_ic (by omega) ?_
  walk_at "g"
  refine w_ic ⟨by omega, by omega⟩ ?_
  walk_at "g"
  refine w_ic hm ?_
  exact g _ H4 (Int.emod_nonneg _ (by omega)) (Int.emod_lt_of_pos _ hm) ((k2.trans k3).trans k4) ⟨⟨_, _, _, _, h4, p0⟩, ns, k4.at1 (Ne.symm bc) (k3.at1 (Ne.symm bc) hc2), lns⟩
theorem w_isiI {H : Hp} {Q : VK} {i : Int} {t : String} {r : Bool} (h : kitB "int" t = some r) (g : Q (.bl r) H) : rIsi K [.int i, .ty t] H Q := ⟨_, _, _, _, r, rfl, .ty t, .base (.int i), kit_ty h, g⟩
theorem w_isiL {H : Hp} {Q : VK} {a : Addr} {xs : List V} {t : String} {r : Bool} (e : H a = some (.lst xs)) (h : kitB "list" t = some r) (g : Q (.bl r) H) : rIsi K [.ref a, .ty t] H Q := ⟨_, _, _, _, r, rfl, .ty t, .base (.lst e), kit_ty h, g⟩
theorem num_ok9 {i : Int} (h : i.natAbs < 1000000000) : i.natAbs.log2 < 1920 := by
  by_cases c : i.natAbs = 0
  · rw [c]
    decide
  · exact Nat.lt_of_lt_of_le ((Nat.log2_lt c (k := 30)).mpr (by omega)) (by decide)
theorem len__law_is (K : PySem.W.Frag) : ∀ vs H Q E, sp00__law_is K vs H Q E → vs.length = (["told", "due"] : List Str).length := by
  rintro vs H Q E ⟨_, rfl, _⟩
  rfl
theorem rd__law_is (T : Txt K mg) (vs : List V) (H : Hp) (Q : VK) (E : XK) (h : sp00__law_is K vs H Q E) : t__law_is K E { nx := fun _ H' => Q .non H', rt := Q } (start ["told", "due"] vs) H := by
  obtain ⟨i, rfl, g⟩ := h
  unfold t__law_is
  walk_at "g"
  refine w_isiI (r := true) (by decide +kernel) ?_
  walk_at "g"
  refine w_isiI (r := false) (by decide +kernel) ?_
  walk_at "g"
  rw [decide_eq_true rfl]
  exact g
theorem rg_nat (n : Nat) : rgV 0 (n : Int) = (rgI 0 n).map V.int := by
  unfold rgV rgI
  rw [show ((n : Int) - 0).toNat = n by omega, List.map_map] <;> rfl
theorem rg_one (n : Nat) : rgV 1 ((n : Int) + 1) = (rgI 1 n).map V.int := by
  unfold rgV rgI
  rw [show ((n : Int) + 1 - 1).toNat = n by omega, List.map_map] <;> rfl
theorem rg_one' (n : Nat) : rgV 1 ((n : Int) + 2) = (rgI 1 (n + 1)).map V.int := by
  rw [← rg_one (n + 1)]
  congr 1
theorem rg_nat' (n : Nat) : rgV 0 ((n : Int) + 1) = (rgI 0 (n + 1)).map V.int := by
  rw [← rg_nat (n + 1)] <;> rfl
theorem rep_flat {α : Type} (n : Nat) (x : α) : (List.replicate n [x]).flatten = List.replicate n x := by
  induction n with
  | zero => rfl
  | succ n ih => rw [List.replicate_succ, List.flatten_cons, ih, List.replicate_succ] <;> rfl
theorem rep_mapB (n : Nat) (x : Bool) : (List.replicate n x).map V.bl = List.replicate n (V.bl x) := by rw [List.map_replicate]
theorem putF_len (f : Str) (v : V) : ∀ fs : List (Str × V), (putF f v fs).length ≤ fs.length + 1
  | [] => Nat.le_refl _
  | (g, w) :: fs => by
    have ih := putF_len f v fs
    unfold putF
    split
    · exact Nat.le_succ _
    · exact Nat.succ_le_succ ih
theorem pl1 (a : Str) (x : V) : (putF a x []).length < 1000 := Nat.lt_of_le_of_lt (putF_len _ _ _) (Nat.le_of_ble_eq_true rfl)
theorem pl2 (a b : Str) (x y : V) : (putF b y (putF a x [])).length < 1000 := Nat.lt_of_le_of_lt (putF_len _ _ _) (by
  have := putF_len a x []
  show (putF a x []).length + 1 < 1000
  have e : ([] : List (Str × V)).length = 0 := rfl
  omega)
theorem pl3 (a b c : Str) (x y z : V) : (putF c z (putF b y (putF a x []))).length < 1000 := Nat.lt_of_le_of_lt (putF_len _ _ _) (by
  have h1 := putF_len b y (putF a x [])
  have h2 := putF_len a x []
  have e : ([] : List (Str × V)).length = 0 := rfl
  omega)
theorem len_Links___init__ (K : PySem.W.Frag) : ∀ vs H Q E, sp_Links___init__ K vs H Q E → vs.length = (["self", "size"] : List Str).length := by
  rintro vs H Q E ⟨_, _, _, rfl, _⟩
  rfl
theorem rd_Links___init__ (T : Txt K mg) (vs : List V) (H : Hp) (Q : VK) (E : XK) (h : sp_Links___init__ K vs H Q E) : t_Links___init__ K E { nx := fun _ H' => Q .non H', rt := Q } (start ["self", "size"] vs) H := by
  obtain ⟨p, dx, size, rfl, hp, h1, h2⟩ := h
  unfold t_Links___init__
  walk_at "g"
  refine ⟨size, rfl, fun ok => ?_, h2⟩
  have h1 := h1 ok
  obtain ⟨ok1, ok2⟩ := ok
  obtain ⟨n, rfl⟩ : ∃ n : Nat, size = (n : Int) := ⟨size.toNat, by omega⟩
  rw [Int.toNat_natCast] at h1
  walk_at "g"
  refine w_sT T.cl_Links T.na_Links_size hp (by decide) fun H1 k1 p1 => ?_
  walk_at "g"
  refine ⟨.of_le (by omega) (by omega) (by omega) (by omega), nw fun r H2 nr k2 hr => ?_⟩
  walk_at "g"
  have pr : p ≠ r := ne_of_none p1 nr
  refine w_sT T.cl_Links T.na_Links__rights (k2.at0 p1) (pl1 _ _) fun H3 k3 p3 => ?_
  have hr3 := k3.at1 (Ne.symm pr) hr
  walk_at "g"
  refine ⟨sz_ok (by show 1 ≤ 1000000; omega), nw fun z H4 nz k4 hz => ?_⟩
  walk_at "g"
  refine ⟨.of_le (by omega) (by omega) (by omega) (by omega), nw fun l0 H5 nl0 k5 hl0 => ?_⟩
  walk_at "g"
  refine w_addLN (k5.at0 hz) hl0 (by rw [rgV_length]; exact sz_ok (by show 1 + _ ≤ _; omega)) fun l H6 nl k6 hl => ?_
  have k46 := (k4.trans k5).trans k6
  walk_at "g"
  have pl : p ≠ l := ne_of_none (k5.at0 (k4.at0 p3)) nl
  have rl : r ≠ l := ne_of_none (k5.at0 (k4.at0 hr3)) nl
  refine w_sT T.cl_Links T.na_Links__lefts (k46.at0 p3) (pl2 _ _ _ _) fun H7 k7 p7 => ?_
  have hr7 := k7.at1 (Ne.symm pr) (k46.at0 hr3)
  have hl7 := k7.at1 (Ne.symm pl) hl
  walk_at "g"
  refine ⟨sz_ok (by show 1 ≤ 1000000; omega), nw fun z2 H8 nz2 k8 hz2 => ?_⟩
  walk_at "g"
  refine w_mulLN hz2 (by omega) (by omega) (sz_ok (by show 1 * _ ≤ _; omega)) fun o H9 no k9 ho => ?_
  walk_at "g"
  have po : p ≠ o := ne_of_none (k8.at0 p7) no
  have ro : r ≠ o := ne_of_none (k8.at0 hr7) no
  have lo : l ≠ o := ne_of_none (k8.at0 hl7) no
  have k89 := k8.trans k9
  refine w_sT T.cl_Links T.na_Links__out (k89.at0 p7) (pl3 _ _ _ _ _ _) fun Hx kx px => ?_
  have k03 : Kp [p] H H3 := k1.trans (k2.all.trans k3)
  have k07 : Kp [p] H H7 := k03.trans (k46.all.trans k7)
  have k0x : Kp [p] H Hx := k07.trans (k89.all.trans kx)
  have mp : ∀ b, H b = none → H3 b = none → True := fun _ _ _ => trivial
  refine h1 r l o Hx (k1.free (by simpa using Ne.symm pr) nr) ?_ ?_ k0x ⟨⟨dx, px⟩, ?_, ?_, ?_, rl, ro, lo, .whole (by omega)⟩
  · exact (k03.trans (k4.trans k5).all).free (by simpa using Ne.symm pl) nl
  · exact (k07.trans k8.all).free (by simpa using Ne.symm po) no
  · rw [kx.at1 (Ne.symm pr) (k89.at0 hr7), rg_one'] <;> rfl
  · rw [kx.at1 (Ne.symm pl) (k89.at0 hl7), rg_nat'] <;> rfl
  · rw [kx.at1 (Ne.symm po) ho, show ((n : Int) + 2).toNat = n + 2 by omega, rep_flat, ← rep_mapB] <;> rfl
theorem len_Links_outs (K : PySem.W.Frag) : ∀ vs H Q E, sp_Links_outs K vs H Q E → vs.length = (["self"] : List Str).length := by
  rintro vs H Q E ⟨_, _, _, _, _, rfl, _⟩
  rfl
theorem rd_Links_outs (T : Txt K mg) (vs : List V) (H : Hp) (Q : VK) (E : XK) (h : sp_Links_outs K vs H Q E) : t_Links_outs K E { nx := fun _ H' => Q .non H', rt := Q } (start ["self", "node"] vs) H := by
  obtain ⟨p, r, l, o, s, rfl, a, g⟩ := h
  unfold t_Links_outs
  have n60 := a.wf.n60
  walk_at "g"
  refine w_fS T.cl_Links T.na_Links_size a ?_
  walk_at "g"
  refine w_r2 (by omega) ?_
  rw [show ((s.n : Int) + 1 - 1).toNat = s.n by omega]
  refine cp_rng (fun i => (outN i s.O).map V.int) (fun i hi => sz_lt (by
    rw [List.length_map]
    have := outN_len i s.O
    omega)) rfl (fun i H' S N hi k y no => ?_) (fun D H' nD k hD => g D H' nD k hD)
  walk_at "g"
  refine ⟨rfl, ?_⟩
  walk_at "g"
  refine w_fO T.cl_Links T.na_Links__out (a.k0 k) ?_
  walk_at "g"
  refine w_ixL (SqL.of (k.at0 a.ho)) (at_B (by omega) (by rw [a.wf.lO]; omega)) ?_
  walk_at "g"
  rw [show ((1 : Int) + (i : Int)).toNat = i + 1 by omega]
  refine w_iteB (fun c1 => ?_) (fun c1 => ?_)
  · walk_at "g"
    refine y _ _ (Kp.refl _ _) ?_
    unfold outN
    rw [List.range_succ, List.map_append, List.filter_append, List.map_append, List.map_append]
    congr 1
    show (([i + 1].filter fun v => gB s.O v).map _).map _ = _
    rw [List.filter_cons_of_pos c1]
    show [V.int ((i + 1 : Nat) : Int)] = [V.int (1 + (i : Int))]
    rw [Int.add_comm] <;> rfl
  · refine no _ (Kp.refl _ _) ?_
    unfold outN
    rw [List.range_succ, List.map_append, List.filter_append, List.map_append, List.map_append]
    show _ ++ (([i + 1].filter fun v => gB s.O v).map _).map _ = _
    rw [List.filter_cons_of_neg (by rw [c1]; exact Bool.false_ne_true)]
    exact List.append_nil _
theorem w_isN {x : V} {H : Hp} {Q : VK} (g : Q (.bl (decide (x = .non))) H) : rIsNA x .non H Q := ⟨rfl, g⟩
theorem len_check_size (K : PySem.W.Frag) : ∀ vs H Q E, sp_check_size K vs H Q E → vs.length = (["size"] : List Str).length := by
  rintro vs H Q E ⟨_, rfl, _⟩
  rfl
theorem rd_check_size (T : Txt K mg) (vs : List V) (H : Hp) (Q : VK) (E : XK) (h : sp_check_size K vs H Q E) : t_check_size K E { nx := fun _ H' => Q .non H', rt := Q } (start ["size"] vs) H := by
  obtain ⟨size, rfl, h1, h2⟩ := h
  unfold t_check_size
  walk_at "g"
  refine w_iteD (fun c1 => ?_) (fun c1 => ?_)
  · walk_at "g"
    refine w_iteN (fun c2 => ?_) (fun c2 => ?_)
    · walk_at "g"
      exact ⟨rfl, Nat.le_of_ble_eq_true rfl, h2 fun z => c2 z.2⟩
    · walk_at "g"
      exact h1 ⟨c1, c2⟩
  · walk_at "g"
    exact ⟨rfl, Nat.le_of_ble_eq_true rfl, h2 fun z => c1 z.1⟩
theorem len_check_operation (K : PySem.W.Frag) : ∀ vs H Q E, sp_check_operation K vs H Q E → vs.length = (["size", "operation", "index"] : List Str).length := by
  rintro vs H Q E ⟨_, _, _, rfl, _⟩
  rfl
theorem rd_check_operation (T : Txt K mg) (vs : List V) (H : Hp) (Q : VK) (E : XK) (h : sp_check_operation K vs H Q E) : t_check_operation K E { nx := fun _ H' => Q .non H', rt := Q } (start ["size", "operation", "index"] vs) H := by
  obtain ⟨n, op, i, rfl, h1, h2⟩ := h
  unfold t_check_operation
  walk_at "g"
  rw [natAbs_if]
  refine w_iteD (fun c1 => ?_) (fun c1 => ?_)
  · walk_at "g"
    refine w_iteN (fun c2 => ?_) (fun c2 => ?_)
    · walk_at "g"
      exact ⟨rfl, Nat.le_of_ble_eq_true rfl, h2 fun z => c2 (by have := z.2; omega)⟩
    · walk_at "g"
      exact h1 ⟨by omega, by omega⟩
  · walk_at "g"
    exact ⟨rfl, Nat.le_of_ble_eq_true rfl, h2 fun z => c1 (by have := z.1; omega)⟩
theorem len_Links_apply_at (K : PySem.W.Frag) : ∀ vs H Q E, sp_Links_apply_at K vs H Q E → vs.length = (["self", "operation", "index"] : List Str).length := by
  rintro vs H Q E ⟨_, _, _, _, _, _, _, rfl, _⟩
  rfl
theorem rd_Links_apply_at (T : Txt K mg) (vs : List V) (H : Hp) (Q : VK) (E : XK) (h : sp_Links_apply_at K vs H Q E) : t_Links_apply_at K E { nx := fun _ H' => Q .non H', rt := Q } (start ["self", "operation", "index", "node", "low", "high", "is_unlink"] vs) H := by
  obtain ⟨p, r, l, o, s, op, i, rfl, a, h1, h2⟩ := h
  unfold t_Links_apply_at
  walk_at "g"
  refine w_me a no_m ?_
  walk_at "g"
  refine ⟨p, r, l, o, s, op, i, rfl, a, fun ok => ?_, h2⟩
  have hi := ok.1
  obtain ⟨i1, i2⟩ := hi
  have w := a.wf
  obtain ⟨r1, r2⟩ := w.rb op.natAbs (by omega)
  obtain ⟨l1, l2⟩ := w.lb op.natAbs i1 (by omega)
  obtain ⟨pr, pl, po⟩ := a.pr
  walk_at "g"
  rw [natAbs_if]
  refine w_fL T.cl_Links T.na_Links__lefts a ?_
  walk_at "g"
  refine w_ixL (SqL.of a.hl) (at_I (by omega) (by rw [w.lL]; omega)) ?_
  walk_at "g"
  refine w_fR T.cl_Links T.na_Links__rights a ?_
  walk_at "g"
  refine w_ixL (SqL.of a.hr) (at_I (by omega) (by rw [w.lR]; omega)) ?_
  walk_at "g"
  have fin : ∀ x y : Int, x = (if op < 0 then gI s.R op.natAbs else (op.natAbs : Int)) → y = (if op < 0 then gI s.L op.natAbs else (op.natAbs : Int)) →
      Q .non (upd (upd (upd H r (.lst ((s.R.map V.int).set (gI s.L op.natAbs).toNat (.int x)))) l (.lst ((s.L.map V.int).set (gI s.R op.natAbs).toNat (.int y)))) o (.lst ((s.O.map V.bl).set op.natAbs (.bl (decide (op < 0)))))) := by
    intro x y ex ey
    refine h1 ok _ ((((Kp.refl _ H).trans (Kp.put (by simp))).trans (Kp.put (by simp))).trans (Kp.put (by simp))) ?_
    obtain ⟨dx, ob⟩ := a.ob
    rw [set_I, set_I, set_B]
    refine ⟨⟨dx, ?_⟩, ?_, ?_, ?_, a.rl, a.ro, a.lo, w.step ok.1⟩
    · rw [upd_ne po, upd_ne pl, upd_ne pr]
      exact ob
    · rw [upd_ne a.ro, upd_ne a.rl, upd_same, ex] <;> rfl
    · rw [upd_ne a.lo, upd_same, ey] <;> rfl
    · rw [upd_same] <;> rfl
  obtain ⟨dx, ob⟩ := a.ob
  have e1 : (op.natAbs : Int).toNat = op.natAbs := Int.toNat_natCast _
  have il : ixN (List.map V.int s.R).length (gI s.L op.natAbs) = some (gI s.L op.natAbs).toNat := ixN_pos (by omega) (by rw [List.length_map, w.lR]; omega)
  have ir : ixN (List.map V.int s.L).length (gI s.R op.natAbs) = some (gI s.R op.natAbs).toNat := ixN_pos (by omega) (by rw [List.length_map, w.lL]; omega)
  have io : ixN (List.map V.bl s.O).length (op.natAbs : Int) = some op.natAbs := by
    rw [ixN_pos (by omega) (by rw [List.length_map, w.lO]; omega), e1]
  rw [e1]
  refine w_iteD (fun c => ?_) (fun c => ?_)
  all_goals
    walk_at "g"
    refine w_oR T.cl_Links T.na_Links__rights ob ?_
    walk_at "g"
    refine w_setL a.hr il ?_
    walk_at "g"
    first
      | refine w_iteD (fun _ => ?_) (fun z => absurd c z)
      | refine w_iteD (fun z => absurd z c) (fun _ => ?_)
    walk_at "g"
    refine w_oL T.cl_Links T.na_Links__lefts (H := upd H r _) (by rw [upd_ne pr]; exact ob) ?_
    walk_at "g"
    refine w_setL (H := upd H r _) (by rw [upd_ne (Ne.symm a.rl)]; exact a.hl) ir ?_
    walk_at "g"
    refine w_oO T.cl_Links T.na_Links__out (H := upd (upd H r _) l _) (by rw [upd_ne pl, upd_ne pr]; exact ob) ?_
    walk_at "g"
    refine w_setL (H := upd (upd H r _) l _) (by rw [upd_ne (Ne.symm a.lo), upd_ne (Ne.symm a.ro)]; exact a.ho) io ?_
    walk_at "g"
  · exact fin _ _ (if_pos c).symm (if_pos c).symm
  · exact fin _ _ (if_neg c).symm (if_neg c).symm
theorem len_Links_apply (K : PySem.W.Frag) : ∀ vs H Q E, sp_Links_apply K vs H Q E → vs.length = (["self", "operation"] : List Str).length := by
  rintro vs H Q E ⟨_, _, _, _, _, _, rfl, _⟩
  rfl
theorem rd_Links_apply (T : Txt K mg) (vs : List V) (H : Hp) (Q : VK) (E : XK) (h : sp_Links_apply K vs H Q E) : t_Links_apply K E { nx := fun _ H' => Q .non H', rt := Q } (start ["self", "operation"] vs) H := by
  obtain ⟨p, r, l, o, s, op, rfl, a, h1, h2⟩ := h
  unfold t_Links_apply
  walk_at "g"
  refine w_me a no_m ?_
  walk_at "g"
  exact ⟨p, r, l, o, s, op, 0, rfl, a, h1, h2⟩
theorem take_snoc {α : Type} {l : List α} {i : Nat} {x : α} (h : l[i]? = some x) : l.take (i + 1) = l.take i ++ [x] := by
  rw [List.take_succ, h] <;> rfl
theorem len_Links_copy (K : PySem.W.Frag) : ∀ vs H Q E, sp_Links_copy K vs H Q E → vs.length = (["self"] : List Str).length := by
  rintro vs H Q E ⟨_, _, _, _, _, rfl, _⟩
  rfl
theorem rd_Links_copy (T : Txt K mg) (vs : List V) (H : Hp) (Q : VK) (E : XK) (h : sp_Links_copy K vs H Q E) : t_Links_copy K E { nx := fun _ H' => Q .non H', rt := Q } (start ["self", "twin"] vs) H := by
  obtain ⟨p, r, l, o, s, rfl, a, g⟩ := h
  unfold t_Links_copy
  walk_at "g"
  refine w_fS T.cl_Links T.na_Links_size a ?_
  walk_at "g"
  refine mk fun q dx H1 nq hq k1 => ?_
  refine ⟨q, dx, s.n, rfl, hq, fun ok r1 l1 o1 H2 nr1 nl1 no1 k2 b => ⟨rfl, ?_⟩, fun z => absurd ⟨by omega, by have := a.wf.n60; omega⟩ z⟩
  have a1 := a.k0 k1
  obtain ⟨dx1, ob1⟩ := a1.ob
  have qp : p ≠ q := by
    obtain ⟨dx0, ob⟩ := a.ob
    exact ne_of_none ob nq
  have qr : r ≠ q := ne_of_none a.hr nq
  have ql : l ≠ q := ne_of_none a.hl nq
  have qo : o ≠ q := ne_of_none a.ho nq
  have a2 := a1.kp k2 (by simpa using qp) (by simpa using qr) (by simpa using ql) (by simpa using qo)
  walk_at "g"
  refine w_fR T.cl_Links T.na_Links__rights a2 ?_
  walk_at "g"
  refine w_listLN (SqL.of a2.hr) fun r3 H3 nr3 k3 hr3 => ?_
  walk_at "g"
  have b3 := b.k0 k3
  obtain ⟨dx3, ob3⟩ := b3.ob
  refine w_sT T.cl_Links T.na_Links__rights ob3 (fl_len _ _ _ _) fun H4 k4 p4 => ?_
  rw [fl_putR] at p4
  have a4 := (a2.k0 k3).kp k4 (by simpa using qp) (by simpa using qr) (by simpa using ql) (by simpa using qo)
  walk_at "g"
  refine w_fL T.cl_Links T.na_Links__lefts a4 ?_
  walk_at "g"
  refine w_listLN (SqL.of a4.hl) fun l5 H5 nl5 k5 hl5 => ?_
  walk_at "g"
  refine w_sT T.cl_Links T.na_Links__lefts (k5.at0 p4) (fl_len _ _ _ _) fun H6 k6 p6 => ?_
  rw [fl_putL] at p6
  have a6 := (a4.k0 k5).kp k6 (by simpa using qp) (by simpa using qr) (by simpa using ql) (by simpa using qo)
  walk_at "g"
  refine w_fO T.cl_Links T.na_Links__out a6 ?_
  walk_at "g"
  refine w_listLN (SqL.of a6.ho) fun o7 H7 no7 k7 ho7 => ?_
  walk_at "g"
  refine w_sT T.cl_Links T.na_Links__out (k7.at0 p6) (fl_len _ _ _ _) fun H8 k8 p8 => ?_
  rw [fl_putO] at p8
  walk_at "g"
  have rq : r3 ≠ q := (ne_of_none b.ob.choose_spec nr3).symm
  have lq : l5 ≠ q := (ne_of_none p4 nl5).symm
  have oq : o7 ≠ q := (ne_of_none p6 no7).symm
  have hr4 := k4.at1 rq hr3
  have hr6 := k6.at1 rq (k5.at0 hr4)
  have hl6 := k6.at1 lq hl5
  have k02 : Kp [q] H H2 := k1.all.trans k2
  have k04 : Kp [q] H H4 := k02.trans (k3.all.trans k4)
  have k06 : Kp [q] H H6 := k04.trans (k5.all.trans k6)
  have k08 : Kp [q] H H8 := k06.trans (k7.all.trans k8)
  refine g q r3 l5 o7 H8 nq (k02.free (by simpa using rq) nr3) (k04.free (by simpa using lq) nl5) (k06.free (by simpa using oq) no7) (k08.cut1 nq) ⟨⟨dx3, p8⟩, k8.at1 rq (k7.at0 hr6), k8.at1 lq (k7.at0 hl6), k8.at1 oq ho7, ?_, ?_, ?_, a.wf⟩
  · exact ne_of_none hr4 nl5
  · exact ne_of_none hr6 no7
  · exact ne_of_none hl6 no7
theorem len_Links_is_legal (K : PySem.W.Frag) : ∀ vs H Q E, sp_Links_is_legal K vs H Q E → vs.length = (["self", "operation"] : List Str).length := by
  rintro vs H Q E ⟨_, _, _, _, _, _, rfl, _⟩
  rfl
theorem rd_Links_is_legal (T : Txt K mg) (vs : List V) (H : Hp) (Q : VK) (E : XK) (h : sp_Links_is_legal K vs H Q E) : t_Links_is_legal K E { nx := fun _ H' => Q .non H', rt := Q } (start ["self", "operation"] vs) H := by
  obtain ⟨p, r, l, o, s, op, rfl, a, hi, k⟩ := h
  unfold t_Links_is_legal
  walk_at "g"
  refine w_fO T.cl_Links T.na_Links__out a ?_
  walk_at "g"
  rw [natAbs_if]
  have hlt : (op.natAbs : Int) < (s.O.length : Int) := by
    rw [a.wf.lO]
    have := hi.2
    omega
  refine w_ixL (SqL.of a.ho) (at_B (by omega) hlt) ?_
  walk_at "g"
  exact k
theorem len_Links_check (K : PySem.W.Frag) : ∀ vs H Q E, sp_Links_check K vs H Q E → vs.length = (["self", "operation", "index"] : List Str).length := by
  rintro vs H Q E ⟨_, _, _, _, _, _, _, rfl, _⟩
  rfl
theorem rd_Links_check (T : Txt K mg) (vs : List V) (H : Hp) (Q : VK) (E : XK) (h : sp_Links_check K vs H Q E) : t_Links_check K E { nx := fun _ H' => Q .non H', rt := Q } (start ["self", "operation", "index"] vs) H := by
  obtain ⟨p, r, l, o, s, op, i, rfl, a, h1, h2⟩ := h
  unfold t_Links_check
  walk_at "g"
  refine w_fS T.cl_Links T.na_Links_size a ?_
  walk_at "g"
  refine ⟨s.n, op, i, rfl, fun hi => ?_, fun hi => ?_⟩
  · walk_at "g"
    refine w_me a no_m ?_
    walk_at "g"
    refine ⟨p, r, l, o, s, op, rfl, a, hi, ?_⟩
    walk_at "g"
    refine w_iteN (fun c => ?_) (fun c => ?_)
    · walk_at "g"
      refine ⟨rfl, Nat.le_of_ble_eq_true rfl, ?_⟩
      have e := h2 fun z => c z.2
      unfold OpE at e
      rw [if_pos hi] at e
      exact e
    · walk_at "g"
      exact h1 ⟨hi, c⟩
  · have e := h2 fun z => hi z.1
    unfold OpE at e
    rw [if_neg hi] at e
    exact e
end
end G

set_option Elab.async false
set_option linter.all false
set_option maxRecDepth 100000
set_option maxHeartbeats 1000000
namespace G
--#FAM KL
open PySem PySem.Spec PyProof.Rows L2
local macro_rules
  | `(tactic| walk_at "1") => `(tactic| first
    | with_reducible refine w_seq ?_
    | with_reducible refine w_asg ?_
    | with_reducible refine w_asgS ?_
    | with_reducible refine w_asf ?_
    | with_reducible refine w_drop ?_
    | with_reducible refine w_ret ?_
    | with_reducible refine w_if ?_
    | with_reducible refine w_not ?_
    | with_reducible refine w_and ?_
    | with_reducible refine w_or ?_
    | with_reducible refine w_test ?_
    | with_reducible refine w_tb ?_
    | with_reducible refine w_chain ?_
    | with_reducible refine w_op ?_
    | with_reducible refine w_un ?_
    | with_reducible refine w_andV ?_
    | with_reducible refine w_orV ?_
    | with_reducible refine w_notV ?_
    | with_reducible refine w_ifE ?_
    | with_reducible refine w_cons ?_
    | with_reducible refine w_nil ?_
    | with_reducible refine w_cb ?_
    | with_reducible refine w_cl ?_
    | with_reducible refine w_mt ?_
    | with_reducible refine w_fld ?_
    | with_reducible refine w_tupN ?_
    | with_reducible refine w_lstN ?_
    | with_reducible refine w_bm ?_
    | with_reducible refine w_bm0 ?_
    | with_reducible refine w_for ?_
    | with_reducible refine w_lc ?_
    | with_reducible refine w_iR1 ?_
    | with_reducible refine w_iR2 ?_
    | with_reducible refine w_iL ?_
    | with_reducible refine w_iT ?_
    | with_reducible refine w_iE ?_
    | with_reducible refine w_iZ ?_
    | with_reducible refine w_var (by with_unfolding_all rfl) ?_
    | with_reducible refine w_c ?_
    | with_reducible refine w_next ?_
    | with_reducible refine w_i0 ?_
    | with_reducible refine w_u1 ?_
    | with_reducible refine w_addI ?_
    | with_reducible refine w_eqI ?_
    | with_reducible refine w_eqS ?_
    | with_reducible refine w_eqB ?_
    | with_reducible refine w_neI ?_
    | with_reducible refine w_neS ?_
    | with_reducible refine w_neB ?_
    | with_reducible refine w_abs ?_
    | with_reducible refine w_intI ?_
    | with_reducible refine w_min2 ?_
    | with_reducible refine w_max2 ?_
    | with_reducible refine w_isN0 ?_
    | with_reducible refine w_isN1 ref_ne ?_
    | with_reducible refine w_isN1 int_ne ?_
    | with_reducible refine w_notN0 ?_
    | with_reducible refine w_notN1 ref_ne ?_
    | with_reducible refine w_notN1 int_ne ?_
    | with_reducible refine w_ex1 ?_
    | with_reducible refine w_n1 ?_
    | with_reducible refine w_n2 ?_
    | with_reducible refine w_tT ?_
    | with_reducible refine w_tF ?_
    | with_reducible refine w_nT ?_
    | with_reducible refine w_nF ?_
    | with_reducible refine w_rz ?_
    | with_reducible refine w_mkN ?_
    | with_reducible refine w_lrgN ?_
    | with_reducible refine w_rg1 ?_
    | with_reducible refine w_rg2 ?_
    | with_reducible refine w_sl ?_
    | with_reducible refine w_np ?_
    | with_reducible refine w_pt ?_
    | with_reducible refine w_tr ?_
    | with_reducible refine w_gn ?_
    | with_reducible refine w_yes ?_
    | with_reducible refine w_m1 ?_
    | with_reducible refine w_asu ?_
    | with_reducible refine w_exS ?_
    | with_reducible refine w_iS ?_
    | with_reducible refine w_g1 ?_
    | with_reducible refine w_gc ?_
    | with_reducible refine w_gt (SqT.of upd_same) rfl ?_)
local macro_rules
  | `(tactic| walk_at "g") => `(tactic| repeat walk_at "1")
local macro_rules
  | `(tactic| walk_at "j1") => `(tactic| first
    | with_reducible refine w_seqI ?_
    | walk_at "1")
local macro_rules
  | `(tactic| walk_at "j") => `(tactic| repeat walk_at "j1")
section
variable {K : PySem.W.Frag} {mg : Str → Option Value}
theorem dpI {H : Hp} : ∀ xs : List Int, DpAll K H (xs.map V.int) (xs.map PyData.int)
  | [] => .nil
  | x :: xs => .cons (.int x) (dpI xs)
theorem layI : ∀ xs : List Int, PyData.canLayAll0 (xs.map PyData.int) = true
  | [] => rfl
  | x :: xs => by
    show PyData.canLayAll0 (PyData.int x :: xs.map PyData.int) = true
    rw [PyData.canLayAll0, layI xs] <;> rfl
theorem depI : ∀ xs : List Int, PyData.depthAll (xs.map PyData.int) ≤ 1
  | [] => by simp [PyData.depthAll]
  | x :: xs => by
    have := depI xs
    show PyData.depthAll (PyData.int x :: xs.map PyData.int) ≤ 1
    rw [PyData.depthAll]
    simp [PyData.depth]
    omega
theorem shI (xs : List Int) : SeqAt.shaped (.list (xs.map PyData.int)) = true := by
  unfold SeqAt.shaped
  rw [PyData.canLay0, layI, PyData.depth]
  have := depI xs
  simp
  omega
theorem so1 : PyData.strOk ("size" : Str) = true := by decide +kernel
theorem so2 : PyData.strOk ("gap" : Str) = true := by decide +kernel
theorem so3 : PyData.strOk ("done" : Str) = true := by decide +kernel
theorem so4 (c : Prop) [Decidable c] : PyData.strOk (if c then ("illegal" : Str) else "operation") = true := by
  by_cases h : c
  · rw [if_pos h]
    decide +kernel
  · rw [if_neg h]
    decide +kernel
theorem dpF {H : Hp} {size g : Int} {log : List Int} {xs : List V} (f : FltV size log g xs) : ∃ ds, DpAll K H xs ds ∧ SeqAt.shaped (.tuple ds) = true := by
  rcases f with ⟨_, rfl⟩ | ⟨_, i, op, _, _, _, rfl⟩ | ⟨_, _, _, rfl⟩ | ⟨_, _, _, rfl⟩
  · exact ⟨_, .cons (.str _) (.cons (.int _) .nil), by simp [so1, so2, so3, so4, SeqAt.shaped, PyData.canLay0, PyData.canLayAll0, PyData.depth, PyData.depthAll]⟩
  · exact ⟨_, .cons (.str _) (.cons (.int _) (.cons (.int _) .nil)), by simp [so1, so2, so3, so4, SeqAt.shaped, PyData.canLay0, PyData.canLayAll0, PyData.depth, PyData.depthAll]⟩
  · exact ⟨_, .cons (.str _) (.cons (.int _) .nil), by simp [so1, so2, so3, so4, SeqAt.shaped, PyData.canLay0, PyData.canLayAll0, PyData.depth, PyData.depthAll]⟩
  · exact ⟨_, .cons (.str _) .nil, by simp [so1, so2, so3, so4, SeqAt.shaped, PyData.canLay0, PyData.canLayAll0, PyData.depth, PyData.depthAll]⟩
theorem w_eqL {H : Hp} {Q : VK} {p q : Addr} {xs : List Int} (h1 : SqL K H p (xs.map V.int)) (h2 : SqL K H q (xs.map V.int)) (g : Q (.bl true) H) : rEqA K (.ref p) (.ref q) H Q :=
  w_eqD (.lst h1 (dpI xs)) (.lst h2 (dpI xs)) (shI xs) (shI xs) (by
    rw [SeqAt.eqv_refl _ (SeqAt.canLay_of_shaped (shI xs))]
    exact g)
theorem cps_len (x : Str) : x.cps.size = x.length := rfl
theorem len_is_positive (K : PySem.W.Frag) : ∀ vs H Q E, sp_is_positive K vs H Q E → vs.length = (["word"] : List Str).length := by
  rintro vs H Q E ⟨_, rfl, _⟩
  rfl
theorem rd_is_positive (T : Txt K mg) (vs : List V) (H : Hp) (Q : VK) (E : XK) (h : sp_is_positive K vs H Q E) : t_is_positive K E { nx := fun _ H' => Q .non H', rt := Q } (start ["word", "letter"] vs) H := by
  obtain ⟨i, rfl, h1, h2, g⟩ := h
  unfold t_is_positive
  have l1 := numI_pos (i := i) (by omega)
  have l9 := numI_len (i := i) (by omega) h2
  have lz : (numI i).length ≤ sizeLine := sz_ok (by omega)
  walk_at "g"
  refine w_lenS lz ?_
  walk_at "g"
  refine w_iteD (fun _ => ?_) (fun c => absurd (by omega) c)
  walk_at "g"
  refine w_iteD (fun _ => ?_) (fun c => absurd (by omega) c)
  walk_at "g"
  have e : (numI i).cps.toList = TL.numL i.toNat := tl_numI (by omega)
  obtain ⟨c, r, ec⟩ : ∃ c r, TL.numL i.toNat = c :: r := by
    cases q : TL.numL i.toNat with
    | nil => exact absurd q (TL.numL_ne _)
    | cons c r => exact ⟨c, r, rfl⟩
  have hc := numL_head i.toNat (by omega) c r ec
  refine w_ixS (c := c) lz (by rw [e, ec, atI_pos (by omega) (by simp)] <;> rfl) ?_
  walk_at "g"
  refine w_iteN (fun _ => ?_) (fun z => ?_)
  · walk_at "g"
    refine ⟨_, rfl, cp_str (x := numI i) (fun j => List.replicate j (V.bl true)) (fun j hj => sz_lt (by rw [List.length_replicate]; have : (numI i).cps.size = (numI i).length := rfl; omega)) rfl (fun j c H' S N hc k y _ => ?_) (fun D H' nD k hD => ?_)⟩
    · walk_at "g"
      refine ⟨rfl, ?_⟩
      walk_at "g"
      refine w_inS ?_
      have m : c ∈ (numI i).cps.toList := by
        rw [Array.getElem?_eq_some_iff] at hc
        obtain ⟨hj, rfl⟩ := hc
        exact Array.getElem_mem_toList hj
      have m2 : c ∈ ("0123456789" : Str).cps.toList := numI_digits (by omega) m
      refine y _ _ (Kp.refl _ _) ?_
      rw [rep_snoc, decide_eq_true m2]
    · walk_at "g"
      exact w_allT (SqL.of hD) (g H' k)
  · exfalso
    have z2 : (⟨#[c]⟩ : Str).cps.toList = ("0" : Str).cps.toList := by rw [z]
    have z3 : ("0" : Str).cps.toList = [48] := by decide +kernel
    rw [z3] at z2
    have : c = 48 := by simpa using z2
    exact hc this
theorem len__read_numbers (K : PySem.W.Frag) : ∀ vs H Q E, sp__read_numbers K vs H Q E → vs.length = (["text", "part"] : List Str).length := by
  rintro vs H Q E ⟨_, _, rfl, _⟩
  rfl
theorem rd__read_numbers (T : Txt K mg) (vs : List V) (H : Hp) (Q : VK) (E : XK) (h : sp__read_numbers K vs H Q E) : t__read_numbers K E { nx := fun _ H' => Q .non H', rt := Q } (start ["text", "part", "words", "word"] vs) H := by
  obtain ⟨l, part, rfl, hne, h9, hl, g⟩ := h
  unfold t__read_numbers
  have h0 : ∀ i ∈ l, 0 ≤ i := fun i hi => (h9 i hi).1
  walk_at "g"
  have e1 : (" " : Str) = spS := rfl
  rw [e1]
  refine w_split (by decide +kernel) (by
    have := joinI_len h9
    exact sz_ok (by omega)) fun q H1 nq k1 hq => ?_
  rw [split_joinI hne h0] at hq
  walk_at "g"
  refine w_l1 (SqL.of hq) ?_
  have lq : ((l.map numI).map V.str).length = l.length := by rw [List.length_map, List.length_map]
  refine cp_lst (SqL.of hq) (fun j => List.replicate j (V.bl true)) (fun j hj => sz_lt (by rw [List.length_replicate]; omega)) rfl (fun j x H' S N hx k y _ => ?_) (fun D H2 nD k2 hD => ?_)
  · obtain ⟨w, hw, rfl⟩ := at_map hx
    rw [List.getElem?_map] at hw
    obtain ⟨i, hi, rfl⟩ : ∃ i, l[j]? = some i ∧ numI i = w := by
      cases e : l[j]? with
      | none => rw [e] at hw; cases hw
      | some i => rw [e] at hw; exact ⟨i, rfl, by injection hw⟩
    have hb := h9 i (List.mem_of_getElem? hi)
    walk_at "g"
    refine ⟨rfl, ?_⟩
    walk_at "g"
    refine w_iteD (fun _ => ?_) (fun c => ?_)
    · refine y _ _ (Kp.refl _ _) ?_
      rw [rep_snoc]
    · walk_at "g"
      refine ⟨i, rfl, ?_, hb.2, fun H3 k3 => y _ _ k3 (by rw [rep_snoc])⟩
      apply Classical.byContradiction
      intro z
      have : i = 0 := by omega
      subst this
      exact c zeroS
  · rw [lq] at hD
    walk_at "g"
    refine w_allT (SqL.of hD) ?_
    walk_at "g"
    have hq2 := k2.at0 hq
    refine w_l1 (SqL.of hq2) ?_
    refine cp_lst (SqL.of hq2) (fun j => (l.take j).map V.int) (fun j hj => sz_lt (by rw [List.length_map, List.length_take]; omega)) rfl (fun j x H' S N hx k y _ => ?_) (fun D3 H3 nD3 k3 hD3 => ?_)
    · obtain ⟨w, hw, rfl⟩ := at_map hx
      rw [List.getElem?_map] at hw
      obtain ⟨i, hi, rfl⟩ : ∃ i, l[j]? = some i ∧ numI i = w := by
        cases e : l[j]? with
        | none => rw [e] at hw; cases hw
        | some i => rw [e] at hw; exact ⟨i, rfl, by injection hw⟩
      have hb := h9 i (List.mem_of_getElem? hi)
      walk_at "g"
      refine ⟨rfl, ?_⟩
      walk_at "g"
      refine w_intS (intText_num hb.1 hb.2) (by have := numI_len hb.1 hb.2; omega) ?_
      exact y _ _ (Kp.refl _ _) (map_snoc hi)
    · rw [lq, List.take_length] at hD3
      exact g D3 H3 ((k1.trans k2).free0 nD3) ((k1.trans k2).trans k3) hD3
theorem num9_of {l : List Int} (h : ∀ v, v < l.length → 0 ≤ gI l v ∧ gI l v ≤ 100) : Num9 l := by
  intro i hi
  obtain ⟨j, hj⟩ := List.getElem?_of_mem hi
  have := h j (List.getElem?_eq_some_iff.mp hj).1
  rw [gI_of hj] at this
  omega
theorem gI_at' {l : List Int} {j : Nat} {v : Int} (h : l[j]? = some v) : gI l j = v ∧ j < l.length := ⟨gI_of h, (List.getElem?_eq_some_iff.mp h).1⟩
theorem len__read_rights (K : PySem.W.Frag) : ∀ vs H Q E, sp__read_rights K vs H Q E → vs.length = (["text"] : List Str).length := by
  rintro vs H Q E ⟨_, _, rfl, _⟩
  rfl
theorem rd__read_rights (T : Txt K mg) (vs : List V) (H : Hp) (Q : VK) (E : XK) (h : sp__read_rights K vs H Q E) : t__read_rights K E { nx := fun _ H' => Q .non H', rt := Q } (start ["text", "rights", "size", "node", "link"] vs) H := by
  obtain ⟨n, l, rfl, hn, hl, hb, g⟩ := h
  unfold t__read_rights
  have h9 : Num9 l := num9_of fun v hv => by have := hb v (by omega); omega
  walk_at "g"
  refine ⟨l, 0, rfl, (fun z => by rw [z] at hl; simp at hl), h9, by omega, fun a H1 na k1 ha => ?_⟩
  walk_at "g"
  refine w_lenL (SqL.of ha) ?_
  walk_at "g"
  have lm : (l.map V.int).length = n + 1 := by rw [List.length_map, hl]
  rw [lm, show (((n + 1 : Nat) : Int) - 1) = (n : Int) by omega]
  walk_at "g"
  refine w_iteD (fun c => absurd c (by omega)) (fun _ => ?_)
  walk_at "g"
  refine ⟨a, _, rfl, SqL.of ha, cp_enum (SqL.of ha) (fun j => List.replicate j (V.bl true)) (fun j hj => sz_lt (by rw [List.length_replicate]; omega)) rfl (fun i x Tq H' S N hx k nT yes _ => ?_) (fun D H2 nD k2 hD => ?_)⟩
  · obtain ⟨v, hv, rfl⟩ := at_map hx
    obtain ⟨ev, lt⟩ := gI_at' hv
    have b := hb i (by omega)
    rw [ev] at b
    have kT : Kp [] H' (upd H' Tq (.tup [.int (i : Int), .int v])) := Kp.new nT
    walk_at "g"
    refine ⟨rfl, ?_⟩
    walk_at "g"
    refine w_iteD (fun _ => ?_) (fun c => absurd b.1 c)
    walk_at "g"
    refine yes _ _ kT ?_
    rw [rep_snoc, decide_eq_true b.2]
  · rw [lm] at hD
    walk_at "g"
    refine w_allT (SqL.of hD) ?_
    walk_at "g"
    exact g a H2 na (k1.trans k2) (k2.at0 ha)
theorem len__read_lefts (K : PySem.W.Frag) : ∀ vs H Q E, sp__read_lefts K vs H Q E → vs.length = (["text", "size"] : List Str).length := by
  rintro vs H Q E ⟨_, _, rfl, _⟩
  rfl
theorem rd__read_lefts (T : Txt K mg) (vs : List V) (H : Hp) (Q : VK) (E : XK) (h : sp__read_lefts K vs H Q E) : t__read_lefts K E { nx := fun _ H' => Q .non H', rt := Q } (start ["text", "size", "lefts", "place", "link"] vs) H := by
  obtain ⟨n, l, rfl, hn, hl, hb, g⟩ := h
  unfold t__read_lefts
  have h9 : Num9 l := num9_of fun v hv => by have := hb v (by omega); omega
  walk_at "g"
  refine ⟨l, 1, rfl, (fun z => by rw [z] at hl; simp at hl), h9, by omega, fun a H1 na k1 ha => ?_⟩
  walk_at "g"
  refine w_lenL (SqL.of ha) ?_
  walk_at "g"
  have lm : (l.map V.int).length = n + 1 := by rw [List.length_map, hl]
  rw [lm]
  refine w_iteN (fun c => absurd (by omega) c) (fun _ => ?_)
  walk_at "g"
  refine ⟨a, _, rfl, SqL.of ha, cp_enum (SqL.of ha) (fun j => List.replicate j (V.bl true)) (fun j hj => sz_lt (by rw [List.length_replicate]; omega)) rfl (fun i x Tq H' S N hx k nT yes _ => ?_) (fun D H2 nD k2 hD => ?_)⟩
  · obtain ⟨v, hv, rfl⟩ := at_map hx
    obtain ⟨ev, lt⟩ := gI_at' hv
    have b := hb i (by omega)
    rw [ev] at b
    have kT : Kp [] H' (upd H' Tq (.tup [.int (i : Int), .int v])) := Kp.new nT
    walk_at "g"
    refine ⟨rfl, ?_⟩
    walk_at "g"
    refine yes _ _ kT ?_
    rw [rep_snoc, decide_eq_true b.2]
  · rw [lm] at hD
    walk_at "g"
    refine w_allT (SqL.of hD) ?_
    walk_at "g"
    exact g a H2 na (k1.trans k2) (k2.at0 ha)
theorem outN_sorted (n : Nat) (O : List Bool) : (outN n O).Pairwise (· < ·) := by
  unfold outN
  refine List.Pairwise.map (R := fun a b : Nat => a < b) _ (fun a b h => ?_) (List.Pairwise.filter (R := fun a b : Nat => a < b) _ (List.Pairwise.map (R := fun a b : Nat => a < b) (S := fun a b : Nat => a < b) _ (fun a b h => ?_) (List.pairwise_lt_range (n := n))))
  · exact Int.ofNat_lt.mpr h
  · exact Nat.succ_lt_succ h
theorem bounds_sorted (n : Nat) (O : List Bool) : ([0] ++ outN n O ++ [(n : Int) + 1]).Pairwise (· < ·) := by
  refine List.pairwise_append.mpr ⟨List.pairwise_append.mpr ⟨List.pairwise_singleton _ _, outN_sorted n O, fun a ha b hb => ?_⟩, List.pairwise_singleton _ _, fun a ha b hb => ?_⟩
  · have := outN_bd hb
    rw [List.mem_singleton] at ha
    omega
  · rw [List.mem_singleton] at hb
    rcases List.mem_append.mp ha with ha | ha
    · rw [List.mem_singleton] at ha
      omega
    · have := outN_bd ha
      omega
theorem outN_9 {n : Nat} (h : n ≤ 60) (O : List Bool) : Num9 (outN n O) := fun i hi => by
  have := outN_bd hi
  omega
theorem len__read_outs (K : PySem.W.Frag) : ∀ vs H Q E, sp__read_outs K vs H Q E → vs.length = (["text", "size"] : List Str).length := by
  rintro vs H Q E ⟨_, _, rfl, _⟩
  rfl
theorem rd__read_outs (T : Txt K mg) (vs : List V) (H : Hp) (Q : VK) (E : XK) (h : sp__read_outs K vs H Q E) : t__read_outs K E { nx := fun _ H' => Q .non H', rt := Q } (start ["text", "size", "outs", "bounds", "low", "high"] vs) H := by
  obtain ⟨n, O, rfl, hn, g⟩ := h
  unfold t__read_outs
  by_cases e : outN n O = []
  · rw [e] at g ⊢
    have eo : outsT [] = ("none" : Str) := if_pos rfl
    rw [eo]
    walk_at "g"
    refine w_iteD (fun _ => ?_) (fun c => absurd rfl c)
    walk_at "g"
    refine ⟨sz_ok (Nat.zero_le _), nw fun q H1 nq k1 hq => ?_⟩
    exact g q H1 nq k1 hq
  · have eo : outsT (outN n O) = joinI (outN n O) := if_neg e
    have h9 := outN_9 hn O
    have ol := outN_len n O
    rw [eo]
    walk_at "g"
    refine w_iteD (fun c => absurd c (joinI_ne_none e fun i hi => (h9 i hi).1)) (fun _ => ?_)
    walk_at "g"
    refine ⟨outN n O, 2, rfl, e, h9, by omega, fun a H1 na k1 ha => ?_⟩
    walk_at "g"
    refine ⟨sz_ok (by show 1 ≤ 1000000; omega), nw fun z H2 nz k2 hz => ?_⟩
    walk_at "g"
    refine w_addLN hz (k2.at0 ha) (sz_ok (by rw [List.length_map]; show 1 + _ ≤ _; omega)) fun b H3 nb k3 hb => ?_
    walk_at "g"
    refine ⟨sz_ok (by show 1 ≤ 1000000; omega), nw fun z2 H4 nz2 k4 hz2 => ?_⟩
    walk_at "g"
    refine w_addLN (k4.at0 hb) hz2 (sz_ok (by rw [List.length_append, List.length_map]; show 1 + _ + 1 ≤ _; omega)) fun c H5 nc k5 hc => ?_
    have hc' : H5 c = some (.lst (([0] ++ outN n O ++ [(n : Int) + 1]).map V.int)) := by
      rw [hc, List.map_append, List.map_append] <;> rfl
    have so := bounds_sorted n O
    generalize eB : ([0] ++ outN n O ++ [(n : Int) + 1]) = B at hc' so
    have lB : B.length = (outN n O).length + 2 := by
      rw [← eB, List.length_append, List.length_append]
      show 1 + _ + 1 = _
      omega
    have a5 := ((k2.trans k3).trans (k4.trans k5)).at0 ha
    have k15 := (k1.trans ((k2.trans k3).trans (k4.trans k5)))
    walk_at "g"
    refine w_slL (SqL.of hc') fun d H6 nd k6 hd => ?_
    have e1 : cutV (B.map V.int) (some 1) none = (B.map V.int).drop 1 := cut_drop _ 1 (by rw [List.length_map]; omega)
    rw [e1, ← List.map_drop] at hd
    walk_at "g"
    refine ⟨c, d, _, _, rfl, SqL.of (k6.at0 hc'), SqL.of hd, cp_zip (SqL.of (k6.at0 hc')) (SqL.of hd) (by rw [List.length_map, List.length_map, List.length_drop]; omega) (fun j => List.replicate j (V.bl true)) (fun j hj => sz_lt (by rw [List.length_map, List.length_drop] at hj; rw [List.length_replicate]; omega)) rfl (fun i x y Tq H' S N hx hy k nT yes _ => ?_) (fun D H7 nD k7 hD => ?_)⟩
    · obtain ⟨v, hv, rfl⟩ := at_map hx
      obtain ⟨u, hu, rfl⟩ := at_map hy
      rw [List.getElem?_drop] at hu
      have lt : v < u := by
        obtain ⟨h1, e1⟩ := List.getElem?_eq_some_iff.mp hv
        obtain ⟨h2, e2⟩ := List.getElem?_eq_some_iff.mp hu
        have := List.pairwise_iff_getElem.mp so i (1 + i) h1 h2 (by omega)
        rw [e1, e2] at this
        exact this
      have kT : Kp [] H' (upd H' Tq (.tup [.int v, .int u])) := Kp.new nT
      walk_at "g"
      refine ⟨rfl, ?_⟩
      walk_at "g"
      refine yes _ _ kT ?_
      rw [rep_snoc, decide_eq_true lt]
    · walk_at "g"
      refine w_allT (SqL.of hD) ?_
      walk_at "g"
      exact g a H7 na ((k15.trans k6).trans k7) (k7.at0 (k6.at0 a5))
theorem log_ok {i : Int} (h : 0 ≤ i) (h2 : i < 1000000000) : i.natAbs.log2 < 1920 := by
  by_cases z : i.natAbs = 0
  · rw [z]
    decide
  · rw [Nat.log2_lt z]
    exact Nat.lt_of_lt_of_le (show i.natAbs < 2 ^ 30 by omega) (Nat.pow_le_pow_right (by decide) (by decide))
theorem len__joined (K : PySem.W.Frag) : ∀ vs H Q E, sp__joined K vs H Q E → vs.length = (["numbers"] : List Str).length := by
  rintro vs H Q E ⟨_, _, rfl, _⟩
  rfl
theorem rd__joined (T : Txt K mg) (vs : List V) (H : Hp) (Q : VK) (E : XK) (h : sp__joined K vs H Q E) : t__joined K E { nx := fun _ H' => Q .non H', rt := Q } (start ["numbers", "number"] vs) H := by
  obtain ⟨a, l, rfl, ha, h9, hl, g⟩ := h
  unfold t__joined
  walk_at "g"
  refine w_l1 ha ?_
  refine cp_lst ha (fun j => (l.take j).map fun i => V.str (numI i)) (fun j hj => sz_lt (by rw [List.length_map, List.length_take]; omega)) rfl (fun j x H' S N hx k y _ => ?_) (fun D H1 nD k1 hD => ?_)
  · obtain ⟨v, hv, rfl⟩ := at_map hx
    have b := h9 v (List.mem_of_getElem? hv)
    walk_at "g"
    refine ⟨rfl, ?_⟩
    walk_at "g"
    refine w_str (log_ok b.1 b.2) ?_
    exact y _ _ (Kp.refl _ _) (map_snoc (f := fun i => V.str (numI i)) hv)
  · rw [List.length_map, List.take_length] at hD
    have e : (l.map fun i => V.str (numI i)) = (l.map numI).map V.str := by rw [List.map_map] <;> rfl
    rw [e] at hD
    exact w_joinL (SqL.of hD) (join_cost h9 (by omega)) (g H1 k1)
theorem outsT_len {l : List Int} (h : Num9 l) : (outsT l).length ≤ 10 * l.length + 4 := by
  unfold outsT
  split
  · have : noneS.length = 4 := by decide +kernel
    omega
  · have := joinI_len h
    omega
theorem len_dump_of (K : PySem.W.Frag) : ∀ vs H Q E, sp_dump_of K vs H Q E → vs.length = (["rights", "lefts", "outs"] : List Str).length := by
  rintro vs H Q E ⟨_, _, _, _, _, _, rfl, _⟩
  rfl
theorem rd_dump_of (T : Txt K mg) (vs : List V) (H : Hp) (Q : VK) (E : XK) (h : sp_dump_of K vs H Q E) : t_dump_of K E { nx := fun _ H' => Q .non H', rt := Q } (start ["rights", "lefts", "outs"] vs) H := by
  obtain ⟨r, l, o, R, L, O, rfl, hr, hl, ho, ⟨R9, Rl⟩, ⟨L9, Ll⟩, ⟨O9, Ol⟩, g⟩ := h
  unfold t_dump_of
  walk_at "g"
  refine ⟨r, R, rfl, hr, R9, Rl, fun H1 k1 => ?_⟩
  walk_at "g"
  refine ⟨l, L, rfl, k1.sql (by simp) hl, L9, Ll, fun H2 k2 => ?_⟩
  walk_at "g"
  have ho2 := (k1.trans k2).sql (by simp) ho
  refine w_truL ho2 ?_
  have R10 := joinI_len R9
  have L10 := joinI_len L9
  have O10 := outsT_len O9
  have cost : ([joinI R, joinI L, outsT O].map (·.length)).sum + [joinI R, joinI L, outsT O].length * (" | " : Str).length ≤ 16777216 := by
    have e : (" | " : Str).length = 3 := by decide +kernel
    rw [e]
    show (joinI R).length + ((joinI L).length + ((outsT O).length + 0)) + 3 * 3 ≤ _
    omega
  cases O with
  | nil =>
    have eo : outsT [] = ("none" : Str) := if_pos rfl
    refine w_tF (A := _) ?_
    walk_at "g"
    refine ⟨sz_ok (by show 3 ≤ 1000000; omega), nw fun q H4 nq k4 hq => ?_⟩
    rw [eo] at g cost
    exact w_joinL (ss := [joinI R, joinI L, ("none" : Str)]) (SqL.of hq) cost (g H4 ((k1.trans k2).trans k4))
  | cons a t =>
    have eo : outsT (a :: t) = joinI (a :: t) := if_neg (by simp)
    refine w_tT (B := _) ?_
    walk_at "g"
    refine ⟨o, a :: t, rfl, ho2, O9, Ol, fun H3 k3 => ?_⟩
    walk_at "g"
    refine ⟨sz_ok (by show 3 ≤ 1000000; omega), nw fun q H4 nq k4 hq => ?_⟩
    rw [eo] at g cost
    exact w_joinL (ss := [joinI R, joinI L, joinI (a :: t)]) (SqL.of hq) cost (g H4 (((k1.trans k2).trans k3).trans k4))
theorem Wf.R9 {s : Sd} (w : Wf s) : Num9 s.R ∧ s.R.length ≤ 100 := by
  have n60 := w.n60
  have lR := w.lR
  refine ⟨num9_of fun v hv => ?_, by omega⟩
  have := w.rb v (by omega)
  omega
theorem Wf.L9 {s : Sd} (w : Wf s) : Num9 (s.L.drop 1) ∧ (s.L.drop 1).length ≤ 100 := by
  have n60 := w.n60
  have lL := w.lL
  have ll : (s.L.drop 1).length = s.n + 1 := by rw [List.length_drop]; omega
  refine ⟨num9_of fun v hv => ?_, by omega⟩
  have e : gI (s.L.drop 1) v = gI s.L (v + 1) := by
    unfold gI
    rw [List.getD_eq_getElem?_getD, List.getD_eq_getElem?_getD, List.getElem?_drop, Nat.add_comm]
  have := w.lb (v + 1) (by omega) (by omega)
  rw [e]
  omega
theorem len_Links_dump (K : PySem.W.Frag) : ∀ vs H Q E, sp_Links_dump K vs H Q E → vs.length = (["self"] : List Str).length := by
  rintro vs H Q E ⟨_, _, _, _, _, rfl, _⟩
  rfl
theorem rd_Links_dump (T : Txt K mg) (vs : List V) (H : Hp) (Q : VK) (E : XK) (h : sp_Links_dump K vs H Q E) : t_Links_dump K E { nx := fun _ H' => Q .non H', rt := Q } (start ["self"] vs) H := by
  obtain ⟨p, r, l, o, s, rfl, a, g⟩ := h
  unfold t_Links_dump
  have n60 := a.wf.n60
  have lL := a.wf.lL
  walk_at "g"
  refine w_fR T.cl_Links T.na_Links__rights a ?_
  walk_at "g"
  refine w_fL T.cl_Links T.na_Links__lefts a ?_
  walk_at "g"
  refine w_slL (SqL.of a.hl) fun q H1 nq k1 hq => ?_
  have e1 : cutV (s.L.map V.int) (some 1) none = (s.L.map V.int).drop 1 := cut_drop _ 1 (by rw [List.length_map]; omega)
  rw [e1, ← List.map_drop] at hq
  walk_at "g"
  have a1 := a.k0 k1
  refine w_me a1 no_m ?_
  walk_at "g"
  refine ⟨p, r, l, o, s, rfl, a1, fun u H2 nu k2 hu => ?_⟩
  walk_at "g"
  exact ⟨r, q, u, s.R, _, _, rfl, SqL.of (k2.at0 a1.hr), SqL.of (k2.at0 hq), SqL.of hu, a.wf.R9, a.wf.L9, ⟨outN_9 n60 s.O, by have := outN_len s.n s.O; omega⟩, fun H3 k3 => g H3 ((k1.trans k2).trans k3)⟩
theorem split_dump {s : Sd} (w : Wf s) : Txt.split (dumpS s) barS = [joinI s.R, joinI (s.L.drop 1), outsT (outN s.n s.O)] := by
  refine split_bar (good_joinI ?_ fun i hi => (w.R9.1 i hi).1) (good_joinI ?_ fun i hi => (w.L9.1 i hi).1) ?_
  · intro z
    have := w.lR
    rw [z] at this
    simp at this
  · intro z
    have := w.lL
    have := congrArg List.length z
    rw [List.length_drop] at this
    simp at this
    omega
  · unfold outsT
    split
    · exact good_none
    · rename_i h
      exact good_joinI h fun i hi => (outN_9 w.n60 s.O i hi).1
theorem dump_len {s : Sd} (w : Wf s) : (dumpS s).length + 2 ≤ sizeLine := by
  have h1 := joinI_len w.R9.1
  have h2 := joinI_len w.L9.1
  have h3 := outsT_len (outN_9 w.n60 s.O)
  have h4 := w.R9.2
  have h5 := w.L9.2
  have h6 := outN_len s.n s.O
  have h7 := w.n60
  unfold dumpS
  rw [TL.len_tl, TL.join_eq, TL.tl_join, tl_barS]
  refine sz_ok ?_
  have := joinL_len [32, 124, 32] [TL.tl (joinI s.R), TL.tl (joinI (s.L.drop 1)), TL.tl (outsT (outN s.n s.O))]
  rw [TL.len_tl] at h1 h2 h3
  simp only [List.map_cons, List.map_nil, List.sum_cons, List.sum_nil, List.length_cons, List.length_nil] at this ⊢
  omega
theorem gB_ext {a b : List Bool} (hl : a.length = b.length) (h : ∀ v, v < a.length → gB a v = gB b v) : a = b := by
  refine List.ext_getElem hl fun i h1 h2 => ?_
  have := h i h1
  unfold gB at this
  rw [List.getD_eq_getElem?_getD, List.getD_eq_getElem?_getD, List.getElem?_eq_getElem h1, List.getElem?_eq_getElem h2] at this
  exact this
theorem mem_outN {n : Nat} {O : List Bool} {v : Nat} (h1 : 1 ≤ v) (h2 : v ≤ n) : ((v : Int) ∈ outN n O) ↔ gB O v = true := by
  constructor
  · intro h
    have := (outN_bd h).2.2
    rwa [Int.toNat_natCast] at this
  · intro h
    unfold outN
    refine List.mem_map.mpr ⟨v, List.mem_filter.mpr ⟨List.mem_map.mpr ⟨v - 1, List.mem_range.mpr (by omega), by omega⟩, h⟩, rfl⟩
theorem len_Links_read (K : PySem.W.Frag) : ∀ vs H Q E, sp_Links_read K vs H Q E → vs.length = (["text"] : List Str).length := by
  rintro vs H Q E ⟨_, rfl, _⟩
  rfl
theorem rd_Links_read (T : Txt K mg) (vs : List V) (H : Hp) (Q : VK) (E : XK) (h : sp_Links_read K vs H Q E) : t_Links_read K E { nx := fun _ H' => Q .non H', rt := Q } (start ["text", "parts", "rights", "lefts", "outs", "right_links", "links", "node"] vs) H := by
  obtain ⟨s, rfl, w, d, g⟩ := h
  unfold t_Links_read
  have n60 := w.n60
  have lR := w.lR
  have lL := w.lL
  have lO := w.lO
  have e1 : (" | " : Str) = barS := rfl
  rw [e1]
  walk_at "g"
  refine w_split (by decide +kernel) (dump_len w) fun q H1 nq k1 hq => ?_
  rw [split_dump w] at hq
  walk_at "g"
  refine ⟨sz_ok (by show 2 ≤ 1000000; omega), nw fun z H2 nz k2 hz => ?_⟩
  walk_at "g"
  refine w_addLN (k2.at0 hq) hz (sz_ok (by show 3 + 2 ≤ 1000000; omega)) fun z3 H3 nz3 k3 hz3 => ?_
  walk_at "g"
  refine w_slL (SqL.of hz3) fun z4 H4 nz4 k4 hz4 => ?_
  have hz4' : H4 z4 = some (.lst [.str (joinI s.R), .str (joinI (s.L.drop 1)), .str (outsT (outN s.n s.O))]) := hz4
  walk_at "g"
  refine w_gu (SqL.of hz4') rfl ?_
  walk_at "g"
  have k14 := (k1.trans k2).trans (k3.trans k4)
  refine ⟨s.n, s.R, rfl, n60, lR, w.rb, fun rr H5 nrr k5 hrr => ?_⟩
  walk_at "g"
  refine w_lenL (SqL.of hrr) ?_
  walk_at "g"
  rw [show (s.R.map V.int).length = s.n + 1 by rw [List.length_map, lR], show (((s.n + 1 : Nat) : Int) - 1) = (s.n : Int) by omega]
  refine mk fun x dx H6 nx hx k6 => ?_
  refine ⟨x, dx, s.n, rfl, hx, fun ok r0 l0 o H7 nr0 nl0 no k7 b => ⟨rfl, ?_⟩, fun zz => absurd ⟨by omega, by omega⟩ zz⟩
  rw [Int.toNat_natCast] at b
  have k57 : Kp [] H5 H7 := (k6.all.trans k7).cut1 nx
  have hrr7 := k57.at0 hrr
  obtain ⟨dx7, ob7⟩ := b.ob
  have xrr : x ≠ rr := (ne_of_none hrr nx).symm
  walk_at "g"
  refine w_sT T.cl_Links T.na_Links__rights ob7 (fl_len _ _ _ _) fun H8 k8 p8 => ?_
  rw [fl_putR] at p8
  walk_at "g"
  refine ⟨sz_ok (by show 1 ≤ 1000000; omega), nw fun z9 H9 nz9 k9 hz9 => ?_⟩
  walk_at "g"
  refine ⟨x, _, dx7, _, _, rfl, k9.at0 p8, T.cl_Links, T.na_Links_size, fl_size _ _ _ _, ?_⟩
  walk_at "g"
  have p9 := k9.at0 p8
  refine ⟨s.n, s.L.drop 1, rfl, n60, by rw [List.length_drop]; omega, fun v hv => ?_, fun la Ha nla ka hla => ?_⟩
  · have e : gI (s.L.drop 1) v = gI s.L (v + 1) := by
      unfold gI
      rw [List.getD_eq_getElem?_getD, List.getD_eq_getElem?_getD, List.getElem?_drop, Nat.add_comm]
    have := w.lb (v + 1) (by omega) (by omega)
    rw [e]
    omega
  walk_at "g"
  refine w_addLN (ka.at0 hz9) hla (sz_ok (by rw [List.length_map, List.length_drop]; show 1 + _ ≤ _; omega)) fun lb Hb nlb kb hlb => ?_
  obtain ⟨t, eL⟩ := d.l0
  have hlb' : Hb lb = some (.lst (s.L.map V.int)) := by
    rw [hlb, eL] <;> rfl
  walk_at "g"
  have pb := kb.at0 (ka.at0 p9)
  have xlb : x ≠ lb := ne_of_none (ka.at0 p9) nlb
  refine w_sT T.cl_Links T.na_Links__lefts pb (fl_len _ _ _ _) fun Hc kc pc => ?_
  rw [fl_putL] at pc
  have k7b : Kp [x] H7 Hb := k8.trans ((k9.trans (ka.trans kb)).all)
  have k7c : Kp [x] H7 Hc := k7b.trans kc
  obtain ⟨bpr, bpl, bpo⟩ := b.pr
  have hrc : Hc rr = some (.lst (s.R.map V.int)) := k7c.at1 (Ne.symm xrr) hrr7
  have hlc : Hc lb = some (.lst (s.L.map V.int)) := kc.at1 (Ne.symm xlb) hlb'
  have hoc : Hc o = some (.lst ((List.replicate (s.n + 2) false).map V.bl)) := k7c.at1 (Ne.symm bpo) b.ho
  have hqc : Hc q = some (.lst ([joinI s.R, joinI (s.L.drop 1), outsT (outN s.n s.O)].map V.str)) := by
    have h5 : H5 q = _ := k5.at0 ((k2.trans (k3.trans k4)).at0 hq)
    exact k7c.at1 (ne_of_none h5 nx) (k57.at0 h5)
  walk_at "g"
  refine ⟨x, _, dx7, _, _, rfl, pc, T.cl_Links, T.na_Links_size, fl_size _ _ _ _, ?_⟩
  walk_at "g"
  refine ⟨s.n, s.O, rfl, n60, fun u Hd nu kd hu => ?_⟩
  walk_at "g"
  have k1c : Kp [] H Hc := ((k14.trans k5).trans k57).all.trans k7c |>.cut1 ((k14.trans k5).free0 nx)
  have fo : Hc o ≠ none := by rw [hoc]; simp
  have ou : o ≠ u := ne_of_none hoc nu
  have xu : x ≠ u := ne_of_none pc nu
  have nol : lb ≠ o := by
    intro z
    rw [z] at nlb
    have h8 : H8 o = _ := k8.at1 (Ne.symm bpo) b.ho
    rw [ka.at0 (k9.at0 h8)] at nlb
    cases nlb
  have nor : rr ≠ o := by
    intro z
    rw [z] at hrr
    rw [k6.at0 hrr] at no
    cases no
  have noq : q ≠ o := by
    intro z
    have h5 : H5 q = _ := k5.at0 ((k2.trans (k3.trans k4)).at0 hq)
    rw [z] at h5
    rw [k6.at0 h5] at no
    cases no
  refine w_l1 (SqL.of hu) ?_
  refine lp_lst (xs := (outN s.n s.O).map V.int) (fun i σ H' => (∃ y, σ = [some (.str (dumpS s)), some (.ref q), some (.str (joinI s.R)), some (.str (joinI (s.L.drop 1))), some (.str (outsT (outN s.n s.O))), some (.ref rr), some (.ref x), y]) ∧ Kp [o] Hd H' ∧
    ∃ fl : List Bool, H' o = some (.lst (fl.map V.bl)) ∧ fl.length = s.n + 2 ∧ ∀ v : Nat, gB fl v = decide ((v : Int) ∈ (outN s.n s.O).take i)) ⟨⟨_, rfl⟩, Kp.refl _ _, _, kd.at0 hoc, List.length_replicate, fun v => ?_⟩ ?_ ?_ ?_
  · rw [List.take_zero, decide_eq_false (by simp)]
    unfold gB
    rw [List.getD_eq_getElem?_getD]
    by_cases h : v < s.n + 2
    · rw [List.getElem?_replicate_of_lt h] <;> rfl
    · rw [List.getElem?_eq_none (by rw [List.length_replicate]; omega)] <;> rfl
  · rintro i σ' H' hi ⟨_, k, _⟩
    exact SqL.of (k.at1 (Ne.symm ou) hu)
  · rintro i v σ' H' hv ⟨⟨y, rfl⟩, k, fl, hf, hl, hfl⟩
    obtain ⟨nd, hnd, rfl⟩ := at_map hv
    have bd := outN_bd (List.mem_of_getElem? hnd)
    walk_at "g"
    refine ⟨x, _, dx7, _, _, rfl, k.at1 (by rintro rfl; exact bpo rfl) (kd.at0 pc), T.cl_Links, T.na_Links__out, fl_O _ _ _ _, ?_⟩
    walk_at "g"
    refine w_seT hf (ixN_pos (by omega) (by rw [List.length_map, hl]; omega)) fun He ke he => ?_
    rw [set_B] at he
    refine ⟨⟨_, rfl⟩, k.trans ke, _, he, by rw [List.length_set, hl], fun u => ?_⟩
    rw [gB_set (by rw [hl]; omega), take_snoc hnd]
    by_cases c : u = nd.toNat
    · rw [if_pos c]
      symm
      refine decide_eq_true (List.mem_append.mpr (.inr (List.mem_singleton.mpr (by omega))))
    · rw [if_neg c, hfl u]
      refine decide_eq_decide.mpr ⟨fun h => List.mem_append.mpr (.inl h), fun h => ?_⟩
      rcases List.mem_append.mp h with h | h
      · exact h
      · rw [List.mem_singleton] at h
        omega
  · rintro σ' H' ⟨⟨y, rfl⟩, k, fl, hf, hl, hfl⟩
    rw [List.length_map, List.take_length] at hfl
    have eO : fl = s.O := by
      refine gB_ext (by rw [hl, lO]) fun v hv => ?_
      rw [hfl v]
      by_cases v0 : v = 0
      · subst v0
        rw [d.o0]
        exact decide_eq_false fun z => by have := outN_bd z; omega
      by_cases v1 : v = s.n + 1
      · subst v1
        rw [d.o1]
        exact decide_eq_false fun z => by have := outN_bd z; omega
      have := mem_outN (n := s.n) (O := s.O) (v := v) (by omega) (by omega)
      by_cases c : gB s.O v = true
      · rw [c]
        exact decide_eq_true (this.mpr c)
      · rw [Bool.not_eq_true] at c
        rw [c]
        exact decide_eq_false fun z => by rw [this.mp z] at c; cases c
    subst eO
    walk_at "g"
    refine w_lenL (SqL.of (k.at1 noq (kd.at0 hqc))) ?_
    walk_at "g"
    refine w_iteD (fun c => absurd c (by rw [List.length_map]; show ¬ (3 : Int) < ((3 : Nat) : Int); omega)) (fun _ => ?_)
    walk_at "g"
    have fo' : H o = none := ((k14.trans k5).trans k6).free0 no
    have kH : Kp [] H H' := ((k1c.trans kd).all.trans k).cut1 fo'
    have hra : Ha rr = some (.lst (s.R.map V.int)) := ka.at0 (k9.at0 (k8.at1 (Ne.symm xrr) hrr7))
    have k7a : Kp [x] H Ha := (((k14.trans k5).trans k57).all.trans k8).trans (k9.trans ka).all
    refine g x rr lb o H' ((k14.trans k5).free0 nx) (k14.free0 nrr) (k7a.free (by simpa using Ne.symm xlb) nlb) fo' kH ⟨⟨dx7, k.at1 (by rintro rfl; exact bpo rfl) (kd.at0 pc)⟩, k.at1 nor (kd.at0 hrc), k.at1 nol (kd.at0 hlc), hf, ne_of_none hra nlb, nor, nol, w⟩
theorem w_isiO {H : Hp} {Q : VK} (T : Txt K mg) {a dx : Addr} {fs : List (Str × V)} (e : H a = some (.ins (He.ga K "Links") dx fs)) (g : Q (.bl true) H) : rIsi K [.ref a, .ref (He.ga K "Links")] H Q :=
  ⟨_, _, .ref (He.ga K "Links"), .ref (He.ga K "Links"), true, rfl, .own _, .base (.ins e T.cl_Links T.ty_Links.1 T.ex_LinkError.gs T.ex_LinkError.tk T.ty_Links.2), by
    unfold PySem.W.kitOne
    rw [if_pos (by simp)], g⟩
theorem w_isiB {H : Hp} {Q : VK} {x : Bool} {t : String} {r : Bool} (h : kitB "bool" t = some r) (g : Q (.bl r) H) : rIsi K [.bl x, .ty t] H Q := ⟨_, _, _, _, r, rfl, .ty t, .base (.bl x), kit_ty h, g⟩
theorem dpB {H : Hp} : ∀ xs : List Bool, DpAll K H (xs.map V.bl) (xs.map PyData.bool)
  | [] => .nil
  | x :: xs => .cons (.bl x) (dpB xs)
theorem layB : ∀ xs : List Bool, PyData.canLayAll0 (xs.map PyData.bool) = true
  | [] => rfl
  | x :: xs => by
    show PyData.canLayAll0 (PyData.bool x :: xs.map PyData.bool) = true
    rw [PyData.canLayAll0, layB xs] <;> rfl
theorem depB : ∀ xs : List Bool, PyData.depthAll (xs.map PyData.bool) ≤ 1
  | [] => by simp [PyData.depthAll]
  | x :: xs => by
    have := depB xs
    show PyData.depthAll (PyData.bool x :: xs.map PyData.bool) ≤ 1
    rw [PyData.depthAll]
    simp [PyData.depth]
    omega
theorem shB (xs : List Bool) : SeqAt.shaped (.list (xs.map PyData.bool)) = true := by
  unfold SeqAt.shaped
  rw [PyData.canLay0, layB, PyData.depth]
  have := depB xs
  simp
  omega
theorem eqvI : ∀ xs ys : List Int, PyData.eqvAll (xs.map PyData.int) (ys.map PyData.int) = decide (xs = ys)
  | [], [] => by simp [PyData.eqvAll]
  | [], y :: ys => by simp [PyData.eqvAll]
  | x :: xs, [] => by simp [PyData.eqvAll]
  | x :: xs, y :: ys => by
    show PyData.eqvAll (PyData.int x :: xs.map PyData.int) (PyData.int y :: ys.map PyData.int) = _
    rw [PyData.eqvAll, eqvI xs ys, PyData.eqv]
    by_cases h : x = y <;> by_cases h2 : xs = ys <;> simp [h, h2]
theorem eqvB : ∀ xs ys : List Bool, PyData.eqvAll (xs.map PyData.bool) (ys.map PyData.bool) = decide (xs = ys)
  | [], [] => by simp [PyData.eqvAll]
  | [], y :: ys => by simp [PyData.eqvAll]
  | x :: xs, [] => by simp [PyData.eqvAll]
  | x :: xs, y :: ys => by
    show PyData.eqvAll (PyData.bool x :: xs.map PyData.bool) (PyData.bool y :: ys.map PyData.bool) = _
    rw [PyData.eqvAll, eqvB xs ys, PyData.eqv]
    by_cases h : x = y <;> by_cases h2 : xs = ys <;> simp [h, h2]
theorem w_eqLI {H : Hp} {Q : VK} {p q : Addr} {xs ys : List Int} (h1 : H p = some (.lst (xs.map V.int))) (h2 : H q = some (.lst (ys.map V.int))) (g : Q (.bl (decide (xs = ys))) H) : rEqA K (.ref p) (.ref q) H Q :=
  w_eqD (.lst (SqL.of h1) (dpI xs)) (.lst (SqL.of h2) (dpI ys)) (shI xs) (shI ys) (by
    rw [PyData.eqv, eqvI]
    exact g)
theorem w_eqLB {H : Hp} {Q : VK} {p q : Addr} {xs ys : List Bool} (h1 : H p = some (.lst (xs.map V.bl))) (h2 : H q = some (.lst (ys.map V.bl))) (g : Q (.bl (decide (xs = ys))) H) : rEqA K (.ref p) (.ref q) H Q :=
  w_eqD (.lst (SqL.of h1) (dpB xs)) (.lst (SqL.of h2) (dpB ys)) (shB xs) (shB ys) (by
    rw [PyData.eqv, eqvB]
    exact g)
end
end G

set_option Elab.async false
set_option linter.all false
set_option maxRecDepth 100000
set_option maxHeartbeats 1000000
namespace G
--#FAM KL
open PySem PySem.Spec PyProof.Rows L2
local macro_rules
  | `(tactic| walk_at "1") => `(tactic| first
    | with_reducible refine w_seq ?_
    | with_reducible refine w_asg ?_
    | with_reducible refine w_asgS ?_
    | with_reducible refine w_asf ?_
    | with_reducible refine w_drop ?_
    | with_reducible refine w_ret ?_
    | with_reducible refine w_if ?_
    | with_reducible refine w_not ?_
    | with_reducible refine w_and ?_
    | with_reducible refine w_or ?_
    | with_reducible refine w_test ?_
    | with_reducible refine w_tb ?_
    | with_reducible refine w_chain ?_
    | with_reducible refine w_op ?_
    | with_reducible refine w_un ?_
    | with_reducible refine w_andV ?_
    | with_reducible refine w_orV ?_
    | with_reducible refine w_notV ?_
    | with_reducible refine w_ifE ?_
    | with_reducible refine w_cons ?_
    | with_reducible refine w_nil ?_
    | with_reducible refine w_cb ?_
    | with_reducible refine w_cl ?_
    | with_reducible refine w_mt ?_
    | with_reducible refine w_fld ?_
    | with_reducible refine w_tupN ?_
    | with_reducible refine w_lstN ?_
    | with_reducible refine w_bm ?_
    | with_reducible refine w_bm0 ?_
    | with_reducible refine w_for ?_
    | with_reducible refine w_lc ?_
    | with_reducible refine w_iR1 ?_
    | with_reducible refine w_iR2 ?_
    | with_reducible refine w_iL ?_
    | with_reducible refine w_iT ?_
    | with_reducible refine w_iE ?_
    | with_reducible refine w_iZ ?_
    | with_reducible refine w_var (by with_unfolding_all rfl) ?_
    | with_reducible refine w_c ?_
    | with_reducible refine w_next ?_
    | with_reducible refine w_i0 ?_
    | with_reducible refine w_u1 ?_
    | with_reducible refine w_addI ?_
    | with_reducible refine w_eqI ?_
    | with_reducible refine w_eqS ?_
    | with_reducible refine w_eqB ?_
    | with_reducible refine w_neI ?_
    | with_reducible refine w_neS ?_
    | with_reducible refine w_neB ?_
    | with_reducible refine w_abs ?_
    | with_reducible refine w_intI ?_
    | with_reducible refine w_min2 ?_
    | with_reducible refine w_max2 ?_
    | with_reducible refine w_isN0 ?_
    | with_reducible refine w_isN1 ref_ne ?_
    | with_reducible refine w_isN1 int_ne ?_
    | with_reducible refine w_notN0 ?_
    | with_reducible refine w_notN1 ref_ne ?_
    | with_reducible refine w_notN1 int_ne ?_
    | with_reducible refine w_ex1 ?_
    | with_reducible refine w_n1 ?_
    | with_reducible refine w_n2 ?_
    | with_reducible refine w_tT ?_
    | with_reducible refine w_tF ?_
    | with_reducible refine w_nT ?_
    | with_reducible refine w_nF ?_
    | with_reducible refine w_rz ?_
    | with_reducible refine w_mkN ?_
    | with_reducible refine w_lrgN ?_
    | with_reducible refine w_rg1 ?_
    | with_reducible refine w_rg2 ?_
    | with_reducible refine w_sl ?_
    | with_reducible refine w_np ?_
    | with_reducible refine w_pt ?_
    | with_reducible refine w_tr ?_
    | with_reducible refine w_gn ?_
    | with_reducible refine w_yes ?_
    | with_reducible refine w_m1 ?_
    | with_reducible refine w_asu ?_
    | with_reducible refine w_exS ?_
    | with_reducible refine w_iS ?_
    | with_reducible refine w_g1 ?_
    | with_reducible refine w_gc ?_
    | with_reducible refine w_gt (SqT.of upd_same) rfl ?_)
local macro_rules
  | `(tactic| walk_at "g") => `(tactic| repeat walk_at "1")
local macro_rules
  | `(tactic| walk_at "j1") => `(tactic| first
    | with_reducible refine w_seqI ?_
    | walk_at "1")
local macro_rules
  | `(tactic| walk_at "j") => `(tactic| repeat walk_at "j1")
section
variable {K : PySem.W.Frag} {mg : Str → Option Value}
theorem w_isiNS {H : Hp} {Q : VK} (T : Txt K mg) {z : Str} (g : Q (.bl false) H) : rIsi K [.str z, .ref (He.ga K "Links")] H Q := ⟨_, _, _, _, false, rfl, .own _, .base (.str z), T.fr_Links_str.2, g⟩
theorem w_isiNI {H : Hp} {Q : VK} (T : Txt K mg) {i : Int} (g : Q (.bl false) H) : rIsi K [.int i, .ref (He.ga K "Links")] H Q := ⟨_, _, _, _, false, rfl, .own _, .base (.int i), T.fr_Links_int.2, g⟩
theorem len_Links_left (K : PySem.W.Frag) : ∀ vs H Q E, sp02_Links_left K vs H Q E → vs.length = (["self", "node"] : List Str).length := by
  rintro vs H Q E ⟨_, _, _, _, _, _, rfl, _⟩
  rfl
theorem rd_Links_left (T : Txt K mg) (vs : List V) (H : Hp) (Q : VK) (E : XK) (h : sp02_Links_left K vs H Q E) : t_Links_left K E { nx := fun _ H' => Q .non H', rt := Q } (start ["self", "node"] vs) H := by
  obtain ⟨p, r, l, o, s, v, rfl, a, h1, h2⟩ := h
  unfold t_Links_left
  have w := a.wf
  walk_at "g"
  refine w_iteD (fun c1 => ?_) (fun c1 => ?_)
  · walk_at "g"
    refine w_fS T.cl_Links T.na_Links_size a ?_
    walk_at "g"
    refine w_iteN (fun c2 => ?_) (fun c2 => ?_)
    · walk_at "g"
      exact ⟨rfl, Nat.le_of_ble_eq_true rfl, h2 fun z => c2 (by have := z.2; omega)⟩
    · walk_at "g"
      refine w_fL T.cl_Links T.na_Links__lefts a ?_
      walk_at "g"
      refine w_ixL (SqL.of a.hl) (at_I (by omega) (by rw [w.lL]; omega)) ?_
      exact h1 ⟨c1, by omega⟩
  · walk_at "g"
    exact ⟨rfl, Nat.le_of_ble_eq_true rfl, h2 fun z => c1 z.1⟩
theorem len_Links_right (K : PySem.W.Frag) : ∀ vs H Q E, sp02_Links_right K vs H Q E → vs.length = (["self", "node"] : List Str).length := by
  rintro vs H Q E ⟨_, _, _, _, _, _, rfl, _⟩
  rfl
theorem rd_Links_right (T : Txt K mg) (vs : List V) (H : Hp) (Q : VK) (E : XK) (h : sp02_Links_right K vs H Q E) : t_Links_right K E { nx := fun _ H' => Q .non H', rt := Q } (start ["self", "node"] vs) H := by
  obtain ⟨p, r, l, o, s, v, rfl, a, h1, h2⟩ := h
  unfold t_Links_right
  have w := a.wf
  walk_at "g"
  refine w_iteD (fun c1 => ?_) (fun c1 => ?_)
  · walk_at "g"
    refine w_fS T.cl_Links T.na_Links_size a ?_
    walk_at "g"
    refine w_iteN (fun c2 => ?_) (fun c2 => ?_)
    · walk_at "g"
      exact ⟨rfl, Nat.le_of_ble_eq_true rfl, h2 fun z => c2 (by have := z.2; omega)⟩
    · walk_at "g"
      refine w_fR T.cl_Links T.na_Links__rights a ?_
      walk_at "g"
      refine w_ixL (SqL.of a.hr) (at_I (by omega) (by rw [w.lR]; omega)) ?_
      exact h1 ⟨c1, by omega⟩
  · walk_at "g"
    exact ⟨rfl, Nat.le_of_ble_eq_true rfl, h2 fun z => c1 z.1⟩
theorem len_Links___eq__ (K : PySem.W.Frag) : ∀ vs H Q E, sp02_Links___eq__ K vs H Q E → vs.length = (["self", "other"] : List Str).length := by
  rintro vs H Q E ⟨_, _, _, _, _, _, rfl, _⟩
  rfl
theorem rd_Links___eq__ (T : Txt K mg) (vs : List V) (H : Hp) (Q : VK) (E : XK) (h : sp02_Links___eq__ K vs H Q E) : t_Links___eq__ K E { nx := fun _ H' => Q .non H', rt := Q } (start ["self", "other"] vs) H := by
  obtain ⟨p, r, l, o, s, y, rfl, a, g⟩ := h
  unfold t_Links___eq__
  rcases g with ⟨p2, r2, l2, o2, t, rfl, b, g⟩ | ⟨⟨z, rfl⟩ | ⟨z, rfl⟩, g⟩
  · unfold eqS at g
    walk_at "g"
    obtain ⟨dx, ob⟩ := b.ob
    refine w_isiO T ob ?_
    walk_at "g"
    refine w_fR T.cl_Links T.na_Links__rights a ?_
    walk_at "g"
    refine w_fR T.cl_Links T.na_Links__rights b ?_
    refine w_eqLI a.hr b.hr ?_
    walk_at "g"
    refine w_iteD (fun c1 => ?_) (fun c1 => ?_)
    · rw [decide_eq_true c1, Bool.true_and] at g
      walk_at "g"
      refine w_fL T.cl_Links T.na_Links__lefts a ?_
      walk_at "g"
      refine w_fL T.cl_Links T.na_Links__lefts b ?_
      refine w_eqLI a.hl b.hl ?_
      walk_at "g"
      refine w_iteD (fun c2 => ?_) (fun c2 => ?_)
      · rw [decide_eq_true c2, Bool.true_and] at g
        walk_at "g"
        refine w_fO T.cl_Links T.na_Links__out a ?_
        walk_at "g"
        refine w_fO T.cl_Links T.na_Links__out b ?_
        exact w_eqLB a.ho b.ho g
      · rw [decide_eq_false c2, Bool.false_and] at g
        exact g
    · rw [decide_eq_false c1, Bool.false_and] at g
      exact g
  · walk_at "g"
    refine w_isiNS T ?_
    walk_at "g"
    exact g
  · walk_at "g"
    refine w_isiNI T ?_
    walk_at "g"
    exact g
end
end G

set_option Elab.async false
set_option linter.all false
set_option maxRecDepth 100000
set_option maxHeartbeats 1000000
namespace G
--#FAM KL
open PySem PySem.Spec PyProof.Rows L2
local macro_rules
  | `(tactic| walk_at "1") => `(tactic| first
    | with_reducible refine w_seq ?_
    | with_reducible refine w_asg ?_
    | with_reducible refine w_asgS ?_
    | with_reducible refine w_asf ?_
    | with_reducible refine w_drop ?_
    | with_reducible refine w_ret ?_
    | with_reducible refine w_if ?_
    | with_reducible refine w_not ?_
    | with_reducible refine w_and ?_
    | with_reducible refine w_or ?_
    | with_reducible refine w_test ?_
    | with_reducible refine w_tb ?_
    | with_reducible refine w_chain ?_
    | with_reducible refine w_op ?_
    | with_reducible refine w_un ?_
    | with_reducible refine w_andV ?_
    | with_reducible refine w_orV ?_
    | with_reducible refine w_notV ?_
    | with_reducible refine w_ifE ?_
    | with_reducible refine w_cons ?_
    | with_reducible refine w_nil ?_
    | with_reducible refine w_cb ?_
    | with_reducible refine w_cl ?_
    | with_reducible refine w_mt ?_
    | with_reducible refine w_fld ?_
    | with_reducible refine w_tupN ?_
    | with_reducible refine w_lstN ?_
    | with_reducible refine w_bm ?_
    | with_reducible refine w_bm0 ?_
    | with_reducible refine w_for ?_
    | with_reducible refine w_lc ?_
    | with_reducible refine w_iR1 ?_
    | with_reducible refine w_iR2 ?_
    | with_reducible refine w_iL ?_
    | with_reducible refine w_iT ?_
    | with_reducible refine w_iE ?_
    | with_reducible refine w_iZ ?_
    | with_reducible refine w_var (by with_unfolding_all rfl) ?_
    | with_reducible refine w_c ?_
    | with_reducible refine w_next ?_
    | with_reducible refine w_i0 ?_
    | with_reducible refine w_u1 ?_
    | with_reducible refine w_addI ?_
    | with_reducible refine w_eqI ?_
    | with_reducible refine w_eqS ?_
    | with_reducible refine w_eqB ?_
    | with_reducible refine w_neI ?_
    | with_reducible refine w_neS ?_
    | with_reducible refine w_neB ?_
    | with_reducible refine w_abs ?_
    | with_reducible refine w_intI ?_
    | with_reducible refine w_min2 ?_
    | with_reducible refine w_max2 ?_
    | with_reducible refine w_isN0 ?_
    | with_reducible refine w_isN1 ref_ne ?_
    | with_reducible refine w_isN1 int_ne ?_
    | with_reducible refine w_notN0 ?_
    | with_reducible refine w_notN1 ref_ne ?_
    | with_reducible refine w_notN1 int_ne ?_
    | with_reducible refine w_ex1 ?_
    | with_reducible refine w_n1 ?_
    | with_reducible refine w_n2 ?_
    | with_reducible refine w_tT ?_
    | with_reducible refine w_tF ?_
    | with_reducible refine w_nT ?_
    | with_reducible refine w_nF ?_
    | with_reducible refine w_rz ?_
    | with_reducible refine w_mkN ?_
    | with_reducible refine w_lrgN ?_
    | with_reducible refine w_rg1 ?_
    | with_reducible refine w_rg2 ?_
    | with_reducible refine w_sl ?_
    | with_reducible refine w_np ?_
    | with_reducible refine w_pt ?_
    | with_reducible refine w_tr ?_
    | with_reducible refine w_gn ?_
    | with_reducible refine w_yes ?_
    | with_reducible refine w_m1 ?_
    | with_reducible refine w_asu ?_
    | with_reducible refine w_exS ?_
    | with_reducible refine w_iS ?_
    | with_reducible refine w_g1 ?_
    | with_reducible refine w_gc ?_
    | with_reducible refine w_gt (SqT.of upd_same) rfl ?_)
local macro_rules
  | `(tactic| walk_at "g") => `(tactic| repeat walk_at "1")
local macro_rules
  | `(tactic| walk_at "j1") => `(tactic| first
    | with_reducible refine w_seqI ?_
    | walk_at "1")
local macro_rules
  | `(tactic| walk_at "j") => `(tactic| repeat walk_at "j1")
section
variable {K : PySem.W.Frag} {mg : Str → Option Value}
theorem cat_len (a b : Str) : (a ++ b).length = a.length + b.length := by
  rw [TL.len_tl, TL.tl_append, List.length_append, ← TL.len_tl, ← TL.len_tl]
theorem atS {ls : List Str} {i : Int} (h0 : 0 ≤ i) (h : i < ls.length) : ∃ s ∈ ls, atI (ls.map V.str) i = some (.str s) := by
  have hl : i.toNat < ls.length := by omega
  refine ⟨ls[i.toNat], List.getElem_mem hl, ?_⟩
  rw [atI_pos h0 (by rw [List.length_map]; omega), List.getElem?_map, List.getElem?_eq_getElem hl] <;> rfl
theorem atC {z : Str} {i : Int} (h0 : 0 ≤ i) (h : i < z.length) : ∃ c, atI z.cps.toList i = some c := by
  have hl : i.toNat < z.cps.toList.length := by
    have : z.length = z.cps.toList.length := TL.len_tl z
    omega
  exact ⟨_, by rw [atI_pos h0 (by omega), List.getElem?_eq_getElem hl]⟩
theorem all12 {ls : List Str} {s : Str} {k : Nat} (h : ls.all (fun s => decide (s.length ≤ k)) = true) (hs : s ∈ ls) : s.length ≤ k := of_decide_eq_true (List.all_eq_true.mp h s hs)
theorem len__law_bend (K : PySem.W.Frag) : ∀ vs H Q E, sp03__law_bend K vs H Q E → vs.length = (["box", "size", "rights", "lefts"] : List Str).length := by
  rintro vs H Q E ⟨_, _, _, _, _, _, _, _, _, rfl, _⟩
  rfl
theorem rd__law_bend (T : Txt K mg) (vs : List V) (H : Hp) (Q : VK) (E : XK) (h : sp03__law_bend K vs H Q E) : t__law_bend K E { nx := fun _ H' => Q .non H', rt := Q } (start ["box", "size", "rights", "lefts", "node", "kind"] vs) H := by
  obtain ⟨b, c, r, l, o, n, R, L, O, rfl, hn, bx, a, ⟨br, bl, bo, cr, cl⟩, g⟩ := h
  unfold t__law_bend
  obtain ⟨rl, ro, lo⟩ := a.ne
  walk_at "j"
  refine ⟨b, c, _, rfl, by omega, by omega, bx, fun d H1 d0 d1 k1 b1 => ?_⟩
  have a1 := a.kp k1 (by simpa using Ne.symm br) (by simpa using Ne.symm bl) (by simpa using Ne.symm bo)
  obtain ⟨v, rfl⟩ : ∃ v : Nat, d = (v : Int) := ⟨d.toNat, by omega⟩
  walk_at "j"
  refine ⟨b, c, _, rfl, by omega, by omega, b1, fun e H2 e0 e1 k2 b2 => ?_⟩
  have a2 := a1.kp k2 (by simpa using Ne.symm br) (by simpa using Ne.symm bl) (by simpa using Ne.symm bo)
  walk_at "j"
  refine w_ifK (fun H' => ∃ R', Kp [b, r] H2 H' ∧ BxI H' b c ∧ WdZ H' r l o n R' L O) (fun N hN => ?_) (fun H3 ⟨R', k3, b3, a3⟩ => ?_)
  · walk_at "g"
    refine w_iteD (fun c1 => ?_) (fun c1 => ?_)
    · walk_at "g"
      refine ⟨b, c, _, rfl, by omega, by omega, b2, fun f H3 f0 f1 k3 b3 => ?_⟩
      have a3 := a2.kp k3 (by simpa using Ne.symm br) (by simpa using Ne.symm bl) (by simpa using Ne.symm bo)
      walk_at "g"
      refine w_seT a3.hr (n := v) (by rw [List.length_map, ixN_pos (by omega) (by rw [a3.lR]; omega), Int.toNat_natCast]) fun H4 k4 h4 => ?_
      exact hN _ ⟨_, (k3.mono (by simp)).trans (k4.mono (by simp)), b3.kp k4 (by simpa using br) (by simpa using cr), a3.setR (by omega) (by omega) (by omega) k4 h4⟩
    · walk_at "g"
      exact hN _ ⟨R, Kp.refl _ _, b2, a2⟩
  walk_at "g"
  refine w_iteD (fun c1 => ?_) (fun c1 => ?_)
  · walk_at "g"
    refine ⟨b, c, _, rfl, by omega, by omega, b3, fun f H4 f0 f1 k4 b4 => ?_⟩
    have a4 := a3.kp k4 (by simpa using Ne.symm br) (by simpa using Ne.symm bl) (by simpa using Ne.symm bo)
    walk_at "g"
    refine w_seT a4.hl (n := v + 1) (by rw [List.length_map, ixN_pos (by omega) (by rw [a4.lL]; omega), show ((v : Int) + 1).toNat = v + 1 by omega]) fun H5 k5 h5 => ?_
    exact g R' _ H5 ((((k1.trans k2).mono (by simp)).trans (k3.mono (by simp))).trans ((k4.mono (by simp)).trans (k5.mono (by simp)))) (b4.kp k5 (by simpa using bl) (by simpa using cl)) (a4.setL (by omega) (by omega) f0 (by omega) k5 h5)
  · walk_at "g"
    exact g R' L H3 (((k1.trans k2).mono (by simp)).trans (k3.mono (by simp))) b3 a3
theorem outN_snoc (O : List Bool) (i : Nat) : outN (i + 1) O = outN i O ++ (if gB O (i + 1) then [((i + 1 : Nat) : Int)] else []) := by
  unfold outN
  rw [List.range_succ, List.map_append, List.filter_append, List.map_append]
  congr 1
  show (([i + 1].filter fun v => gB O v).map _) = _
  by_cases c : gB O (i + 1) = true
  · rw [List.filter_cons_of_pos c, if_pos c] <;> rfl
  · rw [List.filter_cons_of_neg c, if_neg c] <;> rfl
theorem str_glue (a b c : Str) : a ++ (" | " : Str) ++ b ++ (" | " : Str) ++ c = Txt.join barS [a, b, c] := by
  rw [TL.join_eq]
  refine TL.ext_tl ?_
  rw [TL.tl_join]
  show TL.tl (a ++ barS ++ b ++ barS ++ c) = TL.tl a ++ (TL.tl barS ++ (TL.tl b ++ (TL.tl barS ++ TL.tl c)))
  simp only [TL.tl_append, List.append_assoc]
theorem sh0 : SeqAt.shaped (.list []) = true := by simp [SeqAt.shaped, PyData.canLay0, PyData.canLayAll0, PyData.depth, PyData.depthAll]
theorem eqv_nil : ∀ ds : List PyData, PyData.eqv (.list ds) (.list []) = ds.isEmpty
  | [] => by simp [PyData.eqv, PyData.eqvAll]
  | d :: ds => by simp [PyData.eqv, PyData.eqvAll]
theorem w_eqN {H : Hp} {Q : VK} {p q : Addr} {xs : List V} {ds : List PyData} (h1 : H p = some (.lst xs)) (d : DpAll K H xs ds) (s : SeqAt.shaped (.list ds) = true) (h2 : H q = some (.lst [])) (g : Q (.bl ds.isEmpty) H) : rEqA K (.ref p) (.ref q) H Q :=
  w_eqD (.lst (SqL.of h1) d) (.lst (SqL.of h2) .nil) s sh0 (by rw [eqv_nil]; exact g)
theorem dpS {H : Hp} : ∀ ws : List Str, DpAll K H (ws.map V.str) (ws.map PyData.str)
  | [] => .nil
  | w :: ws => .cons (.str w) (dpS ws)
theorem layS : ∀ ws : List Str, (∀ w ∈ ws, PyData.strOk w = true) → PyData.canLayAll0 (ws.map PyData.str) = true
  | [], _ => by simp [PyData.canLayAll0]
  | w :: ws, h => by
    show PyData.canLayAll0 (PyData.str w :: ws.map PyData.str) = true
    rw [PyData.canLayAll0, layS ws fun x hx => h x (List.mem_cons_of_mem _ hx)]
    simp [PyData.canLay0, h w List.mem_cons_self]
theorem depS : ∀ ws : List Str, PyData.depthAll (ws.map PyData.str) ≤ 1
  | [] => by simp [PyData.depthAll]
  | w :: ws => by
    have := depS ws
    show PyData.depthAll (PyData.str w :: ws.map PyData.str) ≤ 1
    rw [PyData.depthAll]
    simp [PyData.depth]
    omega
theorem shS (ws : List Str) (h : ∀ w ∈ ws, PyData.strOk w = true) : SeqAt.shaped (.list (ws.map PyData.str)) = true := by
  unfold SeqAt.shaped
  rw [PyData.canLay0, layS ws h, PyData.depth]
  have := depS ws
  simp
  omega
theorem outZ_9 {n : Nat} (h : n ≤ 62) (O : List Bool) : Num9 (outN n O) := fun i hi => by
  have := outN_bd hi
  omega
theorem WdZ.R9 {H : Hp} {r l o : Addr} {n : Nat} {R L : List Int} {O : List Bool} (hn : n ≤ 62) (a : WdZ H r l o n R L O) : Num9 R := fun x hx => by
  obtain ⟨i, hi, rfl⟩ := List.mem_iff_getElem.mp hx
  have := a.rb i (by have := a.lR; omega)
  rw [gI_of (List.getElem?_eq_getElem hi)] at this
  omega
theorem gI_drop1 (L : List Int) (v : Nat) : gI (L.drop 1) v = gI L (v + 1) := by
  unfold gI
  rw [List.getD_eq_getElem?_getD, List.getD_eq_getElem?_getD, List.getElem?_drop, Nat.add_comm]
theorem WdZ.L9 {H : Hp} {r l o : Addr} {n : Nat} {R L : List Int} {O : List Bool} (hn : n ≤ 62) (a : WdZ H r l o n R L O) : Num9 (L.drop 1) := fun x hx => by
  obtain ⟨i, hi, rfl⟩ := List.mem_iff_getElem.mp hx
  have ll : (L.drop 1).length = n + 1 := by rw [List.length_drop, a.lL]; omega
  have := a.lb (i + 1) (by omega) (by omega)
  rw [← gI_drop1, gI_of (List.getElem?_eq_getElem hi)] at this
  omega
theorem len__law_dump (K : PySem.W.Frag) : ∀ vs H Q E, sp03__law_dump K vs H Q E → vs.length = (["size", "rights", "lefts", "outs"] : List Str).length := by
  rintro vs H Q E ⟨_, _, _, _, _, _, _, rfl, _⟩
  rfl
theorem rd__law_dump (T : Txt K mg) (vs : List V) (H : Hp) (Q : VK) (E : XK) (h : sp03__law_dump K vs H Q E) : t__law_dump K E { nx := fun _ H' => Q .non H', rt := Q } (start ["size", "rights", "lefts", "outs", "gone", "first", "second", "node"] vs) H := by
  obtain ⟨r, l, o, n, R, L, O, rfl, hn, a, g⟩ := h
  unfold t__law_dump
  have R9 := a.R9 hn
  have L9 := a.L9 hn
  have lR := a.lR
  have lL := a.lL
  have lD : (L.drop 1).length = n + 1 := by rw [List.length_drop, lL]; omega
  walk_at "j"
  refine w_r2 (by omega) ?_
  rw [show ((n : Int) + 1 - 1).toNat = n by omega]
  refine cp_rng (fun i => (outN i O).map fun i => V.str (numI i)) (fun i hi => sz_lt (by
    rw [List.length_map]
    have := outN_len i O
    omega)) rfl (fun i H' S N hi k y no => ?_) (fun D H1 nD k1 hD => ?_)
  · walk_at "g"
    refine ⟨rfl, ?_⟩
    walk_at "g"
    refine w_ixL (SqL.of (k.at0 a.ho)) (at_B (by omega) (by rw [a.lO]; omega)) ?_
    walk_at "g"
    rw [show ((1 : Int) + (i : Int)).toNat = i + 1 by omega]
    refine w_iteB (fun c1 => ?_) (fun c1 => ?_)
    · walk_at "g"
      refine w_str (log_ok (by omega) (by omega)) ?_
      refine y _ _ (Kp.refl _ _) ?_
      rw [outN_snoc, if_pos c1, List.map_append]
      congr 1
      rw [show ((1 : Int) + (i : Int)) = ((i + 1 : Nat) : Int) by omega] <;> rfl
    · refine no _ (Kp.refl _ _) ?_
      rw [outN_snoc, if_neg (by rw [c1]; exact Bool.false_ne_true), List.append_nil]
  have o9 := outZ_9 hn O
  have ol := outN_len n O
  have hD : H1 D = some (.lst (((outN n O).map numI).map V.str)) := by rw [hD, List.map_map] <;> rfl
  have gone : ∃ ws : List Str, ((outN n O = [] ∧ ws = [noneS]) ∨ (outN n O ≠ [] ∧ ws = (outN n O).map numI)) := by
    by_cases e : outN n O = []
    · exact ⟨_, .inl ⟨e, rfl⟩⟩
    · exact ⟨_, .inr ⟨e, rfl⟩⟩
  obtain ⟨ws, hws⟩ := gone
  have jw : Txt.join spS ws = outsT (outN n O) := by
    rcases hws with ⟨e, rfl⟩ | ⟨e, rfl⟩
    · rw [e]
      unfold outsT
      rw [if_pos rfl, TL.join_eq] <;> rfl
    · unfold outsT
      rw [if_neg e] <;> rfl
  have cw : (ws.map (·.length)).sum + ws.length * (" " : Str).length ≤ 16777216 := by
    rcases hws with ⟨e, rfl⟩ | ⟨e, rfl⟩
    · decide +kernel
    · exact join_cost o9 (by omega)
  walk_at "j"
  refine w_ifJ (fun σ' H' => Kp [] H H' ∧ ∃ u, σ' = [some (.int (n : Int)), some (.ref r), some (.ref l), some (.ref o), some (.ref u), none, none, none] ∧ H' u = some (.lst (ws.map V.str))) (fun N hN => ?_) (fun σ' H2 ⟨k2, u, es, hu⟩ => ?_)
  · walk_at "g"
    refine ⟨sz_ok (Nat.zero_le _), nw fun z H2 nz2 k2 hz => ?_⟩
    refine w_eqN (k2.at0 hD) (dpS _) (shS _ fun w hw => ?_) hz ?_
    · obtain ⟨i, hi, rfl⟩ := List.mem_map.mp hw
      exact strOk_of _
    walk_at "g"
    rcases hws with ⟨e, rfl⟩ | ⟨e, rfl⟩
    · rw [e]
      rw [if_pos (show ((([] : List Int).map numI).map PyData.str).isEmpty = true from rfl)]
      walk_at "g"
      refine ⟨sz_ok (by show 1 ≤ 1000000; omega), nw fun u H3 nu k3 hu => ?_⟩
      walk_at "g"
      exact hN _ _ ⟨(k1.trans k2).trans k3, u, rfl, hu⟩
    · have ne : (((outN n O).map numI).map PyData.str).isEmpty = false := by
        cases h : outN n O with
        | nil => exact absurd h e
        | cons => rfl
      rw [if_neg (by rw [ne]; exact Bool.false_ne_true)]
      walk_at "g"
      exact hN _ _ ⟨k1.trans k2, D, rfl, k2.at0 hD⟩
  subst es
  walk_at "g"
  refine w_r1 (by omega) ?_
  rw [show ((n : Int) + 1).toNat = n + 1 by omega]
  refine cp_rng (fun j => (R.take j).map fun i => V.str (numI i)) (fun j hj => sz_lt (by rw [List.length_map, List.length_take]; omega)) rfl (fun j H' S N hj k y _ => ?_) (fun D3 H3 nD3 k3 hD3 => ?_)
  · have hv := gI_at (l := R) (i := j) (by omega)
    have b := R9 _ (List.mem_of_getElem? hv)
    have e2 := at_I (l := R) (i := 0 + (j : Int)) (by omega) (by omega)
    rw [show (0 + (j : Int)).toNat = j by omega] at e2
    walk_at "g"
    refine ⟨rfl, ?_⟩
    walk_at "g"
    refine w_ixL (SqL.of (k.at0 (k2.at0 a.hr))) e2 ?_
    walk_at "g"
    refine w_str (log_ok b.1 b.2) ?_
    exact y _ _ (Kp.refl _ _) (map_snoc (f := fun i => V.str (numI i)) hv)
  rw [List.take_of_length_le (by omega)] at hD3
  have hD3 : H3 D3 = some (.lst ((R.map numI).map V.str)) := by rw [hD3, List.map_map] <;> rfl
  refine w_joinL (SqL.of hD3) (join_cost R9 (by omega)) ?_
  walk_at "g"
  refine w_r1 (by omega) ?_
  rw [show ((n : Int) + 1).toNat = n + 1 by omega]
  have k03 := k2.trans k3
  refine cp_rng (fun j => ((L.drop 1).take j).map fun i => V.str (numI i)) (fun j hj => sz_lt (by rw [List.length_map, List.length_take]; omega)) rfl (fun j H' S N hj k y _ => ?_) (fun D4 H4 nD4 k4 hD4 => ?_)
  · have hv := gI_at (l := L.drop 1) (i := j) (by omega)
    have b := L9 _ (List.mem_of_getElem? hv)
    have e2 := at_I (l := L) (i := 0 + (j : Int) + 1) (by omega) (by omega)
    rw [show (0 + (j : Int) + 1).toNat = j + 1 by omega, ← gI_drop1] at e2
    walk_at "g"
    refine ⟨rfl, ?_⟩
    walk_at "g"
    refine w_ixL (SqL.of (k.at0 (k03.at0 a.hl))) e2 ?_
    walk_at "g"
    refine w_str (log_ok b.1 b.2) ?_
    exact y _ _ (Kp.refl _ _) (map_snoc (f := fun i => V.str (numI i)) hv)
  rw [List.take_of_length_le (by omega)] at hD4
  have hD4 : H4 D4 = some (.lst (((L.drop 1).map numI).map V.str)) := by rw [hD4, List.map_map] <;> rfl
  refine w_joinL (SqL.of hD4) (join_cost L9 (by omega)) ?_
  have eR : Txt.join (" " : Str) (R.map numI) = joinI R := rfl
  have eL : Txt.join (" " : Str) ((L.drop 1).map numI) = joinI (L.drop 1) := rfl
  have lr := joinI_len R9
  have ll := joinI_len L9
  have lb : (" | " : Str).length = 3 := by decide +kernel
  rw [eR, eL]
  walk_at "g"
  refine w_addS (sz_ok (by omega)) ?_
  walk_at "g"
  refine w_addS (sz_ok (by rw [cat_len]; omega)) ?_
  walk_at "g"
  refine w_addS (sz_ok (by rw [cat_len, cat_len]; omega)) ?_
  walk_at "g"
  refine w_joinL (SqL.of (k4.at0 (k3.at0 hu))) cw ?_
  have eo : Txt.join (" " : Str) ws = outsT (outN n O) := jw
  rw [eo]
  have lo := outsT_len o9
  refine w_addS (sz_ok (by rw [cat_len, cat_len, cat_len]; omega)) ?_
  rw [str_glue]
  exact g H4 ((k2.trans k3).trans k4)
theorem jbar_len (ws : List Str) : (Txt.join barS ws).length ≤ sumL ws + ws.length * 3 := by
  rw [TL.len_tl, TL.join_eq, TL.tl_join, tl_barS]
  have h := jn_len [32, 124, 32] (ws.map TL.tl)
  have e : (List.map List.length (ws.map TL.tl)).sum = sumL ws := by
    unfold sumL
    rw [List.map_map]
    congr 1
  rw [e, List.length_map] at h
  exact h
theorem jsp_len (ws : List Str) : (Txt.join spS ws).length ≤ sumL ws + ws.length := join_len ws
theorem len__law_world (K : PySem.W.Frag) : ∀ vs H Q E, sp03__law_world K vs H Q E → vs.length = (["box", "size"] : List Str).length := by
  rintro vs H Q E ⟨_, _, _, rfl, _⟩
  rfl
theorem rd__law_world (T : Txt K mg) (vs : List V) (H : Hp) (Q : VK) (E : XK) (h : sp03__law_world K vs H Q E) : t__law_world K E { nx := fun _ H' => Q .non H', rt := Q } (start ["box", "size", "style", "rights", "lefts", "outs", "node", "last"] vs) H := by
  obtain ⟨b, c, n, rfl, hn, bx, g⟩ := h
  unfold t__law_world
  walk_at "j"
  refine ⟨b, c, 4, rfl, by omega, by omega, bx, fun st H1 st0 st1 k1 b1 => ?_⟩
  walk_at "j"
  refine w_r1 (by omega) ?_
  refine cp_rng (fun i => (rgI 1 i).map V.int) (fun i hi => sz_lt (by rw [List.length_map, rgI_len]; omega)) rfl (fun i H' S N hi k y _ => ?_) (fun r H2 nr k2 hr => ?_)
  · walk_at "g"
    refine ⟨rfl, ?_⟩
    walk_at "g"
    refine y _ _ (Kp.refl _ _) ?_
    unfold rgI
    rw [List.range_succ, List.map_append, List.map_append, show (0 : Int) + (i : Int) + 1 = 1 + (i : Int) by omega] <;> rfl
  rw [show ((n : Int) + 1).toNat = n + 1 by omega] at hr
  walk_at "j"
  refine w_r1 (by omega) ?_
  refine cp_rng (fun i => (rgI (-1) i).map V.int) (fun i hi => sz_lt (by rw [List.length_map, rgI_len]; omega)) rfl (fun i H' S N hi k y _ => ?_) (fun l H3 nl k3 hl => ?_)
  · walk_at "g"
    refine ⟨rfl, ?_⟩
    walk_at "g"
    refine y _ _ (Kp.refl _ _) ?_
    unfold rgI
    rw [List.range_succ, List.map_append, List.map_append, show (0 : Int) + (i : Int) - 1 = -1 + (i : Int) by omega] <;> rfl
  rw [show ((n : Int) + 2).toNat = n + 2 by omega] at hl
  walk_at "j"
  refine w_r1 (by omega) ?_
  refine cp_rng (fun i => (List.replicate i false).map V.bl) (fun i hi => sz_lt (by rw [List.length_map, List.length_replicate]; omega)) rfl (fun i H' S N hi k y _ => ?_) (fun o H4 no k4 ho => ?_)
  · walk_at "g"
    refine ⟨rfl, ?_⟩
    walk_at "g"
    refine y _ _ (Kp.refl _ _) ?_
    rw [List.replicate_succ', List.map_append] <;> rfl
  rw [show ((n : Int) + 2).toNat = n + 2 by omega] at ho
  have k24 := (k2.trans k3).trans k4
  have b4 := b1.k0 k24
  obtain ⟨rb, rc⟩ := b1.fr nr
  obtain ⟨lb, lc⟩ := (b1.k0 k2).fr nl
  obtain ⟨ob, oc⟩ := (b1.k0 (k2.trans k3)).fr no
  have w4 : WdZ H4 r l o n (rgI 1 (n + 1)) (rgI (-1) (n + 2)) (List.replicate (n + 2) false) := by
    have gf : ∀ v, v < n + 2 → gB (List.replicate (n + 2) false) v = false := fun v hv => gB_of (List.getElem?_replicate_of_lt hv)
    refine ⟨k4.at0 (k3.at0 hr), k4.at0 hl, ho, ⟨ne_of_none hr nl, ne_of_none (k3.at0 hr) no, ne_of_none hl no⟩, rgI_len .., rgI_len .., List.length_replicate, fun v hv => ?_, fun v h1 h2 => ?_, gf 0 (by omega), gf (n + 1) (by omega)⟩
    · rw [gI_range (by omega)]
      omega
    · rw [gI_range (by omega)]
      omega
  have nrH : H r = none := k1.free (by simpa using rb) nr
  have nlH : H l = none := k1.free (by simpa using lb) (k2.free0 nl)
  have noH : H o = none := k1.free (by simpa using ob) ((k2.trans k3).free0 no)
  have Inv : ∃ P : Hp → Prop, P = fun H' => Kp [b, r, l, o] H H' ∧ BxI H' b c ∧ ∃ R L O, WdZ H' r l o n R L O := ⟨_, rfl⟩
  obtain ⟨P, eP⟩ := Inv
  have p4 : P H4 := by rw [eP]; exact ⟨(k1.trans k24.all).mono (by simp), b4, _, _, _, w4⟩
  have pD : ∀ {H' H''}, P H' → Kp [b] H' H'' → BxI H'' b c → P H'' := fun {H' H''} p k bb => by
    rw [eP] at p ⊢
    obtain ⟨k0, _, R, L, O, w⟩ := p
    exact ⟨k0.trans (k.mono (by simp)), bb, R, L, O, w.kp k (by simpa using rb) (by simpa using lb) (by simpa using ob)⟩
  have pB : ∀ {H'}, P H' → BxI H' b c := fun {H'} p => by rw [eP] at p; exact p.2.1
  have pW : ∀ {H'}, P H' → ∃ R L O, WdZ H' r l o n R L O := fun {H'} p => by rw [eP] at p; exact p.2.2
  have pR : ∀ {H' H''} {R L : List Int} {O : List Bool}, P H' → Kp [r] H' H'' → WdZ H'' r l o n R L O → P H'' := fun {H' H'' R L O} p k w => by
    rw [eP] at p ⊢
    exact ⟨p.1.trans (k.mono (by simp)), p.2.1.kp k (by simpa using Ne.symm rb) (by simpa using Ne.symm rc), _, _, _, w⟩
  have pL : ∀ {H' H''} {R L : List Int} {O : List Bool}, P H' → Kp [l] H' H'' → WdZ H'' r l o n R L O → P H'' := fun {H' H'' R L O} p k w => by
    rw [eP] at p ⊢
    exact ⟨p.1.trans (k.mono (by simp)), p.2.1.kp k (by simpa using Ne.symm lb) (by simpa using Ne.symm lc), _, _, _, w⟩
  have pO : ∀ {H' H''} {R L : List Int} {O : List Bool}, P H' → Kp [o] H' H'' → WdZ H'' r l o n R L O → P H'' := fun {H' H'' R L O} p k w => by
    rw [eP] at p ⊢
    exact ⟨p.1.trans (k.mono (by simp)), p.2.1.kp k (by simpa using Ne.symm ob) (by simpa using Ne.symm oc), _, _, _, w⟩
  have fin : ∀ H', P H' → ∀ w H'', H' w = none → Kp [] H' H'' → H'' w = some (.lst [.ref r, .ref l, .ref o]) → Q (.ref w) H'' := fun H' p w H'' nw kw hw => by
    rw [eP] at p
    obtain ⟨k0, bb, R, L, O, wd⟩ := p
    have wb : w ∉ [b, r, l, o] := by
      obtain ⟨wb, wc⟩ := bb.fr nw
      simp only [List.mem_cons, List.not_mem_nil, or_false, not_or]
      exact ⟨wb, (ne_of_none wd.hr nw).symm, (ne_of_none wd.hl nw).symm, (ne_of_none wd.ho nw).symm⟩
    exact g R L O w r l o H'' (k0.free wb nw) nrH nlH noH (Kp.cut (k0.trans kw.all) (by simp [nrH, nlH, noH])) (bb.k0 kw) hw (wd.k0 kw)
  walk_at "j"
  refine w_ifK (fun H' => H' = H4 ∧ ¬ st = 0) (fun N hN => ?_) (fun H' ⟨eH, stn⟩ => ?_)
  · walk_at "g"
    refine w_iteD (fun c1 => ?_) (fun c1 => ?_)
    · walk_at "g"
      refine ⟨sz_ok (by show 3 ≤ 1000000; omega), nw fun w H5 nw k5 hw => ?_⟩
      exact fin H4 p4 w H5 nw k5 hw
    · walk_at "g"
      exact hN _ ⟨rfl, c1⟩
  subst H'
  walk_at "j"
  refine w_r2 (by omega) ?_
  rw [show ((n : Int) + 1 - 1).toNat = n by omega]
  refine lp_rng (fun i σ H' => (∃ v, σ = [some (.ref b), some (.int (n : Int)), some (.int st), some (.ref r), some (.ref l), some (.ref o), v, none]) ∧ P H') ⟨⟨_, rfl⟩, p4⟩ ?_ ?_
  · rintro i σ' H' hi ⟨⟨v, rfl⟩, p⟩
    walk_at "j"
    refine ⟨b, c, 2, rfl, by omega, by omega, pB p, fun d H5 d0 d1 k5 b5 => ?_⟩
    have p5 := pD p k5 b5
    obtain ⟨R, L, O, wd⟩ := pW p5
    walk_at "j"
    refine w_seT wd.ho (n := 1 + i) (by rw [List.length_map, ixN_pos (by omega) (by rw [wd.lO]; omega), show ((1 : Int) + (i : Int)).toNat = 1 + i by omega]) fun H6 k6 h6 => ?_
    exact ⟨⟨_, rfl⟩, pO p5 k6 (wd.setO (by omega) (by omega) k6 h6)⟩
  rintro σ' H5 ⟨⟨v, rfl⟩, p5⟩
  walk_at "j"
  refine w_r1 (by omega) ?_
  rw [show ((n : Int) + 1).toNat = n + 1 by omega]
  refine lp_rng0 (fun i σ H' => (∃ v, σ = [some (.ref b), some (.int (n : Int)), some (.int st), some (.ref r), some (.ref l), some (.ref o), v, none]) ∧ P H') ⟨⟨_, rfl⟩, p5⟩ ?_ ?_
  · rintro i σ' H' hi ⟨⟨v, rfl⟩, p⟩
    have putR : ∀ H6, P H6 → ∀ N : L2.St → Hp → Prop, (∀ H', P H' → N [some (.ref b), some (.int (n : Int)), some (.int st), some (.ref r), some (.ref l), some (.ref o), some (.int (i : Int)), none] H') → (tAsg (tOp rAddA (tOp rAddA (tVar 6) (tC (.int 1))) (tCl (sp00__law_draw K) (fun _ => E) (tCons (tVar 0) (tCons (tOp rSubA (tOp rAddA (tVar 1) (tC (.int 1))) (tVar 6)) (tNil))))) (gSub (tVar 3) (tVar 6) rSetL)) { nx := N, rt := Q } [some (.ref b), some (.int (n : Int)), some (.int st), some (.ref r), some (.ref l), some (.ref o), some (.int (i : Int)), none] H6 := by
      intro H6 p6 N hN
      walk_at "j"
      refine ⟨b, c, _, rfl, by omega, by omega, pB p6, fun d H7 d0 d1 k7 b7 => ?_⟩
      have p7 := pD p6 k7 b7
      obtain ⟨R, L, O, wd⟩ := pW p7
      walk_at "j"
      refine w_seT wd.hr (n := i) (by rw [List.length_map, ixN_pos (by omega) (by rw [wd.lR]; omega), Int.toNat_natCast]) fun H8 k8 h8 => ?_
      exact hN _ (pR p7 k8 (wd.setR (by omega) (by omega) (by omega) k8 h8))
    have putL : ∀ H6, P H6 → ∀ N : L2.St → Hp → Prop, (∀ H', P H' → N [some (.ref b), some (.int (n : Int)), some (.int st), some (.ref r), some (.ref l), some (.ref o), some (.int (i : Int)), none] H') → (tAsg (tCl (sp00__law_draw K) (fun _ => E) (tCons (tVar 0) (tCons (tOp rAddA (tVar 6) (tC (.int 1))) (tNil)))) (gSub (tVar 4) (tOp rAddA (tVar 6) (tC (.int 1))) rSetL)) { nx := N, rt := Q } [some (.ref b), some (.int (n : Int)), some (.int st), some (.ref r), some (.ref l), some (.ref o), some (.int (i : Int)), none] H6 := by
      intro H6 p6 N hN
      walk_at "j"
      refine ⟨b, c, _, rfl, by omega, by omega, pB p6, fun d H7 d0 d1 k7 b7 => ?_⟩
      have p7 := pD p6 k7 b7
      obtain ⟨R, L, O, wd⟩ := pW p7
      walk_at "j"
      refine w_seT wd.hl (n := i + 1) (by rw [List.length_map, ixN_pos (by omega) (by rw [wd.lL]; omega), show ((i : Int) + 1).toNat = i + 1 by omega]) fun H8 k8 h8 => ?_
      exact hN _ (pL p7 k8 (wd.setL (by omega) (by omega) (by omega) (by omega) k8 h8))
    walk_at "j"
    refine w_ifK (fun H' => P H') (fun N hN => ?_) (fun H6 p6 => ?_)
    · walk_at "g"
      refine w_iteD (fun c1 => ?_) (fun c1 => ?_)
      · exact putR _ p N hN
      · walk_at "g"
        refine ⟨b, c, 3, rfl, by omega, by omega, pB p, fun d H7 d0 d1 k7 b7 => ?_⟩
        walk_at "g"
        refine w_iteD (fun c2 => ?_) (fun c2 => ?_)
        · exact putR _ (pD p k7 b7) N hN
        · walk_at "g"
          exact hN _ (pD p k7 b7)
    walk_at "g"
    refine w_iteD (fun c1 => ?_) (fun c1 => ?_)
    · exact putL _ p6 _ fun H' p' => ⟨⟨_, rfl⟩, p'⟩
    · walk_at "g"
      refine ⟨b, c, 3, rfl, by omega, by omega, pB p6, fun d H7 d0 d1 k7 b7 => ?_⟩
      walk_at "g"
      refine w_iteD (fun c2 => ?_) (fun c2 => ?_)
      · exact putL _ (pD p6 k7 b7) _ fun H' p' => ⟨⟨_, rfl⟩, p'⟩
      · walk_at "g"
        exact ⟨⟨_, rfl⟩, pD p6 k7 b7⟩
  rintro σ' H6 ⟨⟨v, rfl⟩, p6⟩
  walk_at "j"
  refine w_ifJ (fun σ' H' => (∃ v w, σ' = [some (.ref b), some (.int (n : Int)), some (.int st), some (.ref r), some (.ref l), some (.ref o), v, w]) ∧ P H') (fun N hN => ?_) (fun σ' H7 ⟨⟨v, w, es⟩, p7⟩ => ?_)
  · walk_at "g"
    refine w_iteD (fun c1 => ?_) (fun c1 => ?_)
    · walk_at "g"
      refine w_r2 (by omega) ?_
      rw [show ((n : Int) + 2 - 1).toNat = n + 1 by omega]
      refine lp_rng (fun i σ H' => (∃ v, ∃ y : Nat, σ = [some (.ref b), some (.int (n : Int)), some (.int st), some (.ref r), some (.ref l), some (.ref o), v, some (.int (y : Int))] ∧ y ≤ i) ∧ P H') ⟨⟨_, 0, rfl, Nat.le_refl _⟩, p6⟩ ?_ ?_
      · rintro i σ' H' hi ⟨⟨v, y, rfl, hy⟩, p⟩
        obtain ⟨R, L, O, wd⟩ := pW p
        have e3 := at_B (l := O) (i := 1 + (i : Int)) (by omega) (by rw [wd.lO]; omega)
        walk_at "g"
        refine w_ixL (SqL.of wd.ho) e3 ?_
        walk_at "g"
        refine w_iteBN (fun c2 => ?_) (fun c2 => ?_)
        · walk_at "g"
          refine w_seT wd.hr (n := y) (by rw [List.length_map, ixN_pos (by omega) (by rw [wd.lR]; omega), Int.toNat_natCast]) fun H8 k8 h8 => ?_
          have w8 := wd.setR (v := y) (x := 1 + (i : Int)) (by omega) (by omega) (by omega) k8 h8
          have p8 := pR p k8 w8
          walk_at "g"
          refine w_seT w8.hl (n := 1 + i) (by rw [List.length_map, ixN_pos (by omega) (by rw [w8.lL]; omega), show ((1 : Int) + (i : Int)).toNat = 1 + i by omega]) fun H9 k9 h9 => ?_
          have w9 := w8.setL (v := 1 + i) (x := (y : Int)) (by omega) (by omega) (by omega) (by omega) k9 h9
          walk_at "g"
          exact ⟨⟨_, 1 + i, rfl, by omega⟩, pL p8 k9 w9⟩
        · walk_at "g"
          exact ⟨⟨_, y, rfl, by omega⟩, p⟩
      · rintro σ' H' ⟨⟨v, y, rfl, hy⟩, p⟩
        obtain ⟨R, L, O, wd⟩ := pW p
        walk_at "g"
        refine ⟨b, c, r, l, o, n, R, L, O, rfl, hn, pB p, wd, ⟨Ne.symm rb, Ne.symm lb, Ne.symm ob, Ne.symm rc, Ne.symm lc⟩, fun R' L' H8 k8 b8 w8 => ?_⟩
        refine hN _ _ ⟨⟨_, _, rfl⟩, ?_⟩
        rw [eP] at p ⊢
        exact ⟨p.1.trans (k8.mono (by simp)), b8, _, _, _, w8⟩
    · walk_at "g"
      exact hN _ _ ⟨⟨_, _, rfl⟩, p6⟩
  subst es
  walk_at "g"
  refine ⟨sz_ok (by show 3 ≤ 1000000; omega), nw fun w H8 nw k8 hw => ?_⟩
  exact fin H7 p7 w H8 nw k8 hw
theorem len__law_size (K : PySem.W.Frag) : ∀ vs H Q E, sp02__law_size K vs H Q E → vs.length = (["box"] : List Str).length := by
  rintro vs H Q E ⟨_, _, rfl, _⟩
  rfl
theorem rd__law_size (T : Txt K mg) (vs : List V) (H : Hp) (Q : VK) (E : XK) (h : sp02__law_size K vs H Q E) : t__law_size K E { nx := fun _ H' => Q .non H', rt := Q } (start ["box", "kind"] vs) H := by
  obtain ⟨b, c, rfl, bx, g⟩ := h
  unfold t__law_size
  walk_at "g"
  refine ⟨b, c, 8, rfl, by omega, by omega, bx, fun d H1 d0 d1 k1 b1 => ?_⟩
  have fin : ∀ (x : Int) H', 0 ≤ x → x ≤ 60 → Kp [b] H H' → BxI H' b c → Q (.int x) H' := fun x H' x0 x1 k bb => by
    obtain ⟨n, rfl⟩ : ∃ n : Nat, x = (n : Int) := ⟨x.toNat, by omega⟩
    exact g n H' (by omega) k bb
  walk_at "g"
  refine w_iteD (fun c1 => ?_) (fun c1 => ?_)
  · walk_at "g"
    refine ⟨b, c, 61, rfl, by omega, by omega, b1, fun e H2 e0 e1 k2 b2 => ?_⟩
    exact fin _ H2 (by omega) (by omega) (k1.trans k2) b2
  walk_at "g"
  refine w_iteD (fun c1 => ?_) (fun c1 => ?_)
  · walk_at "g"
    refine ⟨b, c, 3, rfl, by omega, by omega, b1, fun e H2 e0 e1 k2 b2 => ?_⟩
    exact fin _ H2 (by omega) (by omega) (k1.trans k2) b2
  · walk_at "g"
    exact fin _ H1 (by omega) (by omega) k1 b1
theorem len__law_write (K : PySem.W.Frag) : ∀ vs H Q E, sp02__law_write K vs H Q E → vs.length = (["rights", "lefts", "outs", "operation"] : List Str).length := by
  rintro vs H Q E ⟨_, _, _, _, _, _, _, _, rfl, _⟩
  rfl
theorem rd__law_write (T : Txt K mg) (vs : List V) (H : Hp) (Q : VK) (E : XK) (h : sp02__law_write K vs H Q E) : t__law_write K E { nx := fun _ H' => Q .non H', rt := Q } (start ["rights", "lefts", "outs", "operation", "node", "low", "high"] vs) H := by
  obtain ⟨r, l, o, n, R, L, O, op, rfl, hn, a, hop, g⟩ := h
  unfold t__law_write
  have h1 := hop.1
  have h2 := hop.2
  obtain ⟨rl, ro, lo⟩ := a.ne
  have rb := a.rb op.natAbs h2
  have lb := a.lb op.natAbs h1 (by omega)
  have es := step_wS (a.wf hn) hop
  obtain ⟨u, eu⟩ : ∃ u : Nat, gI L op.natAbs = (u : Int) := ⟨(gI L op.natAbs).toNat, by omega⟩
  obtain ⟨x, ex⟩ : ∃ x : Nat, gI R op.natAbs = (x : Int) := ⟨(gI R op.natAbs).toNat, by omega⟩
  rw [eu, ex, Int.toNat_natCast, Int.toNat_natCast] at es
  walk_at "g"
  rw [natAbs_if]
  walk_at "g"
  refine w_ixL (SqL.of a.hl) (at_I (by omega) (by rw [a.lL]; omega)) ?_
  rw [Int.toNat_natCast, eu]
  walk_at "g"
  refine w_ixL (SqL.of a.hr) (at_I (by omega) (by rw [a.lR]; omega)) ?_
  rw [Int.toNat_natCast, ex]
  walk_at "g"
  refine w_seT a.ho (n := op.natAbs) (by rw [List.length_map, ixN_pos (by omega) (by rw [a.lO]; omega), Int.toNat_natCast]) fun H1 k1 hh1 => ?_
  have a1 := a.setO h1 h2 k1 hh1
  walk_at "g"
  refine w_iteD (fun c => ?_) (fun c => ?_)
  · rw [if_pos c, if_pos c] at es
    walk_at "g"
    refine w_seT a1.hr (n := u) (by rw [List.length_map, ixN_pos (by omega) (by rw [a1.lR]; omega), Int.toNat_natCast]) fun H2 k2 hh2 => ?_
    have a2 := a1.setR (v := u) (x := (x : Int)) (by omega) (by omega) (by omega) k2 hh2
    walk_at "g"
    refine w_seT a2.hl (n := x) (by rw [List.length_map, ixN_pos (by omega) (by rw [a2.lL]; omega), Int.toNat_natCast]) fun H3 k3 hh3 => ?_
    have a3 := a2.setL (v := x) (x := (u : Int)) (by omega) (by omega) (by omega) (by omega) k3 hh3
    exact g _ _ _ H3 es.symm (((k1.mono (by simp)).trans (k2.mono (by simp))).trans (k3.mono (by simp))) a3
  · rw [if_neg c, if_neg c] at es
    walk_at "g"
    refine w_seT a1.hr (n := u) (by rw [List.length_map, ixN_pos (by omega) (by rw [a1.lR]; omega), Int.toNat_natCast]) fun H2 k2 hh2 => ?_
    have a2 := a1.setR (v := u) (x := (op.natAbs : Int)) (by omega) (by omega) (by omega) k2 hh2
    walk_at "g"
    refine w_seT a2.hl (n := x) (by rw [List.length_map, ixN_pos (by omega) (by rw [a2.lL]; omega), Int.toNat_natCast]) fun H3 k3 hh3 => ?_
    have a3 := a2.setL (v := x) (x := (op.natAbs : Int)) (by omega) (by omega) (by omega) (by omega) k3 hh3
    exact g _ _ _ H3 es.symm (((k1.mono (by simp)).trans (k2.mono (by simp))).trans (k3.mono (by simp))) a3
end
end G

set_option Elab.async false
set_option linter.all false
set_option maxRecDepth 100000
set_option maxHeartbeats 1000000
namespace G
--#FAM KL
open PySem PySem.Spec PyProof.Rows L2
local macro_rules
  | `(tactic| walk_at "1") => `(tactic| first
    | with_reducible refine w_seq ?_
    | with_reducible refine w_asg ?_
    | with_reducible refine w_asgS ?_
    | with_reducible refine w_asf ?_
    | with_reducible refine w_drop ?_
    | with_reducible refine w_ret ?_
    | with_reducible refine w_if ?_
    | with_reducible refine w_not ?_
    | with_reducible refine w_and ?_
    | with_reducible refine w_or ?_
    | with_reducible refine w_test ?_
    | with_reducible refine w_tb ?_
    | with_reducible refine w_chain ?_
    | with_reducible refine w_op ?_
    | with_reducible refine w_un ?_
    | with_reducible refine w_andV ?_
    | with_reducible refine w_orV ?_
    | with_reducible refine w_notV ?_
    | with_reducible refine w_ifE ?_
    | with_reducible refine w_cons ?_
    | with_reducible refine w_nil ?_
    | with_reducible refine w_cb ?_
    | with_reducible refine w_cl ?_
    | with_reducible refine w_mt ?_
    | with_reducible refine w_fld ?_
    | with_reducible refine w_tupN ?_
    | with_reducible refine w_lstN ?_
    | with_reducible refine w_bm ?_
    | with_reducible refine w_bm0 ?_
    | with_reducible refine w_for ?_
    | with_reducible refine w_lc ?_
    | with_reducible refine w_iR1 ?_
    | with_reducible refine w_iR2 ?_
    | with_reducible refine w_iL ?_
    | with_reducible refine w_iT ?_
    | with_reducible refine w_iE ?_
    | with_reducible refine w_iZ ?_
    | with_reducible refine w_var (by with_unfolding_all rfl) ?_
    | with_reducible refine w_c ?_
    | with_reducible refine w_next ?_
    | with_reducible refine w_i0 ?_
    | with_reducible refine w_u1 ?_
    | with_reducible refine w_addI ?_
    | with_reducible refine w_eqI ?_
    | with_reducible refine w_eqS ?_
    | with_reducible refine w_eqB ?_
    | with_reducible refine w_neI ?_
    | with_reducible refine w_neS ?_
    | with_reducible refine w_neB ?_
    | with_reducible refine w_abs ?_
    | with_reducible refine w_intI ?_
    | with_reducible refine w_min2 ?_
    | with_reducible refine w_max2 ?_
    | with_reducible refine w_isN0 ?_
    | with_reducible refine w_isN1 ref_ne ?_
    | with_reducible refine w_isN1 int_ne ?_
    | with_reducible refine w_notN0 ?_
    | with_reducible refine w_notN1 ref_ne ?_
    | with_reducible refine w_notN1 int_ne ?_
    | with_reducible refine w_ex1 ?_
    | with_reducible refine w_n1 ?_
    | with_reducible refine w_n2 ?_
    | with_reducible refine w_tT ?_
    | with_reducible refine w_tF ?_
    | with_reducible refine w_nT ?_
    | with_reducible refine w_nF ?_
    | with_reducible refine w_rz ?_
    | with_reducible refine w_mkN ?_
    | with_reducible refine w_lrgN ?_
    | with_reducible refine w_rg1 ?_
    | with_reducible refine w_rg2 ?_
    | with_reducible refine w_sl ?_
    | with_reducible refine w_np ?_
    | with_reducible refine w_pt ?_
    | with_reducible refine w_tr ?_
    | with_reducible refine w_gn ?_
    | with_reducible refine w_yes ?_
    | with_reducible refine w_m1 ?_
    | with_reducible refine w_asu ?_
    | with_reducible refine w_exS ?_
    | with_reducible refine w_iS ?_
    | with_reducible refine w_g1 ?_
    | with_reducible refine w_gc ?_
    | with_reducible refine w_gt (SqT.of upd_same) rfl ?_)
local macro_rules
  | `(tactic| walk_at "g") => `(tactic| repeat walk_at "1")
local macro_rules
  | `(tactic| walk_at "j1") => `(tactic| first
    | with_reducible refine w_seqI ?_
    | walk_at "1")
local macro_rules
  | `(tactic| walk_at "j") => `(tactic| repeat walk_at "j1")
section
variable {K : PySem.W.Frag} {mg : Str → Option Value}
theorem len__law_integers (K : PySem.W.Frag) : ∀ vs H Q E, sp00__law_integers K vs H Q E → vs.length = (["told", "due"] : List Str).length := by
  rintro vs H Q E ⟨_, _, _, rfl, _⟩
  rfl
theorem rd__law_integers (T : Txt K mg) (vs : List V) (H : Hp) (Q : VK) (E : XK) (h : sp00__law_integers K vs H Q E) : t__law_integers K E { nx := fun _ H' => Q .non H', rt := Q } (start ["told", "due", "k"] vs) H := by
  obtain ⟨a, b, xs, rfl, hl, ha, hb, g⟩ := h
  unfold t__law_integers
  walk_at "g"
  refine w_isiL (r := true) ha (by decide +kernel) ?_
  walk_at "g"
  refine w_lenL (SqL.of ha) ?_
  walk_at "g"
  refine w_lenL (SqL.of hb) ?_
  walk_at "g"
  rw [decide_eq_true rfl]
  walk_at "g"
  refine w_lenL (SqL.of hb) ?_
  walk_at "g"
  refine w_r1 (by rw [List.length_map]; omega) ?_
  refine lp_rng0 (fun i σ H' => H' = H ∧ ∃ v, σ = [some (.ref a), some (.ref b), v]) ⟨rfl, _, rfl⟩ ?_ ?_
  · rintro i σ' H' hi ⟨rfl, v, rfl⟩
    rw [List.length_map] at hi
    have li : i < xs.length := by omega
    have e1 := at_I (l := xs) (i := (i : Int)) (by omega) (by omega)
    walk_at "g"
    refine w_ixL (SqL.of ha) e1 ?_
    walk_at "g"
    refine w_ixL (SqL.of hb) e1 ?_
    walk_at "g"
    refine ⟨_, rfl, ?_⟩
    walk_at "g"
    exact ⟨rfl, _, rfl⟩
  · rintro σ' H' ⟨rfl, v, rfl⟩
    walk_at "g"
    exact g
theorem len_play (K : PySem.W.Frag) : ∀ vs H Q E, sp_play K vs H Q E → vs.length = (["links", "log"] : List Str).length := by
  rintro vs H Q E ⟨_, _, _, _, _, _, _, rfl, _⟩
  rfl
theorem rd_play (T : Txt K mg) (vs : List V) (H : Hp) (Q : VK) (E : XK) (h : sp_play K vs H Q E) : t_play K E { nx := fun _ H' => Q .non H', rt := Q } (start ["links", "log", "after", "index", "operation"] vs) H := by
  obtain ⟨p, r, l, o, c, s, log, rfl, a, hs, g1, g2⟩ := h
  unfold t_play
  walk_at "g"
  refine w_me a no_m ?_
  walk_at "g"
  refine ⟨p, r, l, o, s, rfl, a, fun q r1 l1 o1 H1 nq nr nl no k1 b => ?_⟩
  walk_at "g"
  have hs1 := k1.sql (by simp) hs
  refine ⟨c, _, rfl, hs1, lp_enum (xs := log.map V.int) (fun i σ H' => (∃ u v, σ = [some (.ref p), some (.ref c), some (.ref q), u, v]) ∧ Leg s (log.take i) ∧ Kp [] H H' ∧ LinksAt K H' q r1 l1 o1 (runS s (log.take i))) ⟨⟨_, _, rfl⟩, ?_, k1, b⟩ ?_ ?_ ?_⟩
  · intro i op h
    simp at h
  · rintro i σ' H' hi ⟨_, _, k, _⟩
    exact k.sql (by simp) hs
  · rintro i x T σ' H' hx ⟨⟨u, v, rfl⟩, le, k, ls⟩ nT
    obtain ⟨op, hop, rfl⟩ := at_map hx
    have kT : Kp [] H' (upd H' T (.tup [.int (i : Int), .int op])) := Kp.new nT
    walk_at "g"
    have ls1 := ls.k0 kT
    refine w_me ls1 no_m ?_
    walk_at "g"
    refine ⟨q, r1, l1, o1, _, op, i, rfl, ls1, fun ok H2 k2 ls2 => ?_, fun bad => ?_⟩
    · walk_at "g"
      have e : log.take (i + 1) = log.take i ++ [op] := take_snoc hop
      refine ⟨⟨_, _, rfl⟩, ?_, ?_, ?_⟩
      · rw [e]
        exact le.snoc ok
      · exact ((k.trans kT).all.trans k2).cut (by simp [nr, nl, no])
      · rw [e, runS_snoc]
        exact ls2
    · rw [runS_n]
      exact g2 i op hop le bad _ (k.trans kT)
  · rintro σ' H' ⟨⟨u, v, rfl⟩, le, k, ls⟩
    rw [List.length_map, List.take_length] at le ls
    walk_at "g"
    exact g1 le q r1 l1 o1 H' nq nr nl no k ls
end
end G

set_option Elab.async false
set_option linter.all false
set_option maxRecDepth 100000
set_option maxHeartbeats 1000000
namespace G
--#FAM KL
open PySem PySem.Spec PyProof.Rows L2
local macro_rules
  | `(tactic| walk_at "1") => `(tactic| first
    | with_reducible refine w_seq ?_
    | with_reducible refine w_asg ?_
    | with_reducible refine w_asgS ?_
    | with_reducible refine w_asf ?_
    | with_reducible refine w_drop ?_
    | with_reducible refine w_ret ?_
    | with_reducible refine w_if ?_
    | with_reducible refine w_not ?_
    | with_reducible refine w_and ?_
    | with_reducible refine w_or ?_
    | with_reducible refine w_test ?_
    | with_reducible refine w_tb ?_
    | with_reducible refine w_chain ?_
    | with_reducible refine w_op ?_
    | with_reducible refine w_un ?_
    | with_reducible refine w_andV ?_
    | with_reducible refine w_orV ?_
    | with_reducible refine w_notV ?_
    | with_reducible refine w_ifE ?_
    | with_reducible refine w_cons ?_
    | with_reducible refine w_nil ?_
    | with_reducible refine w_cb ?_
    | with_reducible refine w_cl ?_
    | with_reducible refine w_mt ?_
    | with_reducible refine w_fld ?_
    | with_reducible refine w_tupN ?_
    | with_reducible refine w_lstN ?_
    | with_reducible refine w_bm ?_
    | with_reducible refine w_bm0 ?_
    | with_reducible refine w_for ?_
    | with_reducible refine w_lc ?_
    | with_reducible refine w_iR1 ?_
    | with_reducible refine w_iR2 ?_
    | with_reducible refine w_iL ?_
    | with_reducible refine w_iT ?_
    | with_reducible refine w_iE ?_
    | with_reducible refine w_iZ ?_
    | with_reducible refine w_var (by with_unfolding_all rfl) ?_
    | with_reducible refine w_c ?_
    | with_reducible refine w_next ?_
    | with_reducible refine w_i0 ?_
    | with_reducible refine w_u1 ?_
    | with_reducible refine w_addI ?_
    | with_reducible refine w_eqI ?_
    | with_reducible refine w_eqS ?_
    | with_reducible refine w_eqB ?_
    | with_reducible refine w_neI ?_
    | with_reducible refine w_neS ?_
    | with_reducible refine w_neB ?_
    | with_reducible refine w_abs ?_
    | with_reducible refine w_intI ?_
    | with_reducible refine w_min2 ?_
    | with_reducible refine w_max2 ?_
    | with_reducible refine w_isN0 ?_
    | with_reducible refine w_isN1 ref_ne ?_
    | with_reducible refine w_isN1 int_ne ?_
    | with_reducible refine w_notN0 ?_
    | with_reducible refine w_notN1 ref_ne ?_
    | with_reducible refine w_notN1 int_ne ?_
    | with_reducible refine w_ex1 ?_
    | with_reducible refine w_n1 ?_
    | with_reducible refine w_n2 ?_
    | with_reducible refine w_tT ?_
    | with_reducible refine w_tF ?_
    | with_reducible refine w_nT ?_
    | with_reducible refine w_nF ?_
    | with_reducible refine w_rz ?_
    | with_reducible refine w_mkN ?_
    | with_reducible refine w_lrgN ?_
    | with_reducible refine w_rg1 ?_
    | with_reducible refine w_rg2 ?_
    | with_reducible refine w_sl ?_
    | with_reducible refine w_np ?_
    | with_reducible refine w_pt ?_
    | with_reducible refine w_tr ?_
    | with_reducible refine w_gn ?_
    | with_reducible refine w_yes ?_
    | with_reducible refine w_m1 ?_
    | with_reducible refine w_asu ?_
    | with_reducible refine w_exS ?_
    | with_reducible refine w_iS ?_
    | with_reducible refine w_g1 ?_
    | with_reducible refine w_gc ?_
    | with_reducible refine w_gt (SqT.of upd_same) rfl ?_)
local macro_rules
  | `(tactic| walk_at "g") => `(tactic| repeat walk_at "1")
local macro_rules
  | `(tactic| walk_at "j1") => `(tactic| first
    | with_reducible refine w_seqI ?_
    | walk_at "1")
local macro_rules
  | `(tactic| walk_at "j") => `(tactic| repeat walk_at "j1")
section
variable {K : PySem.W.Frag} {mg : Str → Option Value}
theorem len_Links_walk (K : PySem.W.Frag) : ∀ vs H Q E, sp04_Links_walk K vs H Q E → vs.length = (["self"] : List Str).length := by
  rintro vs H Q E ⟨_, _, _, _, _, rfl, _⟩
  rfl
theorem rd_Links_walk (T : Txt K mg) (vs : List V) (H : Hp) (Q : List V → Hp → Prop) (E : XK) (h : sp04_Links_walk K vs H Q E) : t_Links_walk K { nx := fun ys _ H' => Q ys H', rt := fun ys v H' => v = .non ∧ Q ys H' } [] (start ["self", "node"] vs) H := by
  obtain ⟨p, r, l, o, s, rfl, a, g⟩ := h
  unfold t_Links_walk tGThen tPlain tGYield tG0 GEnds.at
  have w := a.wf
  have n60 := w.n60
  have r0 := w.rb 0 (by omega)
  walk_at "g"
  refine w_fR T.cl_Links T.na_Links__rights a ?_
  walk_at "g"
  refine w_ixL (SqL.of a.hr) (at_I (by omega) (by rw [w.lR]; omega)) ?_
  walk_at "g"
  dsimp only
  show tGWhile _ _ _ [] [some (.ref p), some (.int (gI s.R 0))] H
  refine gw (ys := []) (fun m ys σ H' => H' = H ∧ ∃ (v : Int) (pre : List Int), σ = [some (.ref p), some (.int v)] ∧ ys = pre.map V.int ∧ 0 ≤ v ∧ v ≤ (s.n : Int) + 1 ∧ (s.n : Int) + 1 ≤ v + m ∧ pre.length + m = s.n + 1 ∧ pre ++ wkF s.R s.n m v = walkL s.n s.R) (s.n + 1) ⟨rfl, gI s.R 0, [], rfl, rfl, by omega, by omega, by omega, by simp, rfl⟩ ?_
  rintro m ys σ H' ⟨rfl, v, pre, rfl, rfl, h0, h1, h2, h3, h4⟩
  walk_at "g"
  refine w_fS T.cl_Links T.na_Links_size a ?_
  walk_at "g"
  refine w_iteD (fun c => ?_) (fun c => ?_)
  · cases m with
    | zero => omega
    | succ k =>
      have rv := w.rb v.toNat (by omega)
      refine ⟨fun ys σ H'' => H'' = H' ∧ ∃ (v : Int) (pre : List Int), σ = [some (.ref p), some (.int v)] ∧ ys = pre.map V.int ∧ 0 ≤ v ∧ v ≤ (s.n : Int) + 1 ∧ (s.n : Int) + 1 ≤ v + k ∧ pre.length + k = s.n + 1 ∧ pre ++ wkF s.R s.n k v = walkL s.n s.R, fun ys' σ' H'' z => ⟨k, by omega, z⟩, sz_lt (by rw [List.length_map]; omega), ?_⟩
      walk_at "g"
      refine w_fR T.cl_Links T.na_Links__rights a ?_
      walk_at "g"
      refine w_ixL (SqL.of a.hr) (at_I (by omega) (by rw [w.lR]; omega)) ?_
      walk_at "g"
      refine ⟨rfl, _, pre ++ [v], rfl, by rw [List.map_append] <;> rfl, by omega, by omega, by omega, by rw [List.length_append, List.length_singleton]; omega, ?_⟩
      rw [← h4, List.append_assoc]
      congr 1
      show v :: wkF s.R s.n k _ = wkF s.R s.n (k + 1) v
      rw [wkF, if_pos c]
  · have e : wkF s.R s.n m v = [] := by
      cases m with
      | zero => rfl
      | succ k => rw [wkF, if_neg c]
    rw [e, List.append_nil] at h4
    rw [h4]
    exact g
theorem len_Links_walk_back (K : PySem.W.Frag) : ∀ vs H Q E, sp04_Links_walk_back K vs H Q E → vs.length = (["self"] : List Str).length := by
  rintro vs H Q E ⟨_, _, _, _, _, rfl, _⟩
  rfl
theorem rd_Links_walk_back (T : Txt K mg) (vs : List V) (H : Hp) (Q : List V → Hp → Prop) (E : XK) (h : sp04_Links_walk_back K vs H Q E) : t_Links_walk_back K { nx := fun ys _ H' => Q ys H', rt := fun ys v H' => v = .non ∧ Q ys H' } [] (start ["self", "node"] vs) H := by
  obtain ⟨p, r, l, o, s, rfl, a, g⟩ := h
  unfold t_Links_walk_back tGThen tPlain tGYield tG0 GEnds.at
  have w := a.wf
  have n60 := w.n60
  have l0 := w.lb (s.n + 1) (by omega) (by omega)
  walk_at "g"
  refine w_fL T.cl_Links T.na_Links__lefts a ?_
  walk_at "g"
  refine w_fS T.cl_Links T.na_Links_size a ?_
  walk_at "g"
  refine w_ixL (SqL.of a.hl) (at_I (by omega) (by rw [w.lL]; omega)) ?_
  rw [show ((s.n : Int) + 1).toNat = s.n + 1 by omega]
  walk_at "g"
  dsimp only
  show tGWhile _ _ _ [] [some (.ref p), some (.int (gI s.L (s.n + 1)))] H
  refine gw (ys := []) (fun m ys σ H' => H' = H ∧ ∃ (v : Int) (pre : List Int), σ = [some (.ref p), some (.int v)] ∧ ys = pre.map V.int ∧ 0 ≤ v ∧ v ≤ (s.n : Int) + 1 ∧ v ≤ m ∧ pre.length + m = s.n + 1 ∧ pre ++ wbF s.L m v = walkB s.n s.L) (s.n + 1) ⟨rfl, gI s.L (s.n + 1), [], rfl, rfl, by omega, by omega, by omega, by simp, rfl⟩ ?_
  rintro m ys σ H' ⟨rfl, v, pre, rfl, rfl, h0, h1, h2, h3, h4⟩
  walk_at "g"
  refine w_iteD (fun c => ?_) (fun c => ?_)
  · cases m with
    | zero => omega
    | succ k =>
      have rv := w.lb v.toNat (by omega) (by omega)
      refine ⟨fun ys σ H'' => H'' = H' ∧ ∃ (v : Int) (pre : List Int), σ = [some (.ref p), some (.int v)] ∧ ys = pre.map V.int ∧ 0 ≤ v ∧ v ≤ (s.n : Int) + 1 ∧ v ≤ k ∧ pre.length + k = s.n + 1 ∧ pre ++ wbF s.L k v = walkB s.n s.L, fun ys' σ' H'' z => ⟨k, by omega, z⟩, sz_lt (by rw [List.length_map]; omega), ?_⟩
      walk_at "g"
      refine w_fL T.cl_Links T.na_Links__lefts a ?_
      walk_at "g"
      refine w_ixL (SqL.of a.hl) (at_I (by omega) (by rw [w.lL]; omega)) ?_
      walk_at "g"
      refine ⟨rfl, _, pre ++ [v], rfl, by rw [List.map_append] <;> rfl, by omega, by omega, by omega, by rw [List.length_append, List.length_singleton]; omega, ?_⟩
      rw [← h4, List.append_assoc]
      congr 1
      show v :: wbF s.L k _ = wbF s.L (k + 1) v
      rw [wbF, if_pos c]
  · have e : wbF s.L m v = [] := by
      cases m with
      | zero => rfl
      | succ k => rw [wbF, if_neg c]
    rw [e, List.append_nil] at h4
    rw [h4]
    exact g
theorem len_Links_is_whole (K : PySem.W.Frag) : ∀ vs H Q E, sp04_Links_is_whole K vs H Q E → vs.length = (["self"] : List Str).length := by
  rintro vs H Q E ⟨_, _, _, _, _, rfl, _⟩
  rfl
theorem rd_Links_is_whole (T : Txt K mg) (vs : List V) (H : Hp) (Q : VK) (E : XK) (h : sp04_Links_is_whole K vs H Q E) : t_Links_is_whole K E { nx := fun _ H' => Q .non H', rt := Q } (start ["self"] vs) H := by
  obtain ⟨p, r, l, o, s, rfl, a, d, g⟩ := h
  unfold t_Links_is_whole
  walk_at "g"
  refine w_fS T.cl_Links T.na_Links_size a ?_
  walk_at "g"
  refine mk fun q dx H1 nq hq k1 => ?_
  refine ⟨q, dx, s.n, rfl, hq, fun ok r1 l1 o1 H2 nr1 nl1 no1 k2 b => ⟨rfl, ?_⟩, fun z => absurd ⟨by omega, by have := a.wf.n60; omega⟩ z⟩
  rw [Int.toNat_natCast] at b
  have k02 : Kp [] H H2 := (k1.all.trans k2).cut1 nq
  have a2 := a.k0 k02
  obtain ⟨d1, o1'⟩ := a2.ob
  obtain ⟨d2, o2'⟩ := b.ob
  refine .inr ⟨p, q, d1, d2, _, _, rfl, rfl, o1', o2', p, r, l, o, s, _, rfl, a2, .inl ⟨q, r1, l1, o1, wholeS s.n, rfl, b, ⟨_, rfl⟩, ?_⟩⟩
  rw [whS_eq a.wf d]
  exact g H2 k02
theorem len_Links___contains__ (K : PySem.W.Frag) : ∀ vs H Q E, sp04_Links___contains__ K vs H Q E → vs.length = (["self", "node"] : List Str).length := by
  rintro vs H Q E ⟨_, _, _, _, _, _, rfl, _⟩
  rfl
theorem rd_Links___contains__ (T : Txt K mg) (vs : List V) (H : Hp) (Q : VK) (E : XK) (h : sp04_Links___contains__ K vs H Q E) : t_Links___contains__ K E { nx := fun _ H' => Q .non H', rt := Q } (start ["self", "node"] vs) H := by
  obtain ⟨p, r, l, o, s, v, rfl, a, g⟩ := h
  unfold t_Links___contains__
  have w := a.wf
  walk_at "g"
  refine w_iteD (fun c1 => ?_) (fun c1 => ?_)
  · walk_at "g"
    refine w_fS T.cl_Links T.na_Links_size a ?_
    walk_at "g"
    refine w_iteD (fun c2 => ?_) (fun c2 => ?_)
    · rw [decide_eq_true ⟨c1, c2⟩, Bool.true_and] at g
      walk_at "g"
      refine w_fO T.cl_Links T.na_Links__out a ?_
      walk_at "g"
      refine w_ixL (SqL.of a.ho) (at_B (by omega) (by rw [w.lO]; omega)) ?_
      walk_at "g"
      exact g
    · rw [decide_eq_false (fun z => c2 z.2), Bool.false_and] at g
      walk_at "g"
      exact g
  · rw [decide_eq_false (fun z => c1 z.1), Bool.false_and] at g
    walk_at "g"
    exact g
theorem len__check_operations (K : PySem.W.Frag) : ∀ vs H Q E, sp04__check_operations K vs H Q E → vs.length = (["size", "log"] : List Str).length := by
  rintro vs H Q E ⟨_, _, _, rfl, _⟩
  rfl
theorem rd__check_operations (T : Txt K mg) (vs : List V) (H : Hp) (Q : VK) (E : XK) (h : sp04__check_operations K vs H Q E) : t__check_operations K E { nx := fun _ H' => Q .non H', rt := Q } (start ["size", "log", "index", "operation"] vs) H := by
  obtain ⟨n, a, log, rfl, hn, hs, ho, g⟩ := h
  unfold t__check_operations
  walk_at "g"
  refine ⟨(n : Int), rfl, fun _ => ?_, fun z => absurd ⟨by omega, by omega⟩ z⟩
  walk_at "g"
  refine ⟨a, _, rfl, hs, lp_enum (xs := log.map V.int) (fun i σ H' => (∃ u v, σ = [some (.int (n : Int)), some (.ref a), u, v]) ∧ Kp [] H H') ⟨⟨_, _, rfl⟩, Kp.refl _ _⟩ ?_ ?_ ?_⟩
  · rintro i σ' H' hi ⟨_, k⟩
    exact k.sql (by simp) hs
  · rintro i x T1 σ' H' hx ⟨⟨u, v, rfl⟩, k⟩ nT
    obtain ⟨op, hop, rfl⟩ := at_map hx
    have kT : Kp [] H' (upd H' T1 (.tup [.int (i : Int), .int op])) := Kp.new nT
    walk_at "g"
    refine ⟨n, op, i, rfl, fun _ => ?_, fun z => absurd (ho op (List.mem_of_getElem? hop)) z⟩
    walk_at "g"
    exact ⟨⟨_, _, rfl⟩, k.trans kT⟩
  · rintro σ' H' ⟨⟨u, v, rfl⟩, k⟩
    exact g H' k
theorem len__on_node (K : PySem.W.Frag) : ∀ vs H Q E, sp04__on_node K vs H Q E → vs.length = (["operation", "node"] : List Str).length := by
  rintro vs H Q E ⟨_, _, rfl, _⟩
  rfl
theorem rd__on_node (T : Txt K mg) (vs : List V) (H : Hp) (Q : VK) (E : XK) (h : sp04__on_node K vs H Q E) : t__on_node K E { nx := fun _ H' => Q .non H', rt := Q } (start ["operation", "node"] vs) H := by
  obtain ⟨op, v, rfl, g⟩ := h
  unfold t__on_node
  walk_at "g"
  refine w_iteD (fun c => ?_) (fun c => ?_)
  · rw [if_pos (show op > 0 from c)] at g
    walk_at "g"
    exact g
  · rw [if_neg (show ¬ op > 0 from c)] at g
    walk_at "g"
    exact g
theorem len_mirror (K : PySem.W.Frag) : ∀ vs H Q E, sp04_mirror K vs H Q E → vs.length = (["size", "log"] : List Str).length := by
  rintro vs H Q E ⟨_, _, _, rfl, _⟩
  rfl
theorem rd_mirror (T : Txt K mg) (vs : List V) (H : Hp) (Q : VK) (E : XK) (h : sp04_mirror K vs H Q E) : t_mirror K E { nx := fun _ H' => Q .non H', rt := Q } (start ["size", "log", "operation"] vs) H := by
  obtain ⟨n, a, log, rfl, hn, ha, hl, ho, g⟩ := h
  unfold t_mirror
  walk_at "g"
  refine ⟨n, a, log, rfl, hn, SqL.of ha, ho, fun H1 k1 => ?_⟩
  walk_at "g"
  refine w_l1 (SqL.of (k1.at0 ha)) ?_
  refine cp_lst (SqL.of (k1.at0 ha)) (fun i => ((log.take i).map (opp n)).map V.int) (fun i hi => sz_lt (by rw [List.length_map, List.length_map, List.length_take]; rw [List.length_map] at hi; omega)) rfl (fun i x H' S N hx k y _ => ?_) (fun D H2 nD k2 hD => ?_)
  · obtain ⟨op, hop, rfl⟩ := at_map hx
    have io := ho op (List.mem_of_getElem? hop)
    obtain ⟨a1, a2, a3, a4⟩ := opp_abs io
    walk_at "g"
    refine ⟨rfl, ?_⟩
    walk_at "g"
    rw [natAbs_if]
    walk_at "g"
    refine ⟨op, _, rfl, ?_⟩
    rw [← a4]
    refine y _ _ (Kp.refl _ _) ?_
    rw [take_snoc hop, List.map_append, List.map_append] <;> rfl
  · rw [List.length_map, List.take_length] at hD
    exact g D H2 (k1.free0 nD) (k1.trans k2) hD
end
end G

set_option Elab.async false
set_option linter.all false
set_option maxRecDepth 100000
set_option maxHeartbeats 1000000
namespace G
--#FAM KL
open PySem PySem.Spec PyProof.Rows L2
local macro_rules
  | `(tactic| walk_at "1") => `(tactic| first
    | with_reducible refine w_seq ?_
    | with_reducible refine w_asg ?_
    | with_reducible refine w_asgS ?_
    | with_reducible refine w_asf ?_
    | with_reducible refine w_drop ?_
    | with_reducible refine w_ret ?_
    | with_reducible refine w_if ?_
    | with_reducible refine w_not ?_
    | with_reducible refine w_and ?_
    | with_reducible refine w_or ?_
    | with_reducible refine w_test ?_
    | with_reducible refine w_tb ?_
    | with_reducible refine w_chain ?_
    | with_reducible refine w_op ?_
    | with_reducible refine w_un ?_
    | with_reducible refine w_andV ?_
    | with_reducible refine w_orV ?_
    | with_reducible refine w_notV ?_
    | with_reducible refine w_ifE ?_
    | with_reducible refine w_cons ?_
    | with_reducible refine w_nil ?_
    | with_reducible refine w_cb ?_
    | with_reducible refine w_cl ?_
    | with_reducible refine w_mt ?_
    | with_reducible refine w_fld ?_
    | with_reducible refine w_tupN ?_
    | with_reducible refine w_lstN ?_
    | with_reducible refine w_bm ?_
    | with_reducible refine w_bm0 ?_
    | with_reducible refine w_for ?_
    | with_reducible refine w_lc ?_
    | with_reducible refine w_iR1 ?_
    | with_reducible refine w_iR2 ?_
    | with_reducible refine w_iL ?_
    | with_reducible refine w_iT ?_
    | with_reducible refine w_iE ?_
    | with_reducible refine w_iZ ?_
    | with_reducible refine w_var (by with_unfolding_all rfl) ?_
    | with_reducible refine w_c ?_
    | with_reducible refine w_next ?_
    | with_reducible refine w_i0 ?_
    | with_reducible refine w_u1 ?_
    | with_reducible refine w_addI ?_
    | with_reducible refine w_eqI ?_
    | with_reducible refine w_eqS ?_
    | with_reducible refine w_eqB ?_
    | with_reducible refine w_neI ?_
    | with_reducible refine w_neS ?_
    | with_reducible refine w_neB ?_
    | with_reducible refine w_abs ?_
    | with_reducible refine w_intI ?_
    | with_reducible refine w_min2 ?_
    | with_reducible refine w_max2 ?_
    | with_reducible refine w_isN0 ?_
    | with_reducible refine w_isN1 ref_ne ?_
    | with_reducible refine w_isN1 int_ne ?_
    | with_reducible refine w_notN0 ?_
    | with_reducible refine w_notN1 ref_ne ?_
    | with_reducible refine w_notN1 int_ne ?_
    | with_reducible refine w_ex1 ?_
    | with_reducible refine w_n1 ?_
    | with_reducible refine w_n2 ?_
    | with_reducible refine w_tT ?_
    | with_reducible refine w_tF ?_
    | with_reducible refine w_nT ?_
    | with_reducible refine w_nF ?_
    | with_reducible refine w_rz ?_
    | with_reducible refine w_mkN ?_
    | with_reducible refine w_lrgN ?_
    | with_reducible refine w_rg1 ?_
    | with_reducible refine w_rg2 ?_
    | with_reducible refine w_sl ?_
    | with_reducible refine w_np ?_
    | with_reducible refine w_pt ?_
    | with_reducible refine w_tr ?_
    | with_reducible refine w_gn ?_
    | with_reducible refine w_yes ?_
    | with_reducible refine w_m1 ?_
    | with_reducible refine w_asu ?_
    | with_reducible refine w_exS ?_
    | with_reducible refine w_iS ?_
    | with_reducible refine w_g1 ?_
    | with_reducible refine w_gc ?_
    | with_reducible refine w_gt (SqT.of upd_same) rfl ?_)
local macro_rules
  | `(tactic| walk_at "g") => `(tactic| repeat walk_at "1")
local macro_rules
  | `(tactic| walk_at "j1") => `(tactic| first
    | with_reducible refine w_seqI ?_
    | walk_at "1")
local macro_rules
  | `(tactic| walk_at "j") => `(tactic| repeat walk_at "j1")
section
variable {K : PySem.W.Frag} {mg : Str → Option Value}
theorem pres_eq {n : Nat} {O : List Bool} (h0 : gB O 0 = false) : (((List.range (n + 2)).filter fun v => !gB O v).map fun (v : Nat) => (v : Int)) = 0 :: inN n O := by
  rw [List.range_succ_eq_map, List.filter_cons_of_pos (by rw [h0] <;> rfl), List.map_cons]
  rfl
theorem pres_pair (n : Nat) (O : List Bool) : (0 :: inN n O).Pairwise (· < ·) := by
  rw [List.pairwise_cons]
  refine ⟨fun x hx => by have := (inN_bd hx).1; omega, ?_⟩
  unfold inN
  rw [List.pairwise_map]
  refine List.Pairwise.imp (fun {a b} (h : a < b) => by omega) (List.Pairwise.filter _ ?_)
  rw [List.pairwise_map]
  exact List.Pairwise.imp (fun {a b} (h : a < b) => by omega) List.pairwise_lt_range
theorem pres_step {n i : Nat} {O : List Bool} {v u : Int} (hv : (0 :: inN n O)[i]? = some v) (hu : (inN n O)[i]? = some u) : 0 ≤ v ∧ v < u ∧ u ≤ (n : Int) + 1 := by
  have hp := pres_pair n O
  obtain ⟨l1, e1⟩ := List.getElem?_eq_some_iff.mp hv
  obtain ⟨l2, e2⟩ := List.getElem?_eq_some_iff.mp hu
  rw [List.pairwise_iff_getElem] at hp
  have h := hp i (i + 1) l1 (by simp; exact l2) (by omega)
  rw [e1, List.getElem_cons_succ, e2] at h
  have b := inN_bd (List.mem_of_getElem? hu)
  refine ⟨?_, h, b.2⟩
  cases i with
  | zero =>
    have : v = 0 := by simpa using hv.symm
    omega
  | succ i =>
    have : (inN n O)[i]? = some v := by simpa using hv
    have := inN_bd (List.mem_of_getElem? this)
    omega
def inF (O : List Bool) : Nat → Nat → List Int
  | _, 0 => []
  | lo, k + 1 => if gB O lo = true then inF O (lo + 1) k else (lo : Int) :: inF O (lo + 1) k
theorem inF_eq (O : List Bool) : ∀ k lo, inF O lo k = (((List.range k).map fun v => v + lo).filter fun v => !gB O v).map fun (v : Nat) => (v : Int)
  | 0, lo => rfl
  | k + 1, lo => by
    rw [List.range_succ_eq_map, List.map_cons, List.map_map]
    have e : ((fun v => v + lo) ∘ Nat.succ) = fun v => v + (lo + 1) := by
      funext v
      show v + 1 + lo = v + (lo + 1)
      omega
    rw [e, inF, inF_eq O k (lo + 1), Nat.zero_add]
    cases c : gB O lo with
    | true => rw [if_pos rfl, List.filter_cons_of_neg (by rw [c]; decide)]
    | false => rw [if_neg (by decide), List.filter_cons_of_pos (by rw [c] <;> rfl), List.map_cons]
theorem inF_N (n : Nat) (O : List Bool) : inF O 1 (n + 1) = inN n O := inF_eq O (n + 1) 1
theorem w_all4 {H : Hp} {Q : VK} {p : Addr} {bs : List Bool} (h : H p = some (.lst (bs.map V.bl))) (g : Q (.bl (bs.all id)) H) : rAll K [.ref p] H Q := ⟨p, bs, rfl, SqL.of h, g⟩
theorem len_Links_is_sound (K : PySem.W.Frag) : ∀ vs H Q E, sp04_Links_is_sound K vs H Q E → vs.length = (["self"] : List Str).length := by
  rintro vs H Q E ⟨_, _, _, _, _, rfl, _⟩
  rfl
theorem rd_Links_is_sound (T : Txt K mg) (vs : List V) (H : Hp) (Q : VK) (E : XK) (h : sp04_Links_is_sound K vs H Q E) : t_Links_is_sound K E { nx := fun _ H' => Q .non H', rt := Q } (start ["self", "present", "node", "low", "high"] vs) H := by
  obtain ⟨p, r, l, o, s, rfl, a, d, g⟩ := h
  unfold t_Links_is_sound
  have w := a.wf
  have n60 := w.n60
  walk_at "g"
  refine w_fS T.cl_Links T.na_Links_size a ?_
  walk_at "g"
  refine w_r1 (by omega) ?_
  refine cp_rng (fun i => (((List.range i).filter fun v => !gB s.O v).map fun (v : Nat) => (v : Int)).map V.int) (fun i hi => sz_lt (by
    rw [List.length_map, List.length_map]
    have := List.length_filter_le (fun v => !gB s.O v) (List.range i)
    rw [List.length_range] at this
    omega)) rfl (fun i H' S N hi k y no => ?_) (fun q H1 nq k1 hq => ?_)
  · walk_at "g"
    refine ⟨rfl, ?_⟩
    walk_at "g"
    refine w_fO T.cl_Links T.na_Links__out (a.k0 k) ?_
    walk_at "g"
    refine w_ixL (SqL.of (k.at0 a.ho)) (at_B (by omega) (by rw [w.lO]; omega)) ?_
    rw [show ((0 : Int) + (i : Int)).toNat = i by omega]
    walk_at "g"
    refine w_iteBN (fun c => ?_) (fun c => ?_)
    · walk_at "g"
      refine y _ _ (Kp.refl _ _) ?_
      rw [List.range_succ, List.filter_append, List.map_append, List.map_append, List.filter_cons_of_pos (by rw [c] <;> rfl), show (0 : Int) + (i : Int) = (i : Int) by omega] <;> rfl
    · refine no _ (Kp.refl _ _) ?_
      rw [List.range_succ, List.filter_append, List.map_append, List.map_append, List.filter_cons_of_neg (by rw [c]; decide)]
      exact List.append_nil _
  rw [show ((s.n : Int) + 2).toNat = s.n + 2 by omega, pres_eq d.o0] at hq
  walk_at "g"
  refine w_slL (SqL.of hq) fun z H2 nz2 k2 hz => ?_
  have e1 : cutV ((0 :: inN s.n s.O).map V.int) (some 1) none = (inN s.n s.O).map V.int := by
    rw [show (some 1 : Option Int) = some ((1 : Nat) : Int) from rfl, cut_drop _ 1 (by simp)] <;> rfl
  rw [e1] at hz
  have hq2 := k2.at0 hq
  have a2 := a.k0 (k1.trans k2)
  have ln := inN_len s.n s.O
  walk_at "g"
  refine ⟨q, z, _, _, rfl, SqL.of hq2, SqL.of hz, cp_zip (SqL.of hq2) (SqL.of hz) (by simp) (fun j => ((List.range j).map fun (i : Nat) => decide (gI s.R (gI (0 :: inN s.n s.O) i).toNat = gI (inN s.n s.O) i) && decide (gI s.L (gI (inN s.n s.O) i).toNat = gI (0 :: inN s.n s.O) i)).map V.bl) (fun j hj => sz_lt (by rw [List.length_map] at hj; rw [List.length_map, List.length_map, List.length_range]; omega)) rfl (fun i x y Tq H' S N hx hy k nT yes _ => ?_) (fun D H3 nD k3 hD => ?_)⟩
  · obtain ⟨v, hv, rfl⟩ := at_map hx
    obtain ⟨u, hu, rfl⟩ := at_map hy
    obtain ⟨b0, b1, b2⟩ := pres_step hv hu
    have kT : Kp [] H' (upd H' Tq (.tup [.int v, .int u])) := Kp.new nT
    have a3 := (a2.k0 k).k0 kT
    walk_at "g"
    refine ⟨rfl, ?_⟩
    walk_at "g"
    refine w_fR T.cl_Links T.na_Links__rights a3 ?_
    walk_at "g"
    refine w_ixL (SqL.of a3.hr) (at_I (by omega) (by rw [w.lR]; omega)) ?_
    walk_at "g"
    refine w_iteD (fun c1 => ?_) (fun c1 => ?_)
    · walk_at "g"
      refine w_fL T.cl_Links T.na_Links__lefts a3 ?_
      walk_at "g"
      refine w_ixL (SqL.of a3.hl) (at_I (by omega) (by rw [w.lL]; omega)) ?_
      walk_at "g"
      refine yes _ _ kT ?_
      rw [List.range_succ, List.map_append, List.map_append]
      congr 1
      show [V.bl (decide (gI s.R (gI (0 :: inN s.n s.O) i).toNat = gI (inN s.n s.O) i) && decide (gI s.L (gI (inN s.n s.O) i).toNat = gI (0 :: inN s.n s.O) i))] = [V.bl _]
      rw [gI_of hv, gI_of hu, decide_eq_true c1, Bool.true_and]
    · walk_at "g"
      refine yes _ _ kT ?_
      rw [List.range_succ, List.map_append, List.map_append]
      congr 1
      show [V.bl (decide (gI s.R (gI (0 :: inN s.n s.O) i).toNat = gI (inN s.n s.O) i) && decide (gI s.L (gI (inN s.n s.O) i).toNat = gI (0 :: inN s.n s.O) i))] = [V.bl _]
      rw [gI_of hv, gI_of hu, decide_eq_false c1, Bool.false_and]
  · rw [List.length_map] at hD
    walk_at "g"
    refine w_all4 hD ?_
    rw [chk_zip]
    exact g _ ((k1.trans k2).trans k3)
theorem len_mirrored (K : PySem.W.Frag) : ∀ vs H Q E, sp04_mirrored K vs H Q E → vs.length = (["links"] : List Str).length := by
  rintro vs H Q E ⟨_, _, _, _, _, rfl, _⟩
  rfl
theorem rd_mirrored (T : Txt K mg) (vs : List V) (H : Hp) (Q : VK) (E : XK) (h : sp04_mirrored K vs H Q E) : t_mirrored K E { nx := fun _ H' => Q .non H', rt := Q } (start ["links", "end", "rights", "lefts", "outs", "node"] vs) H := by
  obtain ⟨p, r, l, o, s, rfl, a, d, g⟩ := h
  unfold t_mirrored
  have w := a.wf
  have n60 := w.n60
  have wm := mir_wf w
  walk_at "g"
  refine w_fS T.cl_Links T.na_Links_size a ?_
  walk_at "g"
  refine w_r1 (by omega) ?_
  refine cp_rng (fun i => ((List.range i).map fun (v : Nat) => (s.n : Int) + 1 - gI s.L (s.n + 1 - v)).map V.int) (fun i hi => sz_lt (by rw [List.length_map, List.length_map, List.length_range]; omega)) rfl (fun i H' S N hi k y _ => ?_) (fun q1 H1 nq1 k1 hq1 => ?_)
  · walk_at "g"
    refine ⟨rfl, ?_⟩
    walk_at "g"
    refine w_me (a.k0 k) no_m ?_
    walk_at "g"
    refine ⟨p, r, l, o, s, _, rfl, a.k0 k, fun _ => ?_, fun z => absurd ⟨by omega, by omega⟩ z⟩
    walk_at "g"
    refine y _ _ (Kp.refl _ _) ?_
    rw [List.range_succ, List.map_append, List.map_append, show ((s.n : Int) + 1 - (0 + (i : Int))).toNat = s.n + 1 - i by omega] <;> rfl
  rw [show ((s.n : Int) + 1).toNat = s.n + 1 by omega] at hq1
  have a1 := a.k0 k1
  walk_at "g"
  refine w_r2 (by omega) ?_
  refine cp_rng (fun i => ((List.range i).map fun (v : Nat) => (s.n : Int) + 1 - gI s.R (s.n - v)).map V.int) (fun i hi => sz_lt (by rw [List.length_map, List.length_map, List.length_range]; omega)) rfl (fun i H' S N hi k y _ => ?_) (fun q2 H2 nq2 k2 hq2 => ?_)
  · walk_at "g"
    refine ⟨rfl, ?_⟩
    walk_at "g"
    refine w_me (a1.k0 k) no_m ?_
    walk_at "g"
    refine ⟨p, r, l, o, s, _, rfl, a1.k0 k, fun _ => ?_, fun z => absurd ⟨by omega, by omega⟩ z⟩
    walk_at "g"
    refine y _ _ (Kp.refl _ _) ?_
    rw [List.range_succ, List.map_append, List.map_append, show ((s.n : Int) + 1 - (1 + (i : Int))).toNat = s.n - i by omega] <;> rfl
  rw [show ((s.n : Int) + 1 + 1 - 1).toNat = s.n + 1 by omega] at hq2
  have a2 := a1.k0 k2
  walk_at "g"
  unfold RT.iRevA
  walk_at "g"
  refine w_me a2 no_m ?_
  walk_at "g"
  refine ⟨p, r, l, o, s, rfl, a2, fun u H3 nu k3 hu => ?_⟩
  have lo := outN_len s.n s.O
  have er := mir_outs s
  generalize hX : outN s.n s.O = X at hu lo er
  refine ⟨u, _, rfl, .inl ⟨SqL.of hu, ?_⟩⟩
  refine cp_rev (SqL.of hu) (fun i => ((X.reverse.take i).map fun (v : Int) => (s.n : Int) + 1 - v).map V.int) (fun i hi => sz_lt (by rw [List.length_map, List.length_map, List.length_take, List.length_reverse]; omega)) rfl (fun i x H' S N hi hx k y _ => ?_) (fun q3 H4 nq3 k4 hq3 => ?_)
  · rw [List.length_map] at hi hx
    obtain ⟨v, hv, rfl⟩ := at_map hx
    have hv2 : X.reverse[i]? = some v := by rw [List.getElem?_reverse hi, hv]
    walk_at "g"
    refine ⟨rfl, ?_⟩
    walk_at "g"
    refine y _ _ (Kp.refl _ _) ?_
    rw [take_snoc hv2, List.map_append, List.map_append] <;> rfl
  rw [List.length_map, show X.reverse.take X.length = X.reverse by rw [← List.length_reverse, List.take_length], er] at hq3
  have k34 := k3.trans k4
  have k24 := k2.trans k34
  have m9 : ∀ x : Int, 0 ≤ x → x ≤ 61 → 0 ≤ x ∧ x < 1000000000 := fun x h0 h1 => ⟨h0, by omega⟩
  have e1 : ((List.range (s.n + 1)).map fun (v : Nat) => (s.n : Int) + 1 - gI s.L (s.n + 1 - v)) = (mirS s).R := rfl
  have e2 : ((List.range (s.n + 1)).map fun (v : Nat) => (s.n : Int) + 1 - gI s.R (s.n - v)) = (mirS s).L.drop 1 := rfl
  rw [e1] at hq1
  rw [e2] at hq2
  obtain ⟨m1, m2, m3⟩ := mir_lens s
  walk_at "g"
  refine ⟨q1, q2, q3, (mirS s).R, (mirS s).L.drop 1, outN s.n (mirS s).O, rfl, SqL.of (k24.at0 hq1), SqL.of (k34.at0 hq2), SqL.of hq3, ⟨fun i hi => ?_, by omega⟩, ⟨fun i hi => ?_, by rw [List.length_drop]; omega⟩, ⟨fun i hi => ?_, by have := outN_len s.n (mirS s).O; omega⟩, fun H5 k5 => ?_⟩
  · obtain ⟨j, hj, rfl⟩ := List.mem_iff_getElem.mp hi
    have := wm.rb j (by rw [m1] at hj; show j ≤ s.n; omega)
    rw [gI_of (List.getElem?_eq_getElem hj)] at this
    have e : (mirS s).n = s.n := rfl
    rw [e] at this
    omega
  · obtain ⟨j, hj, rfl⟩ := List.mem_iff_getElem.mp hi
    rw [List.length_drop, m2] at hj
    have e3 : (mirS s).L[j + 1]? = some (((mirS s).L.drop 1)[j]'(by rw [List.length_drop, m2]; exact hj)) := by
      rw [← List.getElem?_eq_getElem, List.getElem?_drop, Nat.add_comm]
    have := wm.lb (j + 1) (by omega) (by show j + 1 ≤ s.n + 1; omega)
    rw [gI_of e3] at this
    omega
  · have := outN_bd hi
    omega
  · walk_at "g"
    refine ⟨mirS s, rfl, wm, mir_snd d, fun t ta tb tc H6 t0 t1 t2 t3 k6 lt => ?_⟩
    have k15 := (k1.trans k24).trans k5
    exact g t ta tb tc H6 (k15.free0 t0) (k15.free0 t1) (k15.free0 t2) (k15.free0 t3) (k15.trans k6) lt
end
end G

set_option Elab.async false
set_option linter.all false
set_option maxRecDepth 100000
set_option maxHeartbeats 1000000
namespace G
--#FAM KL
open PySem PySem.Spec PyProof.Rows L2
local macro_rules
  | `(tactic| walk_at "1") => `(tactic| first
    | with_reducible refine w_seq ?_
    | with_reducible refine w_asg ?_
    | with_reducible refine w_asgS ?_
    | with_reducible refine w_asf ?_
    | with_reducible refine w_drop ?_
    | with_reducible refine w_ret ?_
    | with_reducible refine w_if ?_
    | with_reducible refine w_not ?_
    | with_reducible refine w_and ?_
    | with_reducible refine w_or ?_
    | with_reducible refine w_test ?_
    | with_reducible refine w_tb ?_
    | with_reducible refine w_chain ?_
    | with_reducible refine w_op ?_
    | with_reducible refine w_un ?_
    | with_reducible refine w_andV ?_
    | with_reducible refine w_orV ?_
    | with_reducible refine w_notV ?_
    | with_reducible refine w_ifE ?_
    | with_reducible refine w_cons ?_
    | with_reducible refine w_nil ?_
    | with_reducible refine w_cb ?_
    | with_reducible refine w_cl ?_
    | with_reducible refine w_mt ?_
    | with_reducible refine w_fld ?_
    | with_reducible refine w_tupN ?_
    | with_reducible refine w_lstN ?_
    | with_reducible refine w_bm ?_
    | with_reducible refine w_bm0 ?_
    | with_reducible refine w_for ?_
    | with_reducible refine w_lc ?_
    | with_reducible refine w_iR1 ?_
    | with_reducible refine w_iR2 ?_
    | with_reducible refine w_iL ?_
    | with_reducible refine w_iT ?_
    | with_reducible refine w_iE ?_
    | with_reducible refine w_iZ ?_
    | with_reducible refine w_var (by with_unfolding_all rfl) ?_
    | with_reducible refine w_c ?_
    | with_reducible refine w_next ?_
    | with_reducible refine w_i0 ?_
    | with_reducible refine w_u1 ?_
    | with_reducible refine w_addI ?_
    | with_reducible refine w_eqI ?_
    | with_reducible refine w_eqS ?_
    | with_reducible refine w_eqB ?_
    | with_reducible refine w_neI ?_
    | with_reducible refine w_neS ?_
    | with_reducible refine w_neB ?_
    | with_reducible refine w_abs ?_
    | with_reducible refine w_intI ?_
    | with_reducible refine w_min2 ?_
    | with_reducible refine w_max2 ?_
    | with_reducible refine w_isN0 ?_
    | with_reducible refine w_isN1 ref_ne ?_
    | with_reducible refine w_isN1 int_ne ?_
    | with_reducible refine w_notN0 ?_
    | with_reducible refine w_notN1 ref_ne ?_
    | with_reducible refine w_notN1 int_ne ?_
    | with_reducible refine w_ex1 ?_
    | with_reducible refine w_n1 ?_
    | with_reducible refine w_n2 ?_
    | with_reducible refine w_tT ?_
    | with_reducible refine w_tF ?_
    | with_reducible refine w_nT ?_
    | with_reducible refine w_nF ?_
    | with_reducible refine w_rz ?_
    | with_reducible refine w_mkN ?_
    | with_reducible refine w_lrgN ?_
    | with_reducible refine w_rg1 ?_
    | with_reducible refine w_rg2 ?_
    | with_reducible refine w_sl ?_
    | with_reducible refine w_np ?_
    | with_reducible refine w_pt ?_
    | with_reducible refine w_tr ?_
    | with_reducible refine w_gn ?_
    | with_reducible refine w_yes ?_
    | with_reducible refine w_m1 ?_
    | with_reducible refine w_asu ?_
    | with_reducible refine w_exS ?_
    | with_reducible refine w_iS ?_
    | with_reducible refine w_g1 ?_
    | with_reducible refine w_gc ?_
    | with_reducible refine w_gt (SqT.of upd_same) rfl ?_)
local macro_rules
  | `(tactic| walk_at "g") => `(tactic| repeat walk_at "1")
local macro_rules
  | `(tactic| walk_at "j1") => `(tactic| first
    | with_reducible refine w_seqI ?_
    | walk_at "1")
local macro_rules
  | `(tactic| walk_at "j") => `(tactic| repeat walk_at "j1")
section
variable {K : PySem.W.Frag} {mg : Str → Option Value}
theorem len__law_walked (K : PySem.W.Frag) : ∀ vs H Q E, sp04__law_walked K vs H Q E → vs.length = (["size", "rights"] : List Str).length := by
  rintro vs H Q E ⟨_, _, _, rfl, _⟩
  rfl
theorem rd__law_walked (T : Txt K mg) (vs : List V) (H : Hp) (Q : VK) (E : XK) (h : sp04__law_walked K vs H Q E) : t__law_walked K E { nx := fun _ H' => Q .non H', rt := Q } (start ["size", "rights", "seen", "node", "k"] vs) H := by
  obtain ⟨r, n, R, rfl, hn, hr, lR, rb, g⟩ := h
  unfold t__law_walked
  have r0 := rb 0 (by omega)
  walk_at "g"
  refine ⟨sz_ok (Nat.zero_le _), nw fun q H1 nq k1 hq => ?_⟩
  have hr1 := k1.at0 hr
  have qr : r ≠ q := ne_of_none hr nq
  have fin : ∀ H' (pre : List Int), pre = walkL n R → Kp [q] H1 H' → H' q = some (.lst (pre.map V.int)) → Q (.ref q) H' := fun H' pre e k hq' => by
    rw [e] at hq'
    exact g q H' nq ((k1.all.trans k).cut1 nq) hq'
  walk_at "g"
  refine w_ixL (SqL.of hr1) (at_I (by omega) (by rw [lR]; omega)) ?_
  walk_at "g"
  refine w_r1 (by omega) ?_
  rw [show ((n : Int) + 1).toNat = n + 1 by omega]
  refine lp_rng0 (fun i σ H' => ∃ (v : Int) (pre : List Int) (z : Option V), σ = [some (.int (n : Int)), some (.ref r), some (.ref q), some (.int v), z] ∧ Kp [q] H1 H' ∧ H' q = some (.lst (pre.map V.int)) ∧ 0 < v ∧ v ≤ (n : Int) + 1 ∧ pre.length ≤ i ∧ pre ++ wkF R n (n + 1 - i) v = walkL n R) ⟨gI R 0, [], _, rfl, Kp.refl _ _, hq, by omega, by omega, by simp, rfl⟩ ?_ ?_
  · rintro i σ' H' hi ⟨v, pre, z, rfl, k, hq', h0, h1, h2, h3⟩
    rw [show n + 1 - i = (n - i) + 1 by omega, wkF] at h3
    walk_at "g"
    refine w_iteD (fun c => ?_) (fun c => ?_)
    · rw [if_neg (by omega), List.append_nil] at h3
      walk_at "g"
      unfold tBreak
      walk_at "g"
      exact fin _ pre h3 k hq'
    · rw [if_pos (by omega)] at h3
      have rv := rb v.toNat (by omega)
      walk_at "g"
      refine ⟨w_ty (SqL.of hq'), ?_⟩
      walk_at "g"
      refine w_apT hq' (sz_lt (by rw [List.length_map]; omega)) fun H2 k2 hq2 => ?_
      walk_at "g"
      refine w_ixL (SqL.of (k2.at1 qr (k.at1 qr hr1))) (at_I (by omega) (by rw [lR]; omega)) ?_
      walk_at "g"
      refine ⟨_, pre ++ [v], _, rfl, k.trans k2, by rw [hq2, List.map_append] <;> rfl, by omega, by omega, by rw [List.length_append, List.length_singleton]; omega, ?_⟩
      rw [← h3, List.append_assoc, show n + 1 - (i + 1) = n - i by omega]
      rfl
  · rintro σ' H' ⟨v, pre, z, rfl, k, hq', h0, h1, h2, h3⟩
    rw [Nat.sub_self, wkF, List.append_nil] at h3
    walk_at "g"
    exact fin _ pre h3 k hq'
theorem len__law_walked_back (K : PySem.W.Frag) : ∀ vs H Q E, sp04__law_walked_back K vs H Q E → vs.length = (["size", "lefts"] : List Str).length := by
  rintro vs H Q E ⟨_, _, _, rfl, _⟩
  rfl
theorem rd__law_walked_back (T : Txt K mg) (vs : List V) (H : Hp) (Q : VK) (E : XK) (h : sp04__law_walked_back K vs H Q E) : t__law_walked_back K E { nx := fun _ H' => Q .non H', rt := Q } (start ["size", "lefts", "seen", "node", "k"] vs) H := by
  obtain ⟨l, n, L, rfl, hn, hl, lL, lb, g⟩ := h
  unfold t__law_walked_back
  have l0 := lb (n + 1) (by omega) (by omega)
  walk_at "g"
  refine ⟨sz_ok (Nat.zero_le _), nw fun q H1 nq k1 hq => ?_⟩
  have hl1 := k1.at0 hl
  have ql : l ≠ q := ne_of_none hl nq
  have fin : ∀ H' (pre : List Int), pre = walkB n L → Kp [q] H1 H' → H' q = some (.lst (pre.map V.int)) → Q (.ref q) H' := fun H' pre e k hq' => by
    rw [e] at hq'
    exact g q H' nq ((k1.all.trans k).cut1 nq) hq'
  walk_at "g"
  refine w_ixL (SqL.of hl1) (at_I (by omega) (by rw [lL]; omega)) ?_
  rw [show ((n : Int) + 1).toNat = n + 1 by omega]
  walk_at "g"
  refine w_r1 (by omega) ?_
  rw [show ((n : Int) + 1).toNat = n + 1 by omega]
  refine lp_rng0 (fun i σ H' => ∃ (v : Int) (pre : List Int) (z : Option V), σ = [some (.int (n : Int)), some (.ref l), some (.ref q), some (.int v), z] ∧ Kp [q] H1 H' ∧ H' q = some (.lst (pre.map V.int)) ∧ 0 ≤ v ∧ v ≤ (n : Int) ∧ pre.length ≤ i ∧ pre ++ wbF L (n + 1 - i) v = walkB n L) ⟨gI L (n + 1), [], _, rfl, Kp.refl _ _, hq, by omega, by omega, by simp, rfl⟩ ?_ ?_
  · rintro i σ' H' hi ⟨v, pre, z, rfl, k, hq', h0, h1, h2, h3⟩
    rw [show n + 1 - i = (n - i) + 1 by omega, wbF] at h3
    walk_at "g"
    refine w_iteD (fun c => ?_) (fun c => ?_)
    · rw [if_neg (by omega), List.append_nil] at h3
      walk_at "g"
      unfold tBreak
      walk_at "g"
      exact fin _ pre h3 k hq'
    · rw [if_pos (by omega)] at h3
      have rv := lb v.toNat (by omega) (by omega)
      walk_at "g"
      refine ⟨w_ty (SqL.of hq'), ?_⟩
      walk_at "g"
      refine w_apT hq' (sz_lt (by rw [List.length_map]; omega)) fun H2 k2 hq2 => ?_
      walk_at "g"
      refine w_ixL (SqL.of (k2.at1 ql (k.at1 ql hl1))) (at_I (by omega) (by rw [lL]; omega)) ?_
      walk_at "g"
      refine ⟨_, pre ++ [v], _, rfl, k.trans k2, by rw [hq2, List.map_append] <;> rfl, by omega, by omega, by rw [List.length_append, List.length_singleton]; omega, ?_⟩
      rw [← h3, List.append_assoc, show n + 1 - (i + 1) = n - i by omega]
      rfl
  · rintro σ' H' ⟨v, pre, z, rfl, k, hq', h0, h1, h2, h3⟩
    rw [Nat.sub_self, wbF, List.append_nil] at h3
    walk_at "g"
    exact fin _ pre h3 k hq'
theorem len__law_sound (K : PySem.W.Frag) : ∀ vs H Q E, sp04__law_sound K vs H Q E → vs.length = (["size", "rights", "lefts", "outs"] : List Str).length := by
  rintro vs H Q E ⟨_, _, _, _, _, _, _, rfl, _⟩
  rfl
theorem rd__law_sound (T : Txt K mg) (vs : List V) (H : Hp) (Q : VK) (E : XK) (h : sp04__law_sound K vs H Q E) : t__law_sound K E { nx := fun _ H' => Q .non H', rt := Q } (start ["size", "rights", "lefts", "outs", "last", "node"] vs) H := by
  obtain ⟨r, l, o, n, R, L, O, rfl, hn, wd, g⟩ := h
  unfold t__law_sound
  have no : sndB n R L O = false → Q (.bl false) H := fun e => by
    rw [e] at g
    exact g H (Kp.refl _ _)
  have e0 : chk R L 0 (inF O 1 (n + 1)) = sndB n R L O := by rw [inF_N] <;> rfl
  walk_at "g"
  refine w_r2 (by omega) ?_
  rw [show ((n : Int) + 2 - 1).toNat = n + 1 by omega]
  refine lp_rng (fun i σ H' => H' = H ∧ ∃ (la : Int) (z : Option V), σ = [some (.int (n : Int)), some (.ref r), some (.ref l), some (.ref o), some (.int la), z] ∧ 0 ≤ la ∧ la ≤ (i : Int) ∧ chk R L la (inF O (1 + i) (n + 1 - i)) = sndB n R L O) ⟨rfl, 0, _, rfl, by omega, by omega, e0⟩ ?_ ?_
  · rintro i σ' H' hi ⟨rfl, la, z, rfl, l0, l1, hc⟩
    rw [show n + 1 - i = (n - i) + 1 by omega, inF] at hc
    have ei : (((1 + i : Nat) : Int)) = 1 + (i : Int) := by omega
    have e1 : n + 1 - (i + 1) = n - i := by omega
    have e2 : 1 + (i + 1) = 1 + i + 1 := by omega
    walk_at "g"
    refine w_ixL (SqL.of wd.ho) (at_B (by omega) (by rw [wd.lO]; omega)) ?_
    rw [show ((1 : Int) + (i : Int)).toNat = 1 + i by omega]
    walk_at "g"
    refine w_iteBN (fun c => ?_) (fun c => ?_)
    · rw [if_neg (by rw [c]; decide), ei] at hc
      have hc : ((decide (gI R la.toNat = 1 + (i : Int)) && decide (gI L ((1 : Int) + (i : Int)).toNat = la)) && chk R L (1 + (i : Int)) (inF O (1 + i + 1) (n - i))) = sndB n R L O := hc
      walk_at "g"
      refine w_ixL (SqL.of wd.hr) (at_I (by omega) (by rw [wd.lR]; omega)) ?_
      walk_at "g"
      refine w_iteN (fun c1 => ?_) (fun c1 => ?_)
      · rw [decide_eq_false c1, Bool.false_and, Bool.false_and] at hc
        walk_at "g"
        exact no hc.symm
      · rw [decide_eq_true c1, Bool.true_and] at hc
        walk_at "g"
        refine w_ixL (SqL.of wd.hl) (at_I (by omega) (by rw [wd.lL]; omega)) ?_
        walk_at "g"
        refine w_iteN (fun c2 => ?_) (fun c2 => ?_)
        · rw [decide_eq_false c2, Bool.false_and] at hc
          walk_at "g"
          exact no hc.symm
        · rw [decide_eq_true c2, Bool.true_and] at hc
          walk_at "g"
          exact ⟨rfl, _, _, rfl, by omega, by omega, by rw [e1, e2]; exact hc⟩
    · rw [if_pos c] at hc
      walk_at "g"
      exact ⟨rfl, _, _, rfl, by omega, by omega, by rw [e1, e2]; exact hc⟩
  · rintro σ' H' ⟨rfl, la, z, rfl, l0, l1, hc⟩
    rw [Nat.sub_self] at hc
    have hc : true = sndB n R L O := hc
    rw [← hc] at g
    walk_at "g"
    exact g _ (Kp.refl _ _)
theorem len__law_whole (K : PySem.W.Frag) : ∀ vs H Q E, sp04__law_whole K vs H Q E → vs.length = (["size", "rights", "lefts", "outs"] : List Str).length := by
  rintro vs H Q E ⟨_, _, _, _, _, _, _, rfl, _⟩
  rfl
theorem rd__law_whole (T : Txt K mg) (vs : List V) (H : Hp) (Q : VK) (E : XK) (h : sp04__law_whole K vs H Q E) : t__law_whole K E { nx := fun _ H' => Q .non H', rt := Q } (start ["size", "rights", "lefts", "outs", "node"] vs) H := by
  obtain ⟨r, l, o, n, R, L, O, rfl, hn, wd, g⟩ := h
  unfold t__law_whole
  have no : ∀ i : Nat, i ≤ n → (gB O i = true ∨ ¬ gI R i = (i : Int) + 1 ∨ ¬ gI L (i + 1) = (i : Int)) → Q (.bl false) H := fun i hi hz => by
    have e : whS n R L O = false := by
      cases e : whS n R L O with
      | false => rfl
      | true =>
        have := List.all_eq_true.mp e i (List.mem_range.mpr (by omega))
        simp only [Bool.and_eq_true, Bool.not_eq_true', decide_eq_true_eq] at this
        obtain ⟨z1, z2, z3⟩ := this
        rcases hz with h | h | h
        · rw [z1] at h
          cases h
        · exact absurd z2 h
        · exact absurd z3 h
    rw [e] at g
    exact g H (Kp.refl _ _)
  walk_at "g"
  refine w_r1 (by omega) ?_
  rw [show ((n : Int) + 1).toNat = n + 1 by omega]
  refine lp_rng0 (fun i σ H' => H' = H ∧ ∃ (z : Option V), σ = [some (.int (n : Int)), some (.ref r), some (.ref l), some (.ref o), z] ∧ ∀ v : Nat, v < i → gB O v = false ∧ gI R v = (v : Int) + 1 ∧ gI L (v + 1) = (v : Int)) ⟨rfl, _, rfl, fun v hv => absurd hv (by omega)⟩ ?_ ?_
  · rintro i σ' H' hi ⟨rfl, z, rfl, hv⟩
    walk_at "g"
    refine w_ixL (SqL.of wd.ho) (at_B (by omega) (by rw [wd.lO]; omega)) ?_
    rw [Int.toNat_natCast]
    walk_at "g"
    refine w_iteB (fun c => ?_) (fun c => ?_)
    · walk_at "g"
      exact no i (by omega) (.inl c)
    walk_at "g"
    refine w_ixL (SqL.of wd.hr) (at_I (by omega) (by rw [wd.lR]; omega)) ?_
    rw [Int.toNat_natCast]
    walk_at "g"
    refine w_iteN (fun c1 => ?_) (fun c1 => ?_)
    · walk_at "g"
      exact no i (by omega) (.inr (.inl c1))
    walk_at "g"
    refine w_ixL (SqL.of wd.hl) (at_I (by omega) (by rw [wd.lL]; omega)) ?_
    rw [show ((i : Int) + 1).toNat = i + 1 by omega]
    walk_at "g"
    refine w_iteN (fun c2 => ?_) (fun c2 => ?_)
    · walk_at "g"
      exact no i (by omega) (.inr (.inr c2))
    walk_at "g"
    refine ⟨rfl, _, rfl, fun v hv2 => ?_⟩
    by_cases e : v = i
    · rw [e]
      exact ⟨c, c1, c2⟩
    · exact hv v (by omega)
  · rintro σ' H' ⟨rfl, z, rfl, hv⟩
    have e : whS n R L O = true := by
      refine List.all_eq_true.mpr fun v hv2 => ?_
      obtain ⟨z1, z2, z3⟩ := hv v (List.mem_range.mp hv2)
      rw [z1, decide_eq_true z2, decide_eq_true z3]
      rfl
    rw [e] at g
    walk_at "g"
    exact g _ (Kp.refl _ _)
theorem len__law_opposite (K : PySem.W.Frag) : ∀ vs H Q E, sp04__law_opposite K vs H Q E → vs.length = (["size", "operation"] : List Str).length := by
  rintro vs H Q E ⟨_, _, rfl, _⟩
  rfl
theorem rd__law_opposite (T : Txt K mg) (vs : List V) (H : Hp) (Q : VK) (E : XK) (h : sp04__law_opposite K vs H Q E) : t__law_opposite K E { nx := fun _ H' => Q .non H', rt := Q } (start ["size", "operation"] vs) H := by
  obtain ⟨n, op, rfl, g⟩ := h
  unfold t__law_opposite
  unfold opp at g
  walk_at "g"
  refine w_iteD (fun c => ?_) (fun c => ?_)
  · rw [if_pos c] at g
    walk_at "g"
    exact g
  · rw [if_neg c] at g
    walk_at "g"
    exact g
theorem len__law_run (K : PySem.W.Frag) : ∀ vs H Q E, sp04__law_run K vs H Q E → vs.length = (["box", "size", "world"] : List Str).length := by
  rintro vs H Q E ⟨_, _, _, _, _, _, _, _, _, _, rfl, _⟩
  rfl
theorem rd__law_run (T : Txt K mg) (vs : List V) (H : Hp) (Q : VK) (E : XK) (h : sp04__law_run K vs H Q E) : t__law_run K E { nx := fun _ H' => Q .non H', rt := Q } (start ["box", "size", "world", "run", "count", "outs", "node", "k"] vs) H := by
  obtain ⟨b, c, w, r, l, o, n, R, L, O, rfl, hn, bx, wb, ob, hw, wd, g⟩ := h
  unfold t__law_run
  have wf := wd.wf hn
  walk_at "j"
  refine ⟨sz_ok (Nat.zero_le _), nw fun q H1 nq k1 hq => ?_⟩
  have b1 := bx.k0 k1
  obtain ⟨qb, qc⟩ := bx.fr nq
  walk_at "j"
  refine ⟨b, c, 8, rfl, by omega, by omega, b1, fun d H2 d0 d1 k2 b2 => ?_⟩
  have hq2 := k2.at1 qb hq
  dsimp only
  show tSeq (tIfS _ _ _) _ _ _ _
  refine w_seqJ (fun σ' H' => ∃ ct : Int, 0 ≤ ct ∧ ct ≤ 14 ∧ σ' = [some (.ref b), some (.int (n : Int)), some (.ref w), some (.ref q), some (.int ct), none, none, none] ∧ Kp [b] H1 H' ∧ BxI H' b c ∧ H' q = some (.lst [])) (fun N hN => ?_) ?_
  · walk_at "g"
    refine w_iteD (fun c1 => ?_) (fun c1 => ?_)
    · walk_at "g"
      refine ⟨b, c, 7, rfl, by omega, by omega, b2, fun e H3 e0 e1 k3 b3 => ?_⟩
      walk_at "g"
      exact hN _ _ ⟨_, by omega, by omega, rfl, k2.trans k3, b3, k3.at1 qb hq2⟩
    · walk_at "g"
      exact hN _ _ ⟨d, by omega, by omega, rfl, k2, b2, hq2⟩
  rintro σ' H3 ⟨ct, ct0, ct1, rfl, k3, b3, hq3⟩
  have nil : Leg (wS n R L O) [] := fun i op h => by simp at h
  have kq : Kp [b] H H3 := k1.all.trans k3
  walk_at "g"
  refine w_iteD (fun c1 => ?_) (fun c1 => ?_)
  · walk_at "g"
    exact g [] q H3 nil (by simp) nq kq b3 hq3
  walk_at "g"
  refine w_ixL (SqL.of (kq.at1 wb hw)) (i := 2) (v := .ref o) rfl ?_
  walk_at "g"
  refine w_listLN (SqL.of (kq.at1 ob wd.ho)) fun o2 H4 no2 k4 ho2 => ?_
  have b4 := b3.k0 k4
  obtain ⟨o2b, o2c⟩ := b3.fr no2
  have o2q : o2 ≠ q := (ne_of_none hq3 no2).symm
  have no2H : H o2 = none := kq.free (by simpa using o2b) no2
  walk_at "g"
  refine w_r1 (by omega) ?_
  refine lp_rng0 (fun i σ H' => ∃ (v : Int) (z : Option V) (run : List Int), σ = [some (.ref b), some (.int (n : Int)), some (.ref w), some (.ref q), some (.int ct), some (.ref o2), some (.int v), z] ∧ 1 ≤ v ∧ v ≤ (n : Int) ∧ Leg (wS n R L O) run ∧ run.length ≤ i ∧ Kp [b, q, o2] H H' ∧ BxI H' b c ∧ H' q = some (.lst (run.map V.int)) ∧ H' o2 = some (.lst ((runS (wS n R L O) run).O.map V.bl))) ⟨1, _, [], rfl, by omega, by omega, nil, by simp, (kq.trans k4.all).mono (by simp), b4, k4.at0 hq3, ho2⟩ ?_ ?_
  · rintro i σ' H' hi ⟨v, z, run, rfl, v0, v1, leg, hlen, kk, bb, hqq, hoo⟩
    have wr := leg.wf wf
    have en : (runS (wS n R L O) run).n = n := runS_n _ _
    walk_at "g"
    refine ⟨b, c, 3, rfl, by omega, by omega, bb, fun d H5 d0 d1 k5 b5 => ?_⟩
    have kk5 := kk.trans (k5.mono (S' := [b, q, o2]) (by simp))
    have hq5 := k5.at1 qb hqq
    have ho5 := k5.at1 o2b hoo
    have lO : (runS (wS n R L O) run).O.length = n + 2 := by rw [wr.lO, en]
    have tail : ∀ (D : Ends) (H6 : Hp) (u : Int), 1 ≤ u → u ≤ (n : Int) → Kp [b, q, o2] H H6 → BxI H6 b c → H6 q = some (.lst (run.map V.int)) → H6 o2 = some (.lst ((runS (wS n R L O) run).O.map V.bl)) →
        (∀ (run' : List Int) H7, Leg (wS n R L O) run' → run'.length ≤ i + 1 → Kp [b, q, o2] H H7 → BxI H7 b c → H7 q = some (.lst (run'.map V.int)) → H7 o2 = some (.lst ((runS (wS n R L O) run').O.map V.bl)) → D.nx [some (.ref b), some (.int (n : Int)), some (.ref w), some (.ref q), some (.int ct), some (.ref o2), some (.int u), some (.int (i : Int))] H7) →
        (tSeq (tIfS (tB (tOp (rIx K) (tVar 5) (tVar 6))) (tDrop (tBM K "list" rAppend (tVar 3) (tCons (tVar 6) (tNil)))) (tDrop (tBM K "list" rAppend (tVar 3) (tCons (tUn rNegA (tVar 6)) (tNil))))) (tAsg (tNotV (tOp (rIx K) (tVar 5) (tVar 6))) (gSub (tVar 5) (tVar 6) rSetL))) D [some (.ref b), some (.int (n : Int)), some (.ref w), some (.ref q), some (.int ct), some (.ref o2), some (.int u), some (.int (i : Int))] H6 := fun D H6 u u0 u1 k6 b6 hq6 ho6 nx => by
      obtain ⟨m, rfl⟩ : ∃ m : Nat, u = (m : Int) := ⟨u.toNat, by omega⟩
      walk_at "g"
      refine w_ixL (SqL.of ho6) (at_B (by omega) (by rw [lO]; omega)) ?_
      rw [Int.toNat_natCast]
      walk_at "g"
      refine w_iteB (fun c2 => ?_) (fun c2 => ?_)
      · walk_at "g"
        refine ⟨w_ty (SqL.of hq6), ?_⟩
        walk_at "g"
        refine w_apT hq6 (sz_lt (by rw [List.length_map]; omega)) fun H7 k7 hq7 => ?_
        have ho7 := k7.at1 o2q ho6
        walk_at "g"
        refine w_ixL (SqL.of ho7) (at_B (by omega) (by rw [lO]; omega)) ?_
        rw [Int.toNat_natCast, c2]
        walk_at "g"
        refine w_seT ho7 (n := m) (by rw [List.length_map, ixN_pos (by omega) (by rw [lO]; omega), Int.toNat_natCast]) fun H8 k8 ho8 => ?_
        have ok : OkOp (runS (wS n R L O) run) (m : Int) := ⟨⟨by omega, by rw [en]; omega⟩, by rw [Int.natAbs_natCast, c2, decide_eq_true (by omega)]⟩
        refine nx (run ++ [(m : Int)]) H8 (leg.snoc ok) (by rw [List.length_append, List.length_singleton]; omega) ((k6.trans (k7.mono (by simp))).trans (k8.mono (by simp))) ((b6.kp k7 (by simpa using Ne.symm qb) (by simpa using Ne.symm qc)).kp k8 (by simpa using Ne.symm o2b) (by simpa using Ne.symm o2c)) (by rw [k8.at1 (Ne.symm o2q) hq7, List.map_append] <;> rfl) ?_
        rw [ho8, runS_snoc, set_B]
        show _ = some (HO.lst (((runS (wS n R L O) run).O.set (m : Int).natAbs (decide ((m : Int) < 0))).map V.bl))
        rw [Int.natAbs_natCast, decide_eq_false (by omega)] <;> rfl
      · walk_at "g"
        refine ⟨w_ty (SqL.of hq6), ?_⟩
        walk_at "g"
        refine w_apT hq6 (sz_lt (by rw [List.length_map]; omega)) fun H7 k7 hq7 => ?_
        have ho7 := k7.at1 o2q ho6
        walk_at "g"
        refine w_ixL (SqL.of ho7) (at_B (by omega) (by rw [lO]; omega)) ?_
        rw [Int.toNat_natCast, c2]
        walk_at "g"
        refine w_seT ho7 (n := m) (by rw [List.length_map, ixN_pos (by omega) (by rw [lO]; omega), Int.toNat_natCast]) fun H8 k8 ho8 => ?_
        have ok : OkOp (runS (wS n R L O) run) (-(m : Int)) := ⟨⟨by omega, by rw [en]; omega⟩, by rw [Int.natAbs_neg, Int.natAbs_natCast, c2, decide_eq_false (by omega)]⟩
        refine nx (run ++ [-(m : Int)]) H8 (leg.snoc ok) (by rw [List.length_append, List.length_singleton]; omega) ((k6.trans (k7.mono (by simp))).trans (k8.mono (by simp))) ((b6.kp k7 (by simpa using Ne.symm qb) (by simpa using Ne.symm qc)).kp k8 (by simpa using Ne.symm o2b) (by simpa using Ne.symm o2c)) (by rw [k8.at1 (Ne.symm o2q) hq7, List.map_append] <;> rfl) ?_
        rw [ho8, runS_snoc, set_B]
        show _ = some (HO.lst (((runS (wS n R L O) run).O.set (-(m : Int)).natAbs (decide (-(m : Int) < 0))).map V.bl))
        rw [Int.natAbs_neg, Int.natAbs_natCast, decide_eq_true (by omega)] <;> rfl
    walk_at "g"
    refine w_iteD (fun c1 => ?_) (fun c1 => ?_)
    · walk_at "g"
      refine ⟨b, c, (n : Int), rfl, by omega, by omega, b5, fun u H6 u0 u1 k6 b6 => ?_⟩
      refine .inl ⟨1, u, rfl, rfl, ?_⟩
      dsimp only
      refine tail _ H6 (1 + u) (by omega) (by omega) (kk5.trans (k6.mono (by simp))) b6 (k6.at1 qb hq5) (k6.at1 o2b ho5) fun run' H7 z1 z2 z3 z4 z5 z6 => ?_
      exact ⟨_, _, run', rfl, by omega, by omega, z1, z2, z3, z4, z5, z6⟩
    · refine tail _ H5 v v0 v1 kk5 b5 hq5 ho5 fun run' H7 z1 z2 z3 z4 z5 z6 => ?_
      exact ⟨_, _, run', rfl, by omega, by omega, z1, z2, z3, z4, z5, z6⟩
  · rintro σ' H' ⟨v, z, run, rfl, v0, v1, leg, hlen, kk, bb, hqq, hoo⟩
    walk_at "g"
    refine g run q H' leg (by omega) nq (Kp.cut kk (by simp [nq, no2H])) bb hqq
end
end G

set_option Elab.async false
set_option linter.all false
set_option maxRecDepth 100000
set_option maxHeartbeats 1000000
namespace G
--#FAM KL
open PySem PySem.Spec PyProof.Rows L2
local macro_rules
  | `(tactic| walk_at "1") => `(tactic| first
    | with_reducible refine w_seq ?_
    | with_reducible refine w_asg ?_
    | with_reducible refine w_asgS ?_
    | with_reducible refine w_asf ?_
    | with_reducible refine w_drop ?_
    | with_reducible refine w_ret ?_
    | with_reducible refine w_if ?_
    | with_reducible refine w_not ?_
    | with_reducible refine w_and ?_
    | with_reducible refine w_or ?_
    | with_reducible refine w_test ?_
    | with_reducible refine w_tb ?_
    | with_reducible refine w_chain ?_
    | with_reducible refine w_op ?_
    | with_reducible refine w_un ?_
    | with_reducible refine w_andV ?_
    | with_reducible refine w_orV ?_
    | with_reducible refine w_notV ?_
    | with_reducible refine w_ifE ?_
    | with_reducible refine w_cons ?_
    | with_reducible refine w_nil ?_
    | with_reducible refine w_cb ?_
    | with_reducible refine w_cl ?_
    | with_reducible refine w_mt ?_
    | with_reducible refine w_fld ?_
    | with_reducible refine w_tupN ?_
    | with_reducible refine w_lstN ?_
    | with_reducible refine w_bm ?_
    | with_reducible refine w_bm0 ?_
    | with_reducible refine w_for ?_
    | with_reducible refine w_lc ?_
    | with_reducible refine w_iR1 ?_
    | with_reducible refine w_iR2 ?_
    | with_reducible refine w_iL ?_
    | with_reducible refine w_iT ?_
    | with_reducible refine w_iE ?_
    | with_reducible refine w_iZ ?_
    | with_reducible refine w_var (by with_unfolding_all rfl) ?_
    | with_reducible refine w_c ?_
    | with_reducible refine w_next ?_
    | with_reducible refine w_i0 ?_
    | with_reducible refine w_u1 ?_
    | with_reducible refine w_addI ?_
    | with_reducible refine w_eqI ?_
    | with_reducible refine w_eqS ?_
    | with_reducible refine w_eqB ?_
    | with_reducible refine w_neI ?_
    | with_reducible refine w_neS ?_
    | with_reducible refine w_neB ?_
    | with_reducible refine w_abs ?_
    | with_reducible refine w_intI ?_
    | with_reducible refine w_min2 ?_
    | with_reducible refine w_max2 ?_
    | with_reducible refine w_isN0 ?_
    | with_reducible refine w_isN1 ref_ne ?_
    | with_reducible refine w_isN1 int_ne ?_
    | with_reducible refine w_notN0 ?_
    | with_reducible refine w_notN1 ref_ne ?_
    | with_reducible refine w_notN1 int_ne ?_
    | with_reducible refine w_ex1 ?_
    | with_reducible refine w_n1 ?_
    | with_reducible refine w_n2 ?_
    | with_reducible refine w_tT ?_
    | with_reducible refine w_tF ?_
    | with_reducible refine w_nT ?_
    | with_reducible refine w_nF ?_
    | with_reducible refine w_rz ?_
    | with_reducible refine w_mkN ?_
    | with_reducible refine w_lrgN ?_
    | with_reducible refine w_rg1 ?_
    | with_reducible refine w_rg2 ?_
    | with_reducible refine w_sl ?_
    | with_reducible refine w_np ?_
    | with_reducible refine w_pt ?_
    | with_reducible refine w_tr ?_
    | with_reducible refine w_gn ?_
    | with_reducible refine w_yes ?_
    | with_reducible refine w_m1 ?_
    | with_reducible refine w_asu ?_
    | with_reducible refine w_exS ?_
    | with_reducible refine w_iS ?_
    | with_reducible refine w_g1 ?_
    | with_reducible refine w_gc ?_
    | with_reducible refine w_gt (SqT.of upd_same) rfl ?_)
local macro_rules
  | `(tactic| walk_at "g") => `(tactic| repeat walk_at "1")
local macro_rules
  | `(tactic| walk_at "j1") => `(tactic| first
    | with_reducible refine w_seqI ?_
    | walk_at "1")
local macro_rules
  | `(tactic| walk_at "j") => `(tactic| repeat walk_at "j1")
section
variable {K : PySem.W.Frag} {mg : Str → Option Value}
theorem w_listMG2 {σ : L2.St} {H : Hp} {Q : VK} {C : Addr} {m : Str} {ta : TE} {sp : SpG} (g : ta σ H fun x H1 => ∃ a dx fs, x = .ref a ∧ H1 a = some (.ins C dx fs) ∧ fs.lookup m = none ∧ sp [x] H1 (fun out H2 => NwU (.lst out) H2 Q) L2.E0) : tListMG C m sp ta σ H Q := g
theorem w_isiB4 {H : Hp} {Q : VK} {b : Bool} {t : String} {r : Bool} (h : kitB "bool" t = some r) (g : Q (.bl r) H) : rIsi K [.bl b, .ty t] H Q := ⟨_, _, _, _, r, rfl, .ty t, .base (.bl b), kit_ty h, g⟩
theorem w_rvs {H : Hp} {Q : VK} {p : Addr} {xs : List V} (h : H p = some (.lst xs)) (g : ∀ H', Kp [p] H H' → H' p = some (.lst xs.reverse) → Q .non H') : rReverse (.ref p) [] H Q := ⟨p, xs, rfl, rfl, h, g _ (Kp.put (by simp)) upd_same⟩
theorem len__law_outs_right (K : PySem.W.Frag) : ∀ vs H Q E, sp04__law_outs_right K vs H Q E → vs.length = (["links", "size", "outs"] : List Str).length := by
  rintro vs H Q E ⟨_, _, _, _, _, _, _, _, _, _, _, rfl, _⟩
  rfl
theorem rd__law_outs_right (T : Txt K mg) (vs : List V) (H : Hp) (Q : VK) (E : XK) (h : sp04__law_outs_right K vs H Q E) : t__law_outs_right K E { nx := fun _ H' => Q .non H', rt := Q } (start ["links", "size", "outs", "due", "told", "node"] vs) H := by
  obtain ⟨p, a, b, c, r, l, o, n, R, L, O, rfl, hn, la, wd, g⟩ := h
  unfold t__law_outs_right
  walk_at "g"
  refine w_r2 (by omega) ?_
  rw [show ((n : Int) + 1 - 1).toNat = n by omega]
  refine cp_rng (fun i => (outN i O).map V.int) (fun i hi => sz_lt (by
    rw [List.length_map]
    have := outN_len i O
    omega)) rfl (fun i H' S N hi k y no => ?_) (fun d H1 nd k1 hd => ?_)
  · walk_at "g"
    refine ⟨rfl, ?_⟩
    walk_at "g"
    refine w_ixL (SqL.of (k.at0 wd.ho)) (at_B (by omega) (by rw [wd.lO]; omega)) ?_
    walk_at "g"
    rw [show ((1 : Int) + (i : Int)).toNat = i + 1 by omega]
    refine w_iteB (fun c1 => ?_) (fun c1 => ?_)
    · walk_at "g"
      refine y _ _ (Kp.refl _ _) ?_
      unfold outN
      rw [List.range_succ, List.map_append, List.filter_append, List.map_append, List.map_append]
      congr 1
      show (([i + 1].filter fun v => gB O v).map _).map _ = _
      rw [List.filter_cons_of_pos c1]
      show [V.int ((i + 1 : Nat) : Int)] = [V.int (1 + (i : Int))]
      rw [Int.add_comm] <;> rfl
    · refine no _ (Kp.refl _ _) ?_
      unfold outN
      rw [List.range_succ, List.map_append, List.filter_append, List.map_append, List.map_append]
      show _ ++ (([i + 1].filter fun v => gB O v).map _).map _ = _
      rw [List.filter_cons_of_neg (by rw [c1]; exact Bool.false_ne_true)]
      exact List.append_nil _
  have la1 := la.k0 k1
  have wd1 := wd.k0 k1
  have lo := outN_len n O
  walk_at "g"
  refine w_me la1 no_m ?_
  walk_at "g"
  refine ⟨p, a, b, c, _, rfl, la1, fun u H2 nu k2 hu => ?_⟩
  have hu : H2 u = some (.lst ((outN n O).map V.int)) := hu
  walk_at "g"
  refine ⟨u, d, outN n O, rfl, by omega, hu, k2.at0 hd, ?_⟩
  have la2 := la1.k0 k2
  have wd2 := wd1.k0 k2
  have ud : u ≠ d := (ne_of_none hd nu).symm
  walk_at "g"
  refine ⟨w_ty (SqL.of hu), ?_⟩
  walk_at "g"
  refine w_apT hu (sz_lt (by rw [List.length_map]; omega)) fun H3 k3 hu3 => ?_
  walk_at "g"
  refine ⟨w_ty (SqL.of hu3), ?_⟩
  refine w_rvs hu3 fun H4 k4 hu4 => ?_
  have k34 : Kp [u] H2 H4 := k3.trans k4
  have la4 : LinksAt K H4 p a b c (wS n R L O) := ((la1.k0 (k2.all.trans k34 |>.cut1 nu)))
  have wd4 : WdZ H4 r l o n R L O := wd1.k0 (k2.all.trans k34 |>.cut1 nu)
  have k14 : Kp [] H1 H4 := (k2.all.trans k34).cut1 nu
  walk_at "g"
  refine w_me la4 no_m ?_
  walk_at "g"
  refine ⟨p, a, b, c, _, rfl, la4, fun u2 H5 nu2 k5 hu5 => ?_⟩
  walk_at "g"
  refine ⟨u2, d, outN n O, rfl, by omega, hu5, k5.at0 (k14.at0 hd), ?_⟩
  have la5 := la4.k0 k5
  have wd5 := wd4.k0 k5
  have k05 := (k1.trans k14).trans k5
  obtain ⟨dx, ob⟩ := la5.ob
  have sn : (wS n R L O).n = n := rfl
  walk_at "g"
  refine w_r2 (by omega) ?_
  rw [show ((n : Int) + 1 - 1).toNat = n by omega]
  refine lp_rng (fun i σ H' => H' = H5 ∧ ∃ z, σ = [some (.ref p), some (.int (n : Int)), some (.ref o), some (.ref d), some (.ref u), z]) ⟨rfl, _, rfl⟩ ?_ ?_
  · rintro i σ' H' hi ⟨rfl, z, rfl⟩
    walk_at "g"
    refine w_inO ob ?_
    refine ⟨p, a, b, c, _, _, rfl, la5, _, rfl, ?_⟩
    rw [decide_eq_true (show (1 : Int) ≤ 1 + (i : Int) ∧ (1 : Int) + (i : Int) ≤ (((wS n R L O).n : Nat) : Int) by rw [sn]; omega), Bool.true_and]
    walk_at "g"
    refine w_ixL (SqL.of wd5.ho) (at_B (by omega) (by rw [wd5.lO]; omega)) ?_
    show rEqA K (.bl (!gB O ((1 : Int) + (i : Int)).toNat)) (.bl (gB O ((1 : Int) + (i : Int)).toNat)) _ _
    have ne : decide ((!gB O ((1 : Int) + (i : Int)).toNat) = gB O ((1 : Int) + (i : Int)).toNat) = false := by cases gB O ((1 : Int) + (i : Int)).toNat <;> rfl
    walk_at "g"
    rw [ne]
    walk_at "g"
    exact ⟨rfl, _, rfl⟩
  rintro σ' H' ⟨rfl, z, rfl⟩
  walk_at "g"
  refine .inl ⟨3, (n : Int), rfl, rfl, .inl ⟨by omega, by omega⟩, ?_⟩
  walk_at "g"
  refine ⟨sz_ok (by show 7 ≤ 1000000; omega), nw fun q H6 nq k6 hq => ?_⟩
  have hq : H6 q = some (.lst (([0, -1, -(n : Int), -(n : Int) - 1, (n : Int) + 1, (n : Int) + 2, 3 * (n : Int) + 61] : List Int).map V.int)) := hq
  have bad : ∀ v ∈ ([0, -1, -(n : Int), -(n : Int) - 1, (n : Int) + 1, (n : Int) + 2, 3 * (n : Int) + 61] : List Int), ¬ (1 ≤ v ∧ v ≤ (n : Int)) := fun v hv => by
    simp only [List.mem_cons, List.not_mem_nil, or_false] at hv
    omega
  generalize ([0, -1, -(n : Int), -(n : Int) - 1, (n : Int) + 1, (n : Int) + 2, 3 * (n : Int) + 61] : List Int) = ns at hq bad
  have la6 := la5.k0 k6
  have ob6 := k6.at0 ob
  refine w_l1 (SqL.of hq) ?_
  refine lp_lst (xs := ns.map V.int) (fun i σ H' => H' = H6 ∧ ∃ z, σ = [some (.ref p), some (.int (n : Int)), some (.ref o), some (.ref d), some (.ref u), z]) ⟨rfl, _, rfl⟩ ?_ ?_ ?_
  · rintro i σ' H'' hi ⟨rfl, _⟩
    exact SqL.of hq
  · rintro i x σ' H'' hx ⟨rfl, z, rfl⟩
    obtain ⟨v, hv, rfl⟩ := at_map hx
    walk_at "g"
    refine w_inO ob6 ?_
    refine ⟨p, a, b, c, _, _, rfl, la6, _, rfl, ?_⟩
    rw [decide_eq_false (show ¬ (1 ≤ v ∧ v ≤ (((wS n R L O).n : Nat) : Int)) from bad v (List.mem_of_getElem? hv)), Bool.false_and]
    walk_at "g"
    exact ⟨rfl, _, rfl⟩
  · rintro σ' H'' ⟨rfl, z, rfl⟩
    walk_at "g"
    exact g _ (k05.trans k6)
theorem len__law_asked_right (K : PySem.W.Frag) : ∀ vs H Q E, sp04__law_asked_right K vs H Q E → vs.length = (["links", "size", "rights", "lefts", "outs"] : List Str).length := by
  rintro vs H Q E ⟨_, _, _, _, _, _, _, _, _, _, _, rfl, _⟩
  rfl
theorem rd__law_asked_right (T : Txt K mg) (vs : List V) (H : Hp) (Q : VK) (E : XK) (h : sp04__law_asked_right K vs H Q E) : t__law_asked_right K E { nx := fun _ H' => Q .non H', rt := Q } (start ["links", "size", "rights", "lefts", "outs", "sound", "whole"] vs) H := by
  obtain ⟨p, a, b, c, r, l, o, n, R, L, O, rfl, hn, la, wd, g⟩ := h
  unfold t__law_asked_right
  have e1 : walkL (wS n R L O).n (wS n R L O).R = walkL n R := rfl
  have e2 : walkB (wS n R L O).n (wS n R L O).L = walkB n L := walkB_w n L
  have e3 : sndB (wS n R L O).n (wS n R L O).R (wS n R L O).L (wS n R L O).O = sndB n R L O := sndB_w n R L O
  have e4 : whS (wS n R L O).n (wS n R L O).R (wS n R L O).L (wS n R L O).O = whS n R L O := whS_w n R L O
  have l1 : (walkL n R).length ≤ n + 1 := wkF_len ..
  have l2 : (walkB n L).length ≤ n + 1 := wbF_len ..
  walk_at "g"
  refine w_listMG2 ?_
  walk_at "g"
  refine w_me la no_m ?_
  refine ⟨p, a, b, c, _, rfl, la, nw fun q1 H1 nq1 k1 hq1 => ?_⟩
  rw [e1] at hq1
  have la1 := la.k0 k1
  have wd1 := wd.k0 k1
  walk_at "g"
  refine ⟨r, n, R, rfl, hn, wd1.hr, wd.lR, wd.rb, fun q2 H2 nq2 k2 hq2 => ?_⟩
  walk_at "g"
  refine ⟨q1, q2, walkL n R, rfl, by omega, k2.at0 hq1, hq2, ?_⟩
  have la2 := la1.k0 k2
  have wd2 := wd1.k0 k2
  walk_at "g"
  refine w_listMG2 ?_
  walk_at "g"
  refine w_me la2 no_m ?_
  refine ⟨p, a, b, c, _, rfl, la2, nw fun q3 H3 nq3 k3 hq3 => ?_⟩
  rw [e2] at hq3
  have la3 := la2.k0 k3
  have wd3 := wd2.k0 k3
  walk_at "g"
  refine ⟨l, n, L, rfl, hn, wd3.hl, wd.lL, wd.lb, fun q4 H4 nq4 k4 hq4 => ?_⟩
  walk_at "g"
  refine ⟨q3, q4, walkB n L, rfl, by omega, k4.at0 hq3, hq4, ?_⟩
  have la4 := la3.k0 k4
  have wd4 := wd3.k0 k4
  walk_at "g"
  refine w_me la4 no_m ?_
  walk_at "g"
  refine ⟨p, a, b, c, _, rfl, la4, wd.snd, fun H5 k5 => ?_⟩
  rw [e3]
  walk_at "g"
  refine w_isiB4 rfl ?_
  walk_at "g"
  refine ⟨r, l, o, n, R, L, O, rfl, hn, wd4.k0 k5, fun H6 k6 => ?_⟩
  walk_at "g"
  rw [decide_eq_true rfl]
  have la6 := (la4.k0 k5).k0 k6
  have wd6 := (wd4.k0 k5).k0 k6
  walk_at "g"
  refine w_me la6 no_m ?_
  walk_at "g"
  refine ⟨p, a, b, c, _, rfl, la6, wd.snd, fun H7 k7 => ?_⟩
  rw [e4]
  walk_at "g"
  refine w_isiB4 rfl ?_
  walk_at "g"
  refine ⟨r, l, o, n, R, L, O, rfl, hn, wd6.k0 k7, fun H8 k8 => ?_⟩
  walk_at "g"
  rw [decide_eq_true rfl]
  have la8 := (la6.k0 k7).k0 k8
  have wd8 := (wd6.k0 k7).k0 k8
  walk_at "g"
  refine ⟨p, a, b, c, r, l, o, n, R, L, O, rfl, hn, la8, wd8, fun H9 k9 => ?_⟩
  walk_at "g"
  refine w_me (la8.k0 k9) no_m ?_
  walk_at "g"
  refine ⟨p, a, b, c, _, rfl, la8.k0 k9, fun H10 k10 => ?_⟩
  walk_at "g"
  refine ⟨r, l, o, n, R, L, O, rfl, by omega, (wd8.k0 k9).k0 k10, fun H11 k11 => ?_⟩
  rw [show dumpS (wS n R L O) = dumpW n R L O from rfl]
  walk_at "g"
  rw [decide_eq_true rfl]
  exact g _ ((((((k1.trans k2).trans (k3.trans k4)).trans (k5.trans k6)).trans (k7.trans k8)).trans (k9.trans k10)).trans k11)
theorem len__law_turned (K : PySem.W.Frag) : ∀ vs H Q E, sp04__law_turned K vs H Q E → vs.length = (["size", "world"] : List Str).length := by
  rintro vs H Q E ⟨_, _, _, _, _, _, _, _, rfl, _⟩
  rfl
theorem rd__law_turned (T : Txt K mg) (vs : List V) (H : Hp) (Q : VK) (E : XK) (h : sp04__law_turned K vs H Q E) : t__law_turned K E { nx := fun _ H' => Q .non H', rt := Q } (start ["size", "world", "rights", "lefts", "outs", "node"] vs) H := by
  obtain ⟨w, r, l, o, n, R, L, O, rfl, hn, hw, wd, g⟩ := h
  unfold t__law_turned
  walk_at "g"
  refine w_r1 (by omega) ?_
  refine cp_rng (fun i => ((List.range i).map fun (v : Nat) => (n : Int) + 1 - gI L (n + 1 - v)).map V.int) (fun i hi => sz_lt (by rw [List.length_map, List.length_map, List.length_range]; omega)) rfl (fun i H' S N hi k y _ => ?_) (fun q1 H1 nq1 k1 hq1 => ?_)
  · walk_at "g"
    refine ⟨rfl, ?_⟩
    walk_at "g"
    refine w_ixL (SqL.of (k.at0 hw)) (i := 1) (v := .ref l) rfl ?_
    walk_at "g"
    refine w_ixL (SqL.of (k.at0 wd.hl)) (at_I (by omega) (by rw [wd.lL]; omega)) ?_
    walk_at "g"
    refine y _ _ (Kp.refl _ _) ?_
    rw [List.range_succ, List.map_append, List.map_append, show ((n : Int) + 1 - (0 + (i : Int))).toNat = n + 1 - i by omega] <;> rfl
  rw [show ((n : Int) + 1).toNat = n + 1 by omega] at hq1
  walk_at "g"
  refine ⟨sz_ok (by show 1 ≤ 1000000; omega), nw fun q2 H2 nq2 k2 hq2 => ?_⟩
  have hw2 := k2.at0 (k1.at0 hw)
  have wd2 := (wd.k0 k1).k0 k2
  walk_at "g"
  refine w_r1 (by omega) ?_
  refine cp_rng (fun i => ((List.range i).map fun (v : Nat) => (n : Int) + 1 - gI R (n - v)).map V.int) (fun i hi => sz_lt (by rw [List.length_map, List.length_map, List.length_range]; omega)) rfl (fun i H' S N hi k y _ => ?_) (fun q3 H3 nq3 k3 hq3 => ?_)
  · walk_at "g"
    refine ⟨rfl, ?_⟩
    walk_at "g"
    refine w_ixL (SqL.of (k.at0 hw2)) (i := 0) (v := .ref r) rfl ?_
    walk_at "g"
    refine w_ixL (SqL.of (k.at0 wd2.hr)) (at_I (by omega) (by rw [wd.lR]; omega)) ?_
    walk_at "g"
    refine y _ _ (Kp.refl _ _) ?_
    rw [List.range_succ, List.map_append, List.map_append, show ((n : Int) - (0 + (i : Int))).toNat = n - i by omega] <;> rfl
  rw [show ((n : Int) + 1).toNat = n + 1 by omega] at hq3
  walk_at "g"
  refine w_addLN (k3.at0 hq2) hq3 (sz_ok (by rw [List.length_map, List.length_map, List.length_range]; show 1 + _ ≤ _; omega)) fun q4 H4 nq4 k4 hq4 => ?_
  have k24 := k3.trans k4
  have k04 := (k1.trans k2).trans k24
  have hw4 := k24.at0 hw2
  have wd4 := wd2.k0 k24
  walk_at "g"
  refine w_r1 (by omega) ?_
  refine cp_rng (fun i => ((List.range i).map fun (v : Nat) => gB O (n + 1 - v)).map V.bl) (fun i hi => sz_lt (by rw [List.length_map, List.length_map, List.length_range]; omega)) rfl (fun i H' S N hi k y _ => ?_) (fun q5 H5 nq5 k5 hq5 => ?_)
  · walk_at "g"
    refine ⟨rfl, ?_⟩
    walk_at "g"
    refine w_ixL (SqL.of (k.at0 hw4)) (i := 2) (v := .ref o) rfl ?_
    walk_at "g"
    refine w_ixL (SqL.of (k.at0 wd4.ho)) (at_B (by omega) (by rw [wd.lO]; omega)) ?_
    walk_at "g"
    refine y _ _ (Kp.refl _ _) ?_
    rw [List.range_succ, List.map_append, List.map_append, show ((n : Int) + 1 - (0 + (i : Int))).toNat = n + 1 - i by omega] <;> rfl
  rw [show ((n : Int) + 2).toNat = n + 2 by omega] at hq5
  walk_at "g"
  refine ⟨sz_ok (by show 3 ≤ 1000000; omega), nw fun w1 H6 nw1 k6 hw1 => ?_⟩
  have k46 := k5.trans k6
  have hq1' := (k2.trans (k24.trans k46)).at0 hq1
  have hq4' := k46.at0 hq4
  have hq5' := k6.at0 hq5
  have hq4'' : H6 q4 = some (.lst (((-1 : Int) :: (List.range (n + 1)).map fun (v : Nat) => (n : Int) + 1 - gI R (n - v)).map V.int)) := hq4'
  have n14 : q1 ≠ q4 := ne_of_none ((k2.trans k3).at0 hq1) nq4
  have n15 : q1 ≠ q5 := ne_of_none ((k2.trans k24).at0 hq1) nq5
  have n45 : q4 ≠ q5 := ne_of_none hq4 nq5
  have em : wS n ((List.range (n + 1)).map fun (v : Nat) => (n : Int) + 1 - gI L (n + 1 - v)) ((-1 : Int) :: (List.range (n + 1)).map fun (v : Nat) => (n : Int) + 1 - gI R (n - v)) ((List.range (n + 2)).map fun (v : Nat) => gB O (n + 1 - v)) = mirS (wS n R L O) := by
    unfold wS mirS
    congr 1
    refine List.map_congr_left fun v hv => ?_
    have := List.mem_range.mp hv
    show _ = (n : Int) + 1 - gI (0 :: L.drop 1) (n + 1 - v)
    rw [gI_wL (by omega)]
  have wm := mir_wf (wd.wf hn)
  have ws : WdZ H6 q1 q4 q5 n ((List.range (n + 1)).map fun (v : Nat) => (n : Int) + 1 - gI L (n + 1 - v)) ((-1 : Int) :: (List.range (n + 1)).map fun (v : Nat) => (n : Int) + 1 - gI R (n - v)) ((List.range (n + 2)).map fun (v : Nat) => gB O (n + 1 - v)) := by
    refine ⟨hq1', hq4'', hq5', ⟨n14, n15, n45⟩, by simp, by simp, by simp, fun v hv => ?_, fun v h1 h2 => ?_, ?_, ?_⟩
    · rw [gI_map (by omega)]
      have := wd.lb (n + 1 - v) (by omega) (by omega)
      omega
    · obtain ⟨u, rfl⟩ : ∃ u, v = u + 1 := ⟨v - 1, by omega⟩
      show 0 ≤ gI ((List.range (n + 1)).map fun (v : Nat) => (n : Int) + 1 - gI R (n - v)) u ∧ gI ((List.range (n + 1)).map fun (v : Nat) => (n : Int) + 1 - gI R (n - v)) u < _
      rw [gI_map (by omega)]
      have := wd.rb (n - u) (by omega)
      omega
    · rw [gB_map (by omega)]
      exact wd.o1
    · rw [gB_map (by omega), Nat.sub_self]
      exact wd.o0
  have kz := k04.trans k46
  exact g _ _ _ w1 q1 q4 q5 H6 ((k04.trans k5).free0 nw1) nq1 ((k1.trans (k2.trans k3)).free0 nq4) (k04.free0 nq5) kz hw1 ws em
end
end G

set_option Elab.async false
set_option linter.all false
set_option maxRecDepth 100000
set_option maxHeartbeats 1000000
namespace G
--#FAM KL
open PySem PySem.Spec PyProof.Rows L2
local macro_rules
  | `(tactic| walk_at "1") => `(tactic| first
    | with_reducible refine w_seq ?_
    | with_reducible refine w_asg ?_
    | with_reducible refine w_asgS ?_
    | with_reducible refine w_asf ?_
    | with_reducible refine w_drop ?_
    | with_reducible refine w_ret ?_
    | with_reducible refine w_if ?_
    | with_reducible refine w_not ?_
    | with_reducible refine w_and ?_
    | with_reducible refine w_or ?_
    | with_reducible refine w_test ?_
    | with_reducible refine w_tb ?_
    | with_reducible refine w_chain ?_
    | with_reducible refine w_op ?_
    | with_reducible refine w_un ?_
    | with_reducible refine w_andV ?_
    | with_reducible refine w_orV ?_
    | with_reducible refine w_notV ?_
    | with_reducible refine w_ifE ?_
    | with_reducible refine w_cons ?_
    | with_reducible refine w_nil ?_
    | with_reducible refine w_cb ?_
    | with_reducible refine w_cl ?_
    | with_reducible refine w_mt ?_
    | with_reducible refine w_fld ?_
    | with_reducible refine w_tupN ?_
    | with_reducible refine w_lstN ?_
    | with_reducible refine w_bm ?_
    | with_reducible refine w_bm0 ?_
    | with_reducible refine w_for ?_
    | with_reducible refine w_lc ?_
    | with_reducible refine w_iR1 ?_
    | with_reducible refine w_iR2 ?_
    | with_reducible refine w_iL ?_
    | with_reducible refine w_iT ?_
    | with_reducible refine w_iE ?_
    | with_reducible refine w_iZ ?_
    | with_reducible refine w_var (by with_unfolding_all rfl) ?_
    | with_reducible refine w_c ?_
    | with_reducible refine w_next ?_
    | with_reducible refine w_i0 ?_
    | with_reducible refine w_u1 ?_
    | with_reducible refine w_addI ?_
    | with_reducible refine w_eqI ?_
    | with_reducible refine w_eqS ?_
    | with_reducible refine w_eqB ?_
    | with_reducible refine w_neI ?_
    | with_reducible refine w_neS ?_
    | with_reducible refine w_neB ?_
    | with_reducible refine w_abs ?_
    | with_reducible refine w_intI ?_
    | with_reducible refine w_min2 ?_
    | with_reducible refine w_max2 ?_
    | with_reducible refine w_isN0 ?_
    | with_reducible refine w_isN1 ref_ne ?_
    | with_reducible refine w_isN1 int_ne ?_
    | with_reducible refine w_notN0 ?_
    | with_reducible refine w_notN1 ref_ne ?_
    | with_reducible refine w_notN1 int_ne ?_
    | with_reducible refine w_ex1 ?_
    | with_reducible refine w_n1 ?_
    | with_reducible refine w_n2 ?_
    | with_reducible refine w_tT ?_
    | with_reducible refine w_tF ?_
    | with_reducible refine w_nT ?_
    | with_reducible refine w_nF ?_
    | with_reducible refine w_rz ?_
    | with_reducible refine w_mkN ?_
    | with_reducible refine w_lrgN ?_
    | with_reducible refine w_rg1 ?_
    | with_reducible refine w_rg2 ?_
    | with_reducible refine w_sl ?_
    | with_reducible refine w_np ?_
    | with_reducible refine w_pt ?_
    | with_reducible refine w_tr ?_
    | with_reducible refine w_gn ?_
    | with_reducible refine w_yes ?_
    | with_reducible refine w_m1 ?_
    | with_reducible refine w_asu ?_
    | with_reducible refine w_exS ?_
    | with_reducible refine w_iS ?_
    | with_reducible refine w_g1 ?_
    | with_reducible refine w_gc ?_
    | with_reducible refine w_gt (SqT.of upd_same) rfl ?_)
local macro_rules
  | `(tactic| walk_at "g") => `(tactic| repeat walk_at "1")
local macro_rules
  | `(tactic| walk_at "j1") => `(tactic| first
    | with_reducible refine w_seqI ?_
    | walk_at "1")
local macro_rules
  | `(tactic| walk_at "j") => `(tactic| repeat walk_at "j1")
section
variable {K : PySem.W.Frag} {mg : Str → Option Value}
theorem offN {H : Hp} {p a b c x y z : Addr} {s : Sd} (la : LinksAt K H p a b c s) (n1 : H x = none) (n2 : H y = none) (n3 : H z = none) : p ∉ [x, y, z] ∧ a ∉ [x, y, z] ∧ b ∉ [x, y, z] ∧ c ∉ [x, y, z] := by
  obtain ⟨d, e⟩ := la.ob
  simp only [List.mem_cons, List.not_mem_nil, or_false, not_or]
  exact ⟨⟨ne_of_none e n1, ne_of_none e n2, ne_of_none e n3⟩, ⟨ne_of_none la.hr n1, ne_of_none la.hr n2, ne_of_none la.hr n3⟩, ⟨ne_of_none la.hl n1, ne_of_none la.hl n2, ne_of_none la.hl n3⟩, ⟨ne_of_none la.ho n1, ne_of_none la.ho n2, ne_of_none la.ho n3⟩⟩
theorem offO {H : Hp} {p a b c t x y z : Addr} {s : Sd} (la : LinksAt K H p a b c s) (n0 : H t = none) (n1 : H x = none) (n2 : H y = none) (n3 : H z = none) : t ∉ [a, b, c] ∧ x ∉ [a, b, c] ∧ y ∉ [a, b, c] ∧ z ∉ [a, b, c] := by
  have key : ∀ w, H w = none → w ∉ [a, b, c] := fun w n => by
    simp only [List.mem_cons, List.not_mem_nil, or_false, not_or]
    exact ⟨(ne_of_none la.hr n).symm, (ne_of_none la.hl n).symm, (ne_of_none la.ho n).symm⟩
  exact ⟨key t n0, key x n1, key y n2, key z n3⟩
theorem offW {H : Hp} {r l o x y z : Addr} {n : Nat} {R L : List Int} {O : List Bool} (wd : WdZ H r l o n R L O) (n1 : H x = none) (n2 : H y = none) (n3 : H z = none) : r ∉ [x, y, z] ∧ l ∉ [x, y, z] ∧ o ∉ [x, y, z] := by
  simp only [List.mem_cons, List.not_mem_nil, or_false, not_or]
  exact ⟨⟨ne_of_none wd.hr n1, ne_of_none wd.hr n2, ne_of_none wd.hr n3⟩, ⟨ne_of_none wd.hl n1, ne_of_none wd.hl n2, ne_of_none wd.hl n3⟩, ⟨ne_of_none wd.ho n1, ne_of_none wd.ho n2, ne_of_none wd.ho n3⟩⟩
theorem offL {H : Hp} {r l o t x y z : Addr} {n : Nat} {R L : List Int} {O : List Bool} (wd : WdZ H r l o n R L O) (n0 : H t = none) (n1 : H x = none) (n2 : H y = none) (n3 : H z = none) : t ∉ [r, l, o] ∧ x ∉ [r, l, o] ∧ y ∉ [r, l, o] ∧ z ∉ [r, l, o] := by
  have key : ∀ w, H w = none → w ∉ [r, l, o] := fun w n => by
    simp only [List.mem_cons, List.not_mem_nil, or_false, not_or]
    exact ⟨(ne_of_none wd.hr n).symm, (ne_of_none wd.hl n).symm, (ne_of_none wd.ho n).symm⟩
  exact ⟨key t n0, key x n1, key y n2, key z n3⟩
theorem ko {H H' : Hp} {p r l o : Addr} {s : Sd} {S : List Addr} (a : LinksAt K H p r l o s) (k : Kp S H H') (h : p ∉ S ∧ r ∉ S ∧ l ∉ S ∧ o ∉ S) : LinksAt K H' p r l o s := a.kp k h.1 h.2.1 h.2.2.1 h.2.2.2
end
end G

set_option Elab.async false
set_option linter.all false
set_option maxRecDepth 100000
set_option maxHeartbeats 1000000
namespace G
--#FAM KL
open PySem PySem.Spec PyProof.Rows L2
local macro_rules
  | `(tactic| walk_at "1") => `(tactic| first
    | with_reducible refine w_seq ?_
    | with_reducible refine w_asg ?_
    | with_reducible refine w_asgS ?_
    | with_reducible refine w_asf ?_
    | with_reducible refine w_drop ?_
    | with_reducible refine w_ret ?_
    | with_reducible refine w_if ?_
    | with_reducible refine w_not ?_
    | with_reducible refine w_and ?_
    | with_reducible refine w_or ?_
    | with_reducible refine w_test ?_
    | with_reducible refine w_tb ?_
    | with_reducible refine w_chain ?_
    | with_reducible refine w_op ?_
    | with_reducible refine w_un ?_
    | with_reducible refine w_andV ?_
    | with_reducible refine w_orV ?_
    | with_reducible refine w_notV ?_
    | with_reducible refine w_ifE ?_
    | with_reducible refine w_cons ?_
    | with_reducible refine w_nil ?_
    | with_reducible refine w_cb ?_
    | with_reducible refine w_cl ?_
    | with_reducible refine w_mt ?_
    | with_reducible refine w_fld ?_
    | with_reducible refine w_tupN ?_
    | with_reducible refine w_lstN ?_
    | with_reducible refine w_bm ?_
    | with_reducible refine w_bm0 ?_
    | with_reducible refine w_for ?_
    | with_reducible refine w_lc ?_
    | with_reducible refine w_iR1 ?_
    | with_reducible refine w_iR2 ?_
    | with_reducible refine w_iL ?_
    | with_reducible refine w_iT ?_
    | with_reducible refine w_iE ?_
    | with_reducible refine w_iZ ?_
    | with_reducible refine w_var (by with_unfolding_all rfl) ?_
    | with_reducible refine w_c ?_
    | with_reducible refine w_next ?_
    | with_reducible refine w_i0 ?_
    | with_reducible refine w_u1 ?_
    | with_reducible refine w_addI ?_
    | with_reducible refine w_eqI ?_
    | with_reducible refine w_eqS ?_
    | with_reducible refine w_eqB ?_
    | with_reducible refine w_neI ?_
    | with_reducible refine w_neS ?_
    | with_reducible refine w_neB ?_
    | with_reducible refine w_abs ?_
    | with_reducible refine w_intI ?_
    | with_reducible refine w_min2 ?_
    | with_reducible refine w_max2 ?_
    | with_reducible refine w_isN0 ?_
    | with_reducible refine w_isN1 ref_ne ?_
    | with_reducible refine w_isN1 int_ne ?_
    | with_reducible refine w_notN0 ?_
    | with_reducible refine w_notN1 ref_ne ?_
    | with_reducible refine w_notN1 int_ne ?_
    | with_reducible refine w_ex1 ?_
    | with_reducible refine w_n1 ?_
    | with_reducible refine w_n2 ?_
    | with_reducible refine w_tT ?_
    | with_reducible refine w_tF ?_
    | with_reducible refine w_nT ?_
    | with_reducible refine w_nF ?_
    | with_reducible refine w_rz ?_
    | with_reducible refine w_mkN ?_
    | with_reducible refine w_lrgN ?_
    | with_reducible refine w_rg1 ?_
    | with_reducible refine w_rg2 ?_
    | with_reducible refine w_sl ?_
    | with_reducible refine w_np ?_
    | with_reducible refine w_pt ?_
    | with_reducible refine w_tr ?_
    | with_reducible refine w_gn ?_
    | with_reducible refine w_yes ?_
    | with_reducible refine w_m1 ?_
    | with_reducible refine w_asu ?_
    | with_reducible refine w_exS ?_
    | with_reducible refine w_iS ?_
    | with_reducible refine w_g1 ?_
    | with_reducible refine w_gc ?_
    | with_reducible refine w_gt (SqT.of upd_same) rfl ?_)
local macro_rules
  | `(tactic| walk_at "g") => `(tactic| repeat walk_at "1")
local macro_rules
  | `(tactic| walk_at "j1") => `(tactic| first
    | with_reducible refine w_seqI ?_
    | walk_at "1")
local macro_rules
  | `(tactic| walk_at "j") => `(tactic| repeat walk_at "j1")
section
variable {K : PySem.W.Frag} {mg : Str → Option Value}
theorem w_listMG3 {σ : L2.St} {H : Hp} {Q : VK} {C : Addr} {m : Str} {ta : TE} {sp : SpG} (g : ta σ H fun x H1 => ∃ a dx fs, x = .ref a ∧ H1 a = some (.ins C dx fs) ∧ fs.lookup m = none ∧ sp [x] H1 (fun out H2 => NwU (.lst out) H2 Q) L2.E0) : tListMG C m sp ta σ H Q := g
theorem mir_wkF {s : Sd} (w : Wf s) : ∀ (k : Nat) (v : Int), 0 < v → v ≤ (s.n : Int) + 1 → wbF (mirS s).L k ((s.n : Int) + 1 - v) = (wkF s.R s.n k v).map fun (x : Int) => (s.n : Int) + 1 - x
  | 0, _, _, _ => rfl
  | k + 1, v, h0, h1 => by
    rw [wbF, wkF]
    by_cases c : v ≤ (s.n : Int)
    · have rv := w.rb v.toNat (by omega)
      rw [if_pos c, if_pos (by omega), List.map_cons, mir_L (by omega) (by omega), show s.n + 1 - ((s.n : Int) + 1 - v).toNat = v.toNat by omega, mir_wkF w k (gI s.R v.toNat) (by omega) (by omega)]
    · rw [if_neg c, if_neg (by omega)]
      rfl
theorem mir_walk {s : Sd} (w : Wf s) : walkB s.n (mirS s).L = (walkL s.n s.R).map fun (x : Int) => (s.n : Int) + 1 - x := by
  have r0 := w.rb 0 (by omega)
  unfold walkB walkL
  rw [mir_L (by omega) (by omega), show s.n + 1 - (s.n + 1) = 0 by omega]
  exact mir_wkF w (s.n + 1) (gI s.R 0) (by omega) (by omega)
theorem neW {H : Hp} {w r l o r1 l1 o1 : Addr} {n : Nat} {R L : List Int} {O : List Bool} (hw : H w = some (.lst [.ref r, .ref l, .ref o])) (wd : WdZ H r1 l1 o1 n R L O) : w ∉ [r1, l1, o1] := by
  have key : ∀ (z : V) (q : Addr) (xs : List V), H q = some (.lst (z :: xs)) → (∀ a, z ≠ .ref a) → w ≠ q := fun z q xs h hz e => by
    rw [← e, hw] at h
    injection h with h
    injection h with h
    injection h with h
    exact hz r h.symm
  have h1 := wd.hr
  have h2 := wd.hl
  have h3 := wd.ho
  have l1' := wd.lR
  have l2' := wd.lL
  have l3' := wd.lO
  simp only [List.mem_cons, List.not_mem_nil, or_false, not_or]
  refine ⟨?_, ?_, ?_⟩
  · cases R with
    | nil => simp at l1'
    | cons x xs => exact key (.int x) r1 _ h1 (fun a z => by cases z)
  · cases L with
    | nil => simp at l2'
    | cons x xs => exact key (.int x) l1 _ h2 (fun a z => by cases z)
  · cases O with
    | nil => simp at l3'
    | cons x xs => exact key (.bl x) o1 _ h3 (fun a z => by cases z)
theorem len__law_mirror_right (K : PySem.W.Frag) : ∀ vs H Q E, sp04__law_mirror_right K vs H Q E → vs.length = (["links", "size", "world", "node"] : List Str).length := by
  rintro vs H Q E ⟨_, _, _, _, _, _, _, _, _, _, _, _, _, rfl, _⟩
  rfl
theorem rd__law_mirror_right (T : Txt K mg) (vs : List V) (H : Hp) (Q : VK) (E : XK) (h : sp04__law_mirror_right K vs H Q E) : t__law_mirror_right K E { nx := fun _ H' => Q .non H', rt := Q } (start ["links", "size", "world", "node", "due", "base", "other", "walk", "operation", "seen"] vs) H := by
  obtain ⟨p, a, b, c, w, r, l, o, n, R, L, O, v, rfl, hn, la, hw, wd, v0, v1, g⟩ := h
  unfold t__law_mirror_right
  have wf := wd.wf hn
  have sn := wd.snd
  have nS : (wS n R L O).n = n := rfl
  walk_at "g"
  refine ⟨w, r, l, o, n, R, L, O, rfl, hn, hw, wd, fun R1 L1 O1 w1 q1 q2 q3 H1 nw1 nq1 nq2 nq3 k1 hw1 wd1 e1 => ?_⟩
  have la1 := la.k0 k1
  walk_at "g"
  refine w_me la1 no_m ?_
  walk_at "g"
  refine ⟨p, a, b, c, _, rfl, la1, fun t ta tb tc H2 t0 t1 t2 t3 k2 lt => ?_⟩
  walk_at "g"
  refine ⟨t, ta, tb, tc, _, rfl, lt, sn, fun u ua ub uc H3 u0 u1 u2 u3 k3 lu => ?_⟩
  rw [← e1] at lu
  have oUT := offO lt u0 u1 u2 u3
  have oTU := offN lt u1 u2 u3
  have qT := offW wd1 t1 t2 t3
  have qU := offW (wd1.k0 k2) u1 u2 u3
  have oTQ := offL wd1 t0 t1 t2 t3
  have oUQ := offL (wd1.k0 k2) u0 u1 u2 u3
  have wT : w1 ∉ [ta, tb, tc] := by
    simp only [List.mem_cons, List.not_mem_nil, or_false, not_or]
    exact ⟨ne_of_none hw1 t1, ne_of_none hw1 t2, ne_of_none hw1 t3⟩
  have hw12 := k2.at0 hw1
  have wU : w1 ∉ [ua, ub, uc] := by
    simp only [List.mem_cons, List.not_mem_nil, or_false, not_or]
    exact ⟨ne_of_none hw12 u1, ne_of_none hw12 u2, ne_of_none hw12 u3⟩
  have wQ := neW hw1 wd1
  have k12 := k1.trans k2
  have k13 := k12.trans k3
  have k23 := k2.trans k3
  have fT1 := k1.free0 t1
  have fT2 := k1.free0 t2
  have fT3 := k1.free0 t3
  have fU1 := k12.free0 u1
  have fU2 := k12.free0 u2
  have fU3 := k12.free0 u3
  have hw1_3 := k3.at0 hw12
  have wd1_3 := wd1.k0 k23
  have lt3 := lt.k0 k3
  have hw3 := k13.at0 hw
  have wd3 := wd.k0 k13
  walk_at "g"
  refine w_ixL (SqL.of hw1_3) (i := 0) (v := .ref q1) rfl ?_
  walk_at "g"
  refine w_ixL (SqL.of hw1_3) (i := 1) (v := .ref q2) rfl ?_
  walk_at "g"
  refine w_ixL (SqL.of hw1_3) (i := 2) (v := .ref q3) rfl ?_
  walk_at "g"
  refine ⟨u, ua, ub, uc, q1, q2, q3, n, R1, L1, O1, rfl, hn, lu, wd1_3, fun H4 k4 => ?_⟩
  walk_at "g"
  refine w_ixL (SqL.of (k4.at0 hw3)) (i := 0) (v := .ref r) rfl ?_
  walk_at "g"
  refine w_ixL (SqL.of (k4.at0 hw3)) (i := 1) (v := .ref l) rfl ?_
  walk_at "g"
  refine w_ixL (SqL.of (k4.at0 hw3)) (i := 2) (v := .ref o) rfl ?_
  walk_at "g"
  refine ⟨t, ta, tb, tc, r, l, o, n, R, L, O, rfl, hn, lt3.k0 k4, wd3.k0 k4, fun H5 k5 => ?_⟩
  have k35 := k4.trans k5
  have wd5 := wd3.k0 k35
  walk_at "g"
  refine w_ixL (SqL.of (k35.at0 hw3)) (i := 0) (v := .ref r) rfl ?_
  walk_at "g"
  refine ⟨r, n, R, rfl, hn, wd5.hr, wd.lR, wd.rb, fun z H6 nz k6 hz => ?_⟩
  have lw : (walkL n R).length ≤ n + 1 := wkF_len ..
  refine w_l1 (SqL.of hz) ?_
  refine cp_lst (SqL.of hz) (fun i => (((walkL n R).take i).map fun (x : Int) => (n : Int) + 1 - x).map V.int) (fun i hi => sz_lt (by rw [List.length_map, List.length_map, List.length_take]; rw [List.length_map] at hi; omega)) rfl (fun i x H' S N hx k y _ => ?_) (fun y H7 ny k7 hy => ?_)
  · obtain ⟨m, hm, rfl⟩ := at_map hx
    walk_at "g"
    refine ⟨rfl, ?_⟩
    walk_at "g"
    refine y _ _ (Kp.refl _ _) ?_
    rw [take_snoc hm, List.map_append, List.map_append] <;> rfl
  rw [List.length_map, List.take_length] at hy
  have k37 := k35.trans (k6.trans k7)
  have lu7 := lu.k0 k37
  have ew : walkB (wS n R1 L1 O1).n (wS n R1 L1 O1).L = (walkL n R).map fun (x : Int) => (n : Int) + 1 - x := by
    rw [e1]
    exact mir_walk wf
  walk_at "g"
  refine w_listMG3 ?_
  walk_at "g"
  refine w_me lu7 no_m ?_
  refine ⟨u, ua, ub, uc, _, rfl, lu7, nw fun z2 H8 nz2 k8 hz2 => ?_⟩
  rw [ew] at hz2
  walk_at "g"
  refine ⟨z2, y, (walkL n R).map fun (x : Int) => (n : Int) + 1 - x, rfl, by rw [List.length_map]; omega, hz2, k8.at0 hy, ?_⟩
  have k38 := k37.trans k8
  have sn1 : Snd (wS n R1 L1 O1) := wd1.snd
  have ed : dumpS (mirS (wS n R1 L1 O1)) = dumpW n R L O := by
    rw [e1, mir_mir wf sn]
    rfl
  walk_at "g"
  refine ⟨u, ua, ub, uc, _, rfl, lu.k0 k38, sn1, fun x xa xb xc H9 _ _ _ _ k9 lx => ?_⟩
  walk_at "g"
  refine w_me lx no_m ?_
  walk_at "g"
  refine ⟨x, xa, xb, xc, _, rfl, lx, fun H10 k10 => ?_⟩
  rw [ed]
  have k310 := k38.trans (k9.trans k10)
  walk_at "g"
  refine w_ixL (SqL.of (k310.at0 hw3)) (i := 0) (v := .ref r) rfl ?_
  walk_at "g"
  refine w_ixL (SqL.of (k310.at0 hw3)) (i := 1) (v := .ref l) rfl ?_
  walk_at "g"
  refine w_ixL (SqL.of (k310.at0 hw3)) (i := 2) (v := .ref o) rfl ?_
  walk_at "g"
  refine ⟨r, l, o, n, R, L, O, rfl, by omega, wd3.k0 k310, fun H11 k11 => ?_⟩
  walk_at "g"
  rw [decide_eq_true rfl]
  have k311 := k310.trans k11
  have k011 := k13.trans k311
  have wd11 := wd3.k0 k311
  have hw11 := k311.at0 hw3
  have lt11 := lt3.k0 k311
  have lu11 := lu.k0 k311
  have wd1_11 := wd1_3.k0 k311
  have hw1_11 := k311.at0 hw1_3
  walk_at "g"
  refine w_iteD (fun c1 => ?_) (fun c1 => ?_)
  · walk_at "g"
    exact g H11 k011
  obtain ⟨m, rfl⟩ : ∃ m : Nat, v = (m : Int) := ⟨v.toNat, by omega⟩
  walk_at "j"
  refine w_ifJ (fun σ' H' => ∃ op : Int, OkOp (wS n R L O) op ∧ σ' = [some (.ref p), some (.int (n : Int)), some (.ref w), some (.int (m : Int)), some (.ref w1), some (.ref t), some (.ref u), some (.ref y), some (.int op), none] ∧ H' = H11) (fun N hN => ?_) ?_
  · walk_at "g"
    refine w_ixL (SqL.of hw11) (i := 2) (v := .ref o) rfl ?_
    walk_at "g"
    refine w_ixL (SqL.of wd11.ho) (at_B (by omega) (by rw [wd.lO]; omega)) ?_
    rw [Int.toNat_natCast]
    walk_at "g"
    refine w_iteB (fun c2 => ?_) (fun c2 => ?_)
    · walk_at "g"
      exact hN _ _ ⟨(m : Int), ⟨⟨by omega, by rw [nS]; omega⟩, by rw [Int.natAbs_natCast, decide_eq_true (by omega)]; exact c2⟩, rfl, rfl⟩
    · walk_at "g"
      exact hN _ _ ⟨-(m : Int), ⟨⟨by omega, by rw [nS]; omega⟩, by rw [Int.natAbs_neg, Int.natAbs_natCast, decide_eq_false (by omega)]; exact c2⟩, rfl, rfl⟩
  rintro σ' H' ⟨op, ok, rfl, eH⟩
  subst H'
  have ok' : OkOp (wS n R1 L1 O1) (opp n op) := by
    rw [e1]
    exact opp_ok ok
  walk_at "g"
  refine w_me lt11 no_m ?_
  walk_at "g"
  refine ⟨t, ta, tb, tc, _, op, rfl, lt11, fun _ H12 k12' lt12 => ?_, fun z => absurd ok z⟩
  have lu12 := ko lu11 k12' oUT
  have wd1_12 := wd1_11.kp k12' qT.1 qT.2.1 qT.2.2
  have hw1_12 := k12' _ _ wT hw1_11
  walk_at "g"
  refine w_ixL (SqL.of hw1_12) (i := 0) (v := .ref q1) rfl ?_
  walk_at "g"
  refine w_ixL (SqL.of hw1_12) (i := 1) (v := .ref q2) rfl ?_
  walk_at "g"
  refine w_ixL (SqL.of hw1_12) (i := 2) (v := .ref q3) rfl ?_
  walk_at "g"
  refine ⟨u, ua, ub, uc, q1, q2, q3, n, R1, L1, O1, rfl, hn, lu12, wd1_12, fun H13 k13' => ?_⟩
  have lu13 := lu12.k0 k13'
  walk_at "g"
  refine w_me lu13 no_m ?_
  walk_at "g"
  refine ⟨n, op, rfl, ?_⟩
  walk_at "g"
  refine ⟨u, ua, ub, uc, _, opp n op, rfl, lu13, fun _ H14 k14 lu14 => ?_, fun z => absurd ok' z⟩
  have lt14 := ko (lt12.k0 k13') k14 oTU
  have wd1_14 := (wd1_12.k0 k13').kp k14 qU.1 qU.2.1 qU.2.2
  have hw1_14 := k14 _ _ wU (k13'.at0 hw1_12)
  walk_at "g"
  refine w_ixL (SqL.of hw1_14) (i := 0) (v := .ref q1) rfl ?_
  walk_at "g"
  refine w_ixL (SqL.of hw1_14) (i := 1) (v := .ref q2) rfl ?_
  walk_at "g"
  refine w_ixL (SqL.of hw1_14) (i := 2) (v := .ref q3) rfl ?_
  walk_at "g"
  refine ⟨n, op, rfl, ?_⟩
  walk_at "g"
  refine ⟨q1, q2, q3, n, R1, L1, O1, opp n op, rfl, hn, wd1_14, ok'.1, fun R2 L2 O2 H15 e15 k15 wd15 => ?_⟩
  have lu15 := ko lu14 k15 oUQ
  rw [← e15] at lu15
  have lt15 := ko lt14 k15 oTQ
  have hw1_15 := k15 _ _ wQ hw1_14
  walk_at "g"
  refine w_ixL (SqL.of hw1_15) (i := 0) (v := .ref q1) rfl ?_
  walk_at "g"
  refine w_ixL (SqL.of hw1_15) (i := 1) (v := .ref q2) rfl ?_
  walk_at "g"
  refine w_ixL (SqL.of hw1_15) (i := 2) (v := .ref q3) rfl ?_
  walk_at "g"
  refine ⟨u, ua, ub, uc, q1, q2, q3, n, R2, L2, O2, rfl, hn, lu15, wd15, fun H16 k16 => ?_⟩
  have ed2 : dumpS (mirS (stepS (wS n R L O) op)) = dumpW n R2 L2 O2 := by
    rw [mir_step wf sn ok.1, ← e1]
    show dumpS (stepS (wS n R1 L1 O1) (opp n op)) = _
    rw [← e15]
    rfl
  walk_at "g"
  refine ⟨t, ta, tb, tc, _, rfl, lt15.k0 k16, stepS_snd wf sn ok.1, fun x xa xb xc H17 _ _ _ _ k17 lx => ?_⟩
  walk_at "g"
  refine w_me lx no_m ?_
  walk_at "g"
  refine ⟨x, xa, xb, xc, _, rfl, lx, fun H18 k18 => ?_⟩
  rw [ed2]
  have k1518 := k16.trans (k17.trans k18)
  walk_at "g"
  refine w_ixL (SqL.of (k1518.at0 hw1_15)) (i := 0) (v := .ref q1) rfl ?_
  walk_at "g"
  refine w_ixL (SqL.of (k1518.at0 hw1_15)) (i := 1) (v := .ref q2) rfl ?_
  walk_at "g"
  refine w_ixL (SqL.of (k1518.at0 hw1_15)) (i := 2) (v := .ref q3) rfl ?_
  walk_at "g"
  refine ⟨q1, q2, q3, n, R2, L2, O2, rfl, by omega, wd15.k0 k1518, fun H19 k19 => ?_⟩
  walk_at "g"
  rw [decide_eq_true rfl]
  have kz : Kp [ta, tb, tc, ua, ub, uc, q1, q2, q3] H H19 := ((((k011.all.trans (k12'.mono (by simp))).trans k13'.all).trans (k14.mono (by simp))).trans (k15.mono (by simp))).trans (k1518.trans k19).all
  exact g H19 (Kp.cut kz (by simp [fT1, fT2, fT3, fU1, fU2, fU3, nq1, nq2, nq3]))
theorem len__law_run_mirrored (K : PySem.W.Frag) : ∀ vs H Q E, sp04__law_run_mirrored K vs H Q E → vs.length = (["first", "size", "run", "last"] : List Str).length := by
  rintro vs H Q E ⟨_, _, _, _, _, _, _, _, _, _, _, _, _, _, rfl, _⟩
  rfl
theorem rd__law_run_mirrored (T : Txt K mg) (vs : List V) (H : Hp) (Q : VK) (E : XK) (h : sp04__law_run_mirrored K vs H Q E) : t__law_run_mirrored K E { nx := fun _ H' => Q .non H', rt := Q } (start ["first", "size", "run", "last", "due", "given", "told", "led", "end", "operation"] vs) H := by
  obtain ⟨p, a, b, c, q, w, r, l, o, s, run, R, L, O, rfl, la, sn, hq, leg, hlen, hw, wd, es, g⟩ := h
  unfold t__law_run_mirrored
  have wf := la.wf
  have n60 := wf.n60
  walk_at "g"
  refine w_l1 (SqL.of hq) ?_
  refine cp_lst (SqL.of hq) (fun i => ((run.take i).map (opp s.n)).map V.int) (fun i hi => sz_lt (by rw [List.length_map, List.length_map, List.length_take]; rw [List.length_map] at hi; omega)) rfl (fun i x H' S N hx k y _ => ?_) (fun d H1 nd k1 hd => ?_)
  · obtain ⟨op, hop, rfl⟩ := at_map hx
    walk_at "g"
    refine ⟨rfl, ?_⟩
    walk_at "g"
    refine ⟨s.n, op, rfl, ?_⟩
    refine y _ _ (Kp.refl _ _) ?_
    rw [take_snoc hop, List.map_append, List.map_append] <;> rfl
  rw [List.length_map, List.take_length] at hd
  walk_at "g"
  refine w_listLN (SqL.of (k1.at0 hq)) fun y H2 ny k2 hy => ?_
  walk_at "g"
  refine ⟨s.n, y, run, rfl, n60, hy, by omega, leg_ops leg, fun z H3 nz k3 hz => ?_⟩
  have k23 := k2.trans k3
  walk_at "g"
  refine ⟨z, d, run.map (opp s.n), rfl, by rw [List.length_map]; omega, hz, k23.at0 hd, ?_⟩
  walk_at "g"
  refine ⟨y, q, run, rfl, by omega, k3.at0 hy, k23.at0 (k1.at0 hq), ?_⟩
  have k13 := k1.trans k23
  walk_at "g"
  refine ⟨p, a, b, c, s, rfl, la.k0 k13, sn, fun t ta tb tc H4 _ _ _ _ k4 lt => ?_⟩
  walk_at "g"
  refine ⟨t, ta, tb, tc, z, mirS s, run.map (opp s.n), rfl, lt, SqL.of (k4.at0 hz), fun _ x xa xb xc H5 _ _ _ _ k5 lx => ?_, fun i op h1 h2 h3 => absurd (mir_leg wf sn leg i op h1) h3⟩
  have k15 := (k13.trans k4).trans k5
  walk_at "g"
  refine ⟨w, r, l, o, s.n, R, L, O, rfl, n60, k15.at0 hw, wd.k0 k15, fun R' L' O' w1 q1 q2 q3 H6 _ _ _ _ k6 hw1 wd1 e1 => ?_⟩
  have k46 := (k4.trans k5).trans k6
  walk_at "g"
  refine ⟨z, d, run.map (opp s.n), rfl, by rw [List.length_map]; omega, k46.at0 hz, k46.at0 (k23.at0 hd), ?_⟩
  have ed : dumpS (runS (mirS s) (run.map (opp s.n))) = dumpW s.n R' L' O' := by
    rw [← mir_run wf sn run leg, ← es, ← e1]
    rfl
  walk_at "g"
  refine w_me (lx.k0 k6) no_m ?_
  walk_at "g"
  refine ⟨x, xa, xb, xc, _, rfl, lx.k0 k6, fun H7 k7 => ?_⟩
  rw [ed]
  walk_at "g"
  refine w_ixL (SqL.of (k7.at0 hw1)) (i := 0) (v := .ref q1) rfl ?_
  walk_at "g"
  refine w_ixL (SqL.of (k7.at0 hw1)) (i := 1) (v := .ref q2) rfl ?_
  walk_at "g"
  refine w_ixL (SqL.of (k7.at0 hw1)) (i := 2) (v := .ref q3) rfl ?_
  walk_at "g"
  refine ⟨q1, q2, q3, s.n, R', L', O', rfl, by omega, wd1.k0 k7, fun H8 k8 => ?_⟩
  walk_at "g"
  rw [decide_eq_true rfl]
  exact g H8 (((k15.trans k6).trans k7).trans k8)
end
end G

set_option Elab.async false
set_option linter.all false
set_option maxRecDepth 100000
set_option maxHeartbeats 1000000
namespace G
--#FAM KL
open PySem PySem.Spec PyProof.Rows L2
local macro_rules
  | `(tactic| walk_at "1") => `(tactic| first
    | with_reducible refine w_seq ?_
    | with_reducible refine w_asg ?_
    | with_reducible refine w_asgS ?_
    | with_reducible refine w_asf ?_
    | with_reducible refine w_drop ?_
    | with_reducible refine w_ret ?_
    | with_reducible refine w_if ?_
    | with_reducible refine w_not ?_
    | with_reducible refine w_and ?_
    | with_reducible refine w_or ?_
    | with_reducible refine w_test ?_
    | with_reducible refine w_tb ?_
    | with_reducible refine w_chain ?_
    | with_reducible refine w_op ?_
    | with_reducible refine w_un ?_
    | with_reducible refine w_andV ?_
    | with_reducible refine w_orV ?_
    | with_reducible refine w_notV ?_
    | with_reducible refine w_ifE ?_
    | with_reducible refine w_cons ?_
    | with_reducible refine w_nil ?_
    | with_reducible refine w_cb ?_
    | with_reducible refine w_cl ?_
    | with_reducible refine w_mt ?_
    | with_reducible refine w_fld ?_
    | with_reducible refine w_tupN ?_
    | with_reducible refine w_lstN ?_
    | with_reducible refine w_bm ?_
    | with_reducible refine w_bm0 ?_
    | with_reducible refine w_for ?_
    | with_reducible refine w_lc ?_
    | with_reducible refine w_iR1 ?_
    | with_reducible refine w_iR2 ?_
    | with_reducible refine w_iL ?_
    | with_reducible refine w_iT ?_
    | with_reducible refine w_iE ?_
    | with_reducible refine w_iZ ?_
    | with_reducible refine w_var (by with_unfolding_all rfl) ?_
    | with_reducible refine w_c ?_
    | with_reducible refine w_next ?_
    | with_reducible refine w_i0 ?_
    | with_reducible refine w_u1 ?_
    | with_reducible refine w_addI ?_
    | with_reducible refine w_eqI ?_
    | with_reducible refine w_eqS ?_
    | with_reducible refine w_eqB ?_
    | with_reducible refine w_neI ?_
    | with_reducible refine w_neS ?_
    | with_reducible refine w_neB ?_
    | with_reducible refine w_abs ?_
    | with_reducible refine w_intI ?_
    | with_reducible refine w_min2 ?_
    | with_reducible refine w_max2 ?_
    | with_reducible refine w_isN0 ?_
    | with_reducible refine w_isN1 ref_ne ?_
    | with_reducible refine w_isN1 int_ne ?_
    | with_reducible refine w_notN0 ?_
    | with_reducible refine w_notN1 ref_ne ?_
    | with_reducible refine w_notN1 int_ne ?_
    | with_reducible refine w_ex1 ?_
    | with_reducible refine w_n1 ?_
    | with_reducible refine w_n2 ?_
    | with_reducible refine w_tT ?_
    | with_reducible refine w_tF ?_
    | with_reducible refine w_nT ?_
    | with_reducible refine w_nF ?_
    | with_reducible refine w_rz ?_
    | with_reducible refine w_mkN ?_
    | with_reducible refine w_lrgN ?_
    | with_reducible refine w_rg1 ?_
    | with_reducible refine w_rg2 ?_
    | with_reducible refine w_sl ?_
    | with_reducible refine w_np ?_
    | with_reducible refine w_pt ?_
    | with_reducible refine w_tr ?_
    | with_reducible refine w_gn ?_
    | with_reducible refine w_yes ?_
    | with_reducible refine w_m1 ?_
    | with_reducible refine w_asu ?_
    | with_reducible refine w_exS ?_
    | with_reducible refine w_iS ?_
    | with_reducible refine w_g1 ?_
    | with_reducible refine w_gc ?_
    | with_reducible refine w_gt (SqT.of upd_same) rfl ?_)
local macro_rules
  | `(tactic| walk_at "g") => `(tactic| repeat walk_at "1")
local macro_rules
  | `(tactic| walk_at "j1") => `(tactic| first
    | with_reducible refine w_seqI ?_
    | walk_at "1")
local macro_rules
  | `(tactic| walk_at "j") => `(tactic| repeat walk_at "j1")
section
variable {K : PySem.W.Frag} {mg : Str → Option Value}
theorem len_law (K : PySem.W.Frag) : ∀ vs H Q E, sp_law K vs H Q E → vs.length = (["script"] : List Str).length := by
  rintro vs H Q E ⟨_, _, rfl, _⟩
  rfl
theorem rd_law (T : Txt K mg) (vs : List V) (H : Hp) (Q : VK) (E : XK) (h : sp_law K vs H Q E) : t_law K E { nx := fun _ H' => Q .non H', rt := Q } (start ["script", "box", "size", "world", "run", "near", "rights", "lefts", "outs", "first", "links", "operation"] vs) H := by
  obtain ⟨a, ns, rfl, hs, hl, g⟩ := h
  unfold t_law
  walk_at "g"
  refine ⟨a, ns, rfl, hs, hl, fun b c H1 nb nc k1 b1 => ?_⟩
  walk_at "g"
  refine ⟨b, c, rfl, b1, fun n H2 hn k2 b2 => ?_⟩
  walk_at "g"
  refine ⟨b, c, n, rfl, by omega, b2, fun R L O w r l o H3 nwd nr nl no k3 b3 hw wd => ?_⟩
  obtain ⟨wb, wc⟩ := b2.fr nwd
  obtain ⟨rb, rc⟩ := b2.fr nr
  obtain ⟨lb, lc⟩ := b2.fr nl
  obtain ⟨ob, oc⟩ := b2.fr no
  walk_at "g"
  refine ⟨b, c, w, r, l, o, n, R, L, O, rfl, hn, b3, wb, ob, hw, wd, fun run q H4 leg hlen nq k4 b4 hq => ?_⟩
  obtain ⟨qb, qc⟩ := b3.fr nq
  have hw4 := k4.at1 wb hw
  have wd4 := wd.kp k4 (by simpa using rb) (by simpa using lb) (by simpa using ob)
  walk_at "g"
  refine ⟨b, c, _, rfl, by split <;> omega, by split <;> omega, b4, fun d H5 d0 d1 k5 b5 => ?_⟩
  walk_at "g"
  have hw5 := k5.at1 wb hw4
  have hq5 := k5.at1 qb hq
  have wd5 := wd4.kp k5 (by simpa using rb) (by simpa using lb) (by simpa using ob)
  obtain ⟨near, en, near0, near1⟩ : ∃ x : Int, d + (if (n : Int) < 1 then (n : Int) else 1) = x ∧ 0 ≤ x ∧ x ≤ (n : Int) := ⟨_, rfl, by split at d1 <;> split <;> omega, by split at d1 <;> split <;> omega⟩
  rw [en]
  refine w_ixL (SqL.of hw5) (i := 0) (v := .ref r) rfl ?_
  walk_at "g"
  refine w_listLN (SqL.of wd5.hr) fun r2 H6 nr2 k6 hr2 => ?_
  walk_at "g"
  refine w_ixL (SqL.of (k6.at0 hw5)) (i := 1) (v := .ref l) rfl ?_
  walk_at "g"
  refine w_listLN (SqL.of (k6.at0 wd5.hl)) fun l2 H7 nl2 k7 hl2 => ?_
  walk_at "g"
  refine w_ixL (SqL.of (k7.at0 (k6.at0 hw5))) (i := 2) (v := .ref o) rfl ?_
  walk_at "g"
  refine w_listLN (SqL.of (k7.at0 (k6.at0 wd5.ho))) fun o2 H8 no2 k8 ho2 => ?_
  have wd2 : WdZ H8 r2 l2 o2 n R L O := ⟨k8.at0 (k7.at0 hr2), k8.at0 hl2, ho2, ⟨ne_of_none hr2 nl2, ne_of_none (k7.at0 hr2) no2, ne_of_none hl2 no2⟩, wd.lR, wd.lL, wd.lO, wd.rb, wd.lb, wd.o0, wd.o1⟩
  have k58 := (k6.trans k7).trans k8
  obtain ⟨r2b, r2c⟩ := b5.fr nr2
  obtain ⟨l2b, l2c⟩ := (b5.k0 k6).fr nl2
  obtain ⟨o2b, o2c⟩ := (b5.k0 (k6.trans k7)).fr no2
  have nl2' := k6.free0 nl2
  have no2' := (k6.trans k7).free0 no2
  walk_at "g"
  refine ⟨r2, l2, o2, n, R, L, O, rfl, by omega, wd2, fun H9 k9 => ?_⟩
  have k59 := k58.trans k9
  have b9 := b5.k0 k59
  have wd9 := wd2.k0 k9
  have wf := wd2.wf hn
  have sn := wd2.snd
  have nS : (wS n R L O).n = n := rfl
  walk_at "g"
  refine ⟨wS n R L O, rfl, wf, sn, fun f fa fb fc H10 nf nfa nfb nfc k10 lf => ?_⟩
  have b10 := b9.k0 k10
  have wd10 := wd9.k0 k10
  have k510 := k59.trans k10
  walk_at "j"
  refine w_me lf no_m ?_
  walk_at "j"
  refine ⟨f, fa, fb, fc, _, rfl, lf, fun p pa pb pc H11 np npa npb npc k11 lp => ?_⟩
  have k511 := k510.trans k11
  have b11 := b10.k0 k11
  have wd11 := wd10.k0 k11
  have lf11 := lf.k0 k11
  obtain ⟨p0b, p0c⟩ := b10.fr np
  obtain ⟨pab, pac⟩ := b10.fr npa
  obtain ⟨pbb, pbc⟩ := b10.fr npb
  obtain ⟨pcb, pcc⟩ := b10.fr npc
  obtain ⟨f0b, f0c⟩ := b9.fr nf
  obtain ⟨fab, fac⟩ := b9.fr nfa
  obtain ⟨fbb, fbc⟩ := b9.fr nfb
  obtain ⟨fcb, fcc⟩ := b9.fr nfc
  have pL := offL wd10 np npa npb npc
  have fL := offL wd9 nf nfa nfb nfc
  have fP := offN lf npa npb npc
  have lP := offW wd10 npa npb npc
  have P3 : ∀ x : Addr, H10 x ≠ none → x ∉ [pa, pb, pc] := fun x hx => by
    simp only [List.mem_cons, List.not_mem_nil, or_false, not_or]
    exact ⟨fun z => hx (z ▸ npa), fun z => hx (z ▸ npb), fun z => hx (z ▸ npc)⟩
  have L3 : ∀ x : Addr, H5 x ≠ none → x ∉ [r2, l2, o2] := fun x hx => by
    simp only [List.mem_cons, List.not_mem_nil, or_false, not_or]
    exact ⟨fun z => hx (z ▸ nr2), fun z => hx (z ▸ nl2'), fun z => hx (z ▸ no2')⟩
  have W10 : ∀ (x : Addr) (y : HO), H5 x = some y → x ≠ b → x ∉ [b, pa, pb, pc, r2, l2, o2] := fun x y hx hb => by
    have h1 := P3 x (by rw [k510.at0 hx]; exact fun z => by cases z)
    have h2 := L3 x (by rw [hx]; exact fun z => by cases z)
    simp only [List.mem_cons, List.not_mem_nil, or_false, not_or] at h1 h2 ⊢
    exact ⟨hb, h1.1, h1.2.1, h1.2.2, h2.1, h2.2.1, h2.2.2⟩
  have F7 : f ∉ [b, pa, pb, pc, r2, l2, o2] ∧ fa ∉ [b, pa, pb, pc, r2, l2, o2] ∧ fb ∉ [b, pa, pb, pc, r2, l2, o2] ∧ fc ∉ [b, pa, pb, pc, r2, l2, o2] := by
    have key : ∀ x, x ≠ b → x ∉ [pa, pb, pc] → x ∉ [r2, l2, o2] → x ∉ [b, pa, pb, pc, r2, l2, o2] := fun x h0 h1 h2 => by
      simp only [List.mem_cons, List.not_mem_nil, or_false, not_or] at h1 h2 ⊢
      exact ⟨h0, h1.1, h1.2.1, h1.2.2, h2.1, h2.2.1, h2.2.2⟩
    exact ⟨key f f0b fP.1 fL.1, key fa fab fP.2.1 fL.2.1, key fb fbb fP.2.2.1 fL.2.2.1, key fc fcb fP.2.2.2 fL.2.2.2⟩
  have ask : ∀ {Hz : Hp} {Q' : VK} {R L : List Int} {O : List Bool}, LinksAt K Hz p pa pb pc (wS n R L O) → WdZ Hz r2 l2 o2 n R L O → Any Hz (.bl true) Q' → sp04__law_asked_right K [.ref p, .int (n : Int), .ref r2, .ref l2, .ref o2] Hz Q' E := fun {Hz Q' R L O} h1 h2 h3 => ⟨p, pa, pb, pc, r2, l2, o2, n, R, L, O, rfl, hn, h1, h2, h3⟩
  walk_at "j"
  refine w_ifK (fun H' => Kp [b] H11 H' ∧ BxI H' b c) (fun N hN => ?_) (fun H12 ⟨k12, b12⟩ => ?_)
  · walk_at "g"
    refine ⟨b, c, 2, rfl, by omega, by omega, b11, fun e H12 e0 e1 k12 b12 => ?_⟩
    walk_at "g"
    refine w_iteD (fun c1 => ?_) (fun c1 => ?_)
    · walk_at "g"
      refine ask (lp.kp k12 (by simpa using p0b) (by simpa using pab) (by simpa using pbb) (by simpa using pcb)) (wd11.kp k12 (by simpa using r2b) (by simpa using l2b) (by simpa using o2b)) fun H13 k13 => ?_
      walk_at "g"
      exact hN _ ⟨k12.trans k13.all, b12.k0 k13⟩
    · walk_at "g"
      exact hN _ ⟨k12, b12⟩
  have lp12 := lp.kp k12 (by simpa using p0b) (by simpa using pab) (by simpa using pbb) (by simpa using pcb)
  have wd12 := wd11.kp k12 (by simpa using r2b) (by simpa using l2b) (by simpa using o2b)
  have q7 := W10 q _ hq5 qb
  have hq12 : H12 q = some (.lst (run.map V.int)) := k12.at1 qb (k511.at0 hq5)
  walk_at "g"
  refine w_l1 (SqL.of hq12) ?_
  refine lp_lst (xs := run.map V.int) (fun i σ H' => (∃ z, σ = [some (.ref a), some (.ref b), some (.int (n : Int)), some (.ref w), some (.ref q), some (.int near), some (.ref r2), some (.ref l2), some (.ref o2), some (.ref f), some (.ref p), z]) ∧ BxI H' b c ∧ Kp [b, pa, pb, pc, r2, l2, o2] H12 H' ∧ ∃ R' L' O', WdZ H' r2 l2 o2 n R' L' O' ∧ LinksAt K H' p pa pb pc (wS n R' L' O') ∧ wS n R' L' O' = runS (wS n R L O) (run.take i)) ⟨⟨_, rfl⟩, b12, Kp.refl _ _, R, L, O, wd12, lp12, rfl⟩ ?_ ?_ ?_
  · rintro i σ' H' hi ⟨_, _, k, _⟩
    exact SqL.of (k _ _ q7 hq12)
  · rintro i x σ' H' hx ⟨⟨z, rfl⟩, bb, k, R', L', O', wd', lp', e'⟩
    obtain ⟨op, hop, rfl⟩ := at_map hx
    have ok : OkOp (wS n R' L' O') op := by
      rw [e']
      exact leg i op hop
    walk_at "g"
    refine w_me lp' no_m ?_
    walk_at "g"
    refine ⟨p, pa, pb, pc, _, op, rfl, lp', fun _ H13 k13 lp13 => ?_, fun z => absurd ok z⟩
    have wd13 := wd'.kp k13 lP.1 lP.2.1 lP.2.2
    have bb13 := bb.kp k13 (by simp [pab.symm, pbb.symm, pcb.symm]) (by simp [pac.symm, pbc.symm, pcc.symm])
    walk_at "g"
    refine ⟨r2, l2, o2, n, R', L', O', op, rfl, hn, wd13, ok.1, fun R2 L2 O2 H14 e14 k14 wd14 => ?_⟩
    have lp14 := ko lp13 k14 pL
    rw [← e14] at lp14
    have bb14 := bb13.kp k14 (by simp [r2b.symm, l2b.symm, o2b.symm]) (by simp [r2c.symm, l2c.symm, o2c.symm])
    have k1214 := (k.trans (k13.mono (S' := [b, pa, pb, pc, r2, l2, o2]) (by simp))).trans (k14.mono (S' := [b, pa, pb, pc, r2, l2, o2]) (by simp))
    have e2 : wS n R2 L2 O2 = runS (wS n R L O) (run.take (i + 1)) := by
      rw [take_snoc hop, runS_snoc, ← e', e14]
    walk_at "g"
    refine ⟨b, c, 2, rfl, by omega, by omega, bb14, fun e H15 e0 e1 k15 bb15 => ?_⟩
    have lp15 := lp14.kp k15 (by simpa using p0b) (by simpa using pab) (by simpa using pbb) (by simpa using pcb)
    have wd15 := wd14.kp k15 (by simpa using r2b) (by simpa using l2b) (by simpa using o2b)
    have k1215 := k1214.trans (k15.mono (S' := [b, pa, pb, pc, r2, l2, o2]) (by simp))
    walk_at "g"
    refine w_iteD (fun c1 => ?_) (fun c1 => ?_)
    · walk_at "g"
      refine ask lp15 wd15 fun H16 k16 => ?_
      walk_at "g"
      exact ⟨⟨_, rfl⟩, bb15.k0 k16, k1215.trans k16.all, R2, L2, O2, wd15.k0 k16, lp15.k0 k16, e2⟩
    · walk_at "g"
      exact ⟨⟨_, rfl⟩, bb15, k1215, R2, L2, O2, wd15, lp15, e2⟩
  · rintro σ' H13 ⟨⟨z, rfl⟩, b13, k13, R', L', O', wd13, lp13, e13⟩
    rw [List.length_map, List.take_length] at e13
    have lf13 := (lf11.kp k12 (by simpa using f0b) (by simpa using fab) (by simpa using fbb) (by simpa using fcb)).kp k13 F7.1 F7.2.1 F7.2.2.1 F7.2.2.2
    have hq13 := k13 _ _ q7 hq12
    have hw13 := k13 _ _ (W10 w _ hw5 wb) (k12.at1 wb (k511.at0 hw5))
    have wd0 := ((wd5.k0 k511).kp k12 (by simpa using rb) (by simpa using lb) (by simpa using ob)).kp k13 (W10 r _ wd5.hr rb) (W10 l _ wd5.hl lb) (W10 o _ wd5.ho ob)
    walk_at "g"
    refine ask lp13 wd13 fun H14 k14 => ?_
    walk_at "g"
    refine ⟨sz_ok (by show 3 ≤ 1000000; omega), nw fun W H15 nW k15 hW => ?_⟩
    have k1315 := k14.trans k15
    walk_at "g"
    refine ⟨f, fa, fb, fc, q, W, r2, l2, o2, wS n R L O, run, R', L', O', rfl, lf13.k0 k1315, sn, k1315.at0 hq13, leg, hlen, hW, wd13.k0 k1315, e13, fun H16 k16 => ?_⟩
    have k1316 := k1315.trans k16
    walk_at "g"
    refine ⟨f, fa, fb, fc, w, r, l, o, n, R, L, O, near, rfl, hn, lf13.k0 k1316, k1316.at0 hw13, wd0.k0 k1316, near0, near1, fun H17 k17 => ?_⟩
    have k1317 := k1316.trans k17
    walk_at "g"
    refine ⟨sz_ok (by show 3 ≤ 1000000; omega), nw fun W2 H18 nW2 k18 hW2 => ?_⟩
    walk_at "g"
    refine ⟨p, pa, pb, pc, W2, r2, l2, o2, n, R', L', O', near, rfl, hn, (lp13.k0 k1317).k0 k18, hW2, (wd13.k0 k1317).k0 k18, near0, near1, fun H19 k19 => ?_⟩
    exact g H19
end
end G


set_option Elab.async false
set_option linter.all false
set_option maxRecDepth 100000
set_option maxHeartbeats 4000000

namespace G
open PySem PySem.Spec PyProof.Rows L2
section
variable {P : Program} {w : World} {K : PySem.W.Frag} {mg : Str → Option Value} {base : Heap}
theorem ok_Links_is_legal {f : Addr} {fd : FuncData} (T : Txt K mg) (F : FunD K "is_legal" "Links.is_legal" (defArgs s_Links_is_legal) (defBody s_Links_is_legal) (defScope s_Links_is_legal) [] [] f fd)  : FnOk P w K mg base (L2N.CX P w) 1 f fd ["self", "operation"] (sp_Links_is_legal K) :=
  F.ok sc_Links_is_legal (len_Links_is_legal K) fun cdv A outer s H vs Q E hr h => ⟨t_Links_is_legal K E, pss_one (ps_ret (pe_cmpR (op_eqA hr) (pe_ix ix_seq (pe_fld (pv 0) rfl) (pe_callB call_absA (by rfl) T.b_abs (by decide +kernel) (pa_cons (pv 1) (pa_nil))) (fun _ _ => rfl)) (pe_cmpR op_gt (pv 1) (pe_int) (nomark _)) (nomark _))), rd_Links_is_legal T vs H Q E h⟩
theorem ok_check_operation {f : Addr} {fd : FuncData} (T : Txt K mg) (F : FunD K "check_operation" "check_operation" (defArgs s_check_operation) (defBody s_check_operation) (defScope s_check_operation) [] [] f fd) (x_BadOperation : ExM P w K mg base 1 "BadOperation" (He.ga K "BadOperation") ["operation", "index"]) : FnOk P w K mg base (L2N.CX P w) 3 f fd ["size", "operation", "index"] (sp_check_operation K) :=
  F.ok sc_check_operation (len_check_operation K) fun cdv A outer s H vs Q E hr h => ⟨t_check_operation K E, pss_one (ps_if (pt_not (pt_chain op_le op_le (pe_int) (pe_callB call_absA (by rfl) T.b_abs (by decide +kernel) (pa_cons (pv 1) (pa_nil))) (pv 0))) (pss_one (ps_rz x_BadOperation rfl (L2N.takes_of rfl rfl rfl rfl) hr (by decide) (pa_cons (pv 1) (pa_cons (pv 2) (pa_nil))))) (pss_nil)), rd_check_operation T vs H Q E h⟩
theorem ok_Links_check {f : Addr} {fd : FuncData} (T : Txt K mg) (F : FunD K "check" "Links.check" (defArgs s_Links_check) (defBody s_Links_check) (defScope s_Links_check) [] [] f fd) (c_Links_is_legal : Met P w K mg base 1 (He.ga K "Links") "is_legal" ["self", "operation"] (sp_Links_is_legal K)) (c_check_operation : Cal P w K mg base 3 "check_operation" ["size", "operation", "index"] (sp_check_operation K)) (x_Illegal : ExM P w K mg base 1 "Illegal" (He.ga K "Illegal") ["operation", "index"]) : FnOk P w K mg base (L2N.CX P w) 4 f fd ["self", "operation", "index"] (sp_Links_check K) :=
  F.ok sc_Links_check (len_Links_check K) fun cdv A outer s H vs Q E hr h => ⟨t_Links_check K E, pss_cons (ps_expr (pe_cl c_check_operation hr (by decide) (pat_of (W := fun cls d _ H => E cls d H) (L2N.takes_of rfl rfl rfl rfl)) (pa_cons (pe_fld (pv 0) rfl) (pa_cons (pv 1) (pa_cons (pv 2) (pa_nil)))))) (pss_one (ps_if (pt_not (pt_val (pe_mt c_Links_is_legal T.cl_Links hr (by decide) (pat_of (W := fun cls d _ H => E cls d H) (L2N.takes_of rfl rfl rfl rfl)) (pv 0) (pa_cons (pv 1) (pa_nil))))) (pss_one (ps_rz x_Illegal rfl (L2N.takes_of rfl rfl rfl rfl) hr (by decide) (pa_cons (pv 1) (pa_cons (pv 2) (pa_nil))))) (pss_nil))), rd_Links_check T vs H Q E h⟩
theorem ok_Links_apply_at {f : Addr} {fd : FuncData} (T : Txt K mg) (F : FunD K "apply_at" "Links.apply_at" (defArgs s_Links_apply_at) (defBody s_Links_apply_at) (defScope s_Links_apply_at) [] [] f fd) (c_Links_check : Met P w K mg base 4 (He.ga K "Links") "check" ["self", "operation", "index"] (sp_Links_check K)) : FnOk P w K mg base (L2N.CX P w) 5 f fd ["self", "operation", "index"] (sp_Links_apply_at K) :=
  F.ok sc_Links_apply_at (len_Links_apply_at K) fun cdv A outer s H vs Q E hr h => ⟨t_Links_apply_at K E, pss_cons (ps_expr (pe_mt c_Links_check T.cl_Links hr (by decide) (pat_of (W := fun cls d _ H => E cls d H) (L2N.takes_of rfl rfl rfl rfl)) (pv 0) (pa_cons (pv 1) (pa_cons (pv 2) (pa_nil))))) (pss_cons (ps_set (i := 3) sc_Links_apply_at.nd rfl (by first | exact Or.inl rfl | exact Or.inr rfl) (pe_callB call_absA (by rfl) T.b_abs (by decide +kernel) (pa_cons (pv 1) (pa_nil)))) (pss_cons (ps_set (i := 4) sc_Links_apply_at.nd rfl (by first | exact Or.inl rfl | exact Or.inr rfl) (pe_ix ix_seq (pe_fld (pv 0) rfl) (pv 3) (fun _ _ => rfl))) (pss_cons (ps_set (i := 5) sc_Links_apply_at.nd rfl (by first | exact Or.inl rfl | exact Or.inr rfl) (pe_ix ix_seq (pe_fld (pv 0) rfl) (pv 3) (fun _ _ => rfl))) (pss_cons (ps_set (i := 6) sc_Links_apply_at.nd rfl (by first | exact Or.inl rfl | exact Or.inr rfl) (pe_cmpR op_lt (pv 1) (pe_int) (nomark _))) (pss_cons (ps_asg (pe_ifExp (pt_val (pv 6)) (pv 5) (pv 3)) (pg_sub (pe_fld (pv 0) rfl) (pv 4) set_list)) (pss_cons (ps_asg (pe_ifExp (pt_val (pv 6)) (pv 4) (pv 3)) (pg_sub (pe_fld (pv 0) rfl) (pv 5) set_list)) (pss_one (ps_asg (pv 6) (pg_sub (pe_fld (pv 0) rfl) (pv 3) set_list))))))))), rd_Links_apply_at T vs H Q E h⟩
theorem ok_Links_apply {f : Addr} {fd : FuncData} (T : Txt K mg) (F : FunD K "apply" "Links.apply" (defArgs s_Links_apply) (defBody s_Links_apply) (defScope s_Links_apply) [] [] f fd) (c_Links_apply_at : Met P w K mg base 5 (He.ga K "Links") "apply_at" ["self", "operation", "index"] (sp_Links_apply_at K)) : FnOk P w K mg base (L2N.CX P w) 6 f fd ["self", "operation"] (sp_Links_apply K) :=
  F.ok sc_Links_apply (len_Links_apply K) fun cdv A outer s H vs Q E hr h => ⟨t_Links_apply K E, pss_one (ps_expr (pe_mt c_Links_apply_at T.cl_Links hr (by decide) (pat_of (W := fun cls d _ H => E cls d H) (L2N.takes_of rfl rfl rfl rfl)) (pv 0) (pa_cons (pv 1) (pa_cons (pe_int) (pa_nil))))), rd_Links_apply T vs H Q E h⟩
theorem ok_check_size {f : Addr} {fd : FuncData} (T : Txt K mg) (F : FunD K "check_size" "check_size" (defArgs s_check_size) (defBody s_check_size) (defScope s_check_size) [] [] f fd) (x_BadSize : ExM P w K mg base 1 "BadSize" (He.ga K "BadSize") ["size"]) : FnOk P w K mg base (L2N.CX P w) 3 f fd ["size"] (sp_check_size K) :=
  F.ok sc_check_size (len_check_size K) fun cdv A outer s H vs Q E hr h => ⟨t_check_size K E, pss_one (ps_if (pt_not (pt_chain op_le op_le (pe_int) (pv 0) (pe_cc T.cc_Links_MOST (pe_own T.g_Links)))) (pss_one (ps_rz x_BadSize rfl (L2N.takes_of rfl rfl rfl rfl) hr (by decide) (pa_cons (pv 0) (pa_nil)))) (pss_nil)), rd_check_size T vs H Q E h⟩
theorem ok_Links___init__ {f : Addr} {fd : FuncData} (T : Txt K mg) (F : FunD K "__init__" "Links.__init__" (defArgs s_Links___init__) (defBody s_Links___init__) (defScope s_Links___init__) [] [] f fd) (c_check_size : Cal P w K mg base 3 "check_size" ["size"] (sp_check_size K)) : FnOk P w K mg base (L2N.CX P w) 4 f fd ["self", "size"] (sp_Links___init__ K) :=
  F.ok sc_Links___init__ (len_Links___init__ K) fun cdv A outer s H vs Q E hr h => ⟨t_Links___init__ K E, pss_cons (ps_expr (pe_cl c_check_size hr (by decide) (pat_of (W := fun cls d _ H => E cls d H) (L2N.takes_of rfl rfl rfl rfl)) (pa_cons (pv 1) (pa_nil)))) (pss_cons (ps_fld (pv 0) (pv 1) rfl) (pss_cons (ps_fld (pv 0) (pe_listRg rfl rfl T.b_list (prg_2 rfl T.b_range (pe_int) (pe_op op_addA (pv 1) (pe_int)))) rfl) (pss_cons (ps_fld (pv 0) (pe_op op_addA (pe_lst (pa_cons (pe_int) (pa_nil))) (pe_listRg rfl rfl T.b_list (prg_1 rfl T.b_range (pe_op op_addA (pv 1) (pe_int))))) rfl) (pss_one (ps_fld (pv 0) (pe_op op_mulA (pe_lst (pa_cons (pe_bl) (pa_nil))) (pe_op op_addA (pv 1) (pe_int))) rfl))))), rd_Links___init__ T vs H Q E h⟩
theorem ok_Links_copy {f : Addr} {fd : FuncData} (T : Txt K mg) (F : FunD K "copy" "Links.copy" (defArgs s_Links_copy) (defBody s_Links_copy) (defScope s_Links_copy) [] [] f fd) (m_Links : Mak P w K mg base 4 "Links" (He.ga K "Links") ["self", "size"] (sp_Links___init__ K)) : FnOk P w K mg base (L2N.CX P w) 6 f fd ["self"] (sp_Links_copy K) :=
  F.ok sc_Links_copy (len_Links_copy K) fun cdv A outer s H vs Q E hr h => ⟨t_Links_copy K E, pss_cons (ps_set (i := 1) sc_Links_copy.nd rfl (by first | exact Or.inl rfl | exact Or.inr rfl) (pe_mk m_Links hr (by decide) (pat_of (W := fun cls d _ H => E cls d H) (L2N.takes_of rfl rfl rfl rfl)) (pa_cons (pe_fld (pv 0) rfl) (pa_nil)))) (pss_cons (ps_fld (pv 1) (pe_callTy call_listA (by rfl) T.b_list (by decide +kernel) (pa_cons (pe_fld (pv 0) rfl) (pa_nil))) rfl) (pss_cons (ps_fld (pv 1) (pe_callTy call_listA (by rfl) T.b_list (by decide +kernel) (pa_cons (pe_fld (pv 0) rfl) (pa_nil))) rfl) (pss_cons (ps_fld (pv 1) (pe_callTy call_listA (by rfl) T.b_list (by decide +kernel) (pa_cons (pe_fld (pv 0) rfl) (pa_nil))) rfl) (pss_one (ps_ret (pv 1)))))), rd_Links_copy T vs H Q E h⟩
theorem ok_is_positive {f : Addr} {fd : FuncData} (T : Txt K mg) (F : FunD K "is_positive" "is_positive" (defArgs s_is_positive) (defBody s_is_positive) (defScope s_is_positive) [] [] f fd)  : FnOk P w K mg base (L2N.CX P w) 1 f fd ["word"] (sp_is_positive K) :=
  F.ok sc_is_positive (len_is_positive K) fun cdv A outer s H vs Q E hr h => ⟨t_is_positive K E, pss_one (ps_ret (pe_and (pe_chain op_le op_le (pe_int) (pe_callB call_lenA (by rfl) T.b_len (by decide +kernel) (pa_cons (pv 0) (pa_nil))) (pe_glob rfl T.k_MOST_DIGITS.choose_spec ⟨_, rfl⟩)) (pe_and (pe_cmpR (op_neA hr) (pe_ix ix_seq (pv 0) (pe_int) (fun _ _ => rfl)) (pe_str) (nomark _)) (pe_one (pe_callB (cr_all rfl) (by rfl) T.b_all (by decide +kernel) (pa_cons (pe_lc (own := [("letter", 1)]) (g := gName 1) (tt := tYes) (te := tOp rInS (tVar 1) (tC (.str "0123456789"))) rfl sc_is_positive.nd (pi_str (pv 0)) (blkOk_by (own := [("letter", 1)]) (N := ["word", "letter"]) (sc := defScope s_is_positive) (by decide +kernel)) (fun _ _ _ _ _ => pg_name (i := 1) sc_is_positive.nd rfl (by first | exact Or.inl rfl | exact Or.inr rfl)) (fun _ _ _ _ _ => pts_nil) (fun _ _ _ _ _ => pe_cmpR op_inS (pv 1) (pe_glob rfl T.k_DIGITS.choose_spec ⟨_, rfl⟩) (rfl))) (pa_nil))))))), rd_is_positive T vs H Q E h⟩
theorem ok__read_numbers {f : Addr} {fd : FuncData} (T : Txt K mg) (F : FunD K "_read_numbers" "_read_numbers" (defArgs s__read_numbers) (defBody s__read_numbers) (defScope s__read_numbers) [] [] f fd) (c_is_positive : Cal P w K mg base 1 "is_positive" ["word"] (sp_is_positive K)) (x_BadDump : ExM P w K mg base 1 "BadDump" (He.ga K "BadDump") ["part"]) : FnOk P w K mg base (L2N.CX P w) 3 f fd ["text", "part"] (sp__read_numbers K) :=
  F.ok sc__read_numbers (len__read_numbers K) fun cdv A outer s H vs Q E hr h => ⟨t__read_numbers K E, pss_cons (ps_set (i := 2) sc__read_numbers.nd rfl (by first | exact Or.inl rfl | exact Or.inr rfl) (pe_splitA (pv 0) (pe_str))) (pss_cons (ps_if (pt_not (pt_val (pe_callB (cr_all rfl) (by rfl) T.b_all (by decide +kernel) (pa_cons (pe_lc (own := [("word", 3)]) (g := gName 3) (tt := tYes) (te := tOrV (tOp (rEqA K) (tVar 3) (tC (.str "0"))) (tCl (sp_is_positive K) (fun _ => E0) (tCons (tVar 3) (tNil)))) rfl sc__read_numbers.nd (pi_list (pv 2)) (blkOk_by (own := [("word", 3)]) (N := ["text", "part", "words", "word"]) (sc := defScope s__read_numbers) (by decide +kernel)) (fun _ _ _ _ _ => pg_name (i := 3) sc__read_numbers.nd rfl (by first | exact Or.inl rfl | exact Or.inr rfl)) (fun _ _ _ _ _ => pts_nil) (fun _ _ _ _ _ => pe_or (pe_cmpR (op_eqA hr) (pv 3) (pe_str) (nomark _)) (pe_one (pe_cl c_is_positive hr (by decide) (pat_no) (pa_cons (pv 3) (pa_nil)))))) (pa_nil))))) (pss_one (ps_rz x_BadDump rfl (L2N.takes_of rfl rfl rfl rfl) hr (by decide) (pa_cons (pv 1) (pa_nil)))) (pss_nil)) (pss_one (ps_ret (pe_lc (own := [("word", 3)]) (g := gName 3) (tt := tYes) (te := tCB rIntS (tCons (tVar 3) (tNil))) rfl sc__read_numbers.nd (pi_list (pv 2)) (blkOk_by (own := [("word", 3)]) (N := ["text", "part", "words", "word"]) (sc := defScope s__read_numbers) (by decide +kernel)) (fun _ _ _ _ _ => pg_name (i := 3) sc__read_numbers.nd rfl (by first | exact Or.inl rfl | exact Or.inr rfl)) (fun _ _ _ _ _ => pts_nil) (fun _ _ _ _ _ => pe_callTy call_intS (by rfl) T.b_int (by decide +kernel) (pa_cons (pv 3) (pa_nil))))))), rd__read_numbers T vs H Q E h⟩
theorem ok__read_lefts {f : Addr} {fd : FuncData} (T : Txt K mg) (F : FunD K "_read_lefts" "_read_lefts" (defArgs s__read_lefts) (defBody s__read_lefts) (defScope s__read_lefts) [] [] f fd) (c__read_numbers : Cal P w K mg base 3 "_read_numbers" ["text", "part"] (sp__read_numbers K)) (x_BadDump : ExM P w K mg base 1 "BadDump" (He.ga K "BadDump") ["part"]) : FnOk P w K mg base (L2N.CX P w) 4 f fd ["text", "size"] (sp__read_lefts K) :=
  F.ok sc__read_lefts (len__read_lefts K) fun cdv A outer s H vs Q E hr h => ⟨t__read_lefts K E, pss_cons (ps_set (i := 2) sc__read_lefts.nd rfl (by first | exact Or.inl rfl | exact Or.inr rfl) (pe_cl c__read_numbers hr (by decide) (pat_of (W := fun cls d _ H => E cls d H) (L2N.takes_of rfl rfl rfl rfl)) (pa_cons (pv 0) (pa_cons (pe_int) (pa_nil))))) (pss_cons (ps_if ((pw_or (pt_cmpR (op_neA hr) (pe_callB call_lenA (by rfl) T.b_len (by decide +kernel) (pa_cons (pv 2) (pa_nil))) (pe_op op_addA (pv 1) (pe_int)) (nomark _)) (pw_or1 (pt_not (pt_val (pe_callB (cr_all rfl) (by rfl) T.b_all (by decide +kernel) (pa_cons (pe_lc (own := [("place", 3), ("link", 4)]) (g := gTup K 2 (gCons (gName 3) (gCons (gName 4) (gNil)))) (tt := tYes) (te := tOp rLeA (tVar 4) (tVar 3)) rfl sc__read_lefts.nd (pi_enum (by rfl) T.b_enumerate (pa_cons (pv 2) (pa_nil))) (blkOk_by (own := [("place", 3), ("link", 4)]) (N := ["text", "size", "lefts", "place", "link"]) (sc := defScope s__read_lefts) (by decide +kernel)) (fun _ _ _ _ _ => pg_tup (by rfl) (pgs_cons (pg_name (i := 3) sc__read_lefts.nd rfl (by first | exact Or.inl rfl | exact Or.inr rfl)) (pgs_cons (pg_name (i := 4) sc__read_lefts.nd rfl (by first | exact Or.inl rfl | exact Or.inr rfl)) (pgs_nil)))) (fun _ _ _ _ _ => pts_nil) (fun _ _ _ _ _ => pe_cmpR op_le (pv 4) (pv 3) (nomark _))) (pa_nil))))))).pt) (pss_one (ps_rz x_BadDump rfl (L2N.takes_of rfl rfl rfl rfl) hr (by decide) (pa_cons (pe_int) (pa_nil)))) (pss_nil)) (pss_one (ps_ret (pv 2)))), rd__read_lefts T vs H Q E h⟩
theorem ok__read_outs {f : Addr} {fd : FuncData} (T : Txt K mg) (F : FunD K "_read_outs" "_read_outs" (defArgs s__read_outs) (defBody s__read_outs) (defScope s__read_outs) [] [] f fd) (c__read_numbers : Cal P w K mg base 3 "_read_numbers" ["text", "part"] (sp__read_numbers K)) (x_BadDump : ExM P w K mg base 1 "BadDump" (He.ga K "BadDump") ["part"]) : FnOk P w K mg base (L2N.CX P w) 4 f fd ["text", "size"] (sp__read_outs K) :=
  F.ok sc__read_outs (len__read_outs K) fun cdv A outer s H vs Q E hr h => ⟨t__read_outs K E, pss_cons (ps_if (pt_cmpR (op_eqA hr) (pv 0) (pe_str) (nomark _)) (pss_one (ps_ret (pe_lst (pa_nil)))) (pss_nil)) (pss_cons (ps_set (i := 2) sc__read_outs.nd rfl (by first | exact Or.inl rfl | exact Or.inr rfl) (pe_cl c__read_numbers hr (by decide) (pat_of (W := fun cls d _ H => E cls d H) (L2N.takes_of rfl rfl rfl rfl)) (pa_cons (pv 0) (pa_cons (pe_int) (pa_nil))))) (pss_cons (ps_set (i := 3) sc__read_outs.nd rfl (by first | exact Or.inl rfl | exact Or.inr rfl) (pe_op op_addA (pe_op op_addA (pe_lst (pa_cons (pe_int) (pa_nil))) (pv 2)) (pe_lst (pa_cons (pe_op op_addA (pv 1) (pe_int)) (pa_nil))))) (pss_cons (ps_if (pt_not (pt_val (pe_callB (cr_all rfl) (by rfl) T.b_all (by decide +kernel) (pa_cons (pe_lc (own := [("low", 4), ("high", 5)]) (g := gTup K 2 (gCons (gName 4) (gCons (gName 5) (gNil)))) (tt := tYes) (te := tOp rLtA (tVar 4) (tVar 5)) rfl sc__read_outs.nd (pi_zip (by rfl) T.b_zip (pa_cons (pv 3) (pa_cons (pe_slice sl_list (pv 3) (po_some (pe_int)) (po_none)) (pa_nil)))) (blkOk_by (own := [("low", 4), ("high", 5)]) (N := ["text", "size", "outs", "bounds", "low", "high"]) (sc := defScope s__read_outs) (by decide +kernel)) (fun _ _ _ _ _ => pg_tup (by rfl) (pgs_cons (pg_name (i := 4) sc__read_outs.nd rfl (by first | exact Or.inl rfl | exact Or.inr rfl)) (pgs_cons (pg_name (i := 5) sc__read_outs.nd rfl (by first | exact Or.inl rfl | exact Or.inr rfl)) (pgs_nil)))) (fun _ _ _ _ _ => pts_nil) (fun _ _ _ _ _ => pe_cmpR op_lt (pv 4) (pv 5) (nomark _))) (pa_nil))))) (pss_one (ps_rz x_BadDump rfl (L2N.takes_of rfl rfl rfl rfl) hr (by decide) (pa_cons (pe_int) (pa_nil)))) (pss_nil)) (pss_one (ps_ret (pv 2)))))), rd__read_outs T vs H Q E h⟩
theorem ok__read_rights {f : Addr} {fd : FuncData} (T : Txt K mg) (F : FunD K "_read_rights" "_read_rights" (defArgs s__read_rights) (defBody s__read_rights) (defScope s__read_rights) [] [] f fd) (c__read_numbers : Cal P w K mg base 3 "_read_numbers" ["text", "part"] (sp__read_numbers K)) (x_BadDump : ExM P w K mg base 1 "BadDump" (He.ga K "BadDump") ["part"]) : FnOk P w K mg base (L2N.CX P w) 4 f fd ["text"] (sp__read_rights K) :=
  F.ok sc__read_rights (len__read_rights K) fun cdv A outer s H vs Q E hr h => ⟨t__read_rights K E, pss_cons (ps_set (i := 1) sc__read_rights.nd rfl (by first | exact Or.inl rfl | exact Or.inr rfl) (pe_cl c__read_numbers hr (by decide) (pat_of (W := fun cls d _ H => E cls d H) (L2N.takes_of rfl rfl rfl rfl)) (pa_cons (pv 0) (pa_cons (pe_int) (pa_nil))))) (pss_cons (ps_set (i := 2) sc__read_rights.nd rfl (by first | exact Or.inl rfl | exact Or.inr rfl) (pe_op op_sub (pe_callB call_lenA (by rfl) T.b_len (by decide +kernel) (pa_cons (pv 1) (pa_nil))) (pe_int))) (pss_cons (ps_if ((pw_or (pt_cmpR op_gt (pv 2) (pe_cc T.cc_Links_MOST (pe_own T.g_Links)) (nomark _)) (pw_or1 (pt_not (pt_val (pe_callB (cr_all rfl) (by rfl) T.b_all (by decide +kernel) (pa_cons (pe_lc (own := [("node", 3), ("link", 4)]) (g := gTup K 2 (gCons (gName 3) (gCons (gName 4) (gNil)))) (tt := tYes) (te := tChain rLtA rLeA (tVar 3) (tVar 4) (tOp rAddA (tVar 2) (tC (.int 1)))) rfl sc__read_rights.nd (pi_enum (by rfl) T.b_enumerate (pa_cons (pv 1) (pa_nil))) (blkOk_by (own := [("node", 3), ("link", 4)]) (N := ["text", "rights", "size", "node", "link"]) (sc := defScope s__read_rights) (by decide +kernel)) (fun _ _ _ _ _ => pg_tup (by rfl) (pgs_cons (pg_name (i := 3) sc__read_rights.nd rfl (by first | exact Or.inl rfl | exact Or.inr rfl)) (pgs_cons (pg_name (i := 4) sc__read_rights.nd rfl (by first | exact Or.inl rfl | exact Or.inr rfl)) (pgs_nil)))) (fun _ _ _ _ _ => pts_nil) (fun _ _ _ _ _ => pe_chain op_lt op_le (pv 3) (pv 4) (pe_op op_addA (pv 2) (pe_int)))) (pa_nil))))))).pt) (pss_one (ps_rz x_BadDump rfl (L2N.takes_of rfl rfl rfl rfl) hr (by decide) (pa_cons (pe_int) (pa_nil)))) (pss_nil)) (pss_one (ps_ret (pv 1))))), rd__read_rights T vs H Q E h⟩
theorem ok_Links_read {f : Addr} {fd : FuncData} (T : Txt K mg) (F : FunD K "read" "Links.read" (defArgs s_Links_read) (defBody s_Links_read) (defScope s_Links_read) [] [] f fd) (m_Links : Mak P w K mg base 4 "Links" (He.ga K "Links") ["self", "size"] (sp_Links___init__ K)) (c__read_lefts : Cal P w K mg base 4 "_read_lefts" ["text", "size"] (sp__read_lefts K)) (c__read_outs : Cal P w K mg base 4 "_read_outs" ["text", "size"] (sp__read_outs K)) (c__read_rights : Cal P w K mg base 4 "_read_rights" ["text"] (sp__read_rights K)) (x_BadDump : ExM P w K mg base 1 "BadDump" (He.ga K "BadDump") ["part"]) : FnOk P w K mg base (L2N.CX P w) 6 f fd ["text"] (sp_Links_read K) :=
  F.ok sc_Links_read (len_Links_read K) fun cdv A outer s H vs Q E hr h => ⟨t_Links_read K E, pss_cons (ps_set (i := 1) sc_Links_read.nd rfl (by first | exact Or.inl rfl | exact Or.inr rfl) (pe_splitA (pv 0) (pe_str))) (pss_cons (ps_asg (pe_slice sl_list (pe_op op_addA (pv 1) (pe_lst (pa_cons (pe_str) (pa_cons (pe_str) (pa_nil))))) (po_none) (po_some (pe_int))) (pg_unl (by rfl) (pgs_cons (pg_name (i := 2) sc_Links_read.nd rfl (by first | exact Or.inl rfl | exact Or.inr rfl)) (pgs_cons (pg_name (i := 3) sc_Links_read.nd rfl (by first | exact Or.inl rfl | exact Or.inr rfl)) (pgs_cons (pg_name (i := 4) sc_Links_read.nd rfl (by first | exact Or.inl rfl | exact Or.inr rfl)) (pgs_nil)))))) (pss_cons (ps_set (i := 5) sc_Links_read.nd rfl (by first | exact Or.inl rfl | exact Or.inr rfl) (pe_cl c__read_rights hr (by decide) (pat_of (W := fun cls d _ H => E cls d H) (L2N.takes_of rfl rfl rfl rfl)) (pa_cons (pv 2) (pa_nil)))) (pss_cons (ps_set (i := 6) sc_Links_read.nd rfl (by first | exact Or.inl rfl | exact Or.inr rfl) (pe_mk m_Links hr (by decide) (pat_of (W := fun cls d _ H => E cls d H) (L2N.takes_of rfl rfl rfl rfl)) (pa_cons (pe_op op_sub (pe_callB call_lenA (by rfl) T.b_len (by decide +kernel) (pa_cons (pv 5) (pa_nil))) (pe_int)) (pa_nil)))) (pss_cons (ps_fld (pv 6) (pv 5) rfl) (pss_cons (ps_fld (pv 6) (pe_op op_addA (pe_lst (pa_cons (pe_int) (pa_nil))) (pe_cl c__read_lefts hr (by decide) (pat_of (W := fun cls d _ H => E cls d H) (L2N.takes_of rfl rfl rfl rfl)) (pa_cons (pv 3) (pa_cons (pe_fld (pv 6) rfl) (pa_nil))))) rfl) (pss_cons (ps_for (passes_of rfl) rfl (pi_list (pe_cl c__read_outs hr (by decide) (pat_of (W := fun cls d _ H => E cls d H) (L2N.takes_of rfl rfl rfl rfl)) (pa_cons (pv 4) (pa_cons (pe_fld (pv 6) rfl) (pa_nil))))) (pg_name (i := 7) sc_Links_read.nd rfl (by first | exact Or.inl rfl | exact Or.inr rfl)) (pss_one (ps_asg (pe_bl) (pg_sub (pe_fld (pv 6) rfl) (pv 7) set_list)))) (pss_cons (ps_if (pt_cmpR op_gt (pe_callB call_lenA (by rfl) T.b_len (by decide +kernel) (pa_cons (pv 1) (pa_nil))) (pe_int) (nomark _)) (pss_one (ps_rz x_BadDump rfl (L2N.takes_of rfl rfl rfl rfl) hr (by decide) (pa_cons (pe_int) (pa_nil)))) (pss_nil)) (pss_one (ps_ret (pv 6)))))))))), rd_Links_read T vs H Q E h⟩
theorem ok_Links_outs {f : Addr} {fd : FuncData} (T : Txt K mg) (F : FunD K "outs" "Links.outs" (defArgs s_Links_outs) (defBody s_Links_outs) (defScope s_Links_outs) [] [] f fd)  : FnOk P w K mg base (L2N.CX P w) 1 f fd ["self"] (sp_Links_outs K) :=
  F.ok sc_Links_outs (len_Links_outs K) fun cdv A outer s H vs Q E hr h => ⟨t_Links_outs K E, pss_one (ps_ret (pe_lc (own := [("node", 1)]) (g := gName 1) (tt := tB (tOp (rIx K) (tFld K (tVar 0) "_out") (tVar 1))) (te := tVar 1) rfl sc_Links_outs.nd (pi_range2 rfl T.b_range (pa_cons (pe_int) (pa_cons (pe_op op_addA (pe_fld (pv 0) rfl) (pe_int)) (pa_nil)))) (blkOk_by (own := [("node", 1)]) (N := ["self", "node"]) (sc := defScope s_Links_outs) (by decide +kernel)) (fun _ _ _ _ _ => pg_name (i := 1) sc_Links_outs.nd rfl (by first | exact Or.inl rfl | exact Or.inr rfl)) (fun _ _ _ _ _ => pts_one (pt_val (pe_ix ix_seq (pe_fld (pv 0) rfl) (pv 1) (fun _ _ => rfl)))) (fun _ _ _ _ _ => pv 1))), rd_Links_outs T vs H Q E h⟩
theorem ok__joined {f : Addr} {fd : FuncData} (T : Txt K mg) (F : FunD K "_joined" "_joined" (defArgs s__joined) (defBody s__joined) (defScope s__joined) [] [] f fd)  : FnOk P w K mg base (L2N.CX P w) 1 f fd ["numbers"] (sp__joined K) :=
  F.ok sc__joined (len__joined K) fun cdv A outer s H vs Q E hr h => ⟨t__joined K E, pss_one (ps_ret (pe_joinA (pe_str) (pe_lc (own := [("number", 1)]) (g := gName 1) (tt := tYes) (te := tCB rStrA (tCons (tVar 1) (tNil))) rfl sc__joined.nd (pi_list (pv 0)) (blkOk_by (own := [("number", 1)]) (N := ["numbers", "number"]) (sc := defScope s__joined) (by decide +kernel)) (fun _ _ _ _ _ => pg_name (i := 1) sc__joined.nd rfl (by first | exact Or.inl rfl | exact Or.inr rfl)) (fun _ _ _ _ _ => pts_nil) (fun _ _ _ _ _ => pe_callTy call_strA (by rfl) T.b_str (by decide +kernel) (pa_cons (pv 1) (pa_nil)))))), rd__joined T vs H Q E h⟩
theorem ok_dump_of {f : Addr} {fd : FuncData} (T : Txt K mg) (F : FunD K "dump_of" "dump_of" (defArgs s_dump_of) (defBody s_dump_of) (defScope s_dump_of) [] [] f fd) (c__joined : Cal P w K mg base 1 "_joined" ["numbers"] (sp__joined K)) : FnOk P w K mg base (L2N.CX P w) 2 f fd ["rights", "lefts", "outs"] (sp_dump_of K) :=
  F.ok sc_dump_of (len_dump_of K) fun cdv A outer s H vs Q E hr h => ⟨t_dump_of K E, pss_one (ps_ret (pe_joinA (pe_str) (pe_lst (pa_cons (pe_cl c__joined hr (by decide) (pat_of (W := fun cls d _ H => E cls d H) (L2N.takes_of rfl rfl rfl rfl)) (pa_cons (pv 0) (pa_nil))) (pa_cons (pe_cl c__joined hr (by decide) (pat_of (W := fun cls d _ H => E cls d H) (L2N.takes_of rfl rfl rfl rfl)) (pa_cons (pv 1) (pa_nil))) (pa_cons (pe_ifExp (pt_tr (pv 2) (by intro _; rfl)) (pe_cl c__joined hr (by decide) (pat_of (W := fun cls d _ H => E cls d H) (L2N.takes_of rfl rfl rfl rfl)) (pa_cons (pv 2) (pa_nil))) (pe_str)) (pa_nil))))))), rd_dump_of T vs H Q E h⟩
theorem ok_Links_dump {f : Addr} {fd : FuncData} (T : Txt K mg) (F : FunD K "dump" "Links.dump" (defArgs s_Links_dump) (defBody s_Links_dump) (defScope s_Links_dump) [] [] f fd) (c_Links_outs : Met P w K mg base 1 (He.ga K "Links") "outs" ["self"] (sp_Links_outs K)) (c_dump_of : Cal P w K mg base 2 "dump_of" ["rights", "lefts", "outs"] (sp_dump_of K)) : FnOk P w K mg base (L2N.CX P w) 3 f fd ["self"] (sp_Links_dump K) :=
  F.ok sc_Links_dump (len_Links_dump K) fun cdv A outer s H vs Q E hr h => ⟨t_Links_dump K E, pss_one (ps_ret (pe_cl c_dump_of hr (by decide) (pat_of (W := fun cls d _ H => E cls d H) (L2N.takes_of rfl rfl rfl rfl)) (pa_cons (pe_fld (pv 0) rfl) (pa_cons (pe_slice sl_list (pe_fld (pv 0) rfl) (po_some (pe_int)) (po_none)) (pa_cons (pe_mt0 c_Links_outs T.cl_Links hr (by decide) (pat_of (W := fun cls d _ H => E cls d H) (L2N.takes_of rfl rfl rfl rfl)) (pv 0)) (pa_nil)))))), rd_Links_dump T vs H Q E h⟩
theorem ok_Links_is_sound {f : Addr} {fd : FuncData} (T : Txt K mg) (F : FunD K "is_sound" "Links.is_sound" (defArgs s_Links_is_sound) (defBody s_Links_is_sound) (defScope s_Links_is_sound) [] [] f fd)  : FnOk P w K mg base (L2N.CX P w) 1 f fd ["self"] (sp04_Links_is_sound K) :=
  F.ok sc_Links_is_sound (len_Links_is_sound K) fun cdv A outer s H vs Q E hr h => ⟨t_Links_is_sound K E, pss_cons (ps_setLc (i := 1) (own := [("node", 2)]) (g := gName 2) (tt := tNot (tB (tOp (rIx K) (tFld K (tVar 0) "_out") (tVar 2)))) (te := tVar 2) rfl sc_Links_is_sound.nd rfl rfl (sw_true rfl rfl rfl (by decide +kernel)) (pi_range1 rfl T.b_range (pa_cons (pe_op op_addA (pe_fld (pv 0) rfl) (pe_int)) (pa_nil))) (blkOk_by (own := [("node", 2)]) (N := ["self", "present", "node", "low", "high"]) (sc := defScope s_Links_is_sound) (by decide +kernel)) (fun _ _ _ _ _ => pg_name (i := 2) sc_Links_is_sound.nd rfl (by first | exact Or.inl rfl | exact Or.inr rfl)) (fun _ _ _ _ _ => pts_one (pt_not (pt_val (pe_ix ix_seq (pe_fld (pv 0) rfl) (pv 2) (fun _ _ => rfl))))) (fun _ _ _ _ _ => pv 2)) (pss_one (ps_ret (pe_callB (cr_all rfl) (by rfl) T.b_all (by decide +kernel) (pa_cons (pe_lc (own := [("low", 3), ("high", 4)]) (g := gTup K 2 (gCons (gName 3) (gCons (gName 4) (gNil)))) (tt := tYes) (te := tAndV (tOp (rEqA K) (tOp (rIx K) (tFld K (tVar 0) "_rights") (tVar 3)) (tVar 4)) (tOp (rEqA K) (tOp (rIx K) (tFld K (tVar 0) "_lefts") (tVar 4)) (tVar 3))) rfl sc_Links_is_sound.nd (pi_zip (by rfl) T.b_zip (pa_cons (pv 1) (pa_cons (pe_slice sl_list (pv 1) (po_some (pe_int)) (po_none)) (pa_nil)))) (blkOk_by (own := [("low", 3), ("high", 4)]) (N := ["self", "present", "node", "low", "high"]) (sc := defScope s_Links_is_sound) (by decide +kernel)) (fun _ _ _ _ _ => pg_tup (by rfl) (pgs_cons (pg_name (i := 3) sc_Links_is_sound.nd rfl (by first | exact Or.inl rfl | exact Or.inr rfl)) (pgs_cons (pg_name (i := 4) sc_Links_is_sound.nd rfl (by first | exact Or.inl rfl | exact Or.inr rfl)) (pgs_nil)))) (fun _ _ _ _ _ => pts_nil) (fun _ _ _ _ _ => pe_and (pe_cmpR (op_eqA hr) (pe_ix ix_seq (pe_fld (pv 0) rfl) (pv 3) (fun _ _ => rfl)) (pv 4) (nomark _)) (pe_one (pe_cmpR (op_eqA hr) (pe_ix ix_seq (pe_fld (pv 0) rfl) (pv 4) (fun _ _ => rfl)) (pv 3) (nomark _))))) (pa_nil))))), rd_Links_is_sound T vs H Q E h⟩
theorem ok_Links___eq__ {f : Addr} {fd : FuncData} (T : Txt K mg) (F : FunD K "__eq__" "Links.__eq__" (defArgs s_Links___eq__) (defBody s_Links___eq__) (defScope s_Links___eq__) [] [] f fd)  : FnOk P w K mg base (L2N.CX P w) 1 f fd ["self", "other"] (sp02_Links___eq__ K) :=
  F.ok sc_Links___eq__ (len_Links___eq__ K) fun cdv A outer s H vs Q E hr h => ⟨t_Links___eq__ K E, pss_one (ps_ret (pe_and (pe_callB call_isi (by rfl) T.b_isinstance (by decide +kernel) (pa_cons (pv 1) (pa_cons (pe_own T.g_Links) (pa_nil)))) (pe_and (pe_cmpR (op_eqA hr) (pe_fld (pv 0) rfl) (pe_fld (pv 1) rfl) (nomark _)) (pe_and (pe_cmpR (op_eqA hr) (pe_fld (pv 0) rfl) (pe_fld (pv 1) rfl) (nomark _)) (pe_one (pe_cmpR (op_eqA hr) (pe_fld (pv 0) rfl) (pe_fld (pv 1) rfl) (nomark _))))))), rd_Links___eq__ T vs H Q E h⟩
theorem ok_Links_is_whole {f : Addr} {fd : FuncData} (T : Txt K mg) (F : FunD K "is_whole" "Links.is_whole" (defArgs s_Links_is_whole) (defBody s_Links_is_whole) (defScope s_Links_is_whole) [] [] f fd) (c_Links___eq__ : Met P w K mg base 1 (He.ga K "Links") "__eq__" ["self", "other"] (sp02_Links___eq__ K)) (m_Links : Mak P w K mg base 4 "Links" (He.ga K "Links") ["self", "size"] (sp_Links___init__ K)) : FnOk P w K mg base (L2N.CX P w) 6 f fd ["self"] (sp04_Links_is_whole K) :=
  F.ok sc_Links_is_whole (len_Links_is_whole K) fun cdv A outer s H vs Q E hr h => ⟨t_Links_is_whole K E, pss_one (ps_ret (pe_cmpR (op_eqO (i := 0) c_Links___eq__ hr (by decide) (pat_of (W := fun cls d _ H => E cls d H) (L2N.takes_of rfl rfl rfl rfl))) (pv 0) (pe_mk m_Links hr (by decide) (pat_of (W := fun cls d _ H => E cls d H) (L2N.takes_of rfl rfl rfl rfl)) (pa_cons (pe_fld (pv 0) rfl) (pa_nil))) (nomark _))), rd_Links_is_whole T vs H Q E h⟩
theorem ok_Links_walk {f : Addr} {fd : FuncData} (T : Txt K mg) (F : FunD K "walk" "Links.walk" (defArgs s_Links_walk) (defBody s_Links_walk) (defScope s_Links_walk) [] [] f fd) : GFn P w K mg base 1 f fd ["self"] (sp04_Links_walk K) :=
  okG F sc_Links_walk (len_Links_walk K) fun cdv A outer s H vs Q E pn hr h => ⟨t_Links_walk K, gss_cons (gs_ps (ps_set (i := 1) sc_Links_walk.nd rfl (by first | exact Or.inl rfl | exact Or.inr rfl) (pe_ix ix_seq (pe_fld (pv 0) rfl) (pe_int) (fun _ _ => rfl)))) (gss_cons (gs_while owns_gcx (pt_cmpR op_le (pv 1) (pe_fld (pv 0) rfl) (nomark _)) (gss_cons (gs_yield (pv 1)) (gss_cons (gs_ps (ps_set (i := 1) sc_Links_walk.nd rfl (by first | exact Or.inl rfl | exact Or.inr rfl) (pe_ix ix_seq (pe_fld (pv 0) rfl) (pv 1) (fun _ _ => rfl)))) (gss_nil)))) (gss_nil)), rd_Links_walk T vs H Q E h⟩
theorem ok_Links_walk_back {f : Addr} {fd : FuncData} (T : Txt K mg) (F : FunD K "walk_back" "Links.walk_back" (defArgs s_Links_walk_back) (defBody s_Links_walk_back) (defScope s_Links_walk_back) [] [] f fd) : GFn P w K mg base 1 f fd ["self"] (sp04_Links_walk_back K) :=
  okG F sc_Links_walk_back (len_Links_walk_back K) fun cdv A outer s H vs Q E pn hr h => ⟨t_Links_walk_back K, gss_cons (gs_ps (ps_set (i := 1) sc_Links_walk_back.nd rfl (by first | exact Or.inl rfl | exact Or.inr rfl) (pe_ix ix_seq (pe_fld (pv 0) rfl) (pe_op op_addA (pe_fld (pv 0) rfl) (pe_int)) (fun _ _ => rfl)))) (gss_cons (gs_while owns_gcx (pt_cmpR op_ge (pv 1) (pe_int) (nomark _)) (gss_cons (gs_yield (pv 1)) (gss_cons (gs_ps (ps_set (i := 1) sc_Links_walk_back.nd rfl (by first | exact Or.inl rfl | exact Or.inr rfl) (pe_ix ix_seq (pe_fld (pv 0) rfl) (pv 1) (fun _ _ => rfl)))) (gss_nil)))) (gss_nil)), rd_Links_walk_back T vs H Q E h⟩
theorem ok__law_dump {f : Addr} {fd : FuncData} (T : Txt K mg) (F : FunD K "_law_dump" "_law_dump" (defArgs s__law_dump) (defBody s__law_dump) (defScope s__law_dump) [] [] f fd)  : FnOk P w K mg base (L2N.CX P w) 1 f fd ["size", "rights", "lefts", "outs"] (sp03__law_dump K) :=
  F.ok sc__law_dump (len__law_dump K) fun cdv A outer s H vs Q E hr h => ⟨t__law_dump K E, pss_cons (ps_setLc (i := 4) (own := [("node", 7)]) (g := gName 7) (tt := tB (tOp (rIx K) (tVar 3) (tVar 7))) (te := tCB rStrA (tCons (tVar 7) (tNil))) rfl sc__law_dump.nd rfl rfl (sw_true rfl rfl rfl (by decide +kernel)) (pi_range2 rfl T.b_range (pa_cons (pe_int) (pa_cons (pe_op op_addA (pv 0) (pe_int)) (pa_nil)))) (blkOk_by (own := [("node", 7)]) (N := ["size", "rights", "lefts", "outs", "gone", "first", "second", "node"]) (sc := defScope s__law_dump) (by decide +kernel)) (fun _ _ _ _ _ => pg_name (i := 7) sc__law_dump.nd rfl (by first | exact Or.inl rfl | exact Or.inr rfl)) (fun _ _ _ _ _ => pts_one (pt_val (pe_ix ix_seq (pv 3) (pv 7) (fun _ _ => rfl)))) (fun _ _ _ _ _ => pe_callTy call_strA (by rfl) T.b_str (by decide +kernel) (pa_cons (pv 7) (pa_nil)))) (pss_cons (ps_if (pt_cmpR (op_eqA hr) (pv 4) (pe_lst (pa_nil)) (nomark _)) (pss_one (ps_set (i := 4) sc__law_dump.nd rfl (by first | exact Or.inl rfl | exact Or.inr rfl) (pe_lst (pa_cons (pe_str) (pa_nil))))) (pss_nil)) (pss_cons (ps_set (i := 5) sc__law_dump.nd rfl (by first | exact Or.inl rfl | exact Or.inr rfl) (pe_joinA (pe_str) (pe_lc (own := [("node", 7)]) (g := gName 7) (tt := tYes) (te := tCB rStrA (tCons (tOp (rIx K) (tVar 1) (tVar 7)) (tNil))) rfl sc__law_dump.nd (pi_range1 rfl T.b_range (pa_cons (pe_op op_addA (pv 0) (pe_int)) (pa_nil))) (blkOk_by (own := [("node", 7)]) (N := ["size", "rights", "lefts", "outs", "gone", "first", "second", "node"]) (sc := defScope s__law_dump) (by decide +kernel)) (fun _ _ _ _ _ => pg_name (i := 7) sc__law_dump.nd rfl (by first | exact Or.inl rfl | exact Or.inr rfl)) (fun _ _ _ _ _ => pts_nil) (fun _ _ _ _ _ => pe_callTy call_strA (by rfl) T.b_str (by decide +kernel) (pa_cons (pe_ix ix_seq (pv 1) (pv 7) (fun _ _ => rfl)) (pa_nil)))))) (pss_cons (ps_set (i := 6) sc__law_dump.nd rfl (by first | exact Or.inl rfl | exact Or.inr rfl) (pe_joinA (pe_str) (pe_lc (own := [("node", 7)]) (g := gName 7) (tt := tYes) (te := tCB rStrA (tCons (tOp (rIx K) (tVar 2) (tOp rAddA (tVar 7) (tC (.int 1)))) (tNil))) rfl sc__law_dump.nd (pi_range1 rfl T.b_range (pa_cons (pe_op op_addA (pv 0) (pe_int)) (pa_nil))) (blkOk_by (own := [("node", 7)]) (N := ["size", "rights", "lefts", "outs", "gone", "first", "second", "node"]) (sc := defScope s__law_dump) (by decide +kernel)) (fun _ _ _ _ _ => pg_name (i := 7) sc__law_dump.nd rfl (by first | exact Or.inl rfl | exact Or.inr rfl)) (fun _ _ _ _ _ => pts_nil) (fun _ _ _ _ _ => pe_callTy call_strA (by rfl) T.b_str (by decide +kernel) (pa_cons (pe_ix ix_seq (pv 2) (pe_op op_addA (pv 7) (pe_int)) (fun _ _ => rfl)) (pa_nil)))))) (pss_one (ps_ret (pe_op op_addA (pe_op op_addA (pe_op op_addA (pe_op op_addA (pv 5) (pe_str)) (pv 6)) (pe_str)) (pe_joinA (pe_str) (pv 4)))))))), rd__law_dump T vs H Q E h⟩
theorem ok__law_is {f : Addr} {fd : FuncData} (T : Txt K mg) (F : FunD K "_law_is" "_law_is" (defArgs s__law_is) (defBody s__law_is) (defScope s__law_is) [] [] f fd)  : FnOk P w K mg base (L2N.CX P w) 1 f fd ["told", "due"] (sp00__law_is K) :=
  F.ok sc__law_is (len__law_is K) fun cdv A outer s H vs Q E hr h => ⟨t__law_is K E, pss_one (ps_ret (pe_and (pe_callB call_isi (by rfl) T.b_isinstance (by decide +kernel) (pa_cons (pv 0) (pa_cons (pe_ty "int" T.b_int (by decide +kernel)) (pa_nil)))) (pe_and (pe_not (pe_callB call_isi (by rfl) T.b_isinstance (by decide +kernel) (pa_cons (pv 0) (pa_cons (pe_ty "bool" T.b_bool (by decide +kernel)) (pa_nil))))) (pe_one (pe_cmpR (op_eqA hr) (pv 0) (pv 1) (nomark _)))))), rd__law_is T vs H Q E h⟩
theorem ok__law_integers {f : Addr} {fd : FuncData} (T : Txt K mg) (F : FunD K "_law_integers" "_law_integers" (defArgs s__law_integers) (defBody s__law_integers) (defScope s__law_integers) [] [] f fd) (c__law_is : Cal P w K mg base 1 "_law_is" ["told", "due"] (sp00__law_is K)) : FnOk P w K mg base (L2N.CX P w) 2 f fd ["told", "due"] (sp00__law_integers K) :=
  F.ok sc__law_integers (len__law_integers K) fun cdv A outer s H vs Q E hr h => ⟨t__law_integers K E, pss_cons (ps_if ((pw_or (pt_not (pt_val (pe_callB call_isi (by rfl) T.b_isinstance (by decide +kernel) (pa_cons (pv 0) (pa_cons (pe_ty "list" T.b_list (by decide +kernel)) (pa_nil)))))) (pw_or1 (pt_cmpR (op_neA hr) (pe_callB call_lenA (by rfl) T.b_len (by decide +kernel) (pa_cons (pv 0) (pa_nil))) (pe_callB call_lenA (by rfl) T.b_len (by decide +kernel) (pa_cons (pv 1) (pa_nil))) (nomark _)))).pt) (pss_one (ps_ret (pe_bl))) (pss_nil)) (pss_cons (ps_for (passes_of rfl) rfl (pi_range1 rfl T.b_range (pa_cons (pe_callB call_lenA (by rfl) T.b_len (by decide +kernel) (pa_cons (pv 1) (pa_nil))) (pa_nil))) (pg_name (i := 2) sc__law_integers.nd rfl (by first | exact Or.inl rfl | exact Or.inr rfl)) (pss_one (ps_if (pt_not (pt_val (pe_cl c__law_is hr (by decide) (pat_of (W := fun cls d _ H => E cls d H) (L2N.takes_of rfl rfl rfl rfl)) (pa_cons (pe_ix ix_seq (pv 0) (pv 2) (fun _ _ => rfl)) (pa_cons (pe_ix ix_seq (pv 1) (pv 2) (fun _ _ => rfl)) (pa_nil)))))) (pss_one (ps_ret (pe_bl))) (pss_nil)))) (pss_one (ps_ret (pe_bl)))), rd__law_integers T vs H Q E h⟩
theorem ok_Links___contains__ {f : Addr} {fd : FuncData} (T : Txt K mg) (F : FunD K "__contains__" "Links.__contains__" (defArgs s_Links___contains__) (defBody s_Links___contains__) (defScope s_Links___contains__) [] [] f fd)  : FnOk P w K mg base (L2N.CX P w) 1 f fd ["self", "node"] (sp04_Links___contains__ K) :=
  F.ok sc_Links___contains__ (len_Links___contains__ K) fun cdv A outer s H vs Q E hr h => ⟨t_Links___contains__ K E, pss_one (ps_ret (pe_and (pe_chain op_le op_le (pe_int) (pv 1) (pe_fld (pv 0) rfl)) (pe_one (pe_not (pe_ix ix_seq (pe_fld (pv 0) rfl) (pv 1) (fun _ _ => rfl)))))), rd_Links___contains__ T vs H Q E h⟩
theorem ok__law_outs_right {f : Addr} {fd : FuncData} (T : Txt K mg) (F : FunD K "_law_outs_right" "_law_outs_right" (defArgs s__law_outs_right) (defBody s__law_outs_right) (defScope s__law_outs_right) [] [] f fd) (c_Links___contains__ : Met P w K mg base 1 (He.ga K "Links") "__contains__" ["self", "node"] (sp04_Links___contains__ K)) (c_Links_outs : Met P w K mg base 1 (He.ga K "Links") "outs" ["self"] (sp_Links_outs K)) (c__law_integers : Cal P w K mg base 2 "_law_integers" ["told", "due"] (sp00__law_integers K)) : FnOk P w K mg base (L2N.CX P w) 3 f fd ["links", "size", "outs"] (sp04__law_outs_right K) :=
  F.ok sc__law_outs_right (len__law_outs_right K) fun cdv A outer s H vs Q E hr h => ⟨t__law_outs_right K E, pss_cons (ps_setLc (i := 3) (own := [("node", 5)]) (g := gName 5) (tt := tB (tOp (rIx K) (tVar 2) (tVar 5))) (te := tVar 5) rfl sc__law_outs_right.nd rfl rfl (sw_true rfl rfl rfl (by decide +kernel)) (pi_range2 rfl T.b_range (pa_cons (pe_int) (pa_cons (pe_op op_addA (pv 1) (pe_int)) (pa_nil)))) (blkOk_by (own := [("node", 5)]) (N := ["links", "size", "outs", "due", "told", "node"]) (sc := defScope s__law_outs_right) (by decide +kernel)) (fun _ _ _ _ _ => pg_name (i := 5) sc__law_outs_right.nd rfl (by first | exact Or.inl rfl | exact Or.inr rfl)) (fun _ _ _ _ _ => pts_one (pt_val (pe_ix ix_seq (pv 2) (pv 5) (fun _ _ => rfl)))) (fun _ _ _ _ _ => pv 5)) (pss_cons (ps_set (i := 4) sc__law_outs_right.nd rfl (by first | exact Or.inl rfl | exact Or.inr rfl) (pe_mt0 c_Links_outs T.cl_Links hr (by decide) (pat_of (W := fun cls d _ H => E cls d H) (L2N.takes_of rfl rfl rfl rfl)) (pv 0))) (pss_cons (ps_if (pt_not (pt_val (pe_cl c__law_integers hr (by decide) (pat_of (W := fun cls d _ H => E cls d H) (L2N.takes_of rfl rfl rfl rfl)) (pa_cons (pv 4) (pa_cons (pv 3) (pa_nil)))))) (pss_one (ps_ret (pe_bl))) (pss_nil)) (pss_cons (ps_expr (pe_bm PySem.F.plainAttrs_list PySem.F.slot_list_append PySem.F.type_list_append mt_append (pv 4) (pa_cons (pe_op op_addA (pv 1) (pe_int)) (pa_nil)))) (pss_cons (ps_expr (pe_bm0 PySem.F.plainAttrs_list PySem.F.slot_list_reverse PySem.F.type_list_reverse mt_reverse (pv 4))) (pss_cons (ps_if (pt_not (pt_val (pe_cl c__law_integers hr (by decide) (pat_of (W := fun cls d _ H => E cls d H) (L2N.takes_of rfl rfl rfl rfl)) (pa_cons (pe_mt0 c_Links_outs T.cl_Links hr (by decide) (pat_of (W := fun cls d _ H => E cls d H) (L2N.takes_of rfl rfl rfl rfl)) (pv 0)) (pa_cons (pv 3) (pa_nil)))))) (pss_one (ps_ret (pe_bl))) (pss_nil)) (pss_cons (ps_for (passes_of rfl) rfl (pi_range2 rfl T.b_range (pa_cons (pe_int) (pa_cons (pe_op op_addA (pv 1) (pe_int)) (pa_nil)))) (pg_name (i := 5) sc__law_outs_right.nd rfl (by first | exact Or.inl rfl | exact Or.inr rfl)) (pss_one (ps_if (pt_cmpR (op_eqA hr) (pe_cmpR (op_inO c_Links___contains__ hr (by decide) (pat_of (W := fun cls d _ H => E cls d H) (L2N.takes_of rfl rfl rfl rfl))) (pv 5) (pv 0) (rfl)) (pe_ix ix_seq (pv 2) (pv 5) (fun _ _ => rfl)) (nomark _)) (pss_one (ps_ret (pe_bl))) (pss_nil)))) (pss_cons (ps_for (passes_of rfl) rfl (pi_list (pe_lst (pa_cons (pe_int) (pa_cons (pe_un un_neg (pe_int)) (pa_cons (pe_un un_neg (pv 1)) (pa_cons (pe_op op_sub (pe_un un_neg (pv 1)) (pe_int)) (pa_cons (pe_op op_addA (pv 1) (pe_int)) (pa_cons (pe_op op_addA (pv 1) (pe_int)) (pa_cons (pe_op op_addA (pe_op op_mulA (pe_int) (pv 1)) (pe_int)) (pa_nil)))))))))) (pg_name (i := 5) sc__law_outs_right.nd rfl (by first | exact Or.inl rfl | exact Or.inr rfl)) (pss_one (ps_if (pt_cmpR (op_inO c_Links___contains__ hr (by decide) (pat_of (W := fun cls d _ H => E cls d H) (L2N.takes_of rfl rfl rfl rfl))) (pv 5) (pv 0) (rfl)) (pss_one (ps_ret (pe_bl))) (pss_nil)))) (pss_one (ps_ret (pe_bl)))))))))), rd__law_outs_right T vs H Q E h⟩
theorem ok__law_sound {f : Addr} {fd : FuncData} (T : Txt K mg) (F : FunD K "_law_sound" "_law_sound" (defArgs s__law_sound) (defBody s__law_sound) (defScope s__law_sound) [] [] f fd)  : FnOk P w K mg base (L2N.CX P w) 1 f fd ["size", "rights", "lefts", "outs"] (sp04__law_sound K) :=
  F.ok sc__law_sound (len__law_sound K) fun cdv A outer s H vs Q E hr h => ⟨t__law_sound K E, pss_cons (ps_set (i := 4) sc__law_sound.nd rfl (by first | exact Or.inl rfl | exact Or.inr rfl) (pe_int)) (pss_cons (ps_for (passes_of rfl) rfl (pi_range2 rfl T.b_range (pa_cons (pe_int) (pa_cons (pe_op op_addA (pv 0) (pe_int)) (pa_nil)))) (pg_name (i := 5) sc__law_sound.nd rfl (by first | exact Or.inl rfl | exact Or.inr rfl)) (pss_one (ps_if (pt_not (pt_val (pe_ix ix_seq (pv 3) (pv 5) (fun _ _ => rfl)))) (pss_cons (ps_if ((pw_or (pt_cmpR (op_neA hr) (pe_ix ix_seq (pv 1) (pv 4) (fun _ _ => rfl)) (pv 5) (nomark _)) (pw_or1 (pt_cmpR (op_neA hr) (pe_ix ix_seq (pv 2) (pv 5) (fun _ _ => rfl)) (pv 4) (nomark _)))).pt) (pss_one (ps_ret (pe_bl))) (pss_nil)) (pss_one (ps_set (i := 4) sc__law_sound.nd rfl (by first | exact Or.inl rfl | exact Or.inr rfl) (pv 5)))) (pss_nil)))) (pss_one (ps_ret (pe_bl)))), rd__law_sound T vs H Q E h⟩
theorem ok__law_walked {f : Addr} {fd : FuncData} (T : Txt K mg) (F : FunD K "_law_walked" "_law_walked" (defArgs s__law_walked) (defBody s__law_walked) (defScope s__law_walked) [] [] f fd)  : FnOk P w K mg base (L2N.CX P w) 1 f fd ["size", "rights"] (sp04__law_walked K) :=
  F.ok sc__law_walked (len__law_walked K) fun cdv A outer s H vs Q E hr h => ⟨t__law_walked K E, pss_cons (ps_set (i := 2) sc__law_walked.nd rfl (by first | exact Or.inl rfl | exact Or.inr rfl) (pe_lst (pa_nil))) (pss_cons (ps_set (i := 3) sc__law_walked.nd rfl (by first | exact Or.inl rfl | exact Or.inr rfl) (pe_ix ix_seq (pv 1) (pe_int) (fun _ _ => rfl))) (pss_cons (ps_for (passes_of rfl) rfl (pi_range1 rfl T.b_range (pa_cons (pe_op op_addA (pv 0) (pe_int)) (pa_nil))) (pg_name (i := 4) sc__law_walked.nd rfl (by first | exact Or.inl rfl | exact Or.inr rfl)) (pss_cons (ps_if (pt_cmpR (op_eqA hr) (pv 3) (pe_op op_addA (pv 0) (pe_int)) (nomark _)) (pss_one (ps_break)) (pss_nil)) (pss_cons (ps_expr (pe_bm PySem.F.plainAttrs_list PySem.F.slot_list_append PySem.F.type_list_append mt_append (pv 2) (pa_cons (pv 3) (pa_nil)))) (pss_one (ps_set (i := 3) sc__law_walked.nd rfl (by first | exact Or.inl rfl | exact Or.inr rfl) (pe_ix ix_seq (pv 1) (pv 3) (fun _ _ => rfl))))))) (pss_one (ps_ret (pv 2))))), rd__law_walked T vs H Q E h⟩
theorem ok__law_walked_back {f : Addr} {fd : FuncData} (T : Txt K mg) (F : FunD K "_law_walked_back" "_law_walked_back" (defArgs s__law_walked_back) (defBody s__law_walked_back) (defScope s__law_walked_back) [] [] f fd)  : FnOk P w K mg base (L2N.CX P w) 1 f fd ["size", "lefts"] (sp04__law_walked_back K) :=
  F.ok sc__law_walked_back (len__law_walked_back K) fun cdv A outer s H vs Q E hr h => ⟨t__law_walked_back K E, pss_cons (ps_set (i := 2) sc__law_walked_back.nd rfl (by first | exact Or.inl rfl | exact Or.inr rfl) (pe_lst (pa_nil))) (pss_cons (ps_set (i := 3) sc__law_walked_back.nd rfl (by first | exact Or.inl rfl | exact Or.inr rfl) (pe_ix ix_seq (pv 1) (pe_op op_addA (pv 0) (pe_int)) (fun _ _ => rfl))) (pss_cons (ps_for (passes_of rfl) rfl (pi_range1 rfl T.b_range (pa_cons (pe_op op_addA (pv 0) (pe_int)) (pa_nil))) (pg_name (i := 4) sc__law_walked_back.nd rfl (by first | exact Or.inl rfl | exact Or.inr rfl)) (pss_cons (ps_if (pt_cmpR (op_eqA hr) (pv 3) (pe_int) (nomark _)) (pss_one (ps_break)) (pss_nil)) (pss_cons (ps_expr (pe_bm PySem.F.plainAttrs_list PySem.F.slot_list_append PySem.F.type_list_append mt_append (pv 2) (pa_cons (pv 3) (pa_nil)))) (pss_one (ps_set (i := 3) sc__law_walked_back.nd rfl (by first | exact Or.inl rfl | exact Or.inr rfl) (pe_ix ix_seq (pv 1) (pv 3) (fun _ _ => rfl))))))) (pss_one (ps_ret (pv 2))))), rd__law_walked_back T vs H Q E h⟩
theorem ok__law_whole {f : Addr} {fd : FuncData} (T : Txt K mg) (F : FunD K "_law_whole" "_law_whole" (defArgs s__law_whole) (defBody s__law_whole) (defScope s__law_whole) [] [] f fd)  : FnOk P w K mg base (L2N.CX P w) 1 f fd ["size", "rights", "lefts", "outs"] (sp04__law_whole K) :=
  F.ok sc__law_whole (len__law_whole K) fun cdv A outer s H vs Q E hr h => ⟨t__law_whole K E, pss_cons (ps_for (passes_of rfl) rfl (pi_range1 rfl T.b_range (pa_cons (pe_op op_addA (pv 0) (pe_int)) (pa_nil))) (pg_name (i := 4) sc__law_whole.nd rfl (by first | exact Or.inl rfl | exact Or.inr rfl)) (pss_one (ps_if ((pw_or (pt_val (pe_ix ix_seq (pv 3) (pv 4) (fun _ _ => rfl))) (pw_or (pt_cmpR (op_neA hr) (pe_ix ix_seq (pv 1) (pv 4) (fun _ _ => rfl)) (pe_op op_addA (pv 4) (pe_int)) (nomark _)) (pw_or1 (pt_cmpR (op_neA hr) (pe_ix ix_seq (pv 2) (pe_op op_addA (pv 4) (pe_int)) (fun _ _ => rfl)) (pv 4) (nomark _))))).pt) (pss_one (ps_ret (pe_bl))) (pss_nil)))) (pss_one (ps_ret (pe_bl))), rd__law_whole T vs H Q E h⟩
theorem ok__law_asked_right {f : Addr} {fd : FuncData} (T : Txt K mg) (F : FunD K "_law_asked_right" "_law_asked_right" (defArgs s__law_asked_right) (defBody s__law_asked_right) (defScope s__law_asked_right) [] [] f fd) (c_Links_dump : Met P w K mg base 3 (He.ga K "Links") "dump" ["self"] (sp_Links_dump K)) (c_Links_is_sound : Met P w K mg base 1 (He.ga K "Links") "is_sound" ["self"] (sp04_Links_is_sound K)) (c_Links_is_whole : Met P w K mg base 6 (He.ga K "Links") "is_whole" ["self"] (sp04_Links_is_whole K)) (c_Links_walk : MetG P w K mg base 1 (He.ga K "Links") "walk" ["self"] (sp04_Links_walk K)) (c_Links_walk_back : MetG P w K mg base 1 (He.ga K "Links") "walk_back" ["self"] (sp04_Links_walk_back K)) (c__law_dump : Cal P w K mg base 1 "_law_dump" ["size", "rights", "lefts", "outs"] (sp03__law_dump K)) (c__law_integers : Cal P w K mg base 2 "_law_integers" ["told", "due"] (sp00__law_integers K)) (c__law_outs_right : Cal P w K mg base 3 "_law_outs_right" ["links", "size", "outs"] (sp04__law_outs_right K)) (c__law_sound : Cal P w K mg base 1 "_law_sound" ["size", "rights", "lefts", "outs"] (sp04__law_sound K)) (c__law_walked : Cal P w K mg base 1 "_law_walked" ["size", "rights"] (sp04__law_walked K)) (c__law_walked_back : Cal P w K mg base 1 "_law_walked_back" ["size", "lefts"] (sp04__law_walked_back K)) (c__law_whole : Cal P w K mg base 1 "_law_whole" ["size", "rights", "lefts", "outs"] (sp04__law_whole K)) : FnOk P w K mg base (L2N.CX P w) 7 f fd ["links", "size", "rights", "lefts", "outs"] (sp04__law_asked_right K) :=
  F.ok sc__law_asked_right (len__law_asked_right K) fun cdv A outer s H vs Q E hr h => ⟨t__law_asked_right K E, pss_cons (ps_if (pt_not (pt_val (pe_cl c__law_integers hr (by decide) (pat_of (W := fun cls d _ H => E cls d H) (L2N.takes_of rfl rfl rfl rfl)) (pa_cons (pe_listMG c_Links_walk T.cl_Links hr (by decide) rfl T.b_list (pv 0)) (pa_cons (pe_cl c__law_walked hr (by decide) (pat_of (W := fun cls d _ H => E cls d H) (L2N.takes_of rfl rfl rfl rfl)) (pa_cons (pv 1) (pa_cons (pv 2) (pa_nil)))) (pa_nil)))))) (pss_one (ps_ret (pe_bl))) (pss_nil)) (pss_cons (ps_if (pt_not (pt_val (pe_cl c__law_integers hr (by decide) (pat_of (W := fun cls d _ H => E cls d H) (L2N.takes_of rfl rfl rfl rfl)) (pa_cons (pe_listMG c_Links_walk_back T.cl_Links hr (by decide) rfl T.b_list (pv 0)) (pa_cons (pe_cl c__law_walked_back hr (by decide) (pat_of (W := fun cls d _ H => E cls d H) (L2N.takes_of rfl rfl rfl rfl)) (pa_cons (pv 1) (pa_cons (pv 3) (pa_nil)))) (pa_nil)))))) (pss_one (ps_ret (pe_bl))) (pss_nil)) (pss_cons (ps_set (i := 5) sc__law_asked_right.nd rfl (by first | exact Or.inl rfl | exact Or.inr rfl) (pe_mt0 c_Links_is_sound T.cl_Links hr (by decide) (pat_of (W := fun cls d _ H => E cls d H) (L2N.takes_of rfl rfl rfl rfl)) (pv 0))) (pss_cons (ps_if ((pw_or (pt_not (pt_val (pe_callB call_isi (by rfl) T.b_isinstance (by decide +kernel) (pa_cons (pv 5) (pa_cons (pe_ty "bool" T.b_bool (by decide +kernel)) (pa_nil)))))) (pw_or1 (pt_cmpR (op_neA hr) (pv 5) (pe_cl c__law_sound hr (by decide) (pat_of (W := fun cls d _ H => E cls d H) (L2N.takes_of rfl rfl rfl rfl)) (pa_cons (pv 1) (pa_cons (pv 2) (pa_cons (pv 3) (pa_cons (pv 4) (pa_nil)))))) (nomark _)))).pt) (pss_one (ps_ret (pe_bl))) (pss_nil)) (pss_cons (ps_set (i := 6) sc__law_asked_right.nd rfl (by first | exact Or.inl rfl | exact Or.inr rfl) (pe_mt0 c_Links_is_whole T.cl_Links hr (by decide) (pat_of (W := fun cls d _ H => E cls d H) (L2N.takes_of rfl rfl rfl rfl)) (pv 0))) (pss_cons (ps_if ((pw_or (pt_not (pt_val (pe_callB call_isi (by rfl) T.b_isinstance (by decide +kernel) (pa_cons (pv 6) (pa_cons (pe_ty "bool" T.b_bool (by decide +kernel)) (pa_nil)))))) (pw_or1 (pt_cmpR (op_neA hr) (pv 6) (pe_cl c__law_whole hr (by decide) (pat_of (W := fun cls d _ H => E cls d H) (L2N.takes_of rfl rfl rfl rfl)) (pa_cons (pv 1) (pa_cons (pv 2) (pa_cons (pv 3) (pa_cons (pv 4) (pa_nil)))))) (nomark _)))).pt) (pss_one (ps_ret (pe_bl))) (pss_nil)) (pss_one (ps_ret (pe_and (pe_cl c__law_outs_right hr (by decide) (pat_of (W := fun cls d _ H => E cls d H) (L2N.takes_of rfl rfl rfl rfl)) (pa_cons (pv 0) (pa_cons (pv 1) (pa_cons (pv 4) (pa_nil))))) (pe_one (pe_cmpR (op_eqA hr) (pe_mt0 c_Links_dump T.cl_Links hr (by decide) (pat_of (W := fun cls d _ H => E cls d H) (L2N.takes_of rfl rfl rfl rfl)) (pv 0)) (pe_cl c__law_dump hr (by decide) (pat_of (W := fun cls d _ H => E cls d H) (L2N.takes_of rfl rfl rfl rfl)) (pa_cons (pv 1) (pa_cons (pv 2) (pa_cons (pv 3) (pa_cons (pv 4) (pa_nil)))))) (nomark _))))))))))), rd__law_asked_right T vs H Q E h⟩
theorem ok__law_box {f : Addr} {fd : FuncData} (T : Txt K mg) (F : FunD K "_law_box" "_law_box" (defArgs s__law_box) (defBody s__law_box) (defScope s__law_box) [] [] f fd)  : FnOk P w K mg base (L2N.CX P w) 1 f fd ["script"] (sp00__law_box K) :=
  F.ok sc__law_box (len__law_box K) fun cdv A outer s H vs Q E hr h => ⟨t__law_box K E, pss_one (ps_ret (pe_lst (pa_cons (pe_callTy call_listA (by rfl) T.b_list (by decide +kernel) (pa_cons (pe_slice sl_list (pv 0) (po_none) (po_some (pe_int))) (pa_nil))) (pa_cons (pe_int) (pa_cons (pe_int) (pa_cons (pe_int) (pa_cons (pe_int) (pa_nil)))))))), rd__law_box T vs H Q E h⟩
theorem ok__law_draw {f : Addr} {fd : FuncData} (T : Txt K mg) (F : FunD K "_law_draw" "_law_draw" (defArgs s__law_draw) (defBody s__law_draw) (defScope s__law_draw) [] [] f fd)  : FnOk P w K mg base (L2N.CX P w) 1 f fd ["box", "many"] (sp00__law_draw K) :=
  F.ok sc__law_draw (len__law_draw K) fun cdv A outer s H vs Q E hr h => ⟨t__law_draw K E, pss_cons (ps_if ((pw_and (pt_cmpR (op_eqA hr) (pe_ix ix_seq (pv 0) (pe_int) (fun _ _ => rfl)) (pe_int) (nomark _)) (pw_and1 (pt_cmpR op_lt (pe_ix ix_seq (pv 0) (pe_int) (fun _ _ => rfl)) (pe_callB call_lenA (by rfl) T.b_len (by decide +kernel) (pa_cons (pe_ix ix_seq (pv 0) (pe_int) (fun _ _ => rfl)) (pa_nil))) (nomark _)))).pt) (pss_cons (ps_set (i := 2) sc__law_draw.nd rfl (by first | exact Or.inl rfl | exact Or.inr rfl) (pe_ix ix_seq (pe_ix ix_seq (pv 0) (pe_int) (fun _ _ => rfl)) (pe_ix ix_seq (pv 0) (pe_int) (fun _ _ => rfl)) (fun _ _ => rfl))) (pss_cons (ps_asg (pe_op op_addA (pe_ix ix_seq (pv 0) (pe_int) (fun _ _ => rfl)) (pe_int)) (pg_sub (pv 0) (pe_int) set_list)) (pss_one (ps_if (pt_cmpR op_ge (pv 2) (pe_op op_pow (pe_int) (pe_int)) (nomark _)) (pss_one (ps_asg (pv 2) (pg_sub (pv 0) (pe_int) set_list))) (pss_one (ps_asg (pe_op op_mod (pe_callTy call_intA (by rfl) T.b_int (by decide +kernel) (pa_cons (pe_op op_addA (pe_op op_addA (pe_op op_mulA (pe_ix ix_seq (pv 0) (pe_int) (fun _ _ => rfl)) (pe_int)) (pe_op op_mulA (pv 2) (pe_int))) (pe_int)) (pa_nil))) (pe_int)) (pg_sub (pv 0) (pe_int) set_list))))))) (pss_nil)) (pss_cons (ps_if (pt_cmpR op_gt (pe_ix ix_seq (pv 0) (pe_int) (fun _ _ => rfl)) (pe_int) (nomark _)) (pss_cons (ps_set (i := 3) sc__law_draw.nd rfl (by first | exact Or.inl rfl | exact Or.inr rfl) (pe_op op_mod (pe_callTy call_intA (by rfl) T.b_int (by decide +kernel) (pa_cons (pe_ix ix_seq (pv 0) (pe_int) (fun _ _ => rfl)) (pa_nil))) (pv 1))) (pss_cons (ps_asg (pe_op op_fdiv (pe_ix ix_seq (pv 0) (pe_int) (fun _ _ => rfl)) (pv 1)) (pg_sub (pv 0) (pe_int) set_list)) (pss_one (ps_ret (pv 3))))) (pss_nil)) (pss_cons (ps_asg (pe_op op_addA (pe_ix ix_seq (pv 0) (pe_int) (fun _ _ => rfl)) (pe_int)) (pg_sub (pv 0) (pe_int) set_list)) (pss_cons (ps_asg (pe_op op_mod (pe_callTy call_intA (by rfl) T.b_int (by decide +kernel) (pa_cons (pe_op op_addA (pe_op op_mulA (pe_ix ix_seq (pv 0) (pe_int) (fun _ _ => rfl)) (pe_int)) (pe_op op_mulA (pe_ix ix_seq (pv 0) (pe_int) (fun _ _ => rfl)) (pe_int))) (pa_nil))) (pe_int)) (pg_sub (pv 0) (pe_int) set_list)) (pss_cons (ps_set (i := 4) sc__law_draw.nd rfl (by first | exact Or.inl rfl | exact Or.inr rfl) (pe_op op_mod (pe_callTy call_intA (by rfl) T.b_int (by decide +kernel) (pa_cons (pe_op op_addA (pe_op op_addA (pe_op op_mulA (pe_op op_fdiv (pe_ix ix_seq (pv 0) (pe_int) (fun _ _ => rfl)) (pe_int)) (pe_int)) (pe_ix ix_seq (pv 0) (pe_int) (fun _ _ => rfl))) (pe_ix ix_seq (pv 0) (pe_int) (fun _ _ => rfl))) (pa_nil))) (pe_int))) (pss_one (ps_ret (pe_op op_mod (pe_callTy call_intA (by rfl) T.b_int (by decide +kernel) (pa_cons (pe_op op_fdiv (pv 4) (pe_int)) (pa_nil))) (pv 1)))))))), rd__law_draw T vs H Q E h⟩
theorem ok__law_opposite {f : Addr} {fd : FuncData} (T : Txt K mg) (F : FunD K "_law_opposite" "_law_opposite" (defArgs s__law_opposite) (defBody s__law_opposite) (defScope s__law_opposite) [] [] f fd)  : FnOk P w K mg base (L2N.CX P w) 1 f fd ["size", "operation"] (sp04__law_opposite K) :=
  F.ok sc__law_opposite (len__law_opposite K) fun cdv A outer s H vs Q E hr h => ⟨t__law_opposite K E, pss_cons (ps_if (pt_cmpR op_lt (pv 1) (pe_int) (nomark _)) (pss_one (ps_ret (pe_un un_neg (pe_op op_addA (pe_op op_addA (pv 0) (pe_int)) (pv 1))))) (pss_nil)) (pss_one (ps_ret (pe_op op_sub (pe_op op_addA (pv 0) (pe_int)) (pv 1)))), rd__law_opposite T vs H Q E h⟩
theorem ok__law_turned {f : Addr} {fd : FuncData} (T : Txt K mg) (F : FunD K "_law_turned" "_law_turned" (defArgs s__law_turned) (defBody s__law_turned) (defScope s__law_turned) [] [] f fd)  : FnOk P w K mg base (L2N.CX P w) 1 f fd ["size", "world"] (sp04__law_turned K) :=
  F.ok sc__law_turned (len__law_turned K) fun cdv A outer s H vs Q E hr h => ⟨t__law_turned K E, pss_cons (ps_setLc (i := 2) (own := [("node", 5)]) (g := gName 5) (tt := tYes) (te := tOp rSubA (tOp rAddA (tVar 0) (tC (.int 1))) (tOp (rIx K) (tOp (rIx K) (tVar 1) (tC (.int 1))) (tOp rSubA (tOp rAddA (tVar 0) (tC (.int 1))) (tVar 5)))) rfl sc__law_turned.nd rfl rfl (sw_true rfl rfl rfl (by decide +kernel)) (pi_range1 rfl T.b_range (pa_cons (pe_op op_addA (pv 0) (pe_int)) (pa_nil))) (blkOk_by (own := [("node", 5)]) (N := ["size", "world", "rights", "lefts", "outs", "node"]) (sc := defScope s__law_turned) (by decide +kernel)) (fun _ _ _ _ _ => pg_name (i := 5) sc__law_turned.nd rfl (by first | exact Or.inl rfl | exact Or.inr rfl)) (fun _ _ _ _ _ => pts_nil) (fun _ _ _ _ _ => pe_op op_sub (pe_op op_addA (pv 0) (pe_int)) (pe_ix ix_seq (pe_ix ix_seq (pv 1) (pe_int) (fun _ _ => rfl)) (pe_op op_sub (pe_op op_addA (pv 0) (pe_int)) (pv 5)) (fun _ _ => rfl)))) (pss_cons (ps_set (i := 3) sc__law_turned.nd rfl (by first | exact Or.inl rfl | exact Or.inr rfl) (pe_op op_addA (pe_lst (pa_cons (pe_un un_neg (pe_int)) (pa_nil))) (pe_lc (own := [("node", 5)]) (g := gName 5) (tt := tYes) (te := tOp rSubA (tOp rAddA (tVar 0) (tC (.int 1))) (tOp (rIx K) (tOp (rIx K) (tVar 1) (tC (.int 0))) (tOp rSubA (tVar 0) (tVar 5)))) rfl sc__law_turned.nd (pi_range1 rfl T.b_range (pa_cons (pe_op op_addA (pv 0) (pe_int)) (pa_nil))) (blkOk_by (own := [("node", 5)]) (N := ["size", "world", "rights", "lefts", "outs", "node"]) (sc := defScope s__law_turned) (by decide +kernel)) (fun _ _ _ _ _ => pg_name (i := 5) sc__law_turned.nd rfl (by first | exact Or.inl rfl | exact Or.inr rfl)) (fun _ _ _ _ _ => pts_nil) (fun _ _ _ _ _ => pe_op op_sub (pe_op op_addA (pv 0) (pe_int)) (pe_ix ix_seq (pe_ix ix_seq (pv 1) (pe_int) (fun _ _ => rfl)) (pe_op op_sub (pv 0) (pv 5)) (fun _ _ => rfl)))))) (pss_cons (ps_setLc (i := 4) (own := [("node", 5)]) (g := gName 5) (tt := tYes) (te := tOp (rIx K) (tOp (rIx K) (tVar 1) (tC (.int 2))) (tOp rSubA (tOp rAddA (tVar 0) (tC (.int 1))) (tVar 5))) rfl sc__law_turned.nd rfl rfl (sw_true rfl rfl rfl (by decide +kernel)) (pi_range1 rfl T.b_range (pa_cons (pe_op op_addA (pv 0) (pe_int)) (pa_nil))) (blkOk_by (own := [("node", 5)]) (N := ["size", "world", "rights", "lefts", "outs", "node"]) (sc := defScope s__law_turned) (by decide +kernel)) (fun _ _ _ _ _ => pg_name (i := 5) sc__law_turned.nd rfl (by first | exact Or.inl rfl | exact Or.inr rfl)) (fun _ _ _ _ _ => pts_nil) (fun _ _ _ _ _ => pe_ix ix_seq (pe_ix ix_seq (pv 1) (pe_int) (fun _ _ => rfl)) (pe_op op_sub (pe_op op_addA (pv 0) (pe_int)) (pv 5)) (fun _ _ => rfl))) (pss_one (ps_ret (pe_lst (pa_cons (pv 2) (pa_cons (pv 3) (pa_cons (pv 4) (pa_nil))))))))), rd__law_turned T vs H Q E h⟩
theorem ok__law_write {f : Addr} {fd : FuncData} (T : Txt K mg) (F : FunD K "_law_write" "_law_write" (defArgs s__law_write) (defBody s__law_write) (defScope s__law_write) [] [] f fd)  : FnOk P w K mg base (L2N.CX P w) 1 f fd ["rights", "lefts", "outs", "operation"] (sp02__law_write K) :=
  F.ok sc__law_write (len__law_write K) fun cdv A outer s H vs Q E hr h => ⟨t__law_write K E, pss_cons (ps_set (i := 4) sc__law_write.nd rfl (by first | exact Or.inl rfl | exact Or.inr rfl) (pe_callB call_absA (by rfl) T.b_abs (by decide +kernel) (pa_cons (pv 3) (pa_nil)))) (pss_cons (ps_set (i := 5) sc__law_write.nd rfl (by first | exact Or.inl rfl | exact Or.inr rfl) (pe_ix ix_seq (pv 1) (pv 4) (fun _ _ => rfl))) (pss_cons (ps_set (i := 6) sc__law_write.nd rfl (by first | exact Or.inl rfl | exact Or.inr rfl) (pe_ix ix_seq (pv 0) (pv 4) (fun _ _ => rfl))) (pss_cons (ps_asg (pe_cmpR op_lt (pv 3) (pe_int) (nomark _)) (pg_sub (pv 2) (pv 4) set_list)) (pss_one (ps_if (pt_cmpR op_lt (pv 3) (pe_int) (nomark _)) (pss_cons (ps_asg (pv 6) (pg_sub (pv 0) (pv 5) set_list)) (pss_one (ps_asg (pv 5) (pg_sub (pv 1) (pv 6) set_list)))) (pss_cons (ps_asg (pv 4) (pg_sub (pv 0) (pv 5) set_list)) (pss_one (ps_asg (pv 4) (pg_sub (pv 1) (pv 6) set_list))))))))), rd__law_write T vs H Q E h⟩
theorem ok_Links_left {f : Addr} {fd : FuncData} (T : Txt K mg) (F : FunD K "left" "Links.left" (defArgs s_Links_left) (defBody s_Links_left) (defScope s_Links_left) [] [] f fd) (x_BadNode : ExM P w K mg base 1 "BadNode" (He.ga K "BadNode") ["node"]) : FnOk P w K mg base (L2N.CX P w) 3 f fd ["self", "node"] (sp02_Links_left K) :=
  F.ok sc_Links_left (len_Links_left K) fun cdv A outer s H vs Q E hr h => ⟨t_Links_left K E, pss_cons (ps_if (pt_not (pt_chain op_le op_le (pe_int) (pv 1) (pe_op op_addA (pe_fld (pv 0) rfl) (pe_int)))) (pss_one (ps_rz x_BadNode rfl (L2N.takes_of rfl rfl rfl rfl) hr (by decide) (pa_cons (pv 1) (pa_nil)))) (pss_nil)) (pss_one (ps_ret (pe_ix ix_seq (pe_fld (pv 0) rfl) (pv 1) (fun _ _ => rfl)))), rd_Links_left T vs H Q E h⟩
theorem ok_Links_right {f : Addr} {fd : FuncData} (T : Txt K mg) (F : FunD K "right" "Links.right" (defArgs s_Links_right) (defBody s_Links_right) (defScope s_Links_right) [] [] f fd) (x_BadNode : ExM P w K mg base 1 "BadNode" (He.ga K "BadNode") ["node"]) : FnOk P w K mg base (L2N.CX P w) 3 f fd ["self", "node"] (sp02_Links_right K) :=
  F.ok sc_Links_right (len_Links_right K) fun cdv A outer s H vs Q E hr h => ⟨t_Links_right K E, pss_cons (ps_if (pt_not (pt_chain op_le op_le (pe_int) (pv 1) (pe_fld (pv 0) rfl))) (pss_one (ps_rz x_BadNode rfl (L2N.takes_of rfl rfl rfl rfl) hr (by decide) (pa_cons (pv 1) (pa_nil)))) (pss_nil)) (pss_one (ps_ret (pe_ix ix_seq (pe_fld (pv 0) rfl) (pv 1) (fun _ _ => rfl)))), rd_Links_right T vs H Q E h⟩
theorem ok_mirrored {f : Addr} {fd : FuncData} (T : Txt K mg) (F : FunD K "mirrored" "mirrored" (defArgs s_mirrored) (defBody s_mirrored) (defScope s_mirrored) [] [] f fd) (c_Links_left : Met P w K mg base 3 (He.ga K "Links") "left" ["self", "node"] (sp02_Links_left K)) (c_Links_outs : Met P w K mg base 1 (He.ga K "Links") "outs" ["self"] (sp_Links_outs K)) (c_Links_read : Smt P w K mg base 6 (He.ga K "Links") "read" ["text"] (sp_Links_read K)) (c_Links_right : Met P w K mg base 3 (He.ga K "Links") "right" ["self", "node"] (sp02_Links_right K)) (c_dump_of : Cal P w K mg base 2 "dump_of" ["rights", "lefts", "outs"] (sp_dump_of K)) : FnOk P w K mg base (L2N.CX P w) 7 f fd ["links"] (sp04_mirrored K) :=
  F.ok sc_mirrored (len_mirrored K) fun cdv A outer s H vs Q E hr h => ⟨t_mirrored K E, pss_cons (ps_set (i := 1) sc_mirrored.nd rfl (by first | exact Or.inl rfl | exact Or.inr rfl) (pe_op op_addA (pe_fld (pv 0) rfl) (pe_int))) (pss_cons (ps_setLc (i := 2) (own := [("node", 5)]) (g := gName 5) (tt := tYes) (te := tOp rSubA (tVar 1) (tMt (He.ga K "Links") "left" (sp02_Links_left K) (fun _ => E0) (tVar 0) (tCons (tOp rSubA (tVar 1) (tVar 5)) (tNil)))) rfl sc_mirrored.nd rfl rfl (sw_true rfl rfl rfl (by decide +kernel)) (pi_range1 rfl T.b_range (pa_cons (pv 1) (pa_nil))) (blkOk_by (own := [("node", 5)]) (N := ["links", "end", "rights", "lefts", "outs", "node"]) (sc := defScope s_mirrored) (by decide +kernel)) (fun _ _ _ _ _ => pg_name (i := 5) sc_mirrored.nd rfl (by first | exact Or.inl rfl | exact Or.inr rfl)) (fun _ _ _ _ _ => pts_nil) (fun _ _ _ _ _ => pe_op op_sub (pv 1) (pe_mt c_Links_left T.cl_Links hr (by decide) (pat_no) (pv 0) (pa_cons (pe_op op_sub (pv 1) (pv 5)) (pa_nil))))) (pss_cons (ps_setLc (i := 3) (own := [("node", 5)]) (g := gName 5) (tt := tYes) (te := tOp rSubA (tVar 1) (tMt (He.ga K "Links") "right" (sp02_Links_right K) (fun _ => E0) (tVar 0) (tCons (tOp rSubA (tVar 1) (tVar 5)) (tNil)))) rfl sc_mirrored.nd rfl rfl (sw_true rfl rfl rfl (by decide +kernel)) (pi_range2 rfl T.b_range (pa_cons (pe_int) (pa_cons (pe_op op_addA (pv 1) (pe_int)) (pa_nil)))) (blkOk_by (own := [("node", 5)]) (N := ["links", "end", "rights", "lefts", "outs", "node"]) (sc := defScope s_mirrored) (by decide +kernel)) (fun _ _ _ _ _ => pg_name (i := 5) sc_mirrored.nd rfl (by first | exact Or.inl rfl | exact Or.inr rfl)) (fun _ _ _ _ _ => pts_nil) (fun _ _ _ _ _ => pe_op op_sub (pv 1) (pe_mt c_Links_right T.cl_Links hr (by decide) (pat_no) (pv 0) (pa_cons (pe_op op_sub (pv 1) (pv 5)) (pa_nil))))) (pss_cons (ps_setLc (i := 4) (own := [("node", 5)]) (g := gName 5) (tt := tYes) (te := tOp rSubA (tVar 1) (tVar 5)) rfl sc_mirrored.nd rfl rfl (sw_true rfl rfl rfl (by decide +kernel)) (RT.pi_revA rfl T.b_reversed (pe_mt0 c_Links_outs T.cl_Links hr (by decide) (pat_of (W := fun cls d _ H => E cls d H) (L2N.takes_of rfl rfl rfl rfl)) (pv 0))) (blkOk_by (own := [("node", 5)]) (N := ["links", "end", "rights", "lefts", "outs", "node"]) (sc := defScope s_mirrored) (by decide +kernel)) (fun _ _ _ _ _ => pg_name (i := 5) sc_mirrored.nd rfl (by first | exact Or.inl rfl | exact Or.inr rfl)) (fun _ _ _ _ _ => pts_nil) (fun _ _ _ _ _ => pe_op op_sub (pv 1) (pv 5))) (pss_one (ps_ret (pe_sm c_Links_read hr (by decide) (pat_of (W := fun cls d _ H => E cls d H) (L2N.takes_of rfl rfl rfl rfl)) (pe_own T.g_Links) (pa_cons (pe_cl c_dump_of hr (by decide) (pat_of (W := fun cls d _ H => E cls d H) (L2N.takes_of rfl rfl rfl rfl)) (pa_cons (pv 2) (pa_cons (pv 3) (pa_cons (pv 4) (pa_nil))))) (pa_nil)))))))), rd_mirrored T vs H Q E h⟩
theorem ok__law_mirror_right {f : Addr} {fd : FuncData} (T : Txt K mg) (F : FunD K "_law_mirror_right" "_law_mirror_right" (defArgs s__law_mirror_right) (defBody s__law_mirror_right) (defScope s__law_mirror_right) [] [] f fd) (c_Links_apply : Met P w K mg base 6 (He.ga K "Links") "apply" ["self", "operation"] (sp_Links_apply K)) (c_Links_copy : Met P w K mg base 6 (He.ga K "Links") "copy" ["self"] (sp_Links_copy K)) (c_Links_dump : Met P w K mg base 3 (He.ga K "Links") "dump" ["self"] (sp_Links_dump K)) (c_Links_walk_back : MetG P w K mg base 1 (He.ga K "Links") "walk_back" ["self"] (sp04_Links_walk_back K)) (c__law_asked_right : Cal P w K mg base 7 "_law_asked_right" ["links", "size", "rights", "lefts", "outs"] (sp04__law_asked_right K)) (c__law_dump : Cal P w K mg base 1 "_law_dump" ["size", "rights", "lefts", "outs"] (sp03__law_dump K)) (c__law_integers : Cal P w K mg base 2 "_law_integers" ["told", "due"] (sp00__law_integers K)) (c__law_opposite : Cal P w K mg base 1 "_law_opposite" ["size", "operation"] (sp04__law_opposite K)) (c__law_turned : Cal P w K mg base 1 "_law_turned" ["size", "world"] (sp04__law_turned K)) (c__law_walked : Cal P w K mg base 1 "_law_walked" ["size", "rights"] (sp04__law_walked K)) (c__law_write : Cal P w K mg base 1 "_law_write" ["rights", "lefts", "outs", "operation"] (sp02__law_write K)) (c_mirrored : Cal P w K mg base 7 "mirrored" ["links"] (sp04_mirrored K)) : FnOk P w K mg base (L2N.CX P w) 8 f fd ["links", "size", "world", "node"] (sp04__law_mirror_right K) :=
  F.ok sc__law_mirror_right (len__law_mirror_right K) fun cdv A outer s H vs Q E hr h => ⟨t__law_mirror_right K E, pss_cons (ps_set (i := 4) sc__law_mirror_right.nd rfl (by first | exact Or.inl rfl | exact Or.inr rfl) (pe_cl c__law_turned hr (by decide) (pat_of (W := fun cls d _ H => E cls d H) (L2N.takes_of rfl rfl rfl rfl)) (pa_cons (pv 1) (pa_cons (pv 2) (pa_nil))))) (pss_cons (ps_set (i := 5) sc__law_mirror_right.nd rfl (by first | exact Or.inl rfl | exact Or.inr rfl) (pe_mt0 c_Links_copy T.cl_Links hr (by decide) (pat_of (W := fun cls d _ H => E cls d H) (L2N.takes_of rfl rfl rfl rfl)) (pv 0))) (pss_cons (ps_set (i := 6) sc__law_mirror_right.nd rfl (by first | exact Or.inl rfl | exact Or.inr rfl) (pe_cl c_mirrored hr (by decide) (pat_of (W := fun cls d _ H => E cls d H) (L2N.takes_of rfl rfl rfl rfl)) (pa_cons (pv 5) (pa_nil)))) (pss_cons (ps_if (pt_not (pt_val (pe_cl c__law_asked_right hr (by decide) (pat_of (W := fun cls d _ H => E cls d H) (L2N.takes_of rfl rfl rfl rfl)) (pa_cons (pv 6) (pa_cons (pv 1) (pa_cons (pe_ix ix_seq (pv 4) (pe_int) (fun _ _ => rfl)) (pa_cons (pe_ix ix_seq (pv 4) (pe_int) (fun _ _ => rfl)) (pa_cons (pe_ix ix_seq (pv 4) (pe_int) (fun _ _ => rfl)) (pa_nil))))))))) (pss_one (ps_ret (pe_bl))) (pss_nil)) (pss_cons (ps_if (pt_not (pt_val (pe_cl c__law_asked_right hr (by decide) (pat_of (W := fun cls d _ H => E cls d H) (L2N.takes_of rfl rfl rfl rfl)) (pa_cons (pv 5) (pa_cons (pv 1) (pa_cons (pe_ix ix_seq (pv 2) (pe_int) (fun _ _ => rfl)) (pa_cons (pe_ix ix_seq (pv 2) (pe_int) (fun _ _ => rfl)) (pa_cons (pe_ix ix_seq (pv 2) (pe_int) (fun _ _ => rfl)) (pa_nil))))))))) (pss_one (ps_ret (pe_bl))) (pss_nil)) (pss_cons (ps_setLc (i := 7) (own := [("seen", 9)]) (g := gName 9) (tt := tYes) (te := tOp rSubA (tOp rAddA (tVar 1) (tC (.int 1))) (tVar 9)) rfl sc__law_mirror_right.nd rfl rfl (sw_true rfl rfl rfl (by decide +kernel)) (pi_list (pe_cl c__law_walked hr (by decide) (pat_of (W := fun cls d _ H => E cls d H) (L2N.takes_of rfl rfl rfl rfl)) (pa_cons (pv 1) (pa_cons (pe_ix ix_seq (pv 2) (pe_int) (fun _ _ => rfl)) (pa_nil))))) (blkOk_by (own := [("seen", 9)]) (N := ["links", "size", "world", "node", "due", "base", "other", "walk", "operation", "seen"]) (sc := defScope s__law_mirror_right) (by decide +kernel)) (fun _ _ _ _ _ => pg_name (i := 9) sc__law_mirror_right.nd rfl (by first | exact Or.inl rfl | exact Or.inr rfl)) (fun _ _ _ _ _ => pts_nil) (fun _ _ _ _ _ => pe_op op_sub (pe_op op_addA (pv 1) (pe_int)) (pv 9))) (pss_cons (ps_if (pt_not (pt_val (pe_cl c__law_integers hr (by decide) (pat_of (W := fun cls d _ H => E cls d H) (L2N.takes_of rfl rfl rfl rfl)) (pa_cons (pe_listMG c_Links_walk_back T.cl_Links hr (by decide) rfl T.b_list (pv 6)) (pa_cons (pv 7) (pa_nil)))))) (pss_one (ps_ret (pe_bl))) (pss_nil)) (pss_cons (ps_if (pt_cmpR (op_neA hr) (pe_mt0 c_Links_dump T.cl_Links hr (by decide) (pat_of (W := fun cls d _ H => E cls d H) (L2N.takes_of rfl rfl rfl rfl)) (pe_cl c_mirrored hr (by decide) (pat_of (W := fun cls d _ H => E cls d H) (L2N.takes_of rfl rfl rfl rfl)) (pa_cons (pv 6) (pa_nil)))) (pe_cl c__law_dump hr (by decide) (pat_of (W := fun cls d _ H => E cls d H) (L2N.takes_of rfl rfl rfl rfl)) (pa_cons (pv 1) (pa_cons (pe_ix ix_seq (pv 2) (pe_int) (fun _ _ => rfl)) (pa_cons (pe_ix ix_seq (pv 2) (pe_int) (fun _ _ => rfl)) (pa_cons (pe_ix ix_seq (pv 2) (pe_int) (fun _ _ => rfl)) (pa_nil)))))) (nomark _)) (pss_one (ps_ret (pe_bl))) (pss_nil)) (pss_cons (ps_if (pt_cmpR (op_eqA hr) (pv 3) (pe_int) (nomark _)) (pss_one (ps_ret (pe_bl))) (pss_nil)) (pss_cons (ps_set (i := 8) sc__law_mirror_right.nd rfl (by first | exact Or.inl rfl | exact Or.inr rfl) (pe_un un_neg (pv 3))) (pss_cons (ps_if (pt_val (pe_ix ix_seq (pe_ix ix_seq (pv 2) (pe_int) (fun _ _ => rfl)) (pv 3) (fun _ _ => rfl))) (pss_one (ps_set (i := 8) sc__law_mirror_right.nd rfl (by first | exact Or.inl rfl | exact Or.inr rfl) (pv 3))) (pss_nil)) (pss_cons (ps_expr (pe_mt c_Links_apply T.cl_Links hr (by decide) (pat_of (W := fun cls d _ H => E cls d H) (L2N.takes_of rfl rfl rfl rfl)) (pv 5) (pa_cons (pv 8) (pa_nil)))) (pss_cons (ps_if (pt_not (pt_val (pe_cl c__law_asked_right hr (by decide) (pat_of (W := fun cls d _ H => E cls d H) (L2N.takes_of rfl rfl rfl rfl)) (pa_cons (pv 6) (pa_cons (pv 1) (pa_cons (pe_ix ix_seq (pv 4) (pe_int) (fun _ _ => rfl)) (pa_cons (pe_ix ix_seq (pv 4) (pe_int) (fun _ _ => rfl)) (pa_cons (pe_ix ix_seq (pv 4) (pe_int) (fun _ _ => rfl)) (pa_nil))))))))) (pss_one (ps_ret (pe_bl))) (pss_nil)) (pss_cons (ps_expr (pe_mt c_Links_apply T.cl_Links hr (by decide) (pat_of (W := fun cls d _ H => E cls d H) (L2N.takes_of rfl rfl rfl rfl)) (pv 6) (pa_cons (pe_cl c__law_opposite hr (by decide) (pat_of (W := fun cls d _ H => E cls d H) (L2N.takes_of rfl rfl rfl rfl)) (pa_cons (pv 1) (pa_cons (pv 8) (pa_nil)))) (pa_nil)))) (pss_cons (ps_expr (pe_cl c__law_write hr (by decide) (pat_of (W := fun cls d _ H => E cls d H) (L2N.takes_of rfl rfl rfl rfl)) (pa_cons (pe_ix ix_seq (pv 4) (pe_int) (fun _ _ => rfl)) (pa_cons (pe_ix ix_seq (pv 4) (pe_int) (fun _ _ => rfl)) (pa_cons (pe_ix ix_seq (pv 4) (pe_int) (fun _ _ => rfl)) (pa_cons (pe_cl c__law_opposite hr (by decide) (pat_of (W := fun cls d _ H => E cls d H) (L2N.takes_of rfl rfl rfl rfl)) (pa_cons (pv 1) (pa_cons (pv 8) (pa_nil)))) (pa_nil))))))) (pss_cons (ps_if (pt_not (pt_val (pe_cl c__law_asked_right hr (by decide) (pat_of (W := fun cls d _ H => E cls d H) (L2N.takes_of rfl rfl rfl rfl)) (pa_cons (pv 6) (pa_cons (pv 1) (pa_cons (pe_ix ix_seq (pv 4) (pe_int) (fun _ _ => rfl)) (pa_cons (pe_ix ix_seq (pv 4) (pe_int) (fun _ _ => rfl)) (pa_cons (pe_ix ix_seq (pv 4) (pe_int) (fun _ _ => rfl)) (pa_nil))))))))) (pss_one (ps_ret (pe_bl))) (pss_nil)) (pss_one (ps_ret (pe_cmpR (op_eqA hr) (pe_mt0 c_Links_dump T.cl_Links hr (by decide) (pat_of (W := fun cls d _ H => E cls d H) (L2N.takes_of rfl rfl rfl rfl)) (pe_cl c_mirrored hr (by decide) (pat_of (W := fun cls d _ H => E cls d H) (L2N.takes_of rfl rfl rfl rfl)) (pa_cons (pv 5) (pa_nil)))) (pe_cl c__law_dump hr (by decide) (pat_of (W := fun cls d _ H => E cls d H) (L2N.takes_of rfl rfl rfl rfl)) (pa_cons (pv 1) (pa_cons (pe_ix ix_seq (pv 4) (pe_int) (fun _ _ => rfl)) (pa_cons (pe_ix ix_seq (pv 4) (pe_int) (fun _ _ => rfl)) (pa_cons (pe_ix ix_seq (pv 4) (pe_int) (fun _ _ => rfl)) (pa_nil)))))) (nomark _))))))))))))))))))), rd__law_mirror_right T vs H Q E h⟩
theorem ok__law_run {f : Addr} {fd : FuncData} (T : Txt K mg) (F : FunD K "_law_run" "_law_run" (defArgs s__law_run) (defBody s__law_run) (defScope s__law_run) [] [] f fd) (c__law_draw : Cal P w K mg base 1 "_law_draw" ["box", "many"] (sp00__law_draw K)) : FnOk P w K mg base (L2N.CX P w) 2 f fd ["box", "size", "world"] (sp04__law_run K) :=
  F.ok sc__law_run (len__law_run K) fun cdv A outer s H vs Q E hr h => ⟨t__law_run K E, pss_cons (ps_set (i := 3) sc__law_run.nd rfl (by first | exact Or.inl rfl | exact Or.inr rfl) (pe_lst (pa_nil))) (pss_cons (ps_set (i := 4) sc__law_run.nd rfl (by first | exact Or.inl rfl | exact Or.inr rfl) (pe_cl c__law_draw hr (by decide) (pat_of (W := fun cls d _ H => E cls d H) (L2N.takes_of rfl rfl rfl rfl)) (pa_cons (pv 0) (pa_cons (pe_int) (pa_nil))))) (pss_cons (ps_if (pt_cmpR (op_eqA hr) (pv 4) (pe_int) (nomark _)) (pss_one (ps_set (i := 4) sc__law_run.nd rfl (by first | exact Or.inl rfl | exact Or.inr rfl) (pe_op op_addA (pe_int) (pe_cl c__law_draw hr (by decide) (pat_of (W := fun cls d _ H => E cls d H) (L2N.takes_of rfl rfl rfl rfl)) (pa_cons (pv 0) (pa_cons (pe_int) (pa_nil))))))) (pss_nil)) (pss_cons (ps_if (pt_cmpR (op_eqA hr) (pv 1) (pe_int) (nomark _)) (pss_one (ps_ret (pv 3))) (pss_nil)) (pss_cons (ps_set (i := 5) sc__law_run.nd rfl (by first | exact Or.inl rfl | exact Or.inr rfl) (pe_callTy call_listA (by rfl) T.b_list (by decide +kernel) (pa_cons (pe_ix ix_seq (pv 2) (pe_int) (fun _ _ => rfl)) (pa_nil)))) (pss_cons (ps_set (i := 6) sc__law_run.nd rfl (by first | exact Or.inl rfl | exact Or.inr rfl) (pe_int)) (pss_cons (ps_for (passes_of rfl) rfl (pi_range1 rfl T.b_range (pa_cons (pv 4) (pa_nil))) (pg_name (i := 7) sc__law_run.nd rfl (by first | exact Or.inl rfl | exact Or.inr rfl)) (pss_cons (ps_if (pt_cmpR op_gt (pe_cl c__law_draw hr (by decide) (pat_of (W := fun cls d _ H => E cls d H) (L2N.takes_of rfl rfl rfl rfl)) (pa_cons (pv 0) (pa_cons (pe_int) (pa_nil)))) (pe_int) (nomark _)) (pss_one (ps_set (i := 6) sc__law_run.nd rfl (by first | exact Or.inl rfl | exact Or.inr rfl) (pe_op op_addA (pe_int) (pe_cl c__law_draw hr (by decide) (pat_of (W := fun cls d _ H => E cls d H) (L2N.takes_of rfl rfl rfl rfl)) (pa_cons (pv 0) (pa_cons (pv 1) (pa_nil))))))) (pss_nil)) (pss_cons (ps_if (pt_val (pe_ix ix_seq (pv 5) (pv 6) (fun _ _ => rfl))) (pss_one (ps_expr (pe_bm PySem.F.plainAttrs_list PySem.F.slot_list_append PySem.F.type_list_append mt_append (pv 3) (pa_cons (pv 6) (pa_nil))))) (pss_one (ps_expr (pe_bm PySem.F.plainAttrs_list PySem.F.slot_list_append PySem.F.type_list_append mt_append (pv 3) (pa_cons (pe_un un_neg (pv 6)) (pa_nil)))))) (pss_one (ps_asg (pe_not (pe_ix ix_seq (pv 5) (pv 6) (fun _ _ => rfl))) (pg_sub (pv 5) (pv 6) set_list)))))) (pss_one (ps_ret (pv 3))))))))), rd__law_run T vs H Q E h⟩
theorem ok__check_operations {f : Addr} {fd : FuncData} (T : Txt K mg) (F : FunD K "_check_operations" "_check_operations" (defArgs s__check_operations) (defBody s__check_operations) (defScope s__check_operations) [] [] f fd) (c_check_operation : Cal P w K mg base 3 "check_operation" ["size", "operation", "index"] (sp_check_operation K)) (c_check_size : Cal P w K mg base 3 "check_size" ["size"] (sp_check_size K)) : FnOk P w K mg base (L2N.CX P w) 4 f fd ["size", "log"] (sp04__check_operations K) :=
  F.ok sc__check_operations (len__check_operations K) fun cdv A outer s H vs Q E hr h => ⟨t__check_operations K E, pss_cons (ps_expr (pe_cl c_check_size hr (by decide) (pat_of (W := fun cls d _ H => E cls d H) (L2N.takes_of rfl rfl rfl rfl)) (pa_cons (pv 0) (pa_nil)))) (pss_one (ps_for (passes_of rfl) rfl (pi_enum (by rfl) T.b_enumerate (pa_cons (pv 1) (pa_nil))) (pg_tup (by rfl) (pgs_cons (pg_name (i := 2) sc__check_operations.nd rfl (by first | exact Or.inl rfl | exact Or.inr rfl)) (pgs_cons (pg_name (i := 3) sc__check_operations.nd rfl (by first | exact Or.inl rfl | exact Or.inr rfl)) (pgs_nil)))) (pss_one (ps_expr (pe_cl c_check_operation hr (by decide) (pat_of (W := fun cls d _ H => E cls d H) (L2N.takes_of rfl rfl rfl rfl)) (pa_cons (pv 0) (pa_cons (pv 3) (pa_cons (pv 2) (pa_nil))))))))), rd__check_operations T vs H Q E h⟩
theorem ok__on_node {f : Addr} {fd : FuncData} (T : Txt K mg) (F : FunD K "_on_node" "_on_node" (defArgs s__on_node) (defBody s__on_node) (defScope s__on_node) [] [] f fd)  : FnOk P w K mg base (L2N.CX P w) 1 f fd ["operation", "node"] (sp04__on_node K) :=
  F.ok sc__on_node (len__on_node K) fun cdv A outer s H vs Q E hr h => ⟨t__on_node K E, pss_one (ps_ret (pe_ifExp (pt_cmpR op_gt (pv 0) (pe_int) (nomark _)) (pv 1) (pe_un un_neg (pv 1)))), rd__on_node T vs H Q E h⟩
theorem ok_mirror {f : Addr} {fd : FuncData} (T : Txt K mg) (F : FunD K "mirror" "mirror" (defArgs s_mirror) (defBody s_mirror) (defScope s_mirror) [] [] f fd) (c__check_operations : Cal P w K mg base 4 "_check_operations" ["size", "log"] (sp04__check_operations K)) (c__on_node : Cal P w K mg base 1 "_on_node" ["operation", "node"] (sp04__on_node K)) : FnOk P w K mg base (L2N.CX P w) 5 f fd ["size", "log"] (sp04_mirror K) :=
  F.ok sc_mirror (len_mirror K) fun cdv A outer s H vs Q E hr h => ⟨t_mirror K E, pss_cons (ps_expr (pe_cl c__check_operations hr (by decide) (pat_of (W := fun cls d _ H => E cls d H) (L2N.takes_of rfl rfl rfl rfl)) (pa_cons (pv 0) (pa_cons (pv 1) (pa_nil))))) (pss_one (ps_ret (pe_lc (own := [("operation", 2)]) (g := gName 2) (tt := tYes) (te := tCl (sp04__on_node K) (fun _ => E0) (tCons (tVar 2) (tCons (tOp rSubA (tOp rAddA (tVar 0) (tC (.int 1))) (tCB rAbsA (tCons (tVar 2) (tNil)))) (tNil)))) rfl sc_mirror.nd (pi_list (pv 1)) (blkOk_by (own := [("operation", 2)]) (N := ["size", "log", "operation"]) (sc := defScope s_mirror) (by decide +kernel)) (fun _ _ _ _ _ => pg_name (i := 2) sc_mirror.nd rfl (by first | exact Or.inl rfl | exact Or.inr rfl)) (fun _ _ _ _ _ => pts_nil) (fun _ _ _ _ _ => pe_cl c__on_node hr (by decide) (pat_no) (pa_cons (pv 2) (pa_cons (pe_op op_sub (pe_op op_addA (pv 0) (pe_int)) (pe_callB call_absA (by rfl) T.b_abs (by decide +kernel) (pa_cons (pv 2) (pa_nil)))) (pa_nil))))))), rd_mirror T vs H Q E h⟩
theorem ok_play {f : Addr} {fd : FuncData} (T : Txt K mg) (F : FunD K "play" "play" (defArgs s_play) (defBody s_play) (defScope s_play) [] [] f fd) (c_Links_apply_at : Met P w K mg base 5 (He.ga K "Links") "apply_at" ["self", "operation", "index"] (sp_Links_apply_at K)) (c_Links_copy : Met P w K mg base 6 (He.ga K "Links") "copy" ["self"] (sp_Links_copy K)) : FnOk P w K mg base (L2N.CX P w) 7 f fd ["links", "log"] (sp_play K) :=
  F.ok sc_play (len_play K) fun cdv A outer s H vs Q E hr h => ⟨t_play K E, pss_cons (ps_set (i := 2) sc_play.nd rfl (by first | exact Or.inl rfl | exact Or.inr rfl) (pe_mt0 c_Links_copy T.cl_Links hr (by decide) (pat_of (W := fun cls d _ H => E cls d H) (L2N.takes_of rfl rfl rfl rfl)) (pv 0))) (pss_cons (ps_for (passes_of rfl) rfl (pi_enum (by rfl) T.b_enumerate (pa_cons (pv 1) (pa_nil))) (pg_tup (by rfl) (pgs_cons (pg_name (i := 3) sc_play.nd rfl (by first | exact Or.inl rfl | exact Or.inr rfl)) (pgs_cons (pg_name (i := 4) sc_play.nd rfl (by first | exact Or.inl rfl | exact Or.inr rfl)) (pgs_nil)))) (pss_one (ps_expr (pe_mt c_Links_apply_at T.cl_Links hr (by decide) (pat_of (W := fun cls d _ H => E cls d H) (L2N.takes_of rfl rfl rfl rfl)) (pv 2) (pa_cons (pv 4) (pa_cons (pv 3) (pa_nil))))))) (pss_one (ps_ret (pv 2)))), rd_play T vs H Q E h⟩
theorem ok__law_run_mirrored {f : Addr} {fd : FuncData} (T : Txt K mg) (F : FunD K "_law_run_mirrored" "_law_run_mirrored" (defArgs s__law_run_mirrored) (defBody s__law_run_mirrored) (defScope s__law_run_mirrored) [] [] f fd) (c_Links_dump : Met P w K mg base 3 (He.ga K "Links") "dump" ["self"] (sp_Links_dump K)) (c__law_dump : Cal P w K mg base 1 "_law_dump" ["size", "rights", "lefts", "outs"] (sp03__law_dump K)) (c__law_integers : Cal P w K mg base 2 "_law_integers" ["told", "due"] (sp00__law_integers K)) (c__law_opposite : Cal P w K mg base 1 "_law_opposite" ["size", "operation"] (sp04__law_opposite K)) (c__law_turned : Cal P w K mg base 1 "_law_turned" ["size", "world"] (sp04__law_turned K)) (c_mirror : Cal P w K mg base 5 "mirror" ["size", "log"] (sp04_mirror K)) (c_mirrored : Cal P w K mg base 7 "mirrored" ["links"] (sp04_mirrored K)) (c_play : Cal P w K mg base 7 "play" ["links", "log"] (sp_play K)) : FnOk P w K mg base (L2N.CX P w) 8 f fd ["first", "size", "run", "last"] (sp04__law_run_mirrored K) :=
  F.ok sc__law_run_mirrored (len__law_run_mirrored K) fun cdv A outer s H vs Q E hr h => ⟨t__law_run_mirrored K E, pss_cons (ps_setLc (i := 4) (own := [("operation", 9)]) (g := gName 9) (tt := tYes) (te := tCl (sp04__law_opposite K) (fun _ => E0) (tCons (tVar 1) (tCons (tVar 9) (tNil)))) rfl sc__law_run_mirrored.nd rfl rfl (sw_true rfl rfl rfl (by decide +kernel)) (pi_list (pv 2)) (blkOk_by (own := [("operation", 9)]) (N := ["first", "size", "run", "last", "due", "given", "told", "led", "end", "operation"]) (sc := defScope s__law_run_mirrored) (by decide +kernel)) (fun _ _ _ _ _ => pg_name (i := 9) sc__law_run_mirrored.nd rfl (by first | exact Or.inl rfl | exact Or.inr rfl)) (fun _ _ _ _ _ => pts_nil) (fun _ _ _ _ _ => pe_cl c__law_opposite hr (by decide) (pat_no) (pa_cons (pv 1) (pa_cons (pv 9) (pa_nil))))) (pss_cons (ps_set (i := 5) sc__law_run_mirrored.nd rfl (by first | exact Or.inl rfl | exact Or.inr rfl) (pe_callTy call_listA (by rfl) T.b_list (by decide +kernel) (pa_cons (pv 2) (pa_nil)))) (pss_cons (ps_set (i := 6) sc__law_run_mirrored.nd rfl (by first | exact Or.inl rfl | exact Or.inr rfl) (pe_cl c_mirror hr (by decide) (pat_of (W := fun cls d _ H => E cls d H) (L2N.takes_of rfl rfl rfl rfl)) (pa_cons (pv 1) (pa_cons (pv 5) (pa_nil))))) (pss_cons (ps_if ((pw_or (pt_not (pt_val (pe_cl c__law_integers hr (by decide) (pat_of (W := fun cls d _ H => E cls d H) (L2N.takes_of rfl rfl rfl rfl)) (pa_cons (pv 6) (pa_cons (pv 4) (pa_nil)))))) (pw_or1 (pt_not (pt_val (pe_cl c__law_integers hr (by decide) (pat_of (W := fun cls d _ H => E cls d H) (L2N.takes_of rfl rfl rfl rfl)) (pa_cons (pv 5) (pa_cons (pv 2) (pa_nil)))))))).pt) (pss_one (ps_ret (pe_bl))) (pss_nil)) (pss_cons (ps_set (i := 7) sc__law_run_mirrored.nd rfl (by first | exact Or.inl rfl | exact Or.inr rfl) (pe_cl c_play hr (by decide) (pat_of (W := fun cls d _ H => E cls d H) (L2N.takes_of rfl rfl rfl rfl)) (pa_cons (pe_cl c_mirrored hr (by decide) (pat_of (W := fun cls d _ H => E cls d H) (L2N.takes_of rfl rfl rfl rfl)) (pa_cons (pv 0) (pa_nil))) (pa_cons (pv 6) (pa_nil))))) (pss_cons (ps_set (i := 8) sc__law_run_mirrored.nd rfl (by first | exact Or.inl rfl | exact Or.inr rfl) (pe_cl c__law_turned hr (by decide) (pat_of (W := fun cls d _ H => E cls d H) (L2N.takes_of rfl rfl rfl rfl)) (pa_cons (pv 1) (pa_cons (pv 3) (pa_nil))))) (pss_cons (ps_if (pt_not (pt_val (pe_cl c__law_integers hr (by decide) (pat_of (W := fun cls d _ H => E cls d H) (L2N.takes_of rfl rfl rfl rfl)) (pa_cons (pv 6) (pa_cons (pv 4) (pa_nil)))))) (pss_one (ps_ret (pe_bl))) (pss_nil)) (pss_one (ps_ret (pe_cmpR (op_eqA hr) (pe_mt0 c_Links_dump T.cl_Links hr (by decide) (pat_of (W := fun cls d _ H => E cls d H) (L2N.takes_of rfl rfl rfl rfl)) (pv 7)) (pe_cl c__law_dump hr (by decide) (pat_of (W := fun cls d _ H => E cls d H) (L2N.takes_of rfl rfl rfl rfl)) (pa_cons (pv 1) (pa_cons (pe_ix ix_seq (pv 8) (pe_int) (fun _ _ => rfl)) (pa_cons (pe_ix ix_seq (pv 8) (pe_int) (fun _ _ => rfl)) (pa_cons (pe_ix ix_seq (pv 8) (pe_int) (fun _ _ => rfl)) (pa_nil)))))) (nomark _)))))))))), rd__law_run_mirrored T vs H Q E h⟩
theorem ok__law_size {f : Addr} {fd : FuncData} (T : Txt K mg) (F : FunD K "_law_size" "_law_size" (defArgs s__law_size) (defBody s__law_size) (defScope s__law_size) [] [] f fd) (c__law_draw : Cal P w K mg base 1 "_law_draw" ["box", "many"] (sp00__law_draw K)) : FnOk P w K mg base (L2N.CX P w) 2 f fd ["box"] (sp02__law_size K) :=
  F.ok sc__law_size (len__law_size K) fun cdv A outer s H vs Q E hr h => ⟨t__law_size K E, pss_cons (ps_set (i := 1) sc__law_size.nd rfl (by first | exact Or.inl rfl | exact Or.inr rfl) (pe_cl c__law_draw hr (by decide) (pat_of (W := fun cls d _ H => E cls d H) (L2N.takes_of rfl rfl rfl rfl)) (pa_cons (pv 0) (pa_cons (pe_int) (pa_nil))))) (pss_cons (ps_if (pt_cmpR (op_eqA hr) (pv 1) (pe_int) (nomark _)) (pss_one (ps_ret (pe_cl c__law_draw hr (by decide) (pat_of (W := fun cls d _ H => E cls d H) (L2N.takes_of rfl rfl rfl rfl)) (pa_cons (pv 0) (pa_cons (pe_int) (pa_nil)))))) (pss_nil)) (pss_cons (ps_if (pt_cmpR (op_eqA hr) (pv 1) (pe_int) (nomark _)) (pss_one (ps_ret (pe_cl c__law_draw hr (by decide) (pat_of (W := fun cls d _ H => E cls d H) (L2N.takes_of rfl rfl rfl rfl)) (pa_cons (pv 0) (pa_cons (pe_int) (pa_nil)))))) (pss_nil)) (pss_one (ps_ret (pe_op op_addA (pe_int) (pv 1)))))), rd__law_size T vs H Q E h⟩
theorem ok__law_bend {f : Addr} {fd : FuncData} (T : Txt K mg) (F : FunD K "_law_bend" "_law_bend" (defArgs s__law_bend) (defBody s__law_bend) (defScope s__law_bend) [] [] f fd) (c__law_draw : Cal P w K mg base 1 "_law_draw" ["box", "many"] (sp00__law_draw K)) : FnOk P w K mg base (L2N.CX P w) 2 f fd ["box", "size", "rights", "lefts"] (sp03__law_bend K) :=
  F.ok sc__law_bend (len__law_bend K) fun cdv A outer s H vs Q E hr h => ⟨t__law_bend K E, pss_cons (ps_set (i := 4) sc__law_bend.nd rfl (by first | exact Or.inl rfl | exact Or.inr rfl) (pe_cl c__law_draw hr (by decide) (pat_of (W := fun cls d _ H => E cls d H) (L2N.takes_of rfl rfl rfl rfl)) (pa_cons (pv 0) (pa_cons (pe_op op_addA (pv 1) (pe_int)) (pa_nil))))) (pss_cons (ps_set (i := 5) sc__law_bend.nd rfl (by first | exact Or.inl rfl | exact Or.inr rfl) (pe_cl c__law_draw hr (by decide) (pat_of (W := fun cls d _ H => E cls d H) (L2N.takes_of rfl rfl rfl rfl)) (pa_cons (pv 0) (pa_cons (pe_int) (pa_nil))))) (pss_cons (ps_if (pt_cmpR (op_eqA hr) (pv 5) (pe_int) (nomark _)) (pss_one (ps_asg (pe_op op_addA (pe_op op_addA (pv 4) (pe_int)) (pe_cl c__law_draw hr (by decide) (pat_of (W := fun cls d _ H => E cls d H) (L2N.takes_of rfl rfl rfl rfl)) (pa_cons (pv 0) (pa_cons (pe_op op_sub (pe_op op_addA (pv 1) (pe_int)) (pv 4)) (pa_nil))))) (pg_sub (pv 2) (pv 4) set_list))) (pss_nil)) (pss_one (ps_if (pt_cmpR (op_eqA hr) (pv 5) (pe_int) (nomark _)) (pss_one (ps_asg (pe_cl c__law_draw hr (by decide) (pat_of (W := fun cls d _ H => E cls d H) (L2N.takes_of rfl rfl rfl rfl)) (pa_cons (pv 0) (pa_cons (pe_op op_addA (pv 4) (pe_int)) (pa_nil)))) (pg_sub (pv 3) (pe_op op_addA (pv 4) (pe_int)) set_list))) (pss_nil))))), rd__law_bend T vs H Q E h⟩
theorem ok__law_world {f : Addr} {fd : FuncData} (T : Txt K mg) (F : FunD K "_law_world" "_law_world" (defArgs s__law_world) (defBody s__law_world) (defScope s__law_world) [] [] f fd) (c__law_bend : Cal P w K mg base 2 "_law_bend" ["box", "size", "rights", "lefts"] (sp03__law_bend K)) (c__law_draw : Cal P w K mg base 1 "_law_draw" ["box", "many"] (sp00__law_draw K)) : FnOk P w K mg base (L2N.CX P w) 3 f fd ["box", "size"] (sp03__law_world K) :=
  F.ok sc__law_world (len__law_world K) fun cdv A outer s H vs Q E hr h => ⟨t__law_world K E, pss_cons (ps_set (i := 2) sc__law_world.nd rfl (by first | exact Or.inl rfl | exact Or.inr rfl) (pe_cl c__law_draw hr (by decide) (pat_of (W := fun cls d _ H => E cls d H) (L2N.takes_of rfl rfl rfl rfl)) (pa_cons (pv 0) (pa_cons (pe_int) (pa_nil))))) (pss_cons (ps_setLc (i := 3) (own := [("node", 6)]) (g := gName 6) (tt := tYes) (te := tOp rAddA (tVar 6) (tC (.int 1))) rfl sc__law_world.nd rfl rfl (sw_true rfl rfl rfl (by decide +kernel)) (pi_range1 rfl T.b_range (pa_cons (pe_op op_addA (pv 1) (pe_int)) (pa_nil))) (blkOk_by (own := [("node", 6)]) (N := ["box", "size", "style", "rights", "lefts", "outs", "node", "last"]) (sc := defScope s__law_world) (by decide +kernel)) (fun _ _ _ _ _ => pg_name (i := 6) sc__law_world.nd rfl (by first | exact Or.inl rfl | exact Or.inr rfl)) (fun _ _ _ _ _ => pts_nil) (fun _ _ _ _ _ => pe_op op_addA (pv 6) (pe_int))) (pss_cons (ps_setLc (i := 4) (own := [("node", 6)]) (g := gName 6) (tt := tYes) (te := tOp rSubA (tVar 6) (tC (.int 1))) rfl sc__law_world.nd rfl rfl (sw_true rfl rfl rfl (by decide +kernel)) (pi_range1 rfl T.b_range (pa_cons (pe_op op_addA (pv 1) (pe_int)) (pa_nil))) (blkOk_by (own := [("node", 6)]) (N := ["box", "size", "style", "rights", "lefts", "outs", "node", "last"]) (sc := defScope s__law_world) (by decide +kernel)) (fun _ _ _ _ _ => pg_name (i := 6) sc__law_world.nd rfl (by first | exact Or.inl rfl | exact Or.inr rfl)) (fun _ _ _ _ _ => pts_nil) (fun _ _ _ _ _ => pe_op op_sub (pv 6) (pe_int))) (pss_cons (ps_setLc (i := 5) (own := [("node", 6)]) (g := gName 6) (tt := tYes) (te := tC (.bl false)) rfl sc__law_world.nd rfl rfl (sw_true rfl rfl rfl (by decide +kernel)) (pi_range1 rfl T.b_range (pa_cons (pe_op op_addA (pv 1) (pe_int)) (pa_nil))) (blkOk_by (own := [("node", 6)]) (N := ["box", "size", "style", "rights", "lefts", "outs", "node", "last"]) (sc := defScope s__law_world) (by decide +kernel)) (fun _ _ _ _ _ => pg_name (i := 6) sc__law_world.nd rfl (by first | exact Or.inl rfl | exact Or.inr rfl)) (fun _ _ _ _ _ => pts_nil) (fun _ _ _ _ _ => pe_bl)) (pss_cons (ps_if (pt_cmpR (op_eqA hr) (pv 2) (pe_int) (nomark _)) (pss_one (ps_ret (pe_lst (pa_cons (pv 3) (pa_cons (pv 4) (pa_cons (pv 5) (pa_nil))))))) (pss_nil)) (pss_cons (ps_for (passes_of rfl) rfl (pi_range2 rfl T.b_range (pa_cons (pe_int) (pa_cons (pe_op op_addA (pv 1) (pe_int)) (pa_nil)))) (pg_name (i := 6) sc__law_world.nd rfl (by first | exact Or.inl rfl | exact Or.inr rfl)) (pss_one (ps_asg (pe_cmpR (op_eqA hr) (pe_cl c__law_draw hr (by decide) (pat_of (W := fun cls d _ H => E cls d H) (L2N.takes_of rfl rfl rfl rfl)) (pa_cons (pv 0) (pa_cons (pe_int) (pa_nil)))) (pe_int) (nomark _)) (pg_sub (pv 5) (pv 6) set_list)))) (pss_cons (ps_for (passes_of rfl) rfl (pi_range1 rfl T.b_range (pa_cons (pe_op op_addA (pv 1) (pe_int)) (pa_nil))) (pg_name (i := 6) sc__law_world.nd rfl (by first | exact Or.inl rfl | exact Or.inr rfl)) (pss_cons (ps_if ((pw_or (pt_cmpR op_gt (pv 2) (pe_int) (nomark _)) (pw_or1 (pt_cmpR (op_eqA hr) (pe_cl c__law_draw hr (by decide) (pat_of (W := fun cls d _ H => E cls d H) (L2N.takes_of rfl rfl rfl rfl)) (pa_cons (pv 0) (pa_cons (pe_int) (pa_nil)))) (pe_int) (nomark _)))).pt) (pss_one (ps_asg (pe_op op_addA (pe_op op_addA (pv 6) (pe_int)) (pe_cl c__law_draw hr (by decide) (pat_of (W := fun cls d _ H => E cls d H) (L2N.takes_of rfl rfl rfl rfl)) (pa_cons (pv 0) (pa_cons (pe_op op_sub (pe_op op_addA (pv 1) (pe_int)) (pv 6)) (pa_nil))))) (pg_sub (pv 3) (pv 6) set_list))) (pss_nil)) (pss_one (ps_if ((pw_or (pt_cmpR op_gt (pv 2) (pe_int) (nomark _)) (pw_or1 (pt_cmpR (op_eqA hr) (pe_cl c__law_draw hr (by decide) (pat_of (W := fun cls d _ H => E cls d H) (L2N.takes_of rfl rfl rfl rfl)) (pa_cons (pv 0) (pa_cons (pe_int) (pa_nil)))) (pe_int) (nomark _)))).pt) (pss_one (ps_asg (pe_cl c__law_draw hr (by decide) (pat_of (W := fun cls d _ H => E cls d H) (L2N.takes_of rfl rfl rfl rfl)) (pa_cons (pv 0) (pa_cons (pe_op op_addA (pv 6) (pe_int)) (pa_nil)))) (pg_sub (pv 4) (pe_op op_addA (pv 6) (pe_int)) set_list))) (pss_nil))))) (pss_cons (ps_if (pt_cmpR (op_eqA hr) (pv 2) (pe_int) (nomark _)) (pss_cons (ps_set (i := 7) sc__law_world.nd rfl (by first | exact Or.inl rfl | exact Or.inr rfl) (pe_int)) (pss_cons (ps_for (passes_of rfl) rfl (pi_range2 rfl T.b_range (pa_cons (pe_int) (pa_cons (pe_op op_addA (pv 1) (pe_int)) (pa_nil)))) (pg_name (i := 6) sc__law_world.nd rfl (by first | exact Or.inl rfl | exact Or.inr rfl)) (pss_one (ps_if (pt_not (pt_val (pe_ix ix_seq (pv 5) (pv 6) (fun _ _ => rfl)))) (pss_cons (ps_asg (pv 6) (pg_sub (pv 3) (pv 7) set_list)) (pss_cons (ps_asg (pv 7) (pg_sub (pv 4) (pv 6) set_list)) (pss_one (ps_set (i := 7) sc__law_world.nd rfl (by first | exact Or.inl rfl | exact Or.inr rfl) (pv 6))))) (pss_nil)))) (pss_one (ps_expr (pe_cl c__law_bend hr (by decide) (pat_of (W := fun cls d _ H => E cls d H) (L2N.takes_of rfl rfl rfl rfl)) (pa_cons (pv 0) (pa_cons (pv 1) (pa_cons (pv 3) (pa_cons (pv 4) (pa_nil)))))))))) (pss_nil)) (pss_one (ps_ret (pe_lst (pa_cons (pv 3) (pa_cons (pv 4) (pa_cons (pv 5) (pa_nil)))))))))))))), rd__law_world T vs H Q E h⟩
theorem ok_law {f : Addr} {fd : FuncData} (T : Txt K mg) (F : FunD K "law" "law" (defArgs s_law) (defBody s_law) (defScope s_law) [] [] f fd) (c_Links_apply : Met P w K mg base 6 (He.ga K "Links") "apply" ["self", "operation"] (sp_Links_apply K)) (c_Links_copy : Met P w K mg base 6 (He.ga K "Links") "copy" ["self"] (sp_Links_copy K)) (c_Links_read : Smt P w K mg base 6 (He.ga K "Links") "read" ["text"] (sp_Links_read K)) (c__law_asked_right : Cal P w K mg base 7 "_law_asked_right" ["links", "size", "rights", "lefts", "outs"] (sp04__law_asked_right K)) (c__law_box : Cal P w K mg base 1 "_law_box" ["script"] (sp00__law_box K)) (c__law_draw : Cal P w K mg base 1 "_law_draw" ["box", "many"] (sp00__law_draw K)) (c__law_dump : Cal P w K mg base 1 "_law_dump" ["size", "rights", "lefts", "outs"] (sp03__law_dump K)) (c__law_mirror_right : Cal P w K mg base 8 "_law_mirror_right" ["links", "size", "world", "node"] (sp04__law_mirror_right K)) (c__law_run : Cal P w K mg base 2 "_law_run" ["box", "size", "world"] (sp04__law_run K)) (c__law_run_mirrored : Cal P w K mg base 8 "_law_run_mirrored" ["first", "size", "run", "last"] (sp04__law_run_mirrored K)) (c__law_size : Cal P w K mg base 2 "_law_size" ["box"] (sp02__law_size K)) (c__law_world : Cal P w K mg base 3 "_law_world" ["box", "size"] (sp03__law_world K)) (c__law_write : Cal P w K mg base 1 "_law_write" ["rights", "lefts", "outs", "operation"] (sp02__law_write K)) : FnOk P w K mg base (L2N.CX P w) 9 f fd ["script"] (sp_law K) :=
  F.ok sc_law (len_law K) fun cdv A outer s H vs Q E hr h => ⟨t_law K E, pss_cons (ps_set (i := 1) sc_law.nd rfl (by first | exact Or.inl rfl | exact Or.inr rfl) (pe_cl c__law_box hr (by decide) (pat_of (W := fun cls d _ H => E cls d H) (L2N.takes_of rfl rfl rfl rfl)) (pa_cons (pv 0) (pa_nil)))) (pss_cons (ps_set (i := 2) sc_law.nd rfl (by first | exact Or.inl rfl | exact Or.inr rfl) (pe_cl c__law_size hr (by decide) (pat_of (W := fun cls d _ H => E cls d H) (L2N.takes_of rfl rfl rfl rfl)) (pa_cons (pv 1) (pa_nil)))) (pss_cons (ps_set (i := 3) sc_law.nd rfl (by first | exact Or.inl rfl | exact Or.inr rfl) (pe_cl c__law_world hr (by decide) (pat_of (W := fun cls d _ H => E cls d H) (L2N.takes_of rfl rfl rfl rfl)) (pa_cons (pv 1) (pa_cons (pv 2) (pa_nil))))) (pss_cons (ps_set (i := 4) sc_law.nd rfl (by first | exact Or.inl rfl | exact Or.inr rfl) (pe_cl c__law_run hr (by decide) (pat_of (W := fun cls d _ H => E cls d H) (L2N.takes_of rfl rfl rfl rfl)) (pa_cons (pv 1) (pa_cons (pv 2) (pa_cons (pv 3) (pa_nil)))))) (pss_cons (ps_set (i := 5) sc_law.nd rfl (by first | exact Or.inl rfl | exact Or.inr rfl) (pe_op op_addA (pe_cl c__law_draw hr (by decide) (pat_of (W := fun cls d _ H => E cls d H) (L2N.takes_of rfl rfl rfl rfl)) (pa_cons (pv 1) (pa_cons (pe_callB (call_max2A rfl) (by rfl) T.b_max (by decide +kernel) (pa_cons (pe_int) (pa_cons (pv 2) (pa_nil)))) (pa_nil)))) (pe_callB (call_min2A rfl) (by rfl) T.b_min (by decide +kernel) (pa_cons (pe_int) (pa_cons (pv 2) (pa_nil)))))) (pss_cons (ps_set (i := 6) sc_law.nd rfl (by first | exact Or.inl rfl | exact Or.inr rfl) (pe_callTy call_listA (by rfl) T.b_list (by decide +kernel) (pa_cons (pe_ix ix_seq (pv 3) (pe_int) (fun _ _ => rfl)) (pa_nil)))) (pss_cons (ps_set (i := 7) sc_law.nd rfl (by first | exact Or.inl rfl | exact Or.inr rfl) (pe_callTy call_listA (by rfl) T.b_list (by decide +kernel) (pa_cons (pe_ix ix_seq (pv 3) (pe_int) (fun _ _ => rfl)) (pa_nil)))) (pss_cons (ps_set (i := 8) sc_law.nd rfl (by first | exact Or.inl rfl | exact Or.inr rfl) (pe_callTy call_listA (by rfl) T.b_list (by decide +kernel) (pa_cons (pe_ix ix_seq (pv 3) (pe_int) (fun _ _ => rfl)) (pa_nil)))) (pss_cons (ps_set (i := 9) sc_law.nd rfl (by first | exact Or.inl rfl | exact Or.inr rfl) (pe_sm c_Links_read hr (by decide) (pat_of (W := fun cls d _ H => E cls d H) (L2N.takes_of rfl rfl rfl rfl)) (pe_own T.g_Links) (pa_cons (pe_cl c__law_dump hr (by decide) (pat_of (W := fun cls d _ H => E cls d H) (L2N.takes_of rfl rfl rfl rfl)) (pa_cons (pv 2) (pa_cons (pv 6) (pa_cons (pv 7) (pa_cons (pv 8) (pa_nil)))))) (pa_nil)))) (pss_cons (ps_set (i := 10) sc_law.nd rfl (by first | exact Or.inl rfl | exact Or.inr rfl) (pe_mt0 c_Links_copy T.cl_Links hr (by decide) (pat_of (W := fun cls d _ H => E cls d H) (L2N.takes_of rfl rfl rfl rfl)) (pv 9))) (pss_cons (ps_if ((pw_and (pt_cmpR (op_eqA hr) (pe_cl c__law_draw hr (by decide) (pat_of (W := fun cls d _ H => E cls d H) (L2N.takes_of rfl rfl rfl rfl)) (pa_cons (pv 1) (pa_cons (pe_int) (pa_nil)))) (pe_int) (nomark _)) (pw_and1 (pt_not (pt_val (pe_cl c__law_asked_right hr (by decide) (pat_of (W := fun cls d _ H => E cls d H) (L2N.takes_of rfl rfl rfl rfl)) (pa_cons (pv 10) (pa_cons (pv 2) (pa_cons (pv 6) (pa_cons (pv 7) (pa_cons (pv 8) (pa_nil))))))))))).pt) (pss_one (ps_ret (pe_bl))) (pss_nil)) (pss_cons (ps_for (passes_of rfl) rfl (pi_list (pv 4)) (pg_name (i := 11) sc_law.nd rfl (by first | exact Or.inl rfl | exact Or.inr rfl)) (pss_cons (ps_expr (pe_mt c_Links_apply T.cl_Links hr (by decide) (pat_of (W := fun cls d _ H => E cls d H) (L2N.takes_of rfl rfl rfl rfl)) (pv 10) (pa_cons (pv 11) (pa_nil)))) (pss_cons (ps_expr (pe_cl c__law_write hr (by decide) (pat_of (W := fun cls d _ H => E cls d H) (L2N.takes_of rfl rfl rfl rfl)) (pa_cons (pv 6) (pa_cons (pv 7) (pa_cons (pv 8) (pa_cons (pv 11) (pa_nil))))))) (pss_one (ps_if ((pw_and (pt_cmpR (op_eqA hr) (pe_cl c__law_draw hr (by decide) (pat_of (W := fun cls d _ H => E cls d H) (L2N.takes_of rfl rfl rfl rfl)) (pa_cons (pv 1) (pa_cons (pe_int) (pa_nil)))) (pe_int) (nomark _)) (pw_and1 (pt_not (pt_val (pe_cl c__law_asked_right hr (by decide) (pat_of (W := fun cls d _ H => E cls d H) (L2N.takes_of rfl rfl rfl rfl)) (pa_cons (pv 10) (pa_cons (pv 2) (pa_cons (pv 6) (pa_cons (pv 7) (pa_cons (pv 8) (pa_nil))))))))))).pt) (pss_one (ps_ret (pe_bl))) (pss_nil)))))) (pss_cons (ps_if (pt_not (pt_val (pe_cl c__law_asked_right hr (by decide) (pat_of (W := fun cls d _ H => E cls d H) (L2N.takes_of rfl rfl rfl rfl)) (pa_cons (pv 10) (pa_cons (pv 2) (pa_cons (pv 6) (pa_cons (pv 7) (pa_cons (pv 8) (pa_nil))))))))) (pss_one (ps_ret (pe_bl))) (pss_nil)) (pss_cons (ps_if (pt_not (pt_val (pe_cl c__law_run_mirrored hr (by decide) (pat_of (W := fun cls d _ H => E cls d H) (L2N.takes_of rfl rfl rfl rfl)) (pa_cons (pv 9) (pa_cons (pv 2) (pa_cons (pv 4) (pa_cons (pe_lst (pa_cons (pv 6) (pa_cons (pv 7) (pa_cons (pv 8) (pa_nil))))) (pa_nil)))))))) (pss_one (ps_ret (pe_bl))) (pss_nil)) (pss_cons (ps_if (pt_not (pt_val (pe_cl c__law_mirror_right hr (by decide) (pat_of (W := fun cls d _ H => E cls d H) (L2N.takes_of rfl rfl rfl rfl)) (pa_cons (pv 9) (pa_cons (pv 2) (pa_cons (pv 3) (pa_cons (pv 5) (pa_nil)))))))) (pss_one (ps_ret (pe_bl))) (pss_nil)) (pss_one (ps_ret (pe_cl c__law_mirror_right hr (by decide) (pat_of (W := fun cls d _ H => E cls d H) (L2N.takes_of rfl rfl rfl rfl)) (pa_cons (pv 10) (pa_cons (pv 2) (pa_cons (pe_lst (pa_cons (pv 6) (pa_cons (pv 7) (pa_cons (pv 8) (pa_nil))))) (pa_cons (pv 5) (pa_nil)))))))))))))))))))))), rd_law T vs H Q E h⟩
end

end G

set_option Elab.async false
set_option linter.all false
set_option maxRecDepth 100000
set_option maxHeartbeats 4000000

namespace G
open PySem PySem.Spec PyProof.Rows L2
theorem facts {P : Program} {w : World} {K : PySem.W.Frag} {h : Heap} {mg : Str → Option Value} {f : Addr} (X : K.In h) (G : h.Ns mainGlobals mg) (hfa : mg ("law" : Str) = some (.ref f)) (c : SaysY chkL fnL K) :
    ∃ fd : FuncData, (∀ (s : Shared) (v : Value), BindsTo s fd ⟨[v], []⟩ [("script", v)]) ∧ ∀ base : Heap, K.In base → base.Ns mainGlobals mg → FnOk P w K mg base (L2N.CX P w) 9 f fd ["script"] (sp_law K) := by
  have T := txt_of X G c
  obtain ⟨fd_Links_is_legal, F_Links_is_legal⟩ := c.def_ 0 (d := d_Links_is_legal) rfl
  obtain ⟨fd_check_operation, F_check_operation⟩ := c.def_ 1 (d := d_check_operation) rfl
  obtain ⟨fd_Links_check, F_Links_check⟩ := c.def_ 2 (d := d_Links_check) rfl
  obtain ⟨fd_Links_apply_at, F_Links_apply_at⟩ := c.def_ 3 (d := d_Links_apply_at) rfl
  obtain ⟨fd_Links_apply, F_Links_apply⟩ := c.def_ 4 (d := d_Links_apply) rfl
  obtain ⟨fd_check_size, F_check_size⟩ := c.def_ 5 (d := d_check_size) rfl
  obtain ⟨fd_Links___init__, F_Links___init__⟩ := c.def_ 6 (d := d_Links___init__) rfl
  obtain ⟨fd_Links_copy, F_Links_copy⟩ := c.def_ 7 (d := d_Links_copy) rfl
  obtain ⟨fd_is_positive, F_is_positive⟩ := c.def_ 8 (d := d_is_positive) rfl
  obtain ⟨fd__read_numbers, F__read_numbers⟩ := c.def_ 9 (d := d__read_numbers) rfl
  obtain ⟨fd__read_lefts, F__read_lefts⟩ := c.def_ 10 (d := d__read_lefts) rfl
  obtain ⟨fd__read_outs, F__read_outs⟩ := c.def_ 11 (d := d__read_outs) rfl
  obtain ⟨fd__read_rights, F__read_rights⟩ := c.def_ 12 (d := d__read_rights) rfl
  obtain ⟨fd_Links_read, F_Links_read⟩ := c.def_ 13 (d := d_Links_read) rfl
  obtain ⟨fd_Links_outs, F_Links_outs⟩ := c.def_ 14 (d := d_Links_outs) rfl
  obtain ⟨fd__joined, F__joined⟩ := c.def_ 15 (d := d__joined) rfl
  obtain ⟨fd_dump_of, F_dump_of⟩ := c.def_ 16 (d := d_dump_of) rfl
  obtain ⟨fd_Links_dump, F_Links_dump⟩ := c.def_ 17 (d := d_Links_dump) rfl
  obtain ⟨fd_Links_is_sound, F_Links_is_sound⟩ := c.def_ 18 (d := d_Links_is_sound) rfl
  obtain ⟨fd_Links___eq__, F_Links___eq__⟩ := c.def_ 19 (d := d_Links___eq__) rfl
  obtain ⟨fd_Links_is_whole, F_Links_is_whole⟩ := c.def_ 20 (d := d_Links_is_whole) rfl
  obtain ⟨fd_Links_walk, F_Links_walk⟩ := c.def_ 21 (d := d_Links_walk) rfl
  obtain ⟨fd_Links_walk_back, F_Links_walk_back⟩ := c.def_ 22 (d := d_Links_walk_back) rfl
  obtain ⟨fd__law_dump, F__law_dump⟩ := c.def_ 23 (d := d__law_dump) rfl
  obtain ⟨fd__law_is, F__law_is⟩ := c.def_ 24 (d := d__law_is) rfl
  obtain ⟨fd__law_integers, F__law_integers⟩ := c.def_ 25 (d := d__law_integers) rfl
  obtain ⟨fd_Links___contains__, F_Links___contains__⟩ := c.def_ 26 (d := d_Links___contains__) rfl
  obtain ⟨fd__law_outs_right, F__law_outs_right⟩ := c.def_ 27 (d := d__law_outs_right) rfl
  obtain ⟨fd__law_sound, F__law_sound⟩ := c.def_ 28 (d := d__law_sound) rfl
  obtain ⟨fd__law_walked, F__law_walked⟩ := c.def_ 29 (d := d__law_walked) rfl
  obtain ⟨fd__law_walked_back, F__law_walked_back⟩ := c.def_ 30 (d := d__law_walked_back) rfl
  obtain ⟨fd__law_whole, F__law_whole⟩ := c.def_ 31 (d := d__law_whole) rfl
  obtain ⟨fd__law_asked_right, F__law_asked_right⟩ := c.def_ 32 (d := d__law_asked_right) rfl
  obtain ⟨fd__law_box, F__law_box⟩ := c.def_ 33 (d := d__law_box) rfl
  obtain ⟨fd__law_draw, F__law_draw⟩ := c.def_ 34 (d := d__law_draw) rfl
  obtain ⟨fd__law_opposite, F__law_opposite⟩ := c.def_ 35 (d := d__law_opposite) rfl
  obtain ⟨fd__law_turned, F__law_turned⟩ := c.def_ 36 (d := d__law_turned) rfl
  obtain ⟨fd__law_write, F__law_write⟩ := c.def_ 37 (d := d__law_write) rfl
  obtain ⟨fd_Links_left, F_Links_left⟩ := c.def_ 38 (d := d_Links_left) rfl
  obtain ⟨fd_Links_right, F_Links_right⟩ := c.def_ 39 (d := d_Links_right) rfl
  obtain ⟨fd_mirrored, F_mirrored⟩ := c.def_ 40 (d := d_mirrored) rfl
  obtain ⟨fd__law_mirror_right, F__law_mirror_right⟩ := c.def_ 41 (d := d__law_mirror_right) rfl
  obtain ⟨fd__law_run, F__law_run⟩ := c.def_ 42 (d := d__law_run) rfl
  obtain ⟨fd__check_operations, F__check_operations⟩ := c.def_ 43 (d := d__check_operations) rfl
  obtain ⟨fd__on_node, F__on_node⟩ := c.def_ 44 (d := d__on_node) rfl
  obtain ⟨fd_mirror, F_mirror⟩ := c.def_ 45 (d := d_mirror) rfl
  obtain ⟨fd_play, F_play⟩ := c.def_ 46 (d := d_play) rfl
  obtain ⟨fd__law_run_mirrored, F__law_run_mirrored⟩ := c.def_ 47 (d := d__law_run_mirrored) rfl
  obtain ⟨fd__law_size, F__law_size⟩ := c.def_ 48 (d := d__law_size) rfl
  obtain ⟨fd__law_bend, F__law_bend⟩ := c.def_ 49 (d := d__law_bend) rfl
  obtain ⟨fd__law_world, F__law_world⟩ := c.def_ 50 (d := d__law_world) rfl
  obtain ⟨fd_law, F_law⟩ := c.def_ 51 (d := d_law) rfl
  obtain ⟨fd_BadDump___init__, F_BadDump___init__⟩ := c.def_ 52 (d := d_BadDump___init__) rfl
  obtain ⟨fd_BadNode___init__, F_BadNode___init__⟩ := c.def_ 53 (d := d_BadNode___init__) rfl
  obtain ⟨fd_BadSize___init__, F_BadSize___init__⟩ := c.def_ 54 (d := d_BadSize___init__) rfl
  obtain ⟨fd_LogError___init__, F_LogError___init__⟩ := c.def_ 55 (d := d_LogError___init__) rfl
  have e := hfa.symm.trans T.gf_law
  cases e
  have bA := FunD.bindsA (ps := ["script"]) F_law fun _ _ _ _ _ _ us hl => match us, hl with | [_], _ => rfl
  refine ⟨fd_law, fun s v => bA s [v] rfl, fun base _ _ => ?_⟩
  have i_BadDump : FnOk P w K mg base (L2N.CX P w) 1 (He.ma K (He.ga K "BadDump") "__init__") fd_BadDump___init__ ["self", "part"] (spIn K ["part"]) := FunD.ok F_BadDump___init__ sc_BadDump___init__ (spIn_len rfl) fun cdv A outer s H vs Q E hr h => ⟨_, pss_one (ps_ost (pv 0) (pv 1)), ini1 rfl h⟩
  have i_BadNode : FnOk P w K mg base (L2N.CX P w) 1 (He.ma K (He.ga K "BadNode") "__init__") fd_BadNode___init__ ["self", "node"] (spIn K ["node"]) := FunD.ok F_BadNode___init__ sc_BadNode___init__ (spIn_len rfl) fun cdv A outer s H vs Q E hr h => ⟨_, pss_one (ps_ost (pv 0) (pv 1)), ini1 rfl h⟩
  have i_BadSize : FnOk P w K mg base (L2N.CX P w) 1 (He.ma K (He.ga K "BadSize") "__init__") fd_BadSize___init__ ["self", "size"] (spIn K ["size"]) := FunD.ok F_BadSize___init__ sc_BadSize___init__ (spIn_len rfl) fun cdv A outer s H vs Q E hr h => ⟨_, pss_one (ps_ost (pv 0) (pv 1)), ini1 rfl h⟩
  have i_LogError : FnOk P w K mg base (L2N.CX P w) 1 (He.ma K (He.ga K "LogError") "__init__") fd_LogError___init__ ["self", "operation", "index"] (spIn K ["operation", "index"]) := FunD.ok F_LogError___init__ sc_LogError___init__ (spIn_len rfl) fun cdv A outer s H vs Q E hr h => ⟨_, pss_cons (ps_ost (pv 0) (pv 1)) (pss_one (ps_ost (pv 0) (pv 2))), ini2 rfl h⟩
  have x_BadDump : ExM P w K mg base 1 "BadDump" (He.ga K "BadDump") ["part"] := ⟨T.oe_BadDump.1, T.oe_BadDump.2, T.g_BadDump, _, fd_BadDump___init__, ["self", "part"], i_BadDump, T.in_BadDump.1, T.in_BadDump.2, FunD.bindsN (ps := ["self", "part"]) F_BadDump___init__ fun _ _ _ _ _ _ us hl => match us, hl with | [_, _], _ => rfl⟩
  have x_BadNode : ExM P w K mg base 1 "BadNode" (He.ga K "BadNode") ["node"] := ⟨T.oe_BadNode.1, T.oe_BadNode.2, T.g_BadNode, _, fd_BadNode___init__, ["self", "node"], i_BadNode, T.in_BadNode.1, T.in_BadNode.2, FunD.bindsN (ps := ["self", "node"]) F_BadNode___init__ fun _ _ _ _ _ _ us hl => match us, hl with | [_, _], _ => rfl⟩
  have x_BadOperation : ExM P w K mg base 1 "BadOperation" (He.ga K "BadOperation") ["operation", "index"] := ⟨T.oe_BadOperation.1, T.oe_BadOperation.2, T.g_BadOperation, _, fd_LogError___init__, ["self", "operation", "index"], i_LogError, (T.sm_BadOperation ▸ T.in_BadOperation).1, (T.sm_BadOperation ▸ T.in_BadOperation).2, FunD.bindsN (ps := ["self", "operation", "index"]) F_LogError___init__ fun _ _ _ _ _ _ us hl => match us, hl with | [_, _, _], _ => rfl⟩
  have x_BadSize : ExM P w K mg base 1 "BadSize" (He.ga K "BadSize") ["size"] := ⟨T.oe_BadSize.1, T.oe_BadSize.2, T.g_BadSize, _, fd_BadSize___init__, ["self", "size"], i_BadSize, T.in_BadSize.1, T.in_BadSize.2, FunD.bindsN (ps := ["self", "size"]) F_BadSize___init__ fun _ _ _ _ _ _ us hl => match us, hl with | [_, _], _ => rfl⟩
  have x_Illegal : ExM P w K mg base 1 "Illegal" (He.ga K "Illegal") ["operation", "index"] := ⟨T.oe_Illegal.1, T.oe_Illegal.2, T.g_Illegal, _, fd_LogError___init__, ["self", "operation", "index"], i_LogError, (T.sm_Illegal ▸ T.in_Illegal).1, (T.sm_Illegal ▸ T.in_Illegal).2, FunD.bindsN (ps := ["self", "operation", "index"]) F_LogError___init__ fun _ _ _ _ _ _ us hl => match us, hl with | [_, _, _], _ => rfl⟩
  have c_Links_is_legal : Met P w K mg base 1 (He.ga K "Links") "is_legal" ["self", "operation"] (sp_Links_is_legal K) := ⟨_, fd_Links_is_legal, ok_Links_is_legal T F_Links_is_legal , T.me_Links_is_legal, FunD.bindsN (ps := ["self", "operation"]) F_Links_is_legal fun _ _ _ _ _ _ us hl => match us, hl with | [_, _], _ => rfl⟩
  have c_check_operation : Cal P w K mg base 3 "check_operation" ["size", "operation", "index"] (sp_check_operation K) := ⟨_, fd_check_operation, ok_check_operation T F_check_operation x_BadOperation, T.gf_check_operation, F_check_operation.kp, FunD.bindsN (ps := ["size", "operation", "index"]) F_check_operation fun _ _ _ _ _ _ us hl => match us, hl with | [_, _, _], _ => rfl⟩
  have c_Links_check : Met P w K mg base 4 (He.ga K "Links") "check" ["self", "operation", "index"] (sp_Links_check K) := ⟨_, fd_Links_check, ok_Links_check T F_Links_check c_Links_is_legal c_check_operation x_Illegal, T.me_Links_check, FunD.bindsN (ps := ["self", "operation", "index"]) F_Links_check fun _ _ _ _ _ _ us hl => match us, hl with | [_, _, _], _ => rfl⟩
  have c_Links_apply_at : Met P w K mg base 5 (He.ga K "Links") "apply_at" ["self", "operation", "index"] (sp_Links_apply_at K) := ⟨_, fd_Links_apply_at, ok_Links_apply_at T F_Links_apply_at c_Links_check, T.me_Links_apply_at, FunD.bindsN (ps := ["self", "operation", "index"]) F_Links_apply_at fun _ _ _ _ _ _ us hl => match us, hl with | [_, _, _], _ => rfl⟩
  have c_Links_apply : Met P w K mg base 6 (He.ga K "Links") "apply" ["self", "operation"] (sp_Links_apply K) := ⟨_, fd_Links_apply, ok_Links_apply T F_Links_apply c_Links_apply_at, T.me_Links_apply, FunD.bindsN (ps := ["self", "operation"]) F_Links_apply fun _ _ _ _ _ _ us hl => match us, hl with | [_, _], _ => rfl⟩
  have c_check_size : Cal P w K mg base 3 "check_size" ["size"] (sp_check_size K) := ⟨_, fd_check_size, ok_check_size T F_check_size x_BadSize, T.gf_check_size, F_check_size.kp, FunD.bindsN (ps := ["size"]) F_check_size fun _ _ _ _ _ _ us hl => match us, hl with | [_], _ => rfl⟩
  have m_Links : Mak P w K mg base 4 "Links" (He.ga K "Links") ["self", "size"] (sp_Links___init__ K) := ⟨_, fd_Links___init__, ok_Links___init__ T F_Links___init__ c_check_size, T.mk_Links, T.g_Links, FunD.bindsN (ps := ["self", "size"]) F_Links___init__ fun _ _ _ _ _ _ us hl => match us, hl with | [_, _], _ => rfl⟩
  have c_Links_copy : Met P w K mg base 6 (He.ga K "Links") "copy" ["self"] (sp_Links_copy K) := ⟨_, fd_Links_copy, ok_Links_copy T F_Links_copy m_Links, T.me_Links_copy, FunD.bindsN (ps := ["self"]) F_Links_copy fun _ _ _ _ _ _ us hl => match us, hl with | [_], _ => rfl⟩
  have c_is_positive : Cal P w K mg base 1 "is_positive" ["word"] (sp_is_positive K) := ⟨_, fd_is_positive, ok_is_positive T F_is_positive , T.gf_is_positive, F_is_positive.kp, FunD.bindsN (ps := ["word"]) F_is_positive fun _ _ _ _ _ _ us hl => match us, hl with | [_], _ => rfl⟩
  have c__read_numbers : Cal P w K mg base 3 "_read_numbers" ["text", "part"] (sp__read_numbers K) := ⟨_, fd__read_numbers, ok__read_numbers T F__read_numbers c_is_positive x_BadDump, T.gf__read_numbers, F__read_numbers.kp, FunD.bindsN (ps := ["text", "part"]) F__read_numbers fun _ _ _ _ _ _ us hl => match us, hl with | [_, _], _ => rfl⟩
  have c__read_lefts : Cal P w K mg base 4 "_read_lefts" ["text", "size"] (sp__read_lefts K) := ⟨_, fd__read_lefts, ok__read_lefts T F__read_lefts c__read_numbers x_BadDump, T.gf__read_lefts, F__read_lefts.kp, FunD.bindsN (ps := ["text", "size"]) F__read_lefts fun _ _ _ _ _ _ us hl => match us, hl with | [_, _], _ => rfl⟩
  have c__read_outs : Cal P w K mg base 4 "_read_outs" ["text", "size"] (sp__read_outs K) := ⟨_, fd__read_outs, ok__read_outs T F__read_outs c__read_numbers x_BadDump, T.gf__read_outs, F__read_outs.kp, FunD.bindsN (ps := ["text", "size"]) F__read_outs fun _ _ _ _ _ _ us hl => match us, hl with | [_, _], _ => rfl⟩
  have c__read_rights : Cal P w K mg base 4 "_read_rights" ["text"] (sp__read_rights K) := ⟨_, fd__read_rights, ok__read_rights T F__read_rights c__read_numbers x_BadDump, T.gf__read_rights, F__read_rights.kp, FunD.bindsN (ps := ["text"]) F__read_rights fun _ _ _ _ _ _ us hl => match us, hl with | [_], _ => rfl⟩
  have c_Links_read : Smt P w K mg base 6 (He.ga K "Links") "read" ["text"] (sp_Links_read K) := smt_of T.sm_Links_read (ok_Links_read T F_Links_read m_Links c__read_lefts c__read_outs c__read_rights x_BadDump) F_Links_read.kp (FunD.bindsN (ps := ["text"]) F_Links_read fun _ _ _ _ _ _ us hl => match us, hl with | [_], _ => rfl)
  have c_Links_outs : Met P w K mg base 1 (He.ga K "Links") "outs" ["self"] (sp_Links_outs K) := ⟨_, fd_Links_outs, ok_Links_outs T F_Links_outs , T.me_Links_outs, FunD.bindsN (ps := ["self"]) F_Links_outs fun _ _ _ _ _ _ us hl => match us, hl with | [_], _ => rfl⟩
  have c__joined : Cal P w K mg base 1 "_joined" ["numbers"] (sp__joined K) := ⟨_, fd__joined, ok__joined T F__joined , T.gf__joined, F__joined.kp, FunD.bindsN (ps := ["numbers"]) F__joined fun _ _ _ _ _ _ us hl => match us, hl with | [_], _ => rfl⟩
  have c_dump_of : Cal P w K mg base 2 "dump_of" ["rights", "lefts", "outs"] (sp_dump_of K) := ⟨_, fd_dump_of, ok_dump_of T F_dump_of c__joined, T.gf_dump_of, F_dump_of.kp, FunD.bindsN (ps := ["rights", "lefts", "outs"]) F_dump_of fun _ _ _ _ _ _ us hl => match us, hl with | [_, _, _], _ => rfl⟩
  have c_Links_dump : Met P w K mg base 3 (He.ga K "Links") "dump" ["self"] (sp_Links_dump K) := ⟨_, fd_Links_dump, ok_Links_dump T F_Links_dump c_Links_outs c_dump_of, T.me_Links_dump, FunD.bindsN (ps := ["self"]) F_Links_dump fun _ _ _ _ _ _ us hl => match us, hl with | [_], _ => rfl⟩
  have c_Links_is_sound : Met P w K mg base 1 (He.ga K "Links") "is_sound" ["self"] (sp04_Links_is_sound K) := ⟨_, fd_Links_is_sound, ok_Links_is_sound T F_Links_is_sound , T.me_Links_is_sound, FunD.bindsN (ps := ["self"]) F_Links_is_sound fun _ _ _ _ _ _ us hl => match us, hl with | [_], _ => rfl⟩
  have c_Links___eq__ : Met P w K mg base 1 (He.ga K "Links") "__eq__" ["self", "other"] (sp02_Links___eq__ K) := ⟨_, fd_Links___eq__, ok_Links___eq__ T F_Links___eq__ , T.me_Links___eq__, FunD.bindsN (ps := ["self", "other"]) F_Links___eq__ fun _ _ _ _ _ _ us hl => match us, hl with | [_, _], _ => rfl⟩
  have c_Links_is_whole : Met P w K mg base 6 (He.ga K "Links") "is_whole" ["self"] (sp04_Links_is_whole K) := ⟨_, fd_Links_is_whole, ok_Links_is_whole T F_Links_is_whole c_Links___eq__ m_Links, T.me_Links_is_whole, FunD.bindsN (ps := ["self"]) F_Links_is_whole fun _ _ _ _ _ _ us hl => match us, hl with | [_], _ => rfl⟩
  have c_Links_walk : MetG P w K mg base 1 (He.ga K "Links") "walk" ["self"] (sp04_Links_walk K) := ⟨_, fd_Links_walk, ok_Links_walk T F_Links_walk, T.me_Links_walk, FunD.bindsN (ps := ["self"]) F_Links_walk fun _ _ _ _ _ _ us hl => match us, hl with | [_], _ => rfl⟩
  have c_Links_walk_back : MetG P w K mg base 1 (He.ga K "Links") "walk_back" ["self"] (sp04_Links_walk_back K) := ⟨_, fd_Links_walk_back, ok_Links_walk_back T F_Links_walk_back, T.me_Links_walk_back, FunD.bindsN (ps := ["self"]) F_Links_walk_back fun _ _ _ _ _ _ us hl => match us, hl with | [_], _ => rfl⟩
  have c__law_dump : Cal P w K mg base 1 "_law_dump" ["size", "rights", "lefts", "outs"] (sp03__law_dump K) := ⟨_, fd__law_dump, ok__law_dump T F__law_dump , T.gf__law_dump, F__law_dump.kp, FunD.bindsN (ps := ["size", "rights", "lefts", "outs"]) F__law_dump fun _ _ _ _ _ _ us hl => match us, hl with | [_, _, _, _], _ => rfl⟩
  have c__law_is : Cal P w K mg base 1 "_law_is" ["told", "due"] (sp00__law_is K) := ⟨_, fd__law_is, ok__law_is T F__law_is , T.gf__law_is, F__law_is.kp, FunD.bindsN (ps := ["told", "due"]) F__law_is fun _ _ _ _ _ _ us hl => match us, hl with | [_, _], _ => rfl⟩
  have c__law_integers : Cal P w K mg base 2 "_law_integers" ["told", "due"] (sp00__law_integers K) := ⟨_, fd__law_integers, ok__law_integers T F__law_integers c__law_is, T.gf__law_integers, F__law_integers.kp, FunD.bindsN (ps := ["told", "due"]) F__law_integers fun _ _ _ _ _ _ us hl => match us, hl with | [_, _], _ => rfl⟩
  have c_Links___contains__ : Met P w K mg base 1 (He.ga K "Links") "__contains__" ["self", "node"] (sp04_Links___contains__ K) := ⟨_, fd_Links___contains__, ok_Links___contains__ T F_Links___contains__ , T.me_Links___contains__, FunD.bindsN (ps := ["self", "node"]) F_Links___contains__ fun _ _ _ _ _ _ us hl => match us, hl with | [_, _], _ => rfl⟩
  have c__law_outs_right : Cal P w K mg base 3 "_law_outs_right" ["links", "size", "outs"] (sp04__law_outs_right K) := ⟨_, fd__law_outs_right, ok__law_outs_right T F__law_outs_right c_Links___contains__ c_Links_outs c__law_integers, T.gf__law_outs_right, F__law_outs_right.kp, FunD.bindsN (ps := ["links", "size", "outs"]) F__law_outs_right fun _ _ _ _ _ _ us hl => match us, hl with | [_, _, _], _ => rfl⟩
  have c__law_sound : Cal P w K mg base 1 "_law_sound" ["size", "rights", "lefts", "outs"] (sp04__law_sound K) := ⟨_, fd__law_sound, ok__law_sound T F__law_sound , T.gf__law_sound, F__law_sound.kp, FunD.bindsN (ps := ["size", "rights", "lefts", "outs"]) F__law_sound fun _ _ _ _ _ _ us hl => match us, hl with | [_, _, _, _], _ => rfl⟩
  have c__law_walked : Cal P w K mg base 1 "_law_walked" ["size", "rights"] (sp04__law_walked K) := ⟨_, fd__law_walked, ok__law_walked T F__law_walked , T.gf__law_walked, F__law_walked.kp, FunD.bindsN (ps := ["size", "rights"]) F__law_walked fun _ _ _ _ _ _ us hl => match us, hl with | [_, _], _ => rfl⟩
  have c__law_walked_back : Cal P w K mg base 1 "_law_walked_back" ["size", "lefts"] (sp04__law_walked_back K) := ⟨_, fd__law_walked_back, ok__law_walked_back T F__law_walked_back , T.gf__law_walked_back, F__law_walked_back.kp, FunD.bindsN (ps := ["size", "lefts"]) F__law_walked_back fun _ _ _ _ _ _ us hl => match us, hl with | [_, _], _ => rfl⟩
  have c__law_whole : Cal P w K mg base 1 "_law_whole" ["size", "rights", "lefts", "outs"] (sp04__law_whole K) := ⟨_, fd__law_whole, ok__law_whole T F__law_whole , T.gf__law_whole, F__law_whole.kp, FunD.bindsN (ps := ["size", "rights", "lefts", "outs"]) F__law_whole fun _ _ _ _ _ _ us hl => match us, hl with | [_, _, _, _], _ => rfl⟩
  have c__law_asked_right : Cal P w K mg base 7 "_law_asked_right" ["links", "size", "rights", "lefts", "outs"] (sp04__law_asked_right K) := ⟨_, fd__law_asked_right, ok__law_asked_right T F__law_asked_right c_Links_dump c_Links_is_sound c_Links_is_whole c_Links_walk c_Links_walk_back c__law_dump c__law_integers c__law_outs_right c__law_sound c__law_walked c__law_walked_back c__law_whole, T.gf__law_asked_right, F__law_asked_right.kp, FunD.bindsN (ps := ["links", "size", "rights", "lefts", "outs"]) F__law_asked_right fun _ _ _ _ _ _ us hl => match us, hl with | [_, _, _, _, _], _ => rfl⟩
  have c__law_box : Cal P w K mg base 1 "_law_box" ["script"] (sp00__law_box K) := ⟨_, fd__law_box, ok__law_box T F__law_box , T.gf__law_box, F__law_box.kp, FunD.bindsN (ps := ["script"]) F__law_box fun _ _ _ _ _ _ us hl => match us, hl with | [_], _ => rfl⟩
  have c__law_draw : Cal P w K mg base 1 "_law_draw" ["box", "many"] (sp00__law_draw K) := ⟨_, fd__law_draw, ok__law_draw T F__law_draw , T.gf__law_draw, F__law_draw.kp, FunD.bindsN (ps := ["box", "many"]) F__law_draw fun _ _ _ _ _ _ us hl => match us, hl with | [_, _], _ => rfl⟩
  have c__law_opposite : Cal P w K mg base 1 "_law_opposite" ["size", "operation"] (sp04__law_opposite K) := ⟨_, fd__law_opposite, ok__law_opposite T F__law_opposite , T.gf__law_opposite, F__law_opposite.kp, FunD.bindsN (ps := ["size", "operation"]) F__law_opposite fun _ _ _ _ _ _ us hl => match us, hl with | [_, _], _ => rfl⟩
  have c__law_turned : Cal P w K mg base 1 "_law_turned" ["size", "world"] (sp04__law_turned K) := ⟨_, fd__law_turned, ok__law_turned T F__law_turned , T.gf__law_turned, F__law_turned.kp, FunD.bindsN (ps := ["size", "world"]) F__law_turned fun _ _ _ _ _ _ us hl => match us, hl with | [_, _], _ => rfl⟩
  have c__law_write : Cal P w K mg base 1 "_law_write" ["rights", "lefts", "outs", "operation"] (sp02__law_write K) := ⟨_, fd__law_write, ok__law_write T F__law_write , T.gf__law_write, F__law_write.kp, FunD.bindsN (ps := ["rights", "lefts", "outs", "operation"]) F__law_write fun _ _ _ _ _ _ us hl => match us, hl with | [_, _, _, _], _ => rfl⟩
  have c_Links_left : Met P w K mg base 3 (He.ga K "Links") "left" ["self", "node"] (sp02_Links_left K) := ⟨_, fd_Links_left, ok_Links_left T F_Links_left x_BadNode, T.me_Links_left, FunD.bindsN (ps := ["self", "node"]) F_Links_left fun _ _ _ _ _ _ us hl => match us, hl with | [_, _], _ => rfl⟩
  have c_Links_right : Met P w K mg base 3 (He.ga K "Links") "right" ["self", "node"] (sp02_Links_right K) := ⟨_, fd_Links_right, ok_Links_right T F_Links_right x_BadNode, T.me_Links_right, FunD.bindsN (ps := ["self", "node"]) F_Links_right fun _ _ _ _ _ _ us hl => match us, hl with | [_, _], _ => rfl⟩
  have c_mirrored : Cal P w K mg base 7 "mirrored" ["links"] (sp04_mirrored K) := ⟨_, fd_mirrored, ok_mirrored T F_mirrored c_Links_left c_Links_outs c_Links_read c_Links_right c_dump_of, T.gf_mirrored, F_mirrored.kp, FunD.bindsN (ps := ["links"]) F_mirrored fun _ _ _ _ _ _ us hl => match us, hl with | [_], _ => rfl⟩
  have c__law_mirror_right : Cal P w K mg base 8 "_law_mirror_right" ["links", "size", "world", "node"] (sp04__law_mirror_right K) := ⟨_, fd__law_mirror_right, ok__law_mirror_right T F__law_mirror_right c_Links_apply c_Links_copy c_Links_dump c_Links_walk_back c__law_asked_right c__law_dump c__law_integers c__law_opposite c__law_turned c__law_walked c__law_write c_mirrored, T.gf__law_mirror_right, F__law_mirror_right.kp, FunD.bindsN (ps := ["links", "size", "world", "node"]) F__law_mirror_right fun _ _ _ _ _ _ us hl => match us, hl with | [_, _, _, _], _ => rfl⟩
  have c__law_run : Cal P w K mg base 2 "_law_run" ["box", "size", "world"] (sp04__law_run K) := ⟨_, fd__law_run, ok__law_run T F__law_run c__law_draw, T.gf__law_run, F__law_run.kp, FunD.bindsN (ps := ["box", "size", "world"]) F__law_run fun _ _ _ _ _ _ us hl => match us, hl with | [_, _, _], _ => rfl⟩
  have c__check_operations : Cal P w K mg base 4 "_check_operations" ["size", "log"] (sp04__check_operations K) := ⟨_, fd__check_operations, ok__check_operations T F__check_operations c_check_operation c_check_size, T.gf__check_operations, F__check_operations.kp, FunD.bindsN (ps := ["size", "log"]) F__check_operations fun _ _ _ _ _ _ us hl => match us, hl with | [_, _], _ => rfl⟩
  have c__on_node : Cal P w K mg base 1 "_on_node" ["operation", "node"] (sp04__on_node K) := ⟨_, fd__on_node, ok__on_node T F__on_node , T.gf__on_node, F__on_node.kp, FunD.bindsN (ps := ["operation", "node"]) F__on_node fun _ _ _ _ _ _ us hl => match us, hl with | [_, _], _ => rfl⟩
  have c_mirror : Cal P w K mg base 5 "mirror" ["size", "log"] (sp04_mirror K) := ⟨_, fd_mirror, ok_mirror T F_mirror c__check_operations c__on_node, T.gf_mirror, F_mirror.kp, FunD.bindsN (ps := ["size", "log"]) F_mirror fun _ _ _ _ _ _ us hl => match us, hl with | [_, _], _ => rfl⟩
  have c_play : Cal P w K mg base 7 "play" ["links", "log"] (sp_play K) := ⟨_, fd_play, ok_play T F_play c_Links_apply_at c_Links_copy, T.gf_play, F_play.kp, FunD.bindsN (ps := ["links", "log"]) F_play fun _ _ _ _ _ _ us hl => match us, hl with | [_, _], _ => rfl⟩
  have c__law_run_mirrored : Cal P w K mg base 8 "_law_run_mirrored" ["first", "size", "run", "last"] (sp04__law_run_mirrored K) := ⟨_, fd__law_run_mirrored, ok__law_run_mirrored T F__law_run_mirrored c_Links_dump c__law_dump c__law_integers c__law_opposite c__law_turned c_mirror c_mirrored c_play, T.gf__law_run_mirrored, F__law_run_mirrored.kp, FunD.bindsN (ps := ["first", "size", "run", "last"]) F__law_run_mirrored fun _ _ _ _ _ _ us hl => match us, hl with | [_, _, _, _], _ => rfl⟩
  have c__law_size : Cal P w K mg base 2 "_law_size" ["box"] (sp02__law_size K) := ⟨_, fd__law_size, ok__law_size T F__law_size c__law_draw, T.gf__law_size, F__law_size.kp, FunD.bindsN (ps := ["box"]) F__law_size fun _ _ _ _ _ _ us hl => match us, hl with | [_], _ => rfl⟩
  have c__law_bend : Cal P w K mg base 2 "_law_bend" ["box", "size", "rights", "lefts"] (sp03__law_bend K) := ⟨_, fd__law_bend, ok__law_bend T F__law_bend c__law_draw, T.gf__law_bend, F__law_bend.kp, FunD.bindsN (ps := ["box", "size", "rights", "lefts"]) F__law_bend fun _ _ _ _ _ _ us hl => match us, hl with | [_, _, _, _], _ => rfl⟩
  have c__law_world : Cal P w K mg base 3 "_law_world" ["box", "size"] (sp03__law_world K) := ⟨_, fd__law_world, ok__law_world T F__law_world c__law_bend c__law_draw, T.gf__law_world, F__law_world.kp, FunD.bindsN (ps := ["box", "size"]) F__law_world fun _ _ _ _ _ _ us hl => match us, hl with | [_, _], _ => rfl⟩
  exact ok_law T F_law c_Links_apply c_Links_copy c_Links_read c__law_asked_right c__law_box c__law_draw c__law_dump c__law_mirror_right c__law_run c__law_run_mirrored c__law_size c__law_world c__law_write
end G
open PySem PySem.W PySem.Calls PyProof.Rows
set_option maxRecDepth 100000 in
set_option maxHeartbeats 0 in
theorem PySem.Challenge.cw_latelink_k04_whole_walks_holds : PySem.Challenge.rw_latelink_k04_whole_walks.Holds := by
  w_on; o_law
  refine HandSHeadRun.head_any (r := OpenLaw.row PySem.Challenge.rw_latelink_k04_whole_walks) (q := view (OpenLaw.row PySem.Challenge.rw_latelink_k04_whole_walks).prog [50]) (H := G.hk) (ob := G.ob) (M := 8000) (loose := G.loose) (d := HandSHeadRun.topDef (OpenLaw.row PySem.Challenge.rw_latelink_k04_whole_walks).prog 50) (kwd := []) G.ob_eq
    (by kernel_rfl) (fun s => by kernel_rfl) G.run (by kernel_rfl) (by kernel_rfl) (by kernel_rfl) (by rfl) (by first | assumption | decide +kernel) (by decide +kernel) ⟨rfl, rfl, rfl, rfl, rfl, by decide +kernel⟩ ?hw ?hc
  case hw => w_witness2
  case hc =>
    refine L2.walk_ofE (l := PySem.Challenge.rw_latelink_k04_whole_walks) (n := 63) (k := 9) (x := "script") (CX := L2.CX0) rfl (by decide) (by kernel_rfl) ⟨rfl, by decide, by decide⟩ ?F (fun _ _ _ _ z => z)
    case F =>
      intro w mg fa h Y Gm hmg0
      obtain ⟨K, KX, c⟩ := Y
      have hmg : mg ("law" : PySem.Str) = some (.ref fa) := by
        have e : (HandSHeadRun.topDef (OpenLaw.row PySem.Challenge.rw_latelink_k04_whole_walks).prog 50).name = ("law" : PySem.Str) := by kernel_rfl
        rw [← e]
        exact hmg0
      obtain ⟨fd, hb, hF⟩ := G.facts (P := (PySem.Challenge.rw_latelink_k04_whole_walks).prog) (w := w) KX Gm hmg c
      exact ⟨K, fd, _, KX, hb, fun H a ns hl _ hS => ⟨a, ns, rfl, hS, hl, fun _ => rfl⟩, fun base h1 h2 => G.noX (hF base h1 h2)⟩
