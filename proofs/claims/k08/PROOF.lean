import PyProof.Rows.All
import Wide.All
import OpenK.AllK
import Wide.FinOn
import HandS.ForMost
import HandS.ForExc
import HandS.ExcInit
import HandS.ExcIs
import HandS.Star
import HandS.ClsMeth
import HandS.More
import HandS.RaiseMore
import HandS.Defaults
import HandS.Head0
import HandS.Head1
import HandS.Head2
import HandS.HeadEnd
import HandS.HeadHook1
import HandS.HeadHook2
import HandS.MakeKw
import PySem.Challenge.RW_anypads_k08_errors_of_all_classes
set_option Elab.async false
set_option linter.all false
set_option maxRecDepth 100000
set_option maxHeartbeats 4000000
/-! Errors as values: own exception classes whose own __init__ calls that of a base off its class. -/
namespace Ev
open PySem PySem.Spec PyProof.Rows L2

section
variable {X : Cx} {pins : List (Addr × Obj)} {σ : L2.St} {H H1 : Hp} {s : Shared} {C fI : Addr} {CX : CXT} {k : Nat} {sp : Sp} {E : XK} {Q : VK}
/-- the class at C is called: the new error stays tracked -/
theorem run_mk {us : List Value} {vs : List V} (T : OexC X.K C)
    (iC : PySem.W.findIn X.K (.ref C) "__init__" = some (some (.ref fI)))
    (tI : PySem.W.typeIn X.K (.ref fI) = some (.type "function"))
    (FR : FnR X.prog X.w X.K X.mg X.base CX k fI sp) (hr : Room (k + 1) X.A) (hx : Passes CX X E)
    (I1 : Inv X pins σ H1 s) (r1 : Vals vs us) (hz : vs.length ≤ 1000)
    (q1 : ∀ a, H1 a = none → sp (.ref a :: vs) (upd H1 a (exo a C none)) (fun v H2 => v = .non ∧ Q (.ref a) H2) E) :
    wpAny (model X.prog X.w) X.A (call (.ref C) us) (EP X pins σ Q) X.xe s := by
  obtain ⟨x1, x2, x3, x4, x5, x6, x7, x8, x9, x10, x11, y0, y1, y2, y3, hC, hbm⟩ := T.cls
  obtain ⟨hp, g, dr, tk, os⟩ := s
  have hs1 : hp.objs.size ≤ hp.objs.size + 1 := Nat.le_succ _
  have hn : H1 (hp.objs.size + 1) = none := I1.hok.fresh hs1
  have hq := q1 (hp.objs.size + 1) hn
  have up : ∀ b o, hp.get? b = some o →
      ((hp.push (PySem.W.kdv_tup us)).push (PySem.HandSPX.excO C hp.objs.size)).get? b = some o :=
    fun b o e => Heap.get?_push_of_some _ (Heap.get?_push_of_some _ e)
  have here : ((hp.push (PySem.W.kdv_tup us)).push (PySem.HandSPX.excO C hp.objs.size)).get? (hp.objs.size + 1)
      = some (PySem.HandSPX.excO C hp.objs.size) := by heap_get
  have I2 : Inv X pins σ (upd H1 (hp.objs.size + 1) (exo (hp.objs.size + 1) C none))
      ⟨(hp.push (PySem.W.kdv_tup us)).push (PySem.HandSPX.excO C hp.objs.size), g, dr, tk, os⟩ :=
    I1.laid (t' := tk) (a := hp.objs.size + 1) (o := exo (hp.objs.size + 1) C none)
      (h' := (hp.push (PySem.W.kdv_tup us)).push (PySem.HandSPX.excO C hp.objs.size)) up hs1 (exo_ok here)
  have r2 : Vals (V.ref (hp.objs.size + 1) :: vs) (Value.ref (hp.objs.size + 1) :: us) := .cons rfl r1
  have hus : us.length ≤ sizeLine := by
    rw [← Paired.length r1, sizeLine_eq]; omega
  refine wpAny_call (PySem.HandSPX.call_own PySem.F.excBase_ValueError (fun Y => PySem.HandSPX.refsVE_contains Y x5 hbm)
    (I1.kIn _ _ hC) (PySem.W.looks_findIn I1.kIn iC) (fun self => PySem.W.bind_fn I1.kIn self tI) hus
    (codeAny_mono (FR _ X.stack _ _ (Value.ref (hp.objs.size + 1) :: us) _ _ E (hr.make C us [])
      (I2.env0.make C us []) r2 hq) fun r s' z => ?_))
  cases r with
  | error er => exact hx pins σ _ _ er s' I2 z
  | ok fl =>
    cases fl with
    | ret u =>
      obtain ⟨v, H', I3, rv, ev, q3⟩ := I2.after z
      subst ev
      exact ⟨rv, V.ref (hp.objs.size + 1), H', I3, rfl, q3⟩
    | next => exact False.elim z
    | brk => exact False.elim z
    | cont => exact False.elim z
end

/-- C(e, ..) as a value -/
def tMk (C : Addr) (sp : Sp) (E : XK) (ta : TA) : TE := fun σ H Q => ta σ H fun vs H1 => vs.length ≤ 1000 ∧
  ∀ a, H1 a = none → sp (.ref a :: vs) (upd H1 a (exo a C none)) (fun v H2 => v = .non ∧ Q (.ref a) H2) E
/-- o.m(e, ..), o a class of one's own, m a def of it -/
def tOff (C0 : Addr) (sp : Sp) (E : XK) (to : TE) (ta : TA) : TE := fun σ H Q => to σ H fun x H1 => x = .ref C0 ∧
  ta σ H1 fun vs H2 => sp vs H2 Q E
section
variable {X : Cx} {CX : CXT} {k : Nat} {C C0 fI f0 : Addr} {mc : Value} {sp : Sp} {E : XK} {x m : Str} {o e : Expr} {es : List Expr}
  {p pos apos : Pos} {to : TE} {ta : TA} {pl : Sem Bool}
theorem pe_mk (T : OexC X.K C) (iC : PySem.W.findIn X.K (.ref C) "__init__" = some (some (.ref fI)))
    (tI : PySem.W.typeIn X.K (.ref fI) = some (.type "function")) (FR : FnR X.prog X.w X.K X.mg X.base CX k fI sp)
    (hr : Room (k + 1) X.A) (hx : Passes CX X E) (hg : Gl X x) (hm : X.mg x = some (.ref C)) (ha : PA X (e :: es) ta)
    (hdb : (x == ("__debug__" : Str)) = false := by decide)
    (he : starEach (e :: es) X.env = (false, eval e X.env) :: starEach es X.env := by rfl)
    (hpl : (backTo pos (starEach es X.env)).any (·.1) = false := by rfl) :
    PE X (.Call (.Name x p) (e :: es) [] pos) (tMk C sp E ta) := by
  refine ⟨fun pins s σ H Q I h => wpAny_Call_Name_kw (ld_glob I hg hm ?_ hdb)⟩
  refine PySem.W.callWith_K (h₀ := X.base) I.ok.mod.kin T.kC
    (thn (ha.run pos pins s σ H _ I h) fun us s1 ⟨vs, H1, I1, r1, hz, q1⟩ => ⟨I1.kIn, ?_⟩) he hpl
  exact run_mk T iC tI FR hr hx I1 r1 hz q1
theorem pe_mk0 (T : OexC X.K C) (iC : PySem.W.findIn X.K (.ref C) "__init__" = some (some (.ref fI)))
    (tI : PySem.W.typeIn X.K (.ref fI) = some (.type "function")) (FR : FnR X.prog X.w X.K X.mg X.base CX k fI sp)
    (hr : Room (k + 1) X.A) (hx : Passes CX X E) (hg : Gl X x) (hm : X.mg x = some (.ref C))
    (hdb : (x == ("__debug__" : Str)) = false := by decide) :
    PE X (.Call (.Name x p) [] [] pos) (tMk C sp E tNil) := by
  refine ⟨fun pins s σ H Q I h => wpAny_Call_Name_kw (ld_glob I hg hm ?_ hdb)⟩
  exact PySem.W.callWith_K0 I.kIn T.kC (run_mk (us := []) T iC tI FR hr hx I .nil h.1 h.2)
theorem pe_off (he : PE X o to) (r : ClX.CRead X.K C0 mc) (hf : PySem.W.findCls X.K (.ref C0) mc m = some (.val (.ref f0)))
    (FR : FnR X.prog X.w X.K X.mg X.base CX k f0 sp) (hr : Room k X.A) (kf : PySem.W.keepIn X.K (.ref f0) = true)
    (hx : Passes CX X E) (ha : PA X (e :: es) ta)
    (hst : starEach (e :: es) X.env = (false, eval e X.env) :: starEach es X.env := by rfl)
    (hpl : (backTo pos (starEach es X.env)).any (·.1) = false := by rfl)
    (ht : eval (.Call (.Attribute o m apos) (e :: es) [] pos) X.env = (eval o X.env >>= fun ov => standAt apos.atName >>= fun _ =>
      holding [ov] (getMethod ov m pl) >>= fun q => callWith pos q.1 q.2 (backTo pos (starEach (e :: es) X.env))
        (backToKw pos (keywordEach [] X.env))) := by rfl) :
    PE X (.Call (.Attribute o m apos) (e :: es) [] pos) (tOff C0 sp E to ta) := by
  refine ⟨fun pins s σ H Q I h => PySem.W.methodCall_KW (pl := pl)
    (thn (he.run pins s σ H _ I h) fun u s1 ⟨y, H1, I1, ry, ey, q⟩ => ?_) ht⟩
  subst ey
  obtain rfl : u = Value.ref C0 := ry
  refine PySem.W.method_cls I1.kIn r.ga (PySem.W.cls_value I1.kIn r.rd hf rfl ?_)
  refine PySem.W.callWith_K (first := []) (h₀ := X.base) I1.ok.mod.kin kf
    (thn (ha.run pos pins _ σ H1 _ (I1.tok _) q) fun us s2 ⟨vs, H2, I2, rv, q2⟩ => ⟨I2.kIn, ?_⟩) hst hpl
  exact wpAny_call (run_fnR FR hr hx I2 rv q2)
end
end Ev
set_option Elab.async false
set_option linter.all false
set_option maxRecDepth 100000
set_option maxHeartbeats 4000000
/-! Errors as values, further: a field read off an error, isinstance of one, repr of data. -/
namespace Ev
open PySem PySem.Spec PyProof.Rows L2
/-! ### where an error and its dict stand -/
section
variable {P : Program} {w : World} {H : Hp} {h : Heap} {a C d : Addr} {fs : List (Str × V)}
theorem err_inst (hok : HOk P w H h) (ea : H a = some (exo a C (some d))) (ed : H d = some (exd d fs)) :
    ∃ (oe od : Obj) (mA : Str → Option Value), PySem.W.InstAt h a oe C (some od) ∧ (∀ y, PySem.W.lookIn y od = some (mA y)) ∧ ∀ f, RelO (fs.lookup f) (mA f) := by
  obtain ⟨t0, ho⟩ := exo_at hok ea
  obtain ⟨mA, hns, rel⟩ := exd_at hok ed
  obtain ⟨od, hd, hl⟩ := lookIn_ns hns
  exact ⟨_, od, mA, ⟨ho, rfl, rfl, hd⟩, hl, rel⟩
end
/-! ### e.f -/
def tErr (K : PySem.W.Frag) (ta : TE) (f : Str) : TE := fun σ H Q => ta σ H fun x H1 => ∃ (a C d : Addr) (fs : List (Str × V)) (v : V), x = .ref a ∧
  ExcC K C ∧ PySem.W.findIn K (.ref C) f = some none ∧ H1 a = some (exo a C (some d)) ∧ H1 d = some (exd d fs) ∧ fs.lookup f = some v ∧ Q v H1
section
variable {X : Cx} {e : Expr} {te : TE} {f : Str} {pos : Pos}
theorem pe_err (he : PE X e te) (hb : attributeBase e f X.env (eval e X.env) = eval e X.env := by rfl) : PE X (.Attribute e f pos) (tErr X.K te f) := by
  refine ⟨fun pins s σ H Q I h => attr_of hb (thn (he.run pins s σ H _ I h) fun u s1 z => ?_)⟩
  obtain ⟨x, H1, I1, rx, a, C, d, fs, v, ex, T, no, ea, ed, l, q⟩ := z
  subst ex
  obtain rfl : u = Value.ref a := rx
  obtain ⟨oe, od, mA, J, hl, rel⟩ := err_inst I1.hok ea ed
  obtain ⟨u, hu, ru⟩ := RelO.some_of (v := v) (o := mA f) (by rw [← l]; exact rel f)
  exact PySem.HandSPX.exc_get I1.kIn J T.hg T.hk T.hs (PySem.W.findObj_own T.hd no rfl (by rw [hl, hu])) (handed_of ru) ⟨v, H1, I1.tok _, ru, q⟩
end
/-! ### isinstance(e, C) -/
section
open PySem.W
variable {prog : Program} {w : World} {A : Around} {E : Value → Shared → Prop} {s : Shared} {K : Frag} {x D : Addr} {ox : Obj} {od : Option Obj}
theorem find_cls (c : ExcC K D) : findObj K D od "__class__" = some (.bind (.builtin "getset_descriptor.__get__") (.builtin "object.__class__")) := by
  obtain ⟨cd, hc, _⟩ := any_some c.hd
  have h1 := c.ha; have h2 := c.hn; have h3 := c.ht
  unfold findObj
  rw [hc, Option.bind_some, h1, Option.bind_some]
  simp [h2, h3]
theorem cls_read {Q : Option Value → Shared → Prop} (c : ExcC K D) (X : K.In s.heap) (I : PySem.W.InstAt s.heap x ox D od)
    (h : Q (some (.ref D)) { s with toks := s.toks + 1 }) : wpAny (model prog w) A (getAttr? (.ref x) "__class__") Q E s := by
  obtain ⟨hp, g, dr, tk, os⟩ := s
  have z0 := I.type (M := model prog w)
  have z1 := looks_findIn (M := model prog w) X c.hg
  have z2 := looks_findIn (M := model prog w) X c.hk
  have z3 := looks_find (M := model prog w) X I (find_cls c)
  have sb : Looks (model prog w) hp (isInstance (.ref x) (.type "BaseException")) true := z0.andThen (looks_subIn X c.hs)
  have n0 : (false && onTheHeap (Value.builtin "BaseException.__getattribute__")) = false := rfl
  have n2 : (Value.builtin "BaseException.__getattribute__" == Value.builtin "object.__getattribute__") = false := by decide +kernel
  have n1 : (onTheHeap (Value.ref D) && Value.builtin "BaseException.__getattribute__" == Value.builtin "object.__getattribute__") = false := by
    rw [n2]; rfl
  unfold getAttr? getAttrBy? getAttrBy
  refine wpAny_bind (wpAny_mkText (wpAny_bind (wpAny_attempt (wpAny_holding (wpAny_bind (z0.at (wpAny_bind (z1.at ?_))))))))
  show wpAny _ _ (if (onTheHeap (Value.ref D) && Value.builtin "BaseException.__getattribute__" == Value.builtin "object.__getattribute__") = true then _ else _) _ _ _
  rw [n1, if_neg Bool.false_ne_true]
  unfold getAttrByItsOwn hookBefore
  refine wpAny_bind ?_
  rw [if_pos (show onTheHeap (Value.ref D) = true from rfl)]
  refine z2.at (wpAny_bind (wpAny_attempt (wpAny_holding ?_)))
  unfold callGetattribute
  rw [n0, if_neg Bool.false_ne_true]
  unfold boundAndCalled
  rw [PySem.F.excAttr_ValueError.ga.bind (.ref x)]
  refine wpAny_bind (wpAny_pure ?_)
  show wpAny _ _ (call (.builtin "BaseException.__getattribute__") [.ref x, .str "__class__" tk]) _ _ _
  refine wpAny_call (codeAny_call_builtin PySem.F.excAttr_ValueError.ga.plain PySem.F.entry_bexc_ga
    (@check_slot (model prog w) _ _ ⟨hp, g, dr, tk + 1, os⟩ "BaseException.__getattribute__" "BaseException" "__getattribute__" (.ref x) [.str "__class__" tk] [] _
      (by decide +kernel) (by decide +kernel) sb (PySem.F.args_bexc_ga (.ref x) (.str "__class__" tk)) ?_))
  unfold Builtin.«object.__getattribute__»
  refine wpAny_bind (wpAny_of_eq (a := ((Value.ref x : Value), [Value.str "__class__" tk])) (by first | rfl | (simp only [slotArgs]; rfl)) ?_)
  refine wpAny_bind (wpAny_pure (wpAny_bind (z0.at (wpAny_bind (z3.at ?_)))))
  show wpAny _ _ (holding [Value.builtin "object.__class__"] (call (.builtin "getset_descriptor.__get__") [.builtin "object.__class__", .ref x, .ref D]) >>= ret) _ _ _
  refine wpAny_bind (wpAny_holding (wpAny_call (class_get (s := ⟨hp, g, dr, tk + 1, os⟩) (ox := ox) (od := od) X I c.hm (wpAny_pure ?_))))
  show wpAny _ _ (handedOut (.ref D)) _ _ _
  rw [handedOut_of (v := .ref D) rfl]
  first
    | exact wpAny_pure (wpAny_pure h)
    | exact wpAny_pure h
    | exact wpAny_pure (wpAny_bind (wpAny_pure (wpAny_pure h)))
theorem kit_err (c : ExcC K D) : KitX K (.ref x) (.ref D) (fun h => PySem.W.InstAt h x ox D od) := by
  have k : ∃ c' d' cd' sl', K.lookup D = some ⟨c', d', .cls cd', sl'⟩ := by
    obtain ⟨cd, hc, _⟩ := any_some c.hd
    unfold clsIn at hc
    split at hc
    · rename_i c' d' cd' sl' ho
      exact ⟨c', d', cd', sl', ho⟩
    · cases hc
  obtain ⟨c', d', cd', sl', ho⟩ := k
  refine ⟨fun _ _ _ I => I.type, fun _ _ X _ A' Q' E' s' kp q => ?_, fun h tp dd its n sl X ht => Bool.eq_false_iff.mpr fun q => ?_, fun X I q => cls_read c X I q⟩
  · unfold isType loadHead
    exact wpAny_bind (wpAny_loadPart (kp _ _ (X _ _ ho)) (wpAny_pure q))
  · have e : D = tp := Value.ref.inj (beq_iff_eq.mp q)
    subst e
    cases (X _ _ ho).symm.trans ht
end
/-- isinstance(e, c), e an error of the class at D -/
def rIsV (K : PySem.W.Frag) : List V → Hp → VK → Prop := fun xs H Q => ∃ (a D d : Addr) (fs : List (Str × V)) (c : V) (cv : Value) (b : Bool), xs = [.ref a, c] ∧ ExcC K D ∧
  H a = some (exo a D (some d)) ∧ H d = some (exd d fs) ∧ (∀ u, RelV c u → u = cv) ∧ PySem.W.kitOne K (.ref D) cv = some b ∧ Q (.bl b) H
theorem call_isV {X : Cx} : CallR X (.builtin "isinstance") (rIsV X.K) := by
  intro pins s σ H xs us Q I r h
  obtain ⟨a, D, d, fs, c, cv, b, rfl, T, ea, ed, hcv, e, q⟩ := h
  obtain ⟨oe, od, mA, J, hl, rel⟩ := err_inst I.hok ea ed
  cases r with
  | cons rx rr => cases rr with
    | cons rt rr =>
      cases rr
      cases rx
      have ec := hcv _ rt
      subst ec
      exact PySem.W.kia_one (kit_err T) I.kIn J e (fun z => nomatch z) fun tk => ⟨.bl b, H, I.kept (t' := tk) fun _ _ z => z, rfl, q⟩
/-- isinstance(e, (c1, c2, ..)) -/
def rIsW (K : PySem.W.Frag) : List V → Hp → VK → Prop := fun xs H Q => ∃ (a D d tp : Addr) (fs : List (Str × V)) (cs : List V) (cvs : List Value) (b : Bool), xs = [.ref a, .ref tp] ∧ ExcC K D ∧
  H a = some (exo a D (some d)) ∧ H d = some (exd d fs) ∧ SqT K H tp cs ∧ (∀ us, Vals cs us → us = cvs) ∧ PySem.W.kitAny K (.ref D) cvs = some b ∧ Q (.bl b) H
theorem call_isW {X : Cx} : CallR X (.builtin "isinstance") (rIsW X.K) := by
  intro pins s σ H xs us Q I r h
  obtain ⟨a, D, d, tp, fs, cs, cvs, b, rfl, T, ea, ed, ht, hcv, e, q⟩ := h
  obtain ⟨oe, od, mA, J, hl, rel⟩ := err_inst I.hok ea ed
  obtain ⟨its, rv, ⟨o, ho, hc, n, hd⟩, hz⟩ := I.tuple ht
  have ei := hcv _ rv
  subst ei
  obtain ⟨oc, odi, oda, osl⟩ := o
  dsimp only at hc hd
  subst hc hd
  cases r with
  | cons rx rr => cases rr with
    | cons rt rr =>
      cases rr
      cases rx
      cases rt
      exact PySem.W.kia_tup (kit_err T) I.kIn J ho e (fun z => nomatch z) fun tk => ⟨.bl b, H, I.kept (t' := tk) fun _ _ z => z, rfl, q⟩
end Ev
set_option Elab.async false
set_option linter.all false
set_option maxRecDepth 100000
set_option maxHeartbeats 4000000
/-! repr of data: None, bools, ints, texts, lists, tuples, dicts by text and int keys, one in another. -/
namespace Ev
open PySem PySem.Spec PyProof.Rows L2
def keyD : Key → PyData
  | .inl i => .int i
  | .inr x => .str x
mutual
inductive Dr (K : PySem.W.Frag) (H : Hp) : V → PyData → Prop
  | non : Dr K H .non .none
  | bl (b : Bool) : Dr K H (.bl b) (.bool b)
  | int (i : Int) : Dr K H (.int i) (.int i)
  | str (x : Str) : Dr K H (.str x) (.str x)
  | lst {a : Addr} {xs : List V} {ds : List PyData} : SqL K H a xs → DrAll K H xs ds → Dr K H (.ref a) (.list ds)
  | tup {a : Addr} {xs : List V} {ds : List PyData} : SqT K H a xs → DrAll K H xs ds → Dr K H (.ref a) (.tuple ds)
  | dct {a : Addr} {kvs : List (Key × V)} {ds : List PyData} : H a = some (.dK kvs) → DrAll K H (kvs.map (·.2)) ds →
      Dr K H (.ref a) (.dict ((kvs.map fun p => keyD p.1).zip ds))
inductive DrAll (K : PySem.W.Frag) (H : Hp) : List V → List PyData → Prop
  | nil : DrAll K H [] []
  | cons {v : V} {vs : List V} {d : PyData} {ds : List PyData} : Dr K H v d → DrAll K H vs ds → DrAll K H (v :: vs) (d :: ds)
end
theorem same_seqT {K : PySem.W.Frag} {H H' : Hp} {a : Addr} {xs : List V} (S : Same H H') (h : SqT K H a xs) : SqT K H' a xs := by
  rcases h with (h | ⟨o, h⟩) | h
  · exact .inl (.inl (S _ _ h))
  · exact .inl (.inr ⟨o, S _ _ h⟩)
  · exact .inr h
mutual
theorem Dr.same {K : PySem.W.Frag} {H H' : Hp} (S : Same H H') : ∀ {v : V} {d : PyData}, Dr K H v d → Dr K H' v d
  | _, _, .non => .non
  | _, _, .bl b => .bl b
  | _, _, .int i => .int i
  | _, _, .str x => .str x
  | _, _, .lst h r => .lst (S.seq h) (DrAll.same S r)
  | _, _, .tup h r => .tup (same_seqT S h) (DrAll.same S r)
  | _, _, .dct h r => .dct (S _ _ h) (DrAll.same S r)
theorem DrAll.same {K : PySem.W.Frag} {H H' : Hp} (S : Same H H') : ∀ {vs : List V} {ds : List PyData}, DrAll K H vs ds → DrAll K H' vs ds
  | _, _, .nil => .nil
  | _, _, .cons h r => .cons (Dr.same S h) (DrAll.same S r)
end
theorem DrAll.len {K : PySem.W.Frag} {H : Hp} : ∀ {vs : List V} {ds : List PyData}, DrAll K H vs ds → vs.length = ds.length
  | _, _, .nil => rfl
  | _, _, .cons _ r => congrArg Nat.succ r.len
/-- the written part knows the table of modules as a dict -/
def SysK (K : PySem.W.Frag) : Prop := ∃ o, K.lookup sysModules = some o ∧ o.cls = .type "dict"
theorem keys_read {P : Program} {w : World} {h : Heap} : ∀ {es : List DictEntry} {vs : List (Key × Value)}, PySem.Pairs (mixKind P w) es vs →
    ReadsAll h (es.map (·.key)) (vs.map fun p => keyD p.1) [] ∧ es.map (·.val) = vs.map (·.2)
  | _, _, .nil => ⟨.nil, rfl⟩
  | _, _, .cons (e := e) (kv := kv) (es := es) (kvs := kvs) h1 h2 r => by
    obtain ⟨a, b⟩ := keys_read (h := h) r
    refine ⟨?_, ?_⟩
    · rcases keyIs_shape (k := kv.1) (v := e.key) h1 with ⟨i, t, k1, k2⟩ | ⟨x, t, k1, k2⟩
      · have z : Reads h e.key (keyD kv.1) [] := by
          rw [k1, k2]; exact .int i t
        exact ReadsAll.cons z a
      · have z : Reads h e.key (keyD kv.1) [] := by
          rw [k1, k2]; exact .str x t
        exact ReadsAll.cons z a
    · show e.val :: es.map (·.val) = kv.2 :: kvs.map (·.2)
      rw [h2, b]
theorem kv_split : ∀ {kvs : List (Key × V)} {vs : List (Key × Value)}, KV kvs vs → (kvs.map fun p => keyD p.1) = (vs.map fun p => keyD p.1) ∧ Vals (kvs.map (·.2)) (vs.map (·.2))
  | _, _, .nil => ⟨rfl, .nil⟩
  | _, _, .cons (a := p) (b := q) h r => by
    obtain ⟨x, y⟩ := kv_split r
    refine ⟨?_, .cons h.2 y⟩
    show keyD p.1 :: _ = keyD q.1 :: _
    rw [h.1, x]
section
variable {X : Cx} {pins : List (Addr × Obj)} {σ : L2.St} {H : Hp} {s : Shared}
theorem not_sys {a : Addr} (I : Inv X pins σ H s) (hs : SysK X.K) {o : Obj} (ho : s.heap.get? a = some o) (hc : o.cls = .type "list") : sysModules ≠ a := fun e => by
  obtain ⟨o2, h2, c2⟩ := hs
  have z := I.kIn _ _ h2
  rw [e, ho] at z
  cases z
  rw [hc] at c2
  have c3 := Value.type.inj c2
  exact absurd c3 (by decide)
mutual
theorem Dr.reads (I : Inv X pins σ H s) (hs : SysK X.K) : ∀ {v : V} {d : PyData} {u : Value}, Dr X.K H v d → RelV v u → ∃ as, Reads s.heap u d as ∧ sysModules ∉ as
  | _, _, _, .non, r => by cases r; exact ⟨[], .none, by simp⟩
  | _, _, _, .bl b, r => by cases r; exact ⟨[], .bool b, by simp⟩
  | _, _, _, .int i, r => by obtain ⟨t, rfl⟩ := r; exact ⟨[], .int i t, by simp⟩
  | _, _, _, .str x, r => by obtain ⟨t, rfl⟩ := r; exact ⟨[], .str x t, by simp⟩
  | _, _, _, .lst h ha, r => by
    cases r
    obtain ⟨its, rv, ⟨o, n, ho, hc, _, hd⟩, _⟩ := I.list h
    obtain ⟨as, hr, hn⟩ := DrAll.reads I hs ha rv
    exact ⟨_, Reads.list ho hc hd hr, fun hm => (List.mem_cons.mp hm).elim (not_sys I hs ho hc) hn⟩
  | _, _, _, .tup h ha, r => by
    cases r
    obtain ⟨its, rv, ⟨o, ho, hc, n, hd⟩, _⟩ := I.tuple h
    obtain ⟨as, hr, hn⟩ := DrAll.reads I hs ha rv
    exact ⟨_, Reads.tuple ho hc hd hr, hn⟩
  | _, _, _, .dct (kvs := kvs) (ds := ds) h ha, r => by
    cases r
    obtain ⟨_, hy, vs, rel, o, es, ep, ho, hc, hd, _, pr, _⟩ := dk_of I.hok h
    obtain ⟨k1, k2⟩ := keys_read (h := s.heap) pr
    obtain ⟨e1, rv⟩ := kv_split rel
    obtain ⟨as, hr, hn⟩ := DrAll.reads I hs ha rv
    have hl : (kvs.map fun p => keyD p.1).length = ds.length := by
      rw [← ha.len, List.length_map, List.length_map]
    refine ⟨_, Reads.dict (as := []) (bs := as) ho hc.1 hd ?_ ?_, fun hm => ?_⟩
    · rw [List.map_fst_zip (Nat.le_of_eq hl), e1]; exact k1
    · rw [List.map_snd_zip (Nat.le_of_eq hl.symm), k2]; exact hr
    · rcases List.mem_cons.mp hm with q | q
      · rw [← q] at hy
        exact absurd hy (by simp)
      · exact hn (by simpa using q)
theorem DrAll.reads (I : Inv X pins σ H s) (hs : SysK X.K) : ∀ {vs : List V} {ds : List PyData} {us : List Value}, DrAll X.K H vs ds → Vals vs us → ∃ as, ReadsAll s.heap us ds as ∧ sysModules ∉ as
  | _, _, _, .nil, r => by cases r; exact ⟨[], .nil, by simp⟩
  | _, _, _, .cons h1 h2, r => by
    cases r with
    | cons r1 r2 =>
      obtain ⟨as, q1, n1⟩ := Dr.reads I hs h1 r1
      obtain ⟨bs, q2, n2⟩ := DrAll.reads I hs h2 r2
      exact ⟨_, .cons q1 q2, fun hm => (List.mem_append.mp hm).elim n1 n2⟩
end
end
/-- repr(x), x data -/
def rRepr (K : PySem.W.Frag) : List V → Hp → VK → Prop := fun xs H Q => ∃ (v : V) (d : PyData), xs = [v] ∧ Dr K H v d ∧ d.showable = true ∧ d.shown.length ≤ sizeLine ∧ d.depth ≤ 20 ∧ Q (.str d.shown) H
theorem call_repr {X : Cx} (hg : X.A.guards = some []) (hu : X.A.units + 64 < cLine) (hs : SysK X.K) : CallR X (.builtin "repr") (rRepr X.K) := by
  intro pins s σ H xs us Q I r h
  obtain ⟨v, d, rfl, hd, hsh, hz, hdp, q⟩ := h
  cases r with
  | cons r1 rr =>
    cases rr
    cases hd with
    | non =>
      cases r1
      exact PySem.P.repr_of_none ⟨.str _, H, I.tok _, ⟨_, rfl⟩, q⟩
    | bl b =>
      cases r1
      refine PySem.P.repr_of_bool ⟨.str _, H, I.tok _, ⟨_, rfl⟩, ?_⟩
      simpa only [PyData.shown] using q
    | int i =>
      obtain ⟨t, rfl⟩ := r1
      refine PySem.P.repr_of_int (by simpa [PyData.showable] using hsh) ⟨.str _, H, I.tok _, ⟨_, rfl⟩, ?_⟩
      simpa only [PyData.shown] using q
    | str x =>
      obtain ⟨t, rfl⟩ := r1
      refine PySem.P.repr_of_str ⟨.str _, H, I.tok _, ⟨_, rfl⟩, ?_⟩ (by simpa only [PyData.shown] using hz)
      simpa only [PyData.shown] using q
    | lst h1 h2 =>
      cases r1
      obtain ⟨as, rd, hn⟩ := Dr.reads I hs (.lst h1 h2) rfl
      exact repr_of_reads' rd hsh (fun _ => hn) hg (by omega) (fun _ _ e => e) (fun h' u tk hk => ⟨.str _, H, I.kept (t' := tk) hk, ⟨u, rfl⟩, q⟩) hz
    | tup h1 h2 =>
      cases r1
      obtain ⟨as, rd, hn⟩ := Dr.reads I hs (.tup h1 h2) rfl
      exact repr_of_reads' rd hsh (fun _ => hn) hg (by omega) (fun _ _ e => e) (fun h' u tk hk => ⟨.str _, H, I.kept (t' := tk) hk, ⟨u, rfl⟩, q⟩) hz
    | dct h1 h2 =>
      cases r1
      obtain ⟨as, rd, hn⟩ := Dr.reads I hs (.dct h1 h2) rfl
      exact repr_of_reads' rd hsh (fun _ => hn) hg (by omega) (fun _ _ e => e) (fun h' u tk hk => ⟨.str _, H, I.kept (t' := tk) hk, ⟨u, rfl⟩, q⟩) hz
end Ev
set_option Elab.async false
set_option linter.all false
set_option maxRecDepth 100000
set_option maxHeartbeats 4000000
/-! Defs whose bodies ask repr: a promise that holds where no repr is under way (FnG); the end of a law by such a promise; a Hook with one Bool more. -/
namespace Ev
open PySem PySem.Spec PyProof.Rows L2
def FnG (P : Program) (w : World) (K : PySem.W.Frag) (mg : Str → Option Value) (base : Heap) (CX : CXT) (k : Nat) (f : Addr) (sp : Sp) : Prop :=
  ∀ (A : Around) (outer : List Env) (s : Shared) (H : Hp) (us : List Value) (vs : List V) (Q : VK) (E : XK), A.guards = some [] → Room k A →
    Env0 P w K mg base A outer s H → Vals vs us → sp vs H Q E → codeAny (model P w) A (.call (.ref f) ⟨us, []⟩) (CR CX outer P w H s Q E) s
section
variable {P : Program} {w : World} {K : PySem.W.Frag} {mg : Str → Option Value} {base : Heap} {CX : CXT} {k : Nat} {f : Addr} {sp : Sp}
theorem FnG.of (F : FnR P w K mg base CX k f sp) : FnG P w K mg base CX k f sp := fun A outer s H us vs Q E _ => F A outer s H us vs Q E
theorem FnG.mono {j : Nat} (F : FnG P w K mg base CX j f sp) (h : j ≤ k) : FnG P w K mg base CX k f sp := fun A outer s H us vs Q E g hr => F A outer s H us vs Q E g (hr.mono h)
/-- a def, by its body, where no repr is under way -/
theorem okG {x qual : Str} {params : Arguments} {body : List Stmt} {scope : Scope} {fd : FuncData} {N ps : List Str}
    (F : FunD K x qual params body scope [] [] f fd) (S : FnScope N ps scope)
    (hb : ∀ (kV doc pm : Value) (an : Option Addr) (cdv ct : Value) (us : List Value), us.length = ps.length →
      bindArgs (PySem.W.fnOf x qual params body scope .none kV doc pm an cdv ct) ⟨us, []⟩ = pure (ps.zip us))
    (len : ∀ vs H Q E, sp vs H Q E → vs.length = ps.length)
    (hbody : ∀ (cdv : Value) (A : Around) (outer : List Env) (s : Shared) (H : Hp) (vs : List V) (Q : VK) (E : XK), A.guards = some [] →
      Room k (A.deeper (envOfC qual scope s.heap.objs.size f cdv)) → sp vs H Q E →
      ∃ t, PSs (cxOf CX P w K mg base N qual scope f cdv A outer s H E) body t ∧ t { nx := fun _ H' => Q .non H', rt := Q } (start N vs) H) :
    FnG P w K mg base CX (k + 1) f sp := by
  intro A outer s H us vs Q E hg hr e0 r hsp
  obtain ⟨oc, od, dV, kV, doc, pm, an, cdv, ct, osl, rfl, lk, hcd, hD, hK⟩ := F.ex
  have hl : us.length = ps.length := by rw [← r.length]; exact len _ _ _ _ hsp
  rcases hD with ⟨_, rfl⟩ | ⟨e, _⟩
  · refine StX.run_bnd (G := fun xs H2 => xs = vs ∧ H2 = H) lk hcd S hr e0 (fun A' Ex Q' h => ?_) fun s2 H2 xs ⟨ex, eH⟩ hr' => ?_
    · rw [hb kV doc pm an cdv ct us hl]
      exact wpAny_pure (h s H vs us e0 (Un.kept fun _ _ z => z) rfl (fun _ _ z => z) r (r.length.trans hl) ⟨rfl, rfl⟩)
    · subst ex eH
      exact hbody cdv A outer s2 _ _ Q E hg hr' hsp
  · exact absurd rfl e
end
section
variable {X : Cx} {CX : CXT} {k : Nat} {f : Addr} {sp : Sp} {E : XK} {x : Str} {p pos : Pos} {e : Expr} {es : List Expr} {t : TA}
theorem pe_callG (F : FnG X.prog X.w X.K X.mg X.base CX k f sp) (hgd : X.A.guards = some []) (hr : Room k X.A) (hg : Gl X x) (hm : X.mg x = some (.ref f))
    (hk : PySem.W.keepIn X.K (.ref f) = true) (hx : Passes CX X E) (ha : PA X (e :: es) t) (hdb : (x == ("__debug__" : Str)) = false := by decide)
    (he : starEach (e :: es) X.env = (false, eval e X.env) :: starEach es X.env := by rfl) (hpl : (backTo pos (starEach es X.env)).any (·.1) = false := by rfl) :
    PE X (.Call (.Name x p) (e :: es) [] pos) (tCall sp [] E t) := by
  refine ⟨fun pins s σ H Q I h => wpAny_Call_Name_kw (ld_glob I hg hm ?_ hdb)⟩
  refine PySem.W.callWith_K (h₀ := X.base) I.ok.mod.kin hk (thn (ha.run pos pins s σ H _ I h) fun us s1 ⟨vs, H1, I1, r, q⟩ => ⟨I1.kIn, wpAny_call ?_⟩) he hpl
  have q : sp (vs ++ []) H1 Q E := q
  rw [List.append_nil] at q
  refine codeAny_mono (F X.A X.stack s1 H1 us vs Q E hgd hr I1.env0 r q) fun r2 s' z => ?_
  cases r2 with
  | error er => exact hx pins σ _ s1 er s' I1 z
  | ok fl =>
    cases fl with
    | ret u => exact I1.after z
    | next => exact False.elim z
    | brk => exact False.elim z
    | cont => exact False.elim z
end
/-! ### the end of a law -/
section
variable {P : Program} {w : World} {K : PySem.W.Frag} {mg mb : Str → Option Value} {CX : CXT} {k : Nat} {fa a : Addr} {sp : Sp} {s1 : Shared} {vs : List Value} {ns : List Int}
abbrev LawEnd (s1 : Shared) : Result → Shared → Prop := fun r s' => r = .ok (.ret (.bool true)) ∧ OldK s1.heap s'.heap ∧ s'.os = s1.os ∧ AllBare s'.gens
theorem law_from {H : Hp} (KX : K.In s1.heap) (hns : s1.heap.Ns mainGlobals mg) (hb : s1.heap.Ns builtinsNs mb) (hbb : ∀ x : Str, x ≠ "__name__" → mb x = bootBuiltins x)
    (hlim : s1.heap.NoLimit) (hg : s1.gens = #[]) (ha : s1.heap.get? a = some { cls := .type "list", data := .seq vs.toArray }) (hr : Room k callerA)
    (F : ∀ base : Heap, K.In base → base.Ns mainGlobals mg → FnG P w K mg base CX k fa sp)
    (hsp : sp [.ref a] H (fun v _ => v = .bl true) fun _ _ _ => False) (hCX : ∀ e s', CX [] H s1 (fun _ _ _ => False) e s' → False)
    (hO : Only H) (hok : HOk P w H s1.heap) (hA : ∀ b, H b ≠ none → b = a) (hK : H a ≠ none → K.lookup a = none) :
    codeAny (model P w) callerA (.call (.ref fa) ⟨[.ref a], []⟩) (LawEnd s1) s1 := by
  have free : ∀ {b : Addr} {o : Obj} {es : Array DictEntry} {ep : Nat}, s1.heap.get? b = some o → o.data = .dict es ep → H b = none := fun {b o es ep} e d => by
    cases q : H b with
    | none => rfl
    | some u =>
      obtain rfl : b = a := hA b (by rw [q]; exact fun z => nomatch z)
      rw [ha] at e
      cases e
      exact nomatch (show Data.seq vs.toArray _ = Data.dict es ep from d)
  have nsk : ∀ {b : Addr} {m : Str → Option Value}, s1.heap.Ns b m → (hidT s1.heap H).Ns b m := fun ⟨o, es, ep, e, d, r⟩ => ⟨o, es, ep, hidT_get e (free e d), d, r⟩
  have kb : K.In (hidT s1.heap H) := fun b o e => hidT_get (KX b o e) (by
    cases q : H b with
    | none => rfl
    | some u =>
      obtain rfl : b = a := hA b (by rw [q]; exact fun z => nomatch z)
      rw [hK (by rw [q]; exact fun z => nomatch z)] at e
      cases e)
  obtain ⟨mc, l1, l2⟩ := hlim
  have e0 : Env0 P w K mg (hidT s1.heap H) callerA [] s1 H := {
    frames := rfl
    mod := ⟨kb, nsk hns, ⟨mb, nsk hb, hbb⟩, ⟨mc, nsk l1, l2⟩⟩
    bs := fun b o e => of_hidT e
    bsz := Nat.le_of_eq (hidT_size _ _)
    funs := trivial
    frf := fun b hm => absurd (show b ∈ ([] : List Addr) from hm) (by simp)
    hok := hok
    bare := .of_eq hg }
  refine codeAny_mono (F _ kb (nsk hns) callerA [] s1 H [.ref a] [.ref a] _ _ rfl hr e0 (.cons rfl .nil) hsp) fun r s' h => ?_
  have ends : ∀ {u : Value}, CE [] P w H s1 (fun v _ => v = .bl true) u s' → LawEnd s1 (.ok (.ret u)) s' := by
    intro u h
    obtain ⟨v, H', os, bare, un, ok2, rv, rfl⟩ := h
    obtain rfl : u = Value.bool true := rv
    refine ⟨rfl, OldK.of_keep fun b o e => ?_, os, bare⟩
    cases q : H b with
    | none => exact un.keep b o e q (by intro z; exact absurd (show b ∈ ([] : List Addr) from z) (by simp)) (by simp)
    | some u =>
      rcases hO b with z | ⟨ob, xs, z⟩
      · rw [q] at z
        cases z
      · obtain ⟨e1, _⟩ := hok b _ z
        obtain ⟨e2, _⟩ := ok2 b _ (un.frzs b ob _ z)
        rw [e] at e1
        cases e1
        exact e2
  cases r with
  | error er => exact (hCX er s' h).elim
  | ok fl =>
    cases fl with
    | ret u => exact ends h
    | next => exact False.elim h
    | brk => exact False.elim h
    | cont => exact False.elim h
theorem law_callG (KX : K.In s1.heap) (hns : s1.heap.Ns mainGlobals mg) (hb : s1.heap.Ns builtinsNs mb) (hbb : ∀ x : Str, x ≠ "__name__" → mb x = bootBuiltins x)
    (hlim : s1.heap.NoLimit) (hg : s1.gens = #[]) (ha : s1.heap.get? a = some { cls := .type "list", data := .seq vs.toArray }) (hi : IntsAre vs ns) (hl : ns.length ≤ sizeLine)
    (hr : Room k callerA) (F : ∀ base : Heap, K.In base → base.Ns mainGlobals mg → FnG P w K mg base CX k fa sp)
    (hsp : ∀ H : Hp, Only H → SqL K H a (ns.map V.int) → sp [.ref a] H (fun v _ => v = .bl true) fun _ _ _ => False)
    (hCX : ∀ H e s', CX [] H s1 (fun _ _ _ => False) e s' → False) : codeAny (model P w) callerA (.call (.ref fa) ⟨[.ref a], []⟩) (LawEnd s1) s1 := by
  have rv := vals_ints hi
  have lv := hi.length
  cases hk : K.lookup a with
  | some o =>
    have e := KX a o hk
    rw [ha] at e
    cases e
    have hO : Only (fun _ => none) := fun _ => .inl rfl
    exact law_from KX hns hb hbb hlim hg ha hr F (hsp _ hO (.inr ⟨_, vs.toArray, _, hk, rfl, rfl, rfl, by rw [List.size_toArray, lv]; exact hl, by simpa using rv⟩)) (hCX _) hO
      (fun b u z => nomatch (show (none : Option HO) = some u from z)) (fun b z => absurd rfl z) fun z => absurd rfl z
  | none =>
    let H : Hp := fun b => if b = a then some (.frz { cls := .type "list", data := .seq vs.toArray } (.lst (ns.map V.int))) else none
    have at1 : H a = some (.frz { cls := .type "list", data := .seq vs.toArray } (.lst (ns.map V.int))) := if_pos rfl
    have off : ∀ {b}, b ≠ a → H b = none := fun h => if_neg h
    have hO : Only H := fun b => by
      by_cases q : b = a
      · exact .inr ⟨_, _, q ▸ at1⟩
      · exact .inl (off q)
    refine law_from KX hns hb hbb hlim hg ha hr F (hsp H hO (.inl (.inr ⟨_, at1⟩))) (hCX H) hO (fun b u z => ?_) (fun b z => ?_) fun _ => hk
    · by_cases q : b = a
      · subst q
        rw [at1] at z
        cases z
        exact ⟨ha, by rw [List.length_map]; exact hl, vs, _, rv, ha⟩
      · rw [off q] at z
        cases z
    · by_cases q : b = a
      · exact q
      · exact absurd (off q) z
end
theorem walk_ofG {l : PySem.W.OpenLaw} {n k : Nat} {q : Program} {loose : List Str} {XP : (Str → Option Value) → Heap → Prop} {YP : World → Heap → Prop} {d : DefRec} {CX : CXT}
    (hn : l.most = some n) (hn2 : n ≤ sizeLine) (hdf : d.params.defaults = []) (hr : Room k callerA)
    (F : ∀ (w : World) (mg : Str → Option Value) (fa : Addr) (h : Heap), YP w h → h.Ns mainGlobals mg → mg d.name = some (.ref fa) →
      ∃ (K : PySem.W.Frag) (sp : Sp), K.In h ∧
        (∀ (H : Hp) (a : Addr) (ns : List Int), ns.length ≤ n → Only H → SqL K H a (ns.map V.int) → sp [.ref a] H (fun v _ => v = .bl true) fun _ _ _ => False) ∧
        ∀ base : Heap, K.In base → base.Ns mainGlobals mg → FnG l.prog w K mg base CX k fa sp)
    (hCX : ∀ (H : Hp) (s : Shared) (e : Value) (s' : Shared), CX [] H s (fun _ _ _ => False) e s' → False) :
    PySem.W.WalkO q loose XP YP l.row.toRowW d [] (fun f vs => PySem.call f vs) := by
  refine Att.attach_call hn hdf fun w s0 s1 mg mb fa o pm cd doc a vs ns G Y ho hd hcd hmg hobj hints hlen hg => ?_
  obtain ⟨K, sp, KX, hsp, hF⟩ := F w mg fa _ Y G.T.g hmg
  exact law_callG KX G.T.g G.T.b G.T.builtins G.T.nolimit hg hobj hints (Nat.le_trans hlen hn2) hr hF (fun H hO hS => hsp H a ns hlen hO hS) fun H e s' => hCX H s1 e s'
/-! ### a Hook: the facts of He, and a Bool of one's own; the table of modules is among what is known -/
def asE (g : Addr → Option Obj) (n : Nat) : List Addr := He.asD g n ++ [sysModules, cStatics]
def obsE (n : Nat) (fa : List He.Fa) (fn : List He.DefD) (ex : PySem.W.Frag → Bool) (g : Addr → Option Obj) : He.AlD × Bool :=
  (He.obsD fa fn (He.frG g (asE g n)), ex (He.frG g (asE g n)))
def hookE (n : Nat) (fa : List He.Fa) (fn : List He.DefD) (ex : PySem.W.Frag → Bool) : PySem.W.Hook where
  α := He.AlD × Bool
  obs := fun s => obsE n fa fn ex s.heap.get?
  val := fun _ => (He.valD fn, true)
  says := fun _ h => ∃ K : PySem.W.Frag, K.In h ∧ He.SaysD fa fn K ∧ ex K = true
  of := fun _ _ e => ⟨_, He.frG_in, congrArg (fun z : He.AlD × Bool => z.1) e, congrArg (fun z : He.AlD × Bool => z.2) e⟩
  keeps := fun _ _ _ ⟨K, hK, c⟩ k => ⟨K, PySem.W.Frag.In.keeps hK k, c⟩
theorem obsE_eq {n : Nat} {fa : List He.Fa} {fn : List He.DefD} {ex : PySem.W.Frag → Bool} {g : Addr → Option Obj} {s : Shared} (h : ∀ a, g a = s.heap.get? a) :
    obsE n fa fn ex g = (hookE n fa fn ex).obs s := by
  have e : g = s.heap.get? := funext h
  rw [e] <;> rfl
end Ev
set_option Elab.async false
set_option linter.all false
set_option maxRecDepth 100000
set_option maxHeartbeats 4000000
/-! What the written part says of a family of errors: PadError over ValueError, the others over it. -/
namespace Ev
open PySem PySem.Spec PyProof.Rows L2 PySem.W
def eqS (a b : Option (Option Value)) : Bool := decide (a = b)
def oexB (K : Frag) (C : Addr) : Bool :=
  (match K.lookup C with
    | some ⟨.type t, _, .cls cd, sl⟩ => decide (t = "type") && ((match cd.mro, sl.toList with
      | .ref C' :: bm, [_, _, _, _, some (.builtin n)  , _] => decide (C' = C) && (decide (n = "ValueError.__new__") && (!cd.hasDel && (cd.hasDict && PySem.HandSPX.refsVE bm)))
      | _, _ => false))
    | _ => false) &&
  (eqS (findIn K (.ref C) "__setattr__") (some (some (.builtin "object.__setattr__"))) && (decide (subIn K (.ref C) (.type "BaseException") = some true) &&
  (decide (typeIn K (.ref C) = some (.type "type")) && keepIn K (.ref C))))
theorem two {a b : Bool} (h : (a && b) = true) : a = true ∧ b = true := Bool.and_eq_true_iff.mp h
theorem oexB_ok {K : Frag} {C : Addr} (h : oexB K C = true) : OexC K C := by
  obtain ⟨h1, h⟩ := two h
  obtain ⟨h2, h⟩ := two h
  obtain ⟨h3, h⟩ := two h
  obtain ⟨h4, h5⟩ := two h
  refine ⟨?_, of_decide_eq_true h2, of_decide_eq_true h3, of_decide_eq_true h4, h5⟩
  split at h1
  · rename_i t dd cd sl lk
    obtain ⟨ht, h1⟩ := two h1
    split at h1
    · rename_i C' bm k0 k1 k2 k3 n k5 em es
      obtain ⟨z1, h1⟩ := two h1
      obtain ⟨z2, h1⟩ := two h1
      obtain ⟨z3, h1⟩ := two h1
      obtain ⟨z4, z5⟩ := two h1
      obtain ⟨nm, bs, mro, ns, qn, hdc, sn, sub, ab, col, del⟩ := cd
      dsimp only at em z3 z4
      have e1 : C' = C := of_decide_eq_true z1
      have e2 : n = "ValueError.__new__" := of_decide_eq_true z2
      have e3 : t = "type" := of_decide_eq_true ht
      have e4 : del = false := by simpa using z3
      have e5 : sl = #[k0, k1, k2, k3, some (.builtin n), k5] := by
        have := congrArg List.toArray es
        simpa using this
      subst e1 e2 e3 e4 e5 z4 em
      exact ⟨_, _, _, _, bm, _, _, _, _, _, _, _, _, _, _, lk, z5⟩
    · cases h1
  · cases h1
def excB (K : Frag) (D : Addr) : Bool :=
  eqS (findIn K (.ref D) "__getattribute__") (some (some (.builtin "BaseException.__getattribute__"))) && (eqS (findIn K (.ref D) "__getattr__") (some none) &&
  (decide (subIn K (.ref D) (.type "BaseException") = some true) && (hasDictIn K D && (eqS (findIn K (.ref D) "__class__") (some (some (.builtin "object.__class__"))) &&
  (eqS (specialIn K (.builtin "object.__class__") "__get__") (some (some (.builtin "getset_descriptor.__get__"))) && (decide (takesIn K (.builtin "object.__class__") = some true) &&
  decide (mroIn K D (.type "object") = some true)))))))
theorem excB_ok {K : Frag} {D : Addr} (h : excB K D = true) : ExcC K D := by
  obtain ⟨h1, h⟩ := two h
  obtain ⟨h2, h⟩ := two h
  obtain ⟨h3, h⟩ := two h
  obtain ⟨h4, h⟩ := two h
  obtain ⟨h5, h⟩ := two h
  obtain ⟨h6, h⟩ := two h
  obtain ⟨h7, h8⟩ := two h
  exact ⟨of_decide_eq_true h1, of_decide_eq_true h2, of_decide_eq_true h3, h4, of_decide_eq_true h5, of_decide_eq_true h6, of_decide_eq_true h7, of_decide_eq_true h8⟩
/-- one class with its fields -/
structure ErrT (K : Frag) (C fI : Addr) (fs : List Str) : Prop where
  ox : OexC K C
  ec : ExcC K C
  iC : findIn K (.ref C) "__init__" = some (some (.ref fI))
  tI : typeIn K (.ref fI) = some (.type "function")
  no : ∀ f ∈ fs, findIn K (.ref C) f = some none
def errB (K : Frag) (x : Str) (fs : List Str) : Bool := oexB K (He.ga K x) && (excB K (He.ga K x) && (eqS (findIn K (.ref (He.ga K x)) "__init__") (some (some (.ref (He.ma K (He.ga K x) "__init__")))) &&
  (decide (typeIn K (.ref (He.ma K (He.ga K x) "__init__")) = some (.type "function")) && (fs.all fun f => eqS (findIn K (.ref (He.ga K x)) f) (some none)))))
theorem errB_ok {K : Frag} {x : Str} {fs : List Str} (h : errB K x fs = true) : ErrT K (He.ga K x) (He.ma K (He.ga K x) "__init__") fs := by
  obtain ⟨h1, h⟩ := two h
  obtain ⟨h2, h⟩ := two h
  obtain ⟨h3, h⟩ := two h
  obtain ⟨h4, h5⟩ := two h
  exact ⟨oexB_ok h1, excB_ok h2, of_decide_eq_true h3, of_decide_eq_true h4, fun f hf => of_decide_eq_true (List.all_eq_true.mp h5 f hf)⟩
def sysB (K : Frag) : Bool := match K.lookup sysModules with
  | some ⟨.type t, _, _, _⟩ => decide (t = "dict")
  | _ => false
theorem sysB_ok {K : Frag} (h : sysB K = true) : SysK K := by
  unfold sysB at h
  split at h
  · rename_i t a b c e
    exact ⟨_, e, congrArg Value.type (of_decide_eq_true h)⟩
  · cases h
def offB (K : Frag) (C0 f0 : Addr) : Bool := readsIn K C0 (.type "type") && (eqS (specialIn K (.ref C0) "__getattribute__") (some (some (.builtin "type.__getattribute__"))) &&
  ((match findCls K (.ref C0) (.type "type") "__init__" with
    | some (.val (.ref f)) => decide (f = f0)
    | _ => false) && keepIn K (.ref f0)))
structure OffT (K : Frag) (C0 f0 : Addr) : Prop where
  rd : ClX.CRead K C0 (.type "type")
  at_ : findCls K (.ref C0) (.type "type") "__init__" = some (.val (.ref f0))
  kp : keepIn K (.ref f0) = true
theorem offB_ok {K : Frag} {C0 f0 : Addr} (h : offB K C0 f0 = true) : OffT K C0 f0 := by
  obtain ⟨h1, h⟩ := two h
  obtain ⟨h2, h⟩ := two h
  obtain ⟨h3, h4⟩ := two h
  refine ⟨⟨h1, of_decide_eq_true h2⟩, ?_, h4⟩
  split at h3
  · rename_i f e
    rw [e, of_decide_eq_true h3]
  · cases h3
/-- all of them -/
def errsB (es : List (Str × List Str)) (K : Frag) : Bool := sysB K && (offB K (He.ga K "PadError") (He.ma K (He.ga K "PadError") "__init__") && (errB K "PadError" ["told"] &&
  ((es.all fun e => errB K e.1 ("told" :: e.2)) && (decide (kitOne K (.ref (He.ga K "PadError")) (.type "ValueError") = some true) &&
  (es.all fun e => decide (kitOne K (.ref (He.ga K e.1)) (.ref (He.ga K "PadError")) = some true) && (decide (kitOne K (.ref (He.ga K e.1)) (.type "ValueError") = some true) &&
    (decide (kitAny K (.ref (He.ga K e.1)) [.type "KeyError", .type "IndexError", .type "LookupError"] = some false) &&
    (es.all fun d => decide (kitOne K (.ref (He.ga K e.1)) (.ref (He.ga K d.1)) = some (decide (e.1 = d.1)))))))))))
structure ErrsT (es : List (Str × List Str)) (K : Frag) : Prop where
  sys : SysK K
  off : OffT K (He.ga K "PadError") (He.ma K (He.ga K "PadError") "__init__")
  pad : ErrT K (He.ga K "PadError") (He.ma K (He.ga K "PadError") "__init__") ["told"]
  one : ∀ e ∈ es, ErrT K (He.ga K e.1) (He.ma K (He.ga K e.1) "__init__") ("told" :: e.2)
  padV : kitOne K (.ref (He.ga K "PadError")) (.type "ValueError") = some true
  under : ∀ e ∈ es, kitOne K (.ref (He.ga K e.1)) (.ref (He.ga K "PadError")) = some true
  val : ∀ e ∈ es, kitOne K (.ref (He.ga K e.1)) (.type "ValueError") = some true
  look : ∀ e ∈ es, kitAny K (.ref (He.ga K e.1)) [.type "KeyError", .type "IndexError", .type "LookupError"] = some false
  each : ∀ e ∈ es, ∀ d ∈ es, kitOne K (.ref (He.ga K e.1)) (.ref (He.ga K d.1)) = some (decide (e.1 = d.1))
theorem errsB_ok {es : List (Str × List Str)} {K : Frag} (h : errsB es K = true) : ErrsT es K := by
  obtain ⟨h1, h⟩ := two h
  obtain ⟨h2, h⟩ := two h
  obtain ⟨h3, h⟩ := two h
  obtain ⟨h4, h⟩ := two h
  obtain ⟨h5, h6⟩ := two h
  have h7 := fun e he => two (List.all_eq_true.mp h6 e he)
  have h8 := fun e he => two (h7 e he).2
  have h9 := fun e he => two (h8 e he).2
  exact ⟨sysB_ok h1, offB_ok h2, errB_ok h3, fun e he => errB_ok (List.all_eq_true.mp h4 e he), of_decide_eq_true h5, fun e he => of_decide_eq_true (h7 e he).1,
    fun e he => of_decide_eq_true (h8 e he).1, fun e he => of_decide_eq_true (h9 e he).1, fun e he d hd => of_decide_eq_true (List.all_eq_true.mp (h9 e he).2 d hd)⟩
end Ev
set_option Elab.async false
set_option linter.all false
set_option maxRecDepth 100000
set_option maxHeartbeats 4000000
/-! An own exception class with an __init__ of its own, called with keywords. -/
namespace PySem
namespace EvK
open PySem.W PySem.Calls PyProof.Rows PySem.HandSPX Builtin
section
variable {M : Model} {prog : Program} {w : World} {A : Around} {E : Value → Shared → Prop} {R : Result → Shared → Prop} {h : Heap} {g : Array GenState} {d : Drawn} {t : Nat} {os : OsState}
  {nm q : Str} {C N : Addr} {bs bm bmB : List Value} {hdct : Bool} {sn : List Str} {sub : List Value} {ab : Bool} {col : Option Bool} {dd : Option Addr} {k0 k1 k2 k3 k5 : Option Value} {B newId initId : String}
  {rest : List Value} {kw : List (Str × Value)}
/-- the class's record at C -/
abbrev Rec (h : Heap) (nm q : Str) (C N : Addr) (bs bm : List Value) (hdct : Bool) (sn : List Str) (sub : List Value) (ab : Bool) (col : Option Bool) (dd : Option Addr) (k0 k1 k2 k3 k5 : Option Value) (newId : String) : Prop :=
  h.get? C = some (excClassObj nm q C N bs bm hdct sn sub ab col dd k0 k1 k2 k3 k5 newId)
theorem kw_check (F : ExcBaseFacts B newId initId bmB) (hT : ∀ Y : String, bm.contains (.type Y) = bmB.contains (.type Y)) {Q : Unit → Shared → Prop}
    (hC : Rec h nm q C N bs bm hdct sn sub ab col dd k0 k1 k2 k3 k5 newId) (hq : Q () ⟨h, g, d, t, os⟩) :
    wpAny M A (checkBuiltinCall newId ⟨.ref C :: rest, kw⟩) Q E ⟨h, g, d, t, os⟩ := by
  have cB : (Value.ref C :: bm).contains (.type B) = true := by rw [List.contains_cons, hT, F.hasB, Bool.or_true]
  have st := F.noStar
  simp only [checkBuiltinCall, F.newKind, F.newSplit, F.newRow]
  repeat (first
    | refine wpAny_loadPart_at hC ?_
    | (refine wpAny_isSubtype_exc hC ?_; rw [cB])
    | refine wpAny_staticBase_exc hC ?_
    | refine wpAny_madeBy_exc hC ?_
    | simp only [bne_self_eq_false, Bool.false_eq_true, if_false]
    | wp_step)
  exact hq
theorem kw_new (F : ExcBaseFacts B newId initId bmB) (hT : ∀ Y : String, bm.contains (.type Y) = bmB.contains (.type Y))
    (hC : Rec h nm q C N bs bm hdct sn sub ab col dd k0 k1 k2 k3 k5 newId)
    (hq : R (.ok (.ret (.ref (h.objs.size + 1)))) ⟨(h.push { cls := .type "tuple", data := .seq rest.toArray }).push (excO C h.objs.size), g, d, t, os⟩) (hz : rest.length ≤ sizeLine) :
    codeAny (model prog w) A (.builtin newId ⟨.ref C :: rest, kw⟩) R ⟨h, g, d, t, os⟩ := by
  have en := F.ends
  have cB : (Value.ref C :: bm).contains (.type B) = true := by rw [List.contains_cons, hT, F.hasB, Bool.or_true]
  have cA : (Value.ref C :: bm).contains (.type "AttributeError") = false := by rw [List.contains_cons, hT, F.noAttr]; rfl
  have cN : (Value.ref C :: bm).contains (.type "NameError") = false := by rw [List.contains_cons, hT, F.noName]; rfl
  refine codeAny_builtinAt F.entry ?_
  unfold Builtin.«BaseException.__new__»
  refine wpAt_bind ?_
  show wpAt _ _ _ (stack >>= _) _ _ _
  refine wpAt_bind (wpAt_stack fun p below => wpAt_of_wpAny ?_)
  wp_walk
  refine wpAt_of_wpAny ?_
  rw [F.owner]
  repeat (first
    | with_reducible refine wpAny_madeHere_exc F.canon hC ?_
    | with_reducible refine wpAny_loadPart_at hC ?_
    | (with_reducible refine wpAny_isSubtype_exc hC ?_; first | rw [cB] | rw [cA] | rw [cN])
    | wp_step)
  show R _ _
  rw [Heap.size_push]
  exact hq
theorem kw_type_call (F : ExcBaseFacts B newId initId bmB) (hT : ∀ Y : String, bm.contains (.type Y) = bmB.contains (.type Y)) {fI : Addr} {Q : Fin → Shared → Prop}
    (hC : Rec h nm q C N bs bm hdct sn sub ab col dd k0 k1 k2 k3 k5 newId)
    (hi : Looks (model prog w) h (typeLookup (.ref C) "__init__") (some (.ref fI))) (hb : ∀ self, Looks (model prog w) h (bindSpecial (.ref fI) self) (.ref fI, [self])) (hz : rest.length ≤ sizeLine)
    (hq : codeAny (model prog w) A (.call (.ref fI) ⟨.ref (h.objs.size + 1) :: rest, kw⟩)
      (fun r s' => match r with | .ok (.ret v) => v = .none ∧ Q (.done (.ret (.ref (h.objs.size + 1)))) s' | .ok _ => False | .error e => E e s')
      ⟨(h.push (kdv_tup rest)).push (excO C h.objs.size), g, d, t, os⟩) :
    wpAny (model prog w) A (Builtin.«type.__call__» ⟨.ref C :: rest, kw⟩) Q E ⟨h, g, d, t, os⟩ := by
  repeat (first | with_reducible refine wpAny_loadPart_at hC ?_ | with_reducible refine wpAny_madeBy_exc hC ?_ | wp_step)
  refine codeAny_call_builtin_code (Code.quiet_builtin _ F.quiet) (kw_check F hT hC (kw_new F hT hC ?_ hz))
  show wpAny _ _ _ _ _ _
  have up : ∀ b o, h.get? b = some o → ((h.push (kdv_tup rest)).push (excO C h.objs.size)).get? b = some o :=
    fun b o e => Heap.get?_push_of_some _ (Heap.get?_push_of_some _ e)
  have hC1 := up _ _ hC
  have here : ((h.push (kdv_tup rest)).push (excO C h.objs.size)).get? (h.objs.size + 1) = some (excO C h.objs.size) := by heap_get
  have cC : (Value.ref C :: bm).contains (.ref C) = true := by simp
  have i1 := hi.keeps up
  have b1 := (hb (.ref (h.objs.size + 1))).keeps up
  unfold isInstance
  repeat (first | with_reducible refine wpAny_loadPart_at here ?_ | (with_reducible refine wpAny_isSubtype_exc hC1 ?_; rw [cC]) | wp_step)
  show wpAny _ _ (typeLookup (.ref C) _) _ _ _
  refine i1.at (wpAny_holding (wpAny_bind (b1.at (wpAny_bind (wpAny_call (codeAny_mono hq fun r s' z => ?_))))))
  cases r with
  | error e => exact z
  | ok fl =>
    cases fl with
    | ret v =>
      obtain ⟨rfl, z⟩ := z
      first
        | exact wpAny_pure (wpAny_pure z)
        | (wp_walk; exact z)
    | next => exact z.elim
    | brk => exact z.elim
    | cont => exact z.elim
theorem kw_call (F : ExcBaseFacts B newId initId bmB) (hT : ∀ Y : String, bm.contains (.type Y) = bmB.contains (.type Y)) {fI : Addr}
    (hC : Rec h nm q C N bs bm hdct sn sub ab col dd k0 k1 k2 k3 k5 newId)
    (hi : Looks (model prog w) h (typeLookup (.ref C) "__init__") (some (.ref fI))) (hb : ∀ self, Looks (model prog w) h (bindSpecial (.ref fI) self) (.ref fI, [self])) (hz : rest.length ≤ sizeLine)
    (hq : codeAny (model prog w) (A.under (.builtin "type.__call__" ⟨.ref C :: rest, kw⟩)) (.call (.ref fI) ⟨.ref (h.objs.size + 1) :: rest, kw⟩) (InitBack (h.objs.size + 1) R)
      ⟨(h.push (kdv_tup rest)).push (excO C h.objs.size), g, d, t, os⟩) :
    codeAny (model prog w) A (.call (.ref C) ⟨rest, kw⟩) R ⟨h, g, d, t, os⟩ := by
  have f1 := tc_lookup
  have f2 := tc_bind (.ref C)
  have hTy : (⟨h, g, d, t, os⟩ : Shared).TypeIs (.ref C) "type" := ⟨_, hC, rfl⟩
  have ty0 : Looks (model prog w) h (typeOf (.ref C)) (.type "type") := (Looks.ld hC).andThen .now
  have typ : Looks (model prog w) h (isInstance (.ref C) (.type "type")) true := ty0.andThen (Looks.of_pure tc_sub)
  refine codeAny_of_tree ?_
  show wpAny _ _ (callAny (.ref C) _) _ _ _
  repeat (any_goals (first | assumption | with_reducible refine wpAny_loadPart_at hC ?_ | wp_step))
  refine ⟨rfl, codeAny_call_builtin_at (Code.quiet_builtin _ (by decide +kernel)) entry_typeCall (check_slot tc_kind tc_split typ (tc_args _ _ _) (kw_type_call F hT hC hi hb hz ?_))⟩
  refine codeAny_mono hq fun r s' z => ?_
  cases r with
  | error e => exact z
  | ok fl => cases fl <;> exact z
end
end EvK
end PySem
set_option Elab.async false
set_option linter.all false
set_option maxRecDepth 100000
set_option maxHeartbeats 4000000
/-! Errors as the law makes them: by position, by keywords; what stands behind; a field read. -/
namespace Ev
open PySem PySem.Spec PyProof.Rows L2
section
variable {X : Cx} {pins : List (Addr × Obj)} {σ : L2.St} {H1 : Hp} {s : Shared} {C fI : Addr} {CX : CXT} {k : Nat} {sp : Sp} {E : XK} {Q : VK} {fd : FuncData} {ps ks : List Str} {g : List Value → List Value} {gV : List V → List V}
theorem run_mkK {ws : List Value} {zs : List V} (T : OexC X.K C)
    (iC : PySem.W.findIn X.K (.ref C) "__init__" = some (some (.ref fI)))
    (tI : PySem.W.typeIn X.K (.ref fI) = some (.type "function"))
    (FO : FnOk X.prog X.w X.K X.mg X.base CX k fI fd ps sp)
    (hb : ∀ (s : Shared) (a : Addr) (ws : List Value), ws.length = ks.length → BindsTo s fd ⟨[.ref a], ks.zip ws⟩ (ps.zip (.ref a :: g ws)))
    (hg : ∀ {zs : List V} {ws : List Value}, Vals zs ws → Vals (gV zs) (g ws)) (hr : Room (k + 1) X.A) (hx : Passes CX X E)
    (I1 : Inv X pins σ H1 s) (r1 : Vals zs ws) (hl : zs.length = ks.length)
    (q1 : ∀ a, H1 a = none → sp (.ref a :: gV zs) (upd H1 a (exo a C none)) (fun v H2 => v = .non ∧ Q (.ref a) H2) E) :
    wpAny (model X.prog X.w) X.A (call (.ref C) [] (ks.zip ws)) (EP X pins σ Q) X.xe s := by
  obtain ⟨x1, x2, x3, x4, x5, x6, x7, x8, x9, x10, x11, y0, y1, y2, y3, hC, hbm⟩ := T.cls
  obtain ⟨hp, g', dr, tk, os⟩ := s
  have hs1 : hp.objs.size ≤ hp.objs.size + 1 := Nat.le_succ _
  have hn : H1 (hp.objs.size + 1) = none := I1.hok.fresh hs1
  have hq := q1 (hp.objs.size + 1) hn
  have up : ∀ b o, hp.get? b = some o → ((hp.push (PySem.W.kdv_tup [])).push (PySem.HandSPX.excO C hp.objs.size)).get? b = some o :=
    fun b o e => Heap.get?_push_of_some _ (Heap.get?_push_of_some _ e)
  have here : ((hp.push (PySem.W.kdv_tup [])).push (PySem.HandSPX.excO C hp.objs.size)).get? (hp.objs.size + 1) = some (PySem.HandSPX.excO C hp.objs.size) := by heap_get
  have I2 : Inv X pins σ (upd H1 (hp.objs.size + 1) (exo (hp.objs.size + 1) C none))
      ⟨(hp.push (PySem.W.kdv_tup [])).push (PySem.HandSPX.excO C hp.objs.size), g', dr, tk, os⟩ :=
    I1.laid (t' := tk) (a := hp.objs.size + 1) (o := exo (hp.objs.size + 1) C none) (h' := (hp.push (PySem.W.kdv_tup [])).push (PySem.HandSPX.excO C hp.objs.size)) up hs1 (exo_ok here)
  have r2 : Vals (V.ref (hp.objs.size + 1) :: gV zs) (Value.ref (hp.objs.size + 1) :: g ws) := .cons rfl (hg r1)
  refine wpAny_call (PySem.EvK.kw_call PySem.F.excBase_ValueError (fun Y => PySem.HandSPX.refsVE_contains Y x5 hbm)
    (I1.kIn _ _ hC) (PySem.W.looks_findIn I1.kIn iC) (fun self => PySem.W.bind_fn I1.kIn self tI) (Nat.zero_le _)
    (codeAny_mono (FO.run _ X.stack _ _ ⟨[.ref (hp.objs.size + 1)], ks.zip ws⟩ _ _ _ E (hr.make C [] (ks.zip ws))
      (I2.env0.make C [] (ks.zip ws)) (hb _ _ ws (by rw [← r1.length]; exact hl)) r2 hq) fun r s' z => ?_))
  cases r with
  | error er => exact hx pins σ _ _ er s' I2 z
  | ok fl =>
    cases fl with
    | ret u =>
      obtain ⟨v, H', I3, rv, ev, q3⟩ := I2.after z
      subst ev
      exact ⟨rv, V.ref (hp.objs.size + 1), H', I3, rfl, q3⟩
    | next => exact False.elim z
    | brk => exact False.elim z
    | cont => exact False.elim z
end
/-- C(f = e, ..) as a value -/
def tMkK (C : Addr) (n : Nat) (sp : Sp) (gV : List V → List V) (E : XK) (tk : TA) : TE := fun σ H Q => tk σ H fun zs H1 => zs.length = n ∧
  ∀ a, H1 a = none → sp (.ref a :: gV zs) (upd H1 a (exo a C none)) (fun v H2 => v = .non ∧ Q (.ref a) H2) E
section
variable {X : Cx} {CX : CXT} {k : Nat} {C fI : Addr} {sp : Sp} {E : XK} {x : Str} {p pos : Pos} {kws : List Keyword} {tk : TA} {fd : FuncData} {ps ks : List Str} {g : List Value → List Value} {gV : List V → List V}
theorem pe_mkK (T : OexC X.K C) (iC : PySem.W.findIn X.K (.ref C) "__init__" = some (some (.ref fI)))
    (tI : PySem.W.typeIn X.K (.ref fI) = some (.type "function")) (FO : FnOk X.prog X.w X.K X.mg X.base CX k fI fd ps sp)
    (hb : ∀ (s : Shared) (a : Addr) (ws : List Value), ws.length = ks.length → BindsTo s fd ⟨[.ref a], ks.zip ws⟩ (ps.zip (.ref a :: g ws)))
    (hg : ∀ {zs : List V} {ws : List Value}, Vals zs ws → Vals (gV zs) (g ws))
    (hr : Room (k + 1) X.A) (hx : Passes CX X E) (hgl : Gl X x) (hm : X.mg x = some (.ref C)) (hkw : PK X kws tk)
    (hks : (backToKw pos (keywordEach kws X.env)).filterMap (·.1) = ks := by rfl)
    (hall : (backToKw pos (keywordEach kws X.env)).all (·.1.isSome) = true := by rfl)
    (hpl : ((backTo pos (starEach [] X.env)).any (·.1) || (backToKw pos (keywordEach kws X.env)).any (·.1.isNone)) = false := by rfl)
    (hdb : (x == ("__debug__" : Str)) = false := by decide) :
    PE X (.Call (.Name x p) [] kws pos) (tMkK C ks.length sp gV E tk) := by
  refine ⟨fun pins s σ H Q I h => wpAny_Call_Name_kw (ld_glob I hgl hm ?_ hdb)⟩
  refine PySem.W.callWith_KW0 (h₀ := X.base) I.ok.mod.kin T.kC hall (thn (hkw.run pos pins s σ H _ I h) fun ws s2 ⟨zs, H2, I2, rz, l2, q2⟩ => ⟨I2.kIn, ?_⟩) hpl
  rw [hks]
  exact run_mkK T iC tI FO hb hg hr hx I2 rz l2 q2
end
/-! ### what stands behind the making -/
theorem PE.imp {X : Cx} {e : Expr} {t t' : TE} (he : PE X e t) (h : ∀ σ H Q, t' σ H Q → t σ H Q) : PE X e t' := ⟨fun pins s σ H Q I z => he.run pins s σ H Q I (h σ H Q z)⟩
/-- an error of the class at C with these fields (the last one first) -/
def ErrAt (H : Hp) (e C : Addr) (fs : List (Str × V)) : Prop := ∃ d p, H e = some (exo e C (some d)) ∧ H d = some (exd d (fs ++ [(("told" : Str), V.ref p)]))
theorem ErrAt.same {H H' : Hp} {e C : Addr} {fs : List (Str × V)} (S : Same H H') : ErrAt H e C fs → ErrAt H' e C fs
  | ⟨d, p, h1, h2⟩ => ⟨d, p, S _ _ h1, S _ _ h2⟩
/-- the __init__ of such a class: the values under the names, behind all that the base keeps -/
def spIni (K : PySem.W.Frag) (C : Addr) (ns : List Str) : Sp := fun vs H Q _ => ∃ (a : Addr) (ys : List V), vs = .ref a :: ys ∧ ys.length = ns.length ∧ H a = some (exo a C none) ∧
  ∀ H', (∀ b o, b ≠ a → H b = some o → H' b = some o) → ErrAt H' a C (ns.zip ys).reverse → Q .non H'
theorem new_of {K : PySem.W.Frag} {C : Addr} {ns : List Str} {E : XK} {Q : VK} {ys : List V} {H1 : Hp} (hl : ys.length = ns.length) (q : ∀ e H', Same H1 H' → H1 e = none → ErrAt H' e C (ns.zip ys).reverse → Q (.ref e) H') (a : Addr) (ha : H1 a = none) :
    spIni K C ns (.ref a :: ys) (upd H1 a (exo a C none)) (fun v H2 => v = .non ∧ Q (.ref a) H2) E := by
  refine ⟨a, ys, rfl, hl, upd_same, fun H' k A => ⟨rfl, q a H' (fun b o e => ?_) ha A⟩⟩
  have n : b ≠ a := ne_of_none e ha
  exact k b o n (by rw [upd_ne n]; exact e)
def tNew1 (C : Addr) (f : Str) (i : Nat) : TE := fun σ H Q => ∃ v, σ[i]? = some (some v) ∧ ∀ e H', Same H H' → H e = none → ErrAt H' e C [(f, v)] → Q (.ref e) H'
def tNew2 (C : Addr) (f g : Str) (i j : Nat) : TE := fun σ H Q => ∃ v y, σ[i]? = some (some v) ∧ σ[j]? = some (some y) ∧ ∀ e H', Same H H' → H e = none → ErrAt H' e C [(g, y), (f, v)] → Q (.ref e) H'
def tNew0 (C : Addr) : TE := fun _ H Q => ∀ e H', Same H H' → H e = none → ErrAt H' e C [] → Q (.ref e) H'
section
variable {X : Cx} {C fI : Addr} {x f g : Str} {p pos p1 p2 q1 q2 : Pos} {k : Nat} {fs : List Str} {i j : Nat} {fd : FuncData} {ps : List Str} {a b : Expr}
theorem pe_new1 (T : ErrT X.K C fI fs) (FR : FnR X.prog X.w X.K X.mg X.base CX0 k fI (spIni X.K C [f])) (hr : Room (k + 1) X.A) (hg : Gl X x) (hm : X.mg x = some (.ref C)) (ha : PA X [a] (tCons (tVar i) tNil))
    (hdb : (x == ("__debug__" : Str)) = false := by decide)
    (he : starEach [a] X.env = (false, eval a X.env) :: starEach [] X.env := by rfl) : PE X (.Call (.Name x p) [a] [] pos) (tNew1 C f i) :=
  PE.imp (pe_mk (E := E0) T.ox T.iC T.tI FR hr pass0 hg hm ha hdb he) fun σ H Q ⟨v, h1, h2⟩ => ⟨v, h1, (by show 1 ≤ 1000; decide), fun a ha => new_of (ys := [v]) rfl h2 a ha⟩
theorem pe_new2 (T : ErrT X.K C fI fs) (FR : FnR X.prog X.w X.K X.mg X.base CX0 k fI (spIni X.K C [f, g])) (hr : Room (k + 1) X.A) (hg : Gl X x) (hm : X.mg x = some (.ref C)) (ha : PA X [a, b] (tCons (tVar i) (tCons (tVar j) tNil)))
    (hdb : (x == ("__debug__" : Str)) = false := by decide)
    (he : starEach [a, b] X.env = (false, eval a X.env) :: starEach [b] X.env := by rfl)
    (hpl : (backTo pos (starEach [b] X.env)).any (·.1) = false := by rfl) : PE X (.Call (.Name x p) [a, b] [] pos) (tNew2 C f g i j) :=
  PE.imp (pe_mk (E := E0) T.ox T.iC T.tI FR hr pass0 hg hm ha hdb he hpl) fun σ H Q ⟨v, y, h1, h2, h3⟩ => ⟨v, h1, y, h2, (by show 2 ≤ 1000; decide), fun a ha => new_of (ys := [v, y]) rfl h3 a ha⟩
theorem pe_new0 (T : ErrT X.K C fI fs) (FR : FnR X.prog X.w X.K X.mg X.base CX0 k fI (spIni X.K C [])) (hr : Room (k + 1) X.A) (hg : Gl X x) (hm : X.mg x = some (.ref C))
    (hdb : (x == ("__debug__" : Str)) = false := by decide) : PE X (.Call (.Name x p) [] [] pos) (tNew0 C) :=
  PE.imp (pe_mk0 (E := E0) T.ox T.iC T.tI FR hr pass0 hg hm hdb) fun σ H Q h => ⟨(by show 0 ≤ 1000; decide), fun a ha => new_of (ys := []) rfl (fun e H' S n A => h e H' S n A) a ha⟩
/-- C(f = e) -/
theorem pe_newK1 (T : ErrT X.K C fI fs) (FO : FnOk X.prog X.w X.K X.mg X.base CX0 k fI fd ps (spIni X.K C [f]))
    (hb : ∀ (s : Shared) (a : Addr) (ws : List Value), ws.length = [f].length → BindsTo s fd ⟨[.ref a], [f].zip ws⟩ (ps.zip (.ref a :: ws)))
    (hr : Room (k + 1) X.A) (hg : Gl X x) (hm : X.mg x = some (.ref C)) (ha : PE X a (tVar i))
    (hks : (backToKw pos (keywordEach [⟨some f, a, q1⟩] X.env)).filterMap (·.1) = [f] := by rfl)
    (hall : (backToKw pos (keywordEach [⟨some f, a, q1⟩] X.env)).all (·.1.isSome) = true := by rfl)
    (hpl : ((backTo pos (starEach [] X.env)).any (·.1) || (backToKw pos (keywordEach [⟨some f, a, q1⟩] X.env)).any (·.1.isNone)) = false := by rfl)
    (hdb : (x == ("__debug__" : Str)) = false := by decide) : PE X (.Call (.Name x p) [] [⟨some f, a, q1⟩] pos) (tNew1 C f i) :=
  PE.imp (pe_mkK (E := E0) (g := fun ws => ws) (gV := fun vs => vs) T.ox T.iC T.tI FO hb (fun r => r) hr pass0 hg hm (pk_cons ha pk_nil) hks hall hpl hdb)
    fun σ H Q ⟨v, h1, h2⟩ => ⟨v, h1, rfl, fun a ha => new_of (ys := [v]) rfl h2 a ha⟩
theorem vals_rev : ∀ {vs : List V} {us : List Value}, Vals vs us → Vals vs.reverse us.reverse
  | _, _, .nil => .nil
  | _, _, .cons (a := a) (b := b) h r => by
    rw [List.reverse_cons, List.reverse_cons]
    exact (vals_rev r).append (.cons h .nil)
/-- C(g = e, f = e'), the names the other way about -/
theorem pe_newK2 (T : ErrT X.K C fI fs) (FO : FnOk X.prog X.w X.K X.mg X.base CX0 k fI fd ps (spIni X.K C [f, g]))
    (hb : ∀ (s : Shared) (a : Addr) (ws : List Value), ws.length = [g, f].length → BindsTo s fd ⟨[.ref a], [g, f].zip ws⟩ (ps.zip (.ref a :: ws.reverse)))
    (hr : Room (k + 1) X.A) (hg : Gl X x) (hm : X.mg x = some (.ref C)) (ha : PE X a (tVar j)) (hb2 : PE X b (tVar i))
    (hks : (backToKw pos (keywordEach [⟨some g, a, q1⟩, ⟨some f, b, q2⟩] X.env)).filterMap (·.1) = [g, f] := by rfl)
    (hall : (backToKw pos (keywordEach [⟨some g, a, q1⟩, ⟨some f, b, q2⟩] X.env)).all (·.1.isSome) = true := by rfl)
    (hpl : ((backTo pos (starEach [] X.env)).any (·.1) || (backToKw pos (keywordEach [⟨some g, a, q1⟩, ⟨some f, b, q2⟩] X.env)).any (·.1.isNone)) = false := by rfl)
    (hdb : (x == ("__debug__" : Str)) = false := by decide) : PE X (.Call (.Name x p) [] [⟨some g, a, q1⟩, ⟨some f, b, q2⟩] pos) (tNew2 C f g i j) :=
  PE.imp (pe_mkK (E := E0) (g := fun ws => ws.reverse) (gV := fun vs => vs.reverse) T.ox T.iC T.tI FO hb (fun r => vals_rev r) hr pass0 hg hm (pk_cons ha (pk_cons hb2 pk_nil)) hks hall hpl hdb)
    fun σ H Q ⟨v, y, h1, h2, h3⟩ => ⟨y, h2, v, h1, rfl, fun a ha => new_of (ys := [v, y]) rfl h3 a ha⟩
/-- e.f of such an error -/
def tGet (C : Addr) (f : Str) (te : TE) : TE := fun σ H Q => te σ H fun x H1 => ∃ e fs v, x = .ref e ∧ ErrAt H1 e C fs ∧ fs.lookup f = some v ∧ Q v H1
theorem look_more {f : Str} {v : V} : ∀ {fs gs : List (Str × V)}, fs.lookup f = some v → (fs ++ gs).lookup f = some v
  | [], _, h => by cases h
  | (n, y) :: fs, gs, h => by
    show (match f == n with | true => some y | false => (fs ++ gs).lookup f) = some v
    have h2 : (match f == n with | true => some y | false => fs.lookup f) = some v := h
    cases q : (f == n) with
    | true =>
      rw [q] at h2
      exact h2
    | false =>
      rw [q] at h2
      exact look_more h2
/-- the field of an error that is made on the spot -/
def tG1 (C : Addr) (f : Str) (i : Nat) : TE := fun σ H Q => ∃ v, σ[i]? = some (some v) ∧ ∀ H', Same H H' → Q v H'
theorem pe_get1 (T : ErrT X.K C fI fs) (hf : f ∈ fs) (he : PE X a (tNew1 C f i)) (hb : attributeBase a f X.env (eval a X.env) = eval a X.env := by rfl) : PE X (.Attribute a f pos) (tG1 C f i) :=
  PE.imp (pe_err he hb) fun σ H Q ⟨v, h1, h2⟩ => ⟨v, h1, fun e H' S n ⟨d, q, a1, a2⟩ => ⟨e, C, d, _, v, rfl, T.ec, T.no f hf, a1, a2, look_more (by simp [List.lookup]), h2 H' S⟩⟩
/-- the field of an error that a slot holds -/
theorem pe_getv (T : ErrT X.K C fI fs) (hf : f ∈ fs) (he : PE X a (tVar i)) (hb : attributeBase a f X.env (eval a X.env) = eval a X.env := by rfl) :
    PE X (.Attribute a f pos) (fun σ H Q => ∃ e gs v, σ[i]? = some (some (.ref e)) ∧ ErrAt H e C gs ∧ gs.lookup f = some v ∧ Q v H) :=
  PE.imp (pe_err he hb) fun σ H Q ⟨e, gs, v, h1, ⟨d, q, a1, a2⟩, l, h2⟩ => ⟨_, h1, e, C, d, _, v, rfl, T.ec, T.no f hf, a1, a2, look_more l, h2⟩
end
end Ev
set_option Elab.async false
set_option linter.all false
set_option maxRecDepth 100000
set_option maxHeartbeats 4000000
/-! The base's own __init__ and the others', whatever the text: what is asked of the body. -/
namespace Ev
open PySem PySem.Spec PyProof.Rows L2
/-- PadError.__init__(self, *told) -/
def spPad (K : PySem.W.Frag) : Sp := fun vs H Q _ => ∃ (a C : Addr) (ws : List V), vs = .ref a :: ws ∧ OexC K C ∧ PySem.W.findIn K (.ref C) "told" = some none ∧ H a = some (exo a C none) ∧ ws.length ≤ 900 ∧
  ∀ p d, H p = none → H d = none → d ≠ p → d ≠ a → Q .non (upd (upd (upd H p (.tup ws)) d (exd d [(("told" : Str), .ref p)])) a (exo a C (some d)))
def spPadIn (K : PySem.W.Frag) : Sp := fun vs H Q _ => ∃ (a C p : Addr), vs = [.ref a, .ref p] ∧ OexC K C ∧ PySem.W.findIn K (.ref C) "told" = some none ∧ H a = some (exo a C none) ∧
  ∀ d, H d = none → d ≠ a → Q .non (upd (upd H d (exd d [(("told" : Str), .ref p)])) a (exo a C (some d)))
theorem pad_imp {K : PySem.W.Frag} (vs : List V) (H : Hp) (Q : VK) (E : XK) (h : spPad K vs H Q E) :
    ∃ ws rest, vs = ws ++ rest ∧ ws.length = (["self"] : List Str).length ∧ rest.length ≤ sizeLine ∧ ∀ p, H p = none → spPadIn K (ws ++ [V.ref p]) (upd H p (.tup rest)) Q E := by
  obtain ⟨a, C, ws, rfl, T, no, ha, hl, q⟩ := h
  refine ⟨[.ref a], ws, rfl, rfl, by rw [sizeLine_eq]; omega, fun p hp => ⟨a, C, p, rfl, T, no, ?_, fun d hd ne => ?_⟩⟩
  · rw [upd_ne (ne_of_none ha hp)]
    exact ha
  · have dp : d ≠ p := fun z => by
      rw [z, upd_same] at hd
      cases hd
    rw [upd_ne dp] at hd
    exact q p d hp hd dp ne
/-- behind the base's __init__: one field more -/
theorem ini1 {H : Hp} {a C p d : Addr} {ws : List V} {f : Str} {y : V} (ha : H a = some (exo a C none)) (hp : H p = none) (hd : H d = none) (dp : d ≠ p) (da : d ≠ a) :
    (∀ b o, b ≠ a → H b = some o → (upd (upd (upd (upd H p (.tup ws)) d (exd d [(("told" : Str), .ref p)])) a (exo a C (some d))) d (exd d [(f, y), (("told" : Str), .ref p)])) b = some o) ∧
    ErrAt (upd (upd (upd (upd H p (.tup ws)) d (exd d [(("told" : Str), .ref p)])) a (exo a C (some d))) d (exd d [(f, y), (("told" : Str), .ref p)])) a C [(f, y)] := by
  refine ⟨fun b o n e => ?_, d, p, ?_, upd_same⟩
  · rw [upd_ne (ne_of_none e hd), upd_ne n, upd_ne (ne_of_none e hd), upd_ne (ne_of_none e hp)]
    exact e
  · rw [upd_ne (Ne.symm da), upd_same]
theorem ini2 {H : Hp} {a C p d : Addr} {ws : List V} {f g : Str} {x y : V} (ha : H a = some (exo a C none)) (hp : H p = none) (hd : H d = none) (dp : d ≠ p) (da : d ≠ a) :
    (∀ b o, b ≠ a → H b = some o → (upd (upd (upd (upd (upd H p (.tup ws)) d (exd d [(("told" : Str), .ref p)])) a (exo a C (some d))) d (exd d [(f, x), (("told" : Str), .ref p)])) d (exd d [(g, y), (f, x), (("told" : Str), .ref p)])) b = some o) ∧
    ErrAt (upd (upd (upd (upd (upd H p (.tup ws)) d (exd d [(("told" : Str), .ref p)])) a (exo a C (some d))) d (exd d [(f, x), (("told" : Str), .ref p)])) d (exd d [(g, y), (f, x), (("told" : Str), .ref p)])) a C [(g, y), (f, x)] := by
  refine ⟨fun b o n e => ?_, d, p, ?_, upd_same⟩
  · rw [upd_ne (ne_of_none e hd), upd_ne (ne_of_none e hd), upd_ne n, upd_ne (ne_of_none e hd), upd_ne (ne_of_none e hp)]
    exact e
  · rw [upd_ne (Ne.symm da), upd_ne (Ne.symm da), upd_same]
theorem ini0 {H : Hp} {a C p d : Addr} {ws : List V} (ha : H a = some (exo a C none)) (hp : H p = none) (hd : H d = none) (dp : d ≠ p) (da : d ≠ a) :
    (∀ b o, b ≠ a → H b = some o → (upd (upd (upd H p (.tup ws)) d (exd d [(("told" : Str), .ref p)])) a (exo a C (some d))) b = some o) ∧
    ErrAt (upd (upd (upd H p (.tup ws)) d (exd d [(("told" : Str), .ref p)])) a (exo a C (some d))) a C [] := by
  refine ⟨fun b o n e => ?_, d, p, upd_same, ?_⟩
  · rw [upd_ne n, upd_ne (ne_of_none e hd), upd_ne (ne_of_none e hp)]
    exact e
  · rw [upd_ne da, upd_same]
    rfl
end Ev
set_option Elab.async false
set_option linter.all false
set_option maxRecDepth 100000
set_option maxHeartbeats 0
/-! The head of k08: what the top leaves. -/
namespace H8
open PySem PySem.Spec PyProof.Rows L2
def top (i : Nat) : Stmt := PySem.Challenge.pw_anypads_k08_errors_of_all_classes.main.body.getD i (.Pass ⟨0, 0, 0, 0⟩)
/-- the classes under the base, with their fields -/
def errs : List (Str × List Str) := [("BadName", ["name"]), ("BadTimes", ["value"]), ("BadParts", ["at"]), ("NoPath", ["path", "at"]), ("NoName", ["name"]), ("Taken", ["name"]), ("Ring", ["way"]), ("InUse", ["name"]), ("Unresolved", ["name"]), ("NoMachine", ["scale"]), ("BadValue", ["path"]), ("TooLarge", ["what", "most"]), ("NoScale", ["scale"]), ("BadBound", ["value"]), ("NoTerm", ["at"]), ("NoClaim", ["at"]), ("NotRecord", ["name"]), ("Barred", []), ("Endless", ["scale"]), ("NoOffer", ["at"]), ("NoOrder", ["at"]), ("BadText", ["at"]), ("NoLine", [])]
def mkD (x : Str) (i : Nat) : He.DefD := ⟨(x, some "__init__"), "__init__", x ++ ".__init__", defArgs (inClass (top i) 0), defBody (inClass (top i) 0), defScope (inClass (top i) 0), [], []⟩
def fnD (x : Str) (i : Nat) : He.DefD := ⟨(x, none), x, x, defArgs (top i), defBody (top i), defScope (top i), [], []⟩
def fn : List He.DefD := [mkD "PadError" 1, mkD "BadName" 2, mkD "BadTimes" 3, mkD "BadParts" 4, mkD "NoPath" 5, mkD "NoName" 6, mkD "Taken" 7, mkD "Ring" 8, mkD "InUse" 9, mkD "Unresolved" 10, mkD "NoMachine" 11, mkD "BadValue" 12, mkD "TooLarge" 13, mkD "NoScale" 14, mkD "BadBound" 15, mkD "NoTerm" 16, mkD "NoClaim" 17, mkD "NotRecord" 18, mkD "Barred" 19, mkD "Endless" 20, mkD "NoOffer" 21, mkD "NoOrder" 22, mkD "BadText" 23, mkD "NoLine" 24, fnD "_law_pen" 26, fnD "_law_draw" 27, fnD "_law_pick" 28, fnD "_law_value" 29, fnD "_law_first_rows" 30, fnD "_law_last_rows" 31, fnD "_law_named_right" 32, fnD "_law_marks" 33, fnD "law" 34]
def fa : List He.Fa := [.glo "PadError", .glo "BadName", .glo "BadTimes", .glo "BadParts", .glo "NoPath", .glo "NoName", .glo "Taken", .glo "Ring", .glo "InUse", .glo "Unresolved", .glo "NoMachine", .glo "BadValue", .glo "TooLarge", .glo "NoScale", .glo "BadBound", .glo "NoTerm", .glo "NoClaim", .glo "NotRecord", .glo "Barred", .glo "Endless", .glo "NoOffer", .glo "NoOrder", .glo "BadText", .glo "NoLine", .glo "_law_pen", .glo "_law_draw", .glo "_law_pick", .glo "_law_value", .glo "_law_first_rows", .glo "_law_last_rows", .glo "_law_named_right", .glo "_law_marks", .glo "law", .free "int", .free "len", .free "abs", .free "range", .free "list", .free "repr", .free "isinstance", .free "ValueError", .free "KeyError", .free "IndexError", .free "LookupError"]
abbrev R : PySem.W.OpenRow := PySem.W.OpenLaw.row PySem.Challenge.rw_anypads_k08_errors_of_all_classes
abbrev hk : PySem.W.Hook := Ev.hookE 4 fa fn (Ev.errsB errs)
def ob (s : PySem.W.SharedT) : He.AlD × Bool := Ev.obsE 4 fa fn (Ev.errsB errs) (HandSHeadRun.getT s)
theorem ob_eq (s : PySem.W.SharedT) : ob s = hk.obs s.abs := Ev.obsE_eq (HandSHeadRun.getT_eq s)
def loose : List Str := ["PadError", "BadName", "BadTimes", "BadParts", "NoPath", "NoName", "Taken", "Ring", "InUse", "Unresolved", "NoMachine", "BadValue", "TooLarge", "NoScale", "BadBound", "NoTerm", "NoClaim", "NotRecord", "Barred", "Endless", "NoOffer", "NoOrder", "BadText", "NoLine", "_law_pen", "_law_draw", "_law_pick", "_law_value", "_law_first_rows", "_law_last_rows", "_law_named_right", "_law_marks"]
theorem run (w : World) : HandSHeadRun.RunEq R (PySem.W.view R.prog [34]) hk ob 8000 loose w := by
  intro os
  kernel_rfl
end H8
set_option Elab.async false
set_option linter.all false
set_option maxRecDepth 100000
set_option maxHeartbeats 4000000
namespace H8
open PySem PySem.Spec PyProof.Rows L2 Ev
abbrev sI (i : Nat) : Stmt := inClass (top i) 0
abbrev FnI (K : PySem.W.Frag) (x : Str) (i : Nat) (f : Addr) (fd : FuncData) : Prop := FunD K "__init__" (x ++ ".__init__") (defArgs (sI i)) (defBody (sI i)) (defScope (sI i)) [] [] f fd
section
variable {P : Program} {w : World} {K : PySem.W.Frag} {mg : Str → Option Value} {base : Heap} {f C f0 C0 : Addr} {fd : FuncData}
theorem sc1 : FnScope ["self", "told"] ((["self"] : List Str) ++ (["told"] : List Str)) (defScope (sI 1)) := ⟨rfl, rfl, rfl, by decide +kernel, rfl, by decide +kernel, by decide +kernel⟩
theorem ok_pad (F : FnI K "PadError" 1 f fd) : FnR P w K mg base CX0 1 f (spPad K) := by
  obtain ⟨oc, od, dV, kV, doc, pm, an, cdv, ct, osl, rfl, lk, hcd, hD, hK⟩ := F.ex
  rcases hD with ⟨_, rfl⟩ | ⟨e, _⟩
  · refine FnR.imp (StX.fn_star (ps := ["self"]) (pv := "told") (N := ["self", "told"]) (CX := CX0) (k := 0) (sp := spPadIn K) lk hcd sc1 StX.cxUp_none
      (fun us rest hl => match us, rest, hl with | [_], [], _ => rfl | [_], _ :: _, _ => rfl) (fun A outer s H vs Q E hr h => ?_)) pad_imp
    obtain ⟨a, C, p, rfl, T, no, ha, q⟩ := h
    refine ⟨_, PSs.nox (pss_one (ps_ost (pv 0) (pv 1))), ?_⟩
    exact ⟨_, rfl, _, rfl, a, C, rfl, T, no, .inl ⟨ha, fun dx hn ne => q dx hn ne⟩⟩
  · exact absurd rfl e

theorem sc2 : FnScope ["self", "name"] ["self", "name"] (defScope (sI 2)) := ⟨rfl, rfl, rfl, by decide +kernel, rfl, by decide +kernel, by decide +kernel⟩
theorem ok_2 (F : FnI K "BadName" 2 f fd) (gP : mg "PadError" = some (.ref C0)) (O : OffT K C0 f0) (GP : FnR P w K mg base CX0 1 f0 (spPad K)) (T : ErrT K C f ["told", "name"]) :
    FnOk P w K mg base CX0 2 f fd ["self", "name"] (spIni K C ["name"]) := by
  refine F.ok sc2 (fun vs H Q E h => ?_) (fun cdv A outer s H vs Q E hr h => ?_)
  · obtain ⟨a, ys, rfl, hl, _⟩ := h
    show ys.length + 1 = 2
    rw [hl]; rfl
  · obtain ⟨a, ys, rfl, hl, ha, q⟩ := h
    obtain ⟨y0, rfl⟩ : ∃ y, ys = [y] := match ys, hl with | [y], _ => ⟨y, rfl⟩
    refine ⟨_, PSs.nox (pss_cons (ps_expr (pe_off (E := E0) (pe_glob (v := .ref C0) rfl gP rfl) O.rd O.at_ GP hr O.kp pass0 (pa_cons (pv 0) (pa_cons (pv 1) pa_nil))))
      (pss_one (ps_ost (pv 0) (pv 1)))), ?_⟩
    refine ⟨rfl, _, rfl, _, rfl, a, C, [y0], rfl, T.ox, T.no _ (by simp), ha, (by show 1 ≤ 900; decide), fun p d hp hd dp da => ?_⟩
    refine ⟨_, rfl, _, rfl, a, C, rfl, T.ox, T.no _ (by simp), .inr ⟨d, [(("told" : Str), .ref p)], upd_same, by rw [upd_ne da, upd_same], (by show 1 ≤ 900; decide), ?_⟩⟩
    exact q _ (ini1 ha hp hd dp da).1 (ini1 ha hp hd dp da).2
theorem sc3 : FnScope ["self", "value"] ["self", "value"] (defScope (sI 3)) := ⟨rfl, rfl, rfl, by decide +kernel, rfl, by decide +kernel, by decide +kernel⟩
theorem ok_3 (F : FnI K "BadTimes" 3 f fd) (gP : mg "PadError" = some (.ref C0)) (O : OffT K C0 f0) (GP : FnR P w K mg base CX0 1 f0 (spPad K)) (T : ErrT K C f ["told", "value"]) :
    FnOk P w K mg base CX0 2 f fd ["self", "value"] (spIni K C ["value"]) := by
  refine F.ok sc3 (fun vs H Q E h => ?_) (fun cdv A outer s H vs Q E hr h => ?_)
  · obtain ⟨a, ys, rfl, hl, _⟩ := h
    show ys.length + 1 = 2
    rw [hl]; rfl
  · obtain ⟨a, ys, rfl, hl, ha, q⟩ := h
    obtain ⟨y0, rfl⟩ : ∃ y, ys = [y] := match ys, hl with | [y], _ => ⟨y, rfl⟩
    refine ⟨_, PSs.nox (pss_cons (ps_expr (pe_off (E := E0) (pe_glob (v := .ref C0) rfl gP rfl) O.rd O.at_ GP hr O.kp pass0 (pa_cons (pv 0) (pa_cons (pv 1) pa_nil))))
      (pss_one (ps_ost (pv 0) (pv 1)))), ?_⟩
    refine ⟨rfl, _, rfl, _, rfl, a, C, [y0], rfl, T.ox, T.no _ (by simp), ha, (by show 1 ≤ 900; decide), fun p d hp hd dp da => ?_⟩
    refine ⟨_, rfl, _, rfl, a, C, rfl, T.ox, T.no _ (by simp), .inr ⟨d, [(("told" : Str), .ref p)], upd_same, by rw [upd_ne da, upd_same], (by show 1 ≤ 900; decide), ?_⟩⟩
    exact q _ (ini1 ha hp hd dp da).1 (ini1 ha hp hd dp da).2
theorem sc4 : FnScope ["self", "at"] ["self", "at"] (defScope (sI 4)) := ⟨rfl, rfl, rfl, by decide +kernel, rfl, by decide +kernel, by decide +kernel⟩
theorem ok_4 (F : FnI K "BadParts" 4 f fd) (gP : mg "PadError" = some (.ref C0)) (O : OffT K C0 f0) (GP : FnR P w K mg base CX0 1 f0 (spPad K)) (T : ErrT K C f ["told", "at"]) :
    FnOk P w K mg base CX0 2 f fd ["self", "at"] (spIni K C ["at"]) := by
  refine F.ok sc4 (fun vs H Q E h => ?_) (fun cdv A outer s H vs Q E hr h => ?_)
  · obtain ⟨a, ys, rfl, hl, _⟩ := h
    show ys.length + 1 = 2
    rw [hl]; rfl
  · obtain ⟨a, ys, rfl, hl, ha, q⟩ := h
    obtain ⟨y0, rfl⟩ : ∃ y, ys = [y] := match ys, hl with | [y], _ => ⟨y, rfl⟩
    refine ⟨_, PSs.nox (pss_cons (ps_expr (pe_off (E := E0) (pe_glob (v := .ref C0) rfl gP rfl) O.rd O.at_ GP hr O.kp pass0 (pa_cons (pv 0) (pa_cons (pv 1) pa_nil))))
      (pss_one (ps_ost (pv 0) (pv 1)))), ?_⟩
    refine ⟨rfl, _, rfl, _, rfl, a, C, [y0], rfl, T.ox, T.no _ (by simp), ha, (by show 1 ≤ 900; decide), fun p d hp hd dp da => ?_⟩
    refine ⟨_, rfl, _, rfl, a, C, rfl, T.ox, T.no _ (by simp), .inr ⟨d, [(("told" : Str), .ref p)], upd_same, by rw [upd_ne da, upd_same], (by show 1 ≤ 900; decide), ?_⟩⟩
    exact q _ (ini1 ha hp hd dp da).1 (ini1 ha hp hd dp da).2
theorem sc5 : FnScope ["self", "path", "at"] ["self", "path", "at"] (defScope (sI 5)) := ⟨rfl, rfl, rfl, by decide +kernel, rfl, by decide +kernel, by decide +kernel⟩
theorem ok_5 (F : FnI K "NoPath" 5 f fd) (gP : mg "PadError" = some (.ref C0)) (O : OffT K C0 f0) (GP : FnR P w K mg base CX0 1 f0 (spPad K)) (T : ErrT K C f ["told", "path", "at"]) :
    FnOk P w K mg base CX0 2 f fd ["self", "path", "at"] (spIni K C ["path", "at"]) := by
  refine F.ok sc5 (fun vs H Q E h => ?_) (fun cdv A outer s H vs Q E hr h => ?_)
  · obtain ⟨a, ys, rfl, hl, _⟩ := h
    show ys.length + 1 = 3
    rw [hl]; rfl
  · obtain ⟨a, ys, rfl, hl, ha, q⟩ := h
    obtain ⟨y0, y1, rfl⟩ : ∃ y z, ys = [y, z] := match ys, hl with | [y, z], _ => ⟨y, z, rfl⟩
    refine ⟨_, PSs.nox (pss_cons (ps_expr (pe_off (E := E0) (pe_glob (v := .ref C0) rfl gP rfl) O.rd O.at_ GP hr O.kp pass0 (pa_cons (pv 0) (pa_cons (pv 1) (pa_cons (pv 2) pa_nil)))))
      (pss_cons (ps_ost (pv 0) (pv 1)) (pss_one (ps_ost (pv 0) (pv 2))))), ?_⟩
    refine ⟨rfl, _, rfl, _, rfl, _, rfl, a, C, [y0, y1], rfl, T.ox, T.no _ (by simp), ha, (by show 2 ≤ 900; decide), fun p d hp hd dp da => ?_⟩
    refine ⟨_, rfl, _, rfl, a, C, rfl, T.ox, T.no _ (by simp), .inr ⟨d, [(("told" : Str), .ref p)], upd_same, by rw [upd_ne da, upd_same], (by show 1 ≤ 900; decide), ?_⟩⟩
    refine ⟨_, rfl, _, rfl, a, C, rfl, T.ox, T.no _ (by simp), .inr ⟨d, [(_, y0), (("told" : Str), .ref p)], by rw [upd_ne (Ne.symm da), upd_same], upd_same, (by show 2 ≤ 900; decide), ?_⟩⟩
    exact q _ (ini2 ha hp hd dp da).1 (ini2 ha hp hd dp da).2
theorem sc6 : FnScope ["self", "name"] ["self", "name"] (defScope (sI 6)) := ⟨rfl, rfl, rfl, by decide +kernel, rfl, by decide +kernel, by decide +kernel⟩
theorem ok_6 (F : FnI K "NoName" 6 f fd) (gP : mg "PadError" = some (.ref C0)) (O : OffT K C0 f0) (GP : FnR P w K mg base CX0 1 f0 (spPad K)) (T : ErrT K C f ["told", "name"]) :
    FnOk P w K mg base CX0 2 f fd ["self", "name"] (spIni K C ["name"]) := by
  refine F.ok sc6 (fun vs H Q E h => ?_) (fun cdv A outer s H vs Q E hr h => ?_)
  · obtain ⟨a, ys, rfl, hl, _⟩ := h
    show ys.length + 1 = 2
    rw [hl]; rfl
  · obtain ⟨a, ys, rfl, hl, ha, q⟩ := h
    obtain ⟨y0, rfl⟩ : ∃ y, ys = [y] := match ys, hl with | [y], _ => ⟨y, rfl⟩
    refine ⟨_, PSs.nox (pss_cons (ps_expr (pe_off (E := E0) (pe_glob (v := .ref C0) rfl gP rfl) O.rd O.at_ GP hr O.kp pass0 (pa_cons (pv 0) (pa_cons (pv 1) pa_nil))))
      (pss_one (ps_ost (pv 0) (pv 1)))), ?_⟩
    refine ⟨rfl, _, rfl, _, rfl, a, C, [y0], rfl, T.ox, T.no _ (by simp), ha, (by show 1 ≤ 900; decide), fun p d hp hd dp da => ?_⟩
    refine ⟨_, rfl, _, rfl, a, C, rfl, T.ox, T.no _ (by simp), .inr ⟨d, [(("told" : Str), .ref p)], upd_same, by rw [upd_ne da, upd_same], (by show 1 ≤ 900; decide), ?_⟩⟩
    exact q _ (ini1 ha hp hd dp da).1 (ini1 ha hp hd dp da).2
theorem sc7 : FnScope ["self", "name"] ["self", "name"] (defScope (sI 7)) := ⟨rfl, rfl, rfl, by decide +kernel, rfl, by decide +kernel, by decide +kernel⟩
theorem ok_7 (F : FnI K "Taken" 7 f fd) (gP : mg "PadError" = some (.ref C0)) (O : OffT K C0 f0) (GP : FnR P w K mg base CX0 1 f0 (spPad K)) (T : ErrT K C f ["told", "name"]) :
    FnOk P w K mg base CX0 2 f fd ["self", "name"] (spIni K C ["name"]) := by
  refine F.ok sc7 (fun vs H Q E h => ?_) (fun cdv A outer s H vs Q E hr h => ?_)
  · obtain ⟨a, ys, rfl, hl, _⟩ := h
    show ys.length + 1 = 2
    rw [hl]; rfl
  · obtain ⟨a, ys, rfl, hl, ha, q⟩ := h
    obtain ⟨y0, rfl⟩ : ∃ y, ys = [y] := match ys, hl with | [y], _ => ⟨y, rfl⟩
    refine ⟨_, PSs.nox (pss_cons (ps_expr (pe_off (E := E0) (pe_glob (v := .ref C0) rfl gP rfl) O.rd O.at_ GP hr O.kp pass0 (pa_cons (pv 0) (pa_cons (pv 1) pa_nil))))
      (pss_one (ps_ost (pv 0) (pv 1)))), ?_⟩
    refine ⟨rfl, _, rfl, _, rfl, a, C, [y0], rfl, T.ox, T.no _ (by simp), ha, (by show 1 ≤ 900; decide), fun p d hp hd dp da => ?_⟩
    refine ⟨_, rfl, _, rfl, a, C, rfl, T.ox, T.no _ (by simp), .inr ⟨d, [(("told" : Str), .ref p)], upd_same, by rw [upd_ne da, upd_same], (by show 1 ≤ 900; decide), ?_⟩⟩
    exact q _ (ini1 ha hp hd dp da).1 (ini1 ha hp hd dp da).2
theorem sc8 : FnScope ["self", "way"] ["self", "way"] (defScope (sI 8)) := ⟨rfl, rfl, rfl, by decide +kernel, rfl, by decide +kernel, by decide +kernel⟩
theorem ok_8 (F : FnI K "Ring" 8 f fd) (gP : mg "PadError" = some (.ref C0)) (O : OffT K C0 f0) (GP : FnR P w K mg base CX0 1 f0 (spPad K)) (T : ErrT K C f ["told", "way"]) :
    FnOk P w K mg base CX0 2 f fd ["self", "way"] (spIni K C ["way"]) := by
  refine F.ok sc8 (fun vs H Q E h => ?_) (fun cdv A outer s H vs Q E hr h => ?_)
  · obtain ⟨a, ys, rfl, hl, _⟩ := h
    show ys.length + 1 = 2
    rw [hl]; rfl
  · obtain ⟨a, ys, rfl, hl, ha, q⟩ := h
    obtain ⟨y0, rfl⟩ : ∃ y, ys = [y] := match ys, hl with | [y], _ => ⟨y, rfl⟩
    refine ⟨_, PSs.nox (pss_cons (ps_expr (pe_off (E := E0) (pe_glob (v := .ref C0) rfl gP rfl) O.rd O.at_ GP hr O.kp pass0 (pa_cons (pv 0) (pa_cons (pv 1) pa_nil))))
      (pss_one (ps_ost (pv 0) (pv 1)))), ?_⟩
    refine ⟨rfl, _, rfl, _, rfl, a, C, [y0], rfl, T.ox, T.no _ (by simp), ha, (by show 1 ≤ 900; decide), fun p d hp hd dp da => ?_⟩
    refine ⟨_, rfl, _, rfl, a, C, rfl, T.ox, T.no _ (by simp), .inr ⟨d, [(("told" : Str), .ref p)], upd_same, by rw [upd_ne da, upd_same], (by show 1 ≤ 900; decide), ?_⟩⟩
    exact q _ (ini1 ha hp hd dp da).1 (ini1 ha hp hd dp da).2
theorem sc9 : FnScope ["self", "name"] ["self", "name"] (defScope (sI 9)) := ⟨rfl, rfl, rfl, by decide +kernel, rfl, by decide +kernel, by decide +kernel⟩
theorem ok_9 (F : FnI K "InUse" 9 f fd) (gP : mg "PadError" = some (.ref C0)) (O : OffT K C0 f0) (GP : FnR P w K mg base CX0 1 f0 (spPad K)) (T : ErrT K C f ["told", "name"]) :
    FnOk P w K mg base CX0 2 f fd ["self", "name"] (spIni K C ["name"]) := by
  refine F.ok sc9 (fun vs H Q E h => ?_) (fun cdv A outer s H vs Q E hr h => ?_)
  · obtain ⟨a, ys, rfl, hl, _⟩ := h
    show ys.length + 1 = 2
    rw [hl]; rfl
  · obtain ⟨a, ys, rfl, hl, ha, q⟩ := h
    obtain ⟨y0, rfl⟩ : ∃ y, ys = [y] := match ys, hl with | [y], _ => ⟨y, rfl⟩
    refine ⟨_, PSs.nox (pss_cons (ps_expr (pe_off (E := E0) (pe_glob (v := .ref C0) rfl gP rfl) O.rd O.at_ GP hr O.kp pass0 (pa_cons (pv 0) (pa_cons (pv 1) pa_nil))))
      (pss_one (ps_ost (pv 0) (pv 1)))), ?_⟩
    refine ⟨rfl, _, rfl, _, rfl, a, C, [y0], rfl, T.ox, T.no _ (by simp), ha, (by show 1 ≤ 900; decide), fun p d hp hd dp da => ?_⟩
    refine ⟨_, rfl, _, rfl, a, C, rfl, T.ox, T.no _ (by simp), .inr ⟨d, [(("told" : Str), .ref p)], upd_same, by rw [upd_ne da, upd_same], (by show 1 ≤ 900; decide), ?_⟩⟩
    exact q _ (ini1 ha hp hd dp da).1 (ini1 ha hp hd dp da).2
theorem sc10 : FnScope ["self", "name"] ["self", "name"] (defScope (sI 10)) := ⟨rfl, rfl, rfl, by decide +kernel, rfl, by decide +kernel, by decide +kernel⟩
theorem ok_10 (F : FnI K "Unresolved" 10 f fd) (gP : mg "PadError" = some (.ref C0)) (O : OffT K C0 f0) (GP : FnR P w K mg base CX0 1 f0 (spPad K)) (T : ErrT K C f ["told", "name"]) :
    FnOk P w K mg base CX0 2 f fd ["self", "name"] (spIni K C ["name"]) := by
  refine F.ok sc10 (fun vs H Q E h => ?_) (fun cdv A outer s H vs Q E hr h => ?_)
  · obtain ⟨a, ys, rfl, hl, _⟩ := h
    show ys.length + 1 = 2
    rw [hl]; rfl
  · obtain ⟨a, ys, rfl, hl, ha, q⟩ := h
    obtain ⟨y0, rfl⟩ : ∃ y, ys = [y] := match ys, hl with | [y], _ => ⟨y, rfl⟩
    refine ⟨_, PSs.nox (pss_cons (ps_expr (pe_off (E := E0) (pe_glob (v := .ref C0) rfl gP rfl) O.rd O.at_ GP hr O.kp pass0 (pa_cons (pv 0) (pa_cons (pv 1) pa_nil))))
      (pss_one (ps_ost (pv 0) (pv 1)))), ?_⟩
    refine ⟨rfl, _, rfl, _, rfl, a, C, [y0], rfl, T.ox, T.no _ (by simp), ha, (by show 1 ≤ 900; decide), fun p d hp hd dp da => ?_⟩
    refine ⟨_, rfl, _, rfl, a, C, rfl, T.ox, T.no _ (by simp), .inr ⟨d, [(("told" : Str), .ref p)], upd_same, by rw [upd_ne da, upd_same], (by show 1 ≤ 900; decide), ?_⟩⟩
    exact q _ (ini1 ha hp hd dp da).1 (ini1 ha hp hd dp da).2
theorem sc11 : FnScope ["self", "scale"] ["self", "scale"] (defScope (sI 11)) := ⟨rfl, rfl, rfl, by decide +kernel, rfl, by decide +kernel, by decide +kernel⟩
theorem ok_11 (F : FnI K "NoMachine" 11 f fd) (gP : mg "PadError" = some (.ref C0)) (O : OffT K C0 f0) (GP : FnR P w K mg base CX0 1 f0 (spPad K)) (T : ErrT K C f ["told", "scale"]) :
    FnOk P w K mg base CX0 2 f fd ["self", "scale"] (spIni K C ["scale"]) := by
  refine F.ok sc11 (fun vs H Q E h => ?_) (fun cdv A outer s H vs Q E hr h => ?_)
  · obtain ⟨a, ys, rfl, hl, _⟩ := h
    show ys.length + 1 = 2
    rw [hl]; rfl
  · obtain ⟨a, ys, rfl, hl, ha, q⟩ := h
    obtain ⟨y0, rfl⟩ : ∃ y, ys = [y] := match ys, hl with | [y], _ => ⟨y, rfl⟩
    refine ⟨_, PSs.nox (pss_cons (ps_expr (pe_off (E := E0) (pe_glob (v := .ref C0) rfl gP rfl) O.rd O.at_ GP hr O.kp pass0 (pa_cons (pv 0) (pa_cons (pv 1) pa_nil))))
      (pss_one (ps_ost (pv 0) (pv 1)))), ?_⟩
    refine ⟨rfl, _, rfl, _, rfl, a, C, [y0], rfl, T.ox, T.no _ (by simp), ha, (by show 1 ≤ 900; decide), fun p d hp hd dp da => ?_⟩
    refine ⟨_, rfl, _, rfl, a, C, rfl, T.ox, T.no _ (by simp), .inr ⟨d, [(("told" : Str), .ref p)], upd_same, by rw [upd_ne da, upd_same], (by show 1 ≤ 900; decide), ?_⟩⟩
    exact q _ (ini1 ha hp hd dp da).1 (ini1 ha hp hd dp da).2
theorem sc12 : FnScope ["self", "path"] ["self", "path"] (defScope (sI 12)) := ⟨rfl, rfl, rfl, by decide +kernel, rfl, by decide +kernel, by decide +kernel⟩
theorem ok_12 (F : FnI K "BadValue" 12 f fd) (gP : mg "PadError" = some (.ref C0)) (O : OffT K C0 f0) (GP : FnR P w K mg base CX0 1 f0 (spPad K)) (T : ErrT K C f ["told", "path"]) :
    FnOk P w K mg base CX0 2 f fd ["self", "path"] (spIni K C ["path"]) := by
  refine F.ok sc12 (fun vs H Q E h => ?_) (fun cdv A outer s H vs Q E hr h => ?_)
  · obtain ⟨a, ys, rfl, hl, _⟩ := h
    show ys.length + 1 = 2
    rw [hl]; rfl
  · obtain ⟨a, ys, rfl, hl, ha, q⟩ := h
    obtain ⟨y0, rfl⟩ : ∃ y, ys = [y] := match ys, hl with | [y], _ => ⟨y, rfl⟩
    refine ⟨_, PSs.nox (pss_cons (ps_expr (pe_off (E := E0) (pe_glob (v := .ref C0) rfl gP rfl) O.rd O.at_ GP hr O.kp pass0 (pa_cons (pv 0) (pa_cons (pv 1) pa_nil))))
      (pss_one (ps_ost (pv 0) (pv 1)))), ?_⟩
    refine ⟨rfl, _, rfl, _, rfl, a, C, [y0], rfl, T.ox, T.no _ (by simp), ha, (by show 1 ≤ 900; decide), fun p d hp hd dp da => ?_⟩
    refine ⟨_, rfl, _, rfl, a, C, rfl, T.ox, T.no _ (by simp), .inr ⟨d, [(("told" : Str), .ref p)], upd_same, by rw [upd_ne da, upd_same], (by show 1 ≤ 900; decide), ?_⟩⟩
    exact q _ (ini1 ha hp hd dp da).1 (ini1 ha hp hd dp da).2
theorem sc13 : FnScope ["self", "what", "most"] ["self", "what", "most"] (defScope (sI 13)) := ⟨rfl, rfl, rfl, by decide +kernel, rfl, by decide +kernel, by decide +kernel⟩
theorem ok_13 (F : FnI K "TooLarge" 13 f fd) (gP : mg "PadError" = some (.ref C0)) (O : OffT K C0 f0) (GP : FnR P w K mg base CX0 1 f0 (spPad K)) (T : ErrT K C f ["told", "what", "most"]) :
    FnOk P w K mg base CX0 2 f fd ["self", "what", "most"] (spIni K C ["what", "most"]) := by
  refine F.ok sc13 (fun vs H Q E h => ?_) (fun cdv A outer s H vs Q E hr h => ?_)
  · obtain ⟨a, ys, rfl, hl, _⟩ := h
    show ys.length + 1 = 3
    rw [hl]; rfl
  · obtain ⟨a, ys, rfl, hl, ha, q⟩ := h
    obtain ⟨y0, y1, rfl⟩ : ∃ y z, ys = [y, z] := match ys, hl with | [y, z], _ => ⟨y, z, rfl⟩
    refine ⟨_, PSs.nox (pss_cons (ps_expr (pe_off (E := E0) (pe_glob (v := .ref C0) rfl gP rfl) O.rd O.at_ GP hr O.kp pass0 (pa_cons (pv 0) (pa_cons (pv 1) (pa_cons (pv 2) pa_nil)))))
      (pss_cons (ps_ost (pv 0) (pv 1)) (pss_one (ps_ost (pv 0) (pv 2))))), ?_⟩
    refine ⟨rfl, _, rfl, _, rfl, _, rfl, a, C, [y0, y1], rfl, T.ox, T.no _ (by simp), ha, (by show 2 ≤ 900; decide), fun p d hp hd dp da => ?_⟩
    refine ⟨_, rfl, _, rfl, a, C, rfl, T.ox, T.no _ (by simp), .inr ⟨d, [(("told" : Str), .ref p)], upd_same, by rw [upd_ne da, upd_same], (by show 1 ≤ 900; decide), ?_⟩⟩
    refine ⟨_, rfl, _, rfl, a, C, rfl, T.ox, T.no _ (by simp), .inr ⟨d, [(_, y0), (("told" : Str), .ref p)], by rw [upd_ne (Ne.symm da), upd_same], upd_same, (by show 2 ≤ 900; decide), ?_⟩⟩
    exact q _ (ini2 ha hp hd dp da).1 (ini2 ha hp hd dp da).2
theorem sc14 : FnScope ["self", "scale"] ["self", "scale"] (defScope (sI 14)) := ⟨rfl, rfl, rfl, by decide +kernel, rfl, by decide +kernel, by decide +kernel⟩
theorem ok_14 (F : FnI K "NoScale" 14 f fd) (gP : mg "PadError" = some (.ref C0)) (O : OffT K C0 f0) (GP : FnR P w K mg base CX0 1 f0 (spPad K)) (T : ErrT K C f ["told", "scale"]) :
    FnOk P w K mg base CX0 2 f fd ["self", "scale"] (spIni K C ["scale"]) := by
  refine F.ok sc14 (fun vs H Q E h => ?_) (fun cdv A outer s H vs Q E hr h => ?_)
  · obtain ⟨a, ys, rfl, hl, _⟩ := h
    show ys.length + 1 = 2
    rw [hl]; rfl
  · obtain ⟨a, ys, rfl, hl, ha, q⟩ := h
    obtain ⟨y0, rfl⟩ : ∃ y, ys = [y] := match ys, hl with | [y], _ => ⟨y, rfl⟩
    refine ⟨_, PSs.nox (pss_cons (ps_expr (pe_off (E := E0) (pe_glob (v := .ref C0) rfl gP rfl) O.rd O.at_ GP hr O.kp pass0 (pa_cons (pv 0) (pa_cons (pv 1) pa_nil))))
      (pss_one (ps_ost (pv 0) (pv 1)))), ?_⟩
    refine ⟨rfl, _, rfl, _, rfl, a, C, [y0], rfl, T.ox, T.no _ (by simp), ha, (by show 1 ≤ 900; decide), fun p d hp hd dp da => ?_⟩
    refine ⟨_, rfl, _, rfl, a, C, rfl, T.ox, T.no _ (by simp), .inr ⟨d, [(("told" : Str), .ref p)], upd_same, by rw [upd_ne da, upd_same], (by show 1 ≤ 900; decide), ?_⟩⟩
    exact q _ (ini1 ha hp hd dp da).1 (ini1 ha hp hd dp da).2
theorem sc15 : FnScope ["self", "value"] ["self", "value"] (defScope (sI 15)) := ⟨rfl, rfl, rfl, by decide +kernel, rfl, by decide +kernel, by decide +kernel⟩
theorem ok_15 (F : FnI K "BadBound" 15 f fd) (gP : mg "PadError" = some (.ref C0)) (O : OffT K C0 f0) (GP : FnR P w K mg base CX0 1 f0 (spPad K)) (T : ErrT K C f ["told", "value"]) :
    FnOk P w K mg base CX0 2 f fd ["self", "value"] (spIni K C ["value"]) := by
  refine F.ok sc15 (fun vs H Q E h => ?_) (fun cdv A outer s H vs Q E hr h => ?_)
  · obtain ⟨a, ys, rfl, hl, _⟩ := h
    show ys.length + 1 = 2
    rw [hl]; rfl
  · obtain ⟨a, ys, rfl, hl, ha, q⟩ := h
    obtain ⟨y0, rfl⟩ : ∃ y, ys = [y] := match ys, hl with | [y], _ => ⟨y, rfl⟩
    refine ⟨_, PSs.nox (pss_cons (ps_expr (pe_off (E := E0) (pe_glob (v := .ref C0) rfl gP rfl) O.rd O.at_ GP hr O.kp pass0 (pa_cons (pv 0) (pa_cons (pv 1) pa_nil))))
      (pss_one (ps_ost (pv 0) (pv 1)))), ?_⟩
    refine ⟨rfl, _, rfl, _, rfl, a, C, [y0], rfl, T.ox, T.no _ (by simp), ha, (by show 1 ≤ 900; decide), fun p d hp hd dp da => ?_⟩
    refine ⟨_, rfl, _, rfl, a, C, rfl, T.ox, T.no _ (by simp), .inr ⟨d, [(("told" : Str), .ref p)], upd_same, by rw [upd_ne da, upd_same], (by show 1 ≤ 900; decide), ?_⟩⟩
    exact q _ (ini1 ha hp hd dp da).1 (ini1 ha hp hd dp da).2
theorem sc16 : FnScope ["self", "at"] ["self", "at"] (defScope (sI 16)) := ⟨rfl, rfl, rfl, by decide +kernel, rfl, by decide +kernel, by decide +kernel⟩
theorem ok_16 (F : FnI K "NoTerm" 16 f fd) (gP : mg "PadError" = some (.ref C0)) (O : OffT K C0 f0) (GP : FnR P w K mg base CX0 1 f0 (spPad K)) (T : ErrT K C f ["told", "at"]) :
    FnOk P w K mg base CX0 2 f fd ["self", "at"] (spIni K C ["at"]) := by
  refine F.ok sc16 (fun vs H Q E h => ?_) (fun cdv A outer s H vs Q E hr h => ?_)
  · obtain ⟨a, ys, rfl, hl, _⟩ := h
    show ys.length + 1 = 2
    rw [hl]; rfl
  · obtain ⟨a, ys, rfl, hl, ha, q⟩ := h
    obtain ⟨y0, rfl⟩ : ∃ y, ys = [y] := match ys, hl with | [y], _ => ⟨y, rfl⟩
    refine ⟨_, PSs.nox (pss_cons (ps_expr (pe_off (E := E0) (pe_glob (v := .ref C0) rfl gP rfl) O.rd O.at_ GP hr O.kp pass0 (pa_cons (pv 0) (pa_cons (pv 1) pa_nil))))
      (pss_one (ps_ost (pv 0) (pv 1)))), ?_⟩
    refine ⟨rfl, _, rfl, _, rfl, a, C, [y0], rfl, T.ox, T.no _ (by simp), ha, (by show 1 ≤ 900; decide), fun p d hp hd dp da => ?_⟩
    refine ⟨_, rfl, _, rfl, a, C, rfl, T.ox, T.no _ (by simp), .inr ⟨d, [(("told" : Str), .ref p)], upd_same, by rw [upd_ne da, upd_same], (by show 1 ≤ 900; decide), ?_⟩⟩
    exact q _ (ini1 ha hp hd dp da).1 (ini1 ha hp hd dp da).2
theorem sc17 : FnScope ["self", "at"] ["self", "at"] (defScope (sI 17)) := ⟨rfl, rfl, rfl, by decide +kernel, rfl, by decide +kernel, by decide +kernel⟩
theorem ok_17 (F : FnI K "NoClaim" 17 f fd) (gP : mg "PadError" = some (.ref C0)) (O : OffT K C0 f0) (GP : FnR P w K mg base CX0 1 f0 (spPad K)) (T : ErrT K C f ["told", "at"]) :
    FnOk P w K mg base CX0 2 f fd ["self", "at"] (spIni K C ["at"]) := by
  refine F.ok sc17 (fun vs H Q E h => ?_) (fun cdv A outer s H vs Q E hr h => ?_)
  · obtain ⟨a, ys, rfl, hl, _⟩ := h
    show ys.length + 1 = 2
    rw [hl]; rfl
  · obtain ⟨a, ys, rfl, hl, ha, q⟩ := h
    obtain ⟨y0, rfl⟩ : ∃ y, ys = [y] := match ys, hl with | [y], _ => ⟨y, rfl⟩
    refine ⟨_, PSs.nox (pss_cons (ps_expr (pe_off (E := E0) (pe_glob (v := .ref C0) rfl gP rfl) O.rd O.at_ GP hr O.kp pass0 (pa_cons (pv 0) (pa_cons (pv 1) pa_nil))))
      (pss_one (ps_ost (pv 0) (pv 1)))), ?_⟩
    refine ⟨rfl, _, rfl, _, rfl, a, C, [y0], rfl, T.ox, T.no _ (by simp), ha, (by show 1 ≤ 900; decide), fun p d hp hd dp da => ?_⟩
    refine ⟨_, rfl, _, rfl, a, C, rfl, T.ox, T.no _ (by simp), .inr ⟨d, [(("told" : Str), .ref p)], upd_same, by rw [upd_ne da, upd_same], (by show 1 ≤ 900; decide), ?_⟩⟩
    exact q _ (ini1 ha hp hd dp da).1 (ini1 ha hp hd dp da).2
theorem sc18 : FnScope ["self", "name"] ["self", "name"] (defScope (sI 18)) := ⟨rfl, rfl, rfl, by decide +kernel, rfl, by decide +kernel, by decide +kernel⟩
theorem ok_18 (F : FnI K "NotRecord" 18 f fd) (gP : mg "PadError" = some (.ref C0)) (O : OffT K C0 f0) (GP : FnR P w K mg base CX0 1 f0 (spPad K)) (T : ErrT K C f ["told", "name"]) :
    FnOk P w K mg base CX0 2 f fd ["self", "name"] (spIni K C ["name"]) := by
  refine F.ok sc18 (fun vs H Q E h => ?_) (fun cdv A outer s H vs Q E hr h => ?_)
  · obtain ⟨a, ys, rfl, hl, _⟩ := h
    show ys.length + 1 = 2
    rw [hl]; rfl
  · obtain ⟨a, ys, rfl, hl, ha, q⟩ := h
    obtain ⟨y0, rfl⟩ : ∃ y, ys = [y] := match ys, hl with | [y], _ => ⟨y, rfl⟩
    refine ⟨_, PSs.nox (pss_cons (ps_expr (pe_off (E := E0) (pe_glob (v := .ref C0) rfl gP rfl) O.rd O.at_ GP hr O.kp pass0 (pa_cons (pv 0) (pa_cons (pv 1) pa_nil))))
      (pss_one (ps_ost (pv 0) (pv 1)))), ?_⟩
    refine ⟨rfl, _, rfl, _, rfl, a, C, [y0], rfl, T.ox, T.no _ (by simp), ha, (by show 1 ≤ 900; decide), fun p d hp hd dp da => ?_⟩
    refine ⟨_, rfl, _, rfl, a, C, rfl, T.ox, T.no _ (by simp), .inr ⟨d, [(("told" : Str), .ref p)], upd_same, by rw [upd_ne da, upd_same], (by show 1 ≤ 900; decide), ?_⟩⟩
    exact q _ (ini1 ha hp hd dp da).1 (ini1 ha hp hd dp da).2
theorem sc19 : FnScope ["self"] ["self"] (defScope (sI 19)) := ⟨rfl, rfl, rfl, by decide +kernel, rfl, by decide +kernel, by decide +kernel⟩
theorem ok_19 (F : FnI K "Barred" 19 f fd) (gP : mg "PadError" = some (.ref C0)) (O : OffT K C0 f0) (GP : FnR P w K mg base CX0 1 f0 (spPad K)) (T : ErrT K C f ["told"]) :
    FnOk P w K mg base CX0 2 f fd ["self"] (spIni K C []) := by
  refine F.ok sc19 (fun vs H Q E h => ?_) (fun cdv A outer s H vs Q E hr h => ?_)
  · obtain ⟨a, ys, rfl, hl, _⟩ := h
    show ys.length + 1 = 1
    rw [hl]; rfl
  · obtain ⟨a, ys, rfl, hl, ha, q⟩ := h
    obtain rfl : ys = [] := match ys, hl with | [], _ => rfl
    refine ⟨_, PSs.nox (pss_one (ps_expr (pe_off (E := E0) (pe_glob (v := .ref C0) rfl gP rfl) O.rd O.at_ GP hr O.kp pass0 (pa_cons (pv 0) pa_nil)))), ?_⟩
    refine ⟨rfl, _, rfl, a, C, [], rfl, T.ox, T.no _ (by simp), ha, (by show 0 ≤ 900; decide), fun p d hp hd dp da => ?_⟩
    exact q _ (ini0 ha hp hd dp da).1 (ini0 ha hp hd dp da).2
theorem sc20 : FnScope ["self", "scale"] ["self", "scale"] (defScope (sI 20)) := ⟨rfl, rfl, rfl, by decide +kernel, rfl, by decide +kernel, by decide +kernel⟩
theorem ok_20 (F : FnI K "Endless" 20 f fd) (gP : mg "PadError" = some (.ref C0)) (O : OffT K C0 f0) (GP : FnR P w K mg base CX0 1 f0 (spPad K)) (T : ErrT K C f ["told", "scale"]) :
    FnOk P w K mg base CX0 2 f fd ["self", "scale"] (spIni K C ["scale"]) := by
  refine F.ok sc20 (fun vs H Q E h => ?_) (fun cdv A outer s H vs Q E hr h => ?_)
  · obtain ⟨a, ys, rfl, hl, _⟩ := h
    show ys.length + 1 = 2
    rw [hl]; rfl
  · obtain ⟨a, ys, rfl, hl, ha, q⟩ := h
    obtain ⟨y0, rfl⟩ : ∃ y, ys = [y] := match ys, hl with | [y], _ => ⟨y, rfl⟩
    refine ⟨_, PSs.nox (pss_cons (ps_expr (pe_off (E := E0) (pe_glob (v := .ref C0) rfl gP rfl) O.rd O.at_ GP hr O.kp pass0 (pa_cons (pv 0) (pa_cons (pv 1) pa_nil))))
      (pss_one (ps_ost (pv 0) (pv 1)))), ?_⟩
    refine ⟨rfl, _, rfl, _, rfl, a, C, [y0], rfl, T.ox, T.no _ (by simp), ha, (by show 1 ≤ 900; decide), fun p d hp hd dp da => ?_⟩
    refine ⟨_, rfl, _, rfl, a, C, rfl, T.ox, T.no _ (by simp), .inr ⟨d, [(("told" : Str), .ref p)], upd_same, by rw [upd_ne da, upd_same], (by show 1 ≤ 900; decide), ?_⟩⟩
    exact q _ (ini1 ha hp hd dp da).1 (ini1 ha hp hd dp da).2
theorem sc21 : FnScope ["self", "at"] ["self", "at"] (defScope (sI 21)) := ⟨rfl, rfl, rfl, by decide +kernel, rfl, by decide +kernel, by decide +kernel⟩
theorem ok_21 (F : FnI K "NoOffer" 21 f fd) (gP : mg "PadError" = some (.ref C0)) (O : OffT K C0 f0) (GP : FnR P w K mg base CX0 1 f0 (spPad K)) (T : ErrT K C f ["told", "at"]) :
    FnOk P w K mg base CX0 2 f fd ["self", "at"] (spIni K C ["at"]) := by
  refine F.ok sc21 (fun vs H Q E h => ?_) (fun cdv A outer s H vs Q E hr h => ?_)
  · obtain ⟨a, ys, rfl, hl, _⟩ := h
    show ys.length + 1 = 2
    rw [hl]; rfl
  · obtain ⟨a, ys, rfl, hl, ha, q⟩ := h
    obtain ⟨y0, rfl⟩ : ∃ y, ys = [y] := match ys, hl with | [y], _ => ⟨y, rfl⟩
    refine ⟨_, PSs.nox (pss_cons (ps_expr (pe_off (E := E0) (pe_glob (v := .ref C0) rfl gP rfl) O.rd O.at_ GP hr O.kp pass0 (pa_cons (pv 0) (pa_cons (pv 1) pa_nil))))
      (pss_one (ps_ost (pv 0) (pv 1)))), ?_⟩
    refine ⟨rfl, _, rfl, _, rfl, a, C, [y0], rfl, T.ox, T.no _ (by simp), ha, (by show 1 ≤ 900; decide), fun p d hp hd dp da => ?_⟩
    refine ⟨_, rfl, _, rfl, a, C, rfl, T.ox, T.no _ (by simp), .inr ⟨d, [(("told" : Str), .ref p)], upd_same, by rw [upd_ne da, upd_same], (by show 1 ≤ 900; decide), ?_⟩⟩
    exact q _ (ini1 ha hp hd dp da).1 (ini1 ha hp hd dp da).2
theorem sc22 : FnScope ["self", "at"] ["self", "at"] (defScope (sI 22)) := ⟨rfl, rfl, rfl, by decide +kernel, rfl, by decide +kernel, by decide +kernel⟩
theorem ok_22 (F : FnI K "NoOrder" 22 f fd) (gP : mg "PadError" = some (.ref C0)) (O : OffT K C0 f0) (GP : FnR P w K mg base CX0 1 f0 (spPad K)) (T : ErrT K C f ["told", "at"]) :
    FnOk P w K mg base CX0 2 f fd ["self", "at"] (spIni K C ["at"]) := by
  refine F.ok sc22 (fun vs H Q E h => ?_) (fun cdv A outer s H vs Q E hr h => ?_)
  · obtain ⟨a, ys, rfl, hl, _⟩ := h
    show ys.length + 1 = 2
    rw [hl]; rfl
  · obtain ⟨a, ys, rfl, hl, ha, q⟩ := h
    obtain ⟨y0, rfl⟩ : ∃ y, ys = [y] := match ys, hl with | [y], _ => ⟨y, rfl⟩
    refine ⟨_, PSs.nox (pss_cons (ps_expr (pe_off (E := E0) (pe_glob (v := .ref C0) rfl gP rfl) O.rd O.at_ GP hr O.kp pass0 (pa_cons (pv 0) (pa_cons (pv 1) pa_nil))))
      (pss_one (ps_ost (pv 0) (pv 1)))), ?_⟩
    refine ⟨rfl, _, rfl, _, rfl, a, C, [y0], rfl, T.ox, T.no _ (by simp), ha, (by show 1 ≤ 900; decide), fun p d hp hd dp da => ?_⟩
    refine ⟨_, rfl, _, rfl, a, C, rfl, T.ox, T.no _ (by simp), .inr ⟨d, [(("told" : Str), .ref p)], upd_same, by rw [upd_ne da, upd_same], (by show 1 ≤ 900; decide), ?_⟩⟩
    exact q _ (ini1 ha hp hd dp da).1 (ini1 ha hp hd dp da).2
theorem sc23 : FnScope ["self", "at"] ["self", "at"] (defScope (sI 23)) := ⟨rfl, rfl, rfl, by decide +kernel, rfl, by decide +kernel, by decide +kernel⟩
theorem ok_23 (F : FnI K "BadText" 23 f fd) (gP : mg "PadError" = some (.ref C0)) (O : OffT K C0 f0) (GP : FnR P w K mg base CX0 1 f0 (spPad K)) (T : ErrT K C f ["told", "at"]) :
    FnOk P w K mg base CX0 2 f fd ["self", "at"] (spIni K C ["at"]) := by
  refine F.ok sc23 (fun vs H Q E h => ?_) (fun cdv A outer s H vs Q E hr h => ?_)
  · obtain ⟨a, ys, rfl, hl, _⟩ := h
    show ys.length + 1 = 2
    rw [hl]; rfl
  · obtain ⟨a, ys, rfl, hl, ha, q⟩ := h
    obtain ⟨y0, rfl⟩ : ∃ y, ys = [y] := match ys, hl with | [y], _ => ⟨y, rfl⟩
    refine ⟨_, PSs.nox (pss_cons (ps_expr (pe_off (E := E0) (pe_glob (v := .ref C0) rfl gP rfl) O.rd O.at_ GP hr O.kp pass0 (pa_cons (pv 0) (pa_cons (pv 1) pa_nil))))
      (pss_one (ps_ost (pv 0) (pv 1)))), ?_⟩
    refine ⟨rfl, _, rfl, _, rfl, a, C, [y0], rfl, T.ox, T.no _ (by simp), ha, (by show 1 ≤ 900; decide), fun p d hp hd dp da => ?_⟩
    refine ⟨_, rfl, _, rfl, a, C, rfl, T.ox, T.no _ (by simp), .inr ⟨d, [(("told" : Str), .ref p)], upd_same, by rw [upd_ne da, upd_same], (by show 1 ≤ 900; decide), ?_⟩⟩
    exact q _ (ini1 ha hp hd dp da).1 (ini1 ha hp hd dp da).2
theorem sc24 : FnScope ["self"] ["self"] (defScope (sI 24)) := ⟨rfl, rfl, rfl, by decide +kernel, rfl, by decide +kernel, by decide +kernel⟩
theorem ok_24 (F : FnI K "NoLine" 24 f fd) (gP : mg "PadError" = some (.ref C0)) (O : OffT K C0 f0) (GP : FnR P w K mg base CX0 1 f0 (spPad K)) (T : ErrT K C f ["told"]) :
    FnOk P w K mg base CX0 2 f fd ["self"] (spIni K C []) := by
  refine F.ok sc24 (fun vs H Q E h => ?_) (fun cdv A outer s H vs Q E hr h => ?_)
  · obtain ⟨a, ys, rfl, hl, _⟩ := h
    show ys.length + 1 = 1
    rw [hl]; rfl
  · obtain ⟨a, ys, rfl, hl, ha, q⟩ := h
    obtain rfl : ys = [] := match ys, hl with | [], _ => rfl
    refine ⟨_, PSs.nox (pss_one (ps_expr (pe_off (E := E0) (pe_glob (v := .ref C0) rfl gP rfl) O.rd O.at_ GP hr O.kp pass0 (pa_cons (pv 0) pa_nil)))), ?_⟩
    refine ⟨rfl, _, rfl, a, C, [], rfl, T.ox, T.no _ (by simp), ha, (by show 0 ≤ 900; decide), fun p d hp hd dp da => ?_⟩
    exact q _ (ini0 ha hp hd dp da).1 (ini0 ha hp hd dp da).2
end
end H8
set_option Elab.async false
set_option linter.all false
set_option maxRecDepth 100000
set_option maxHeartbeats 4000000
/-! The pen of a law: what it is, what a draw leaves. -/
namespace Ev
open PySem PySem.Spec PyProof.Rows L2
def Ints (xs : List V) : Prop := ∀ x ∈ xs, ∃ i : Int, x = .int i
theorem ints_map (ns : List Int) : Ints (ns.map V.int) := fun x h => by
  obtain ⟨i, _, e⟩ := List.mem_map.mp h
  exact ⟨i, e.symm⟩
theorem ints_cut {xs : List V} (h : Ints xs) (lo hi : Option Int) : Ints (cutV xs lo hi) := fun x m => h x (List.mem_of_mem_drop (List.mem_of_mem_take m))
theorem ints_dp {K : PySem.W.Frag} {H : Hp} : ∀ {xs : List V}, Ints xs → ∃ ds, DpAll K H xs ds ∧ SeqAt.shaped (.list ds) = true
  | [], _ => ⟨[], .nil, rfl⟩
  | x :: xs, h => by
    obtain ⟨i, rfl⟩ := h x (by simp)
    obtain ⟨ds, a, b⟩ := ints_dp (K := K) (H := H) (xs := xs) fun y m => h y (List.mem_cons_of_mem _ m)
    refine ⟨.int i :: ds, .cons (.int i) a, ?_⟩
    first
      | exact b
      | (simp [SeqAt.shaped, SeqAt.shapedAll] at b ⊢; exact b)
/-- the pen at p: its cells, how many draws at most, what is left of a great cell -/
def PenAt (H : Hp) (p : Addr) (n : Nat) : Prop := ∃ (c : Addr) (cells : List V) (t l : Int), H p = some (.lst [.ref c, .int t, .int l]) ∧ H c = some (.lst cells) ∧ Ints cells ∧ cells.length ≤ 63 ∧ c ≠ p ∧ 0 ≤ t ∧ t ≤ n
theorem PenAt.same {H H' : Hp} {p : Addr} {n : Nat} (S : Same H H') : PenAt H p n → PenAt H' p n
  | ⟨c, cells, t, l, h1, h2, r⟩ => ⟨c, cells, t, l, S _ _ h1, S _ _ h2, r⟩
/-- all but the object at p stands as it stood -/
def But (p : Addr) (H H' : Hp) : Prop := ∀ b o, b ≠ p → H b = some o → H' b = some o
theorem But.of {p : Addr} {H H' : Hp} (S : Same H H') : But p H H' := fun b o _ => S b o
theorem But.tr {p : Addr} {H H1 H2 : Hp} (a : But p H H1) (b : But p H1 H2) : But p H H2 := fun c o n e => b c o n (a c o n e)
theorem But.del {p : Addr} {H H' : Hp} (a : But p H H') : Same (del H p) (del H' p) := fun b o e => by
  by_cases n : b = p
  · rw [n, del_same] at e
    cases e
  · rw [del_ne n] at e ⊢
    exact a b o n e
theorem same_del {p : Addr} {H H' : Hp} (S : Same H H') : Same (del H p) (del H' p) := (But.of S).del
theorem del_same' {p : Addr} {H : Hp} : Same (del H p) H := fun b o e => by
  by_cases n : b = p
  · rw [n, del_same] at e
    cases e
  · rwa [del_ne n] at e
/-- the pen has a law's draw: between 0 and the number -/
def spDraw : Sp := fun vs H Q _ => ∃ (p : Addr) (m : Int) (n : Nat), vs = [.ref p, .int m] ∧ 0 < m ∧ m < 1073741824 ∧ PenAt H p n ∧ n ≤ 1000 ∧
  ∀ (z : Int) (H' : Hp), 0 ≤ z → z < m → PenAt H' p (n + 1) → But p H H' → Q (.int z) H'
/-- one of some things -/
def spPick (K : PySem.W.Frag) : Sp := fun vs H Q _ => ∃ (p l : Addr) (xs : List V) (n : Nat), vs = [.ref p, .ref l] ∧ H l = some (.lst xs) ∧ l ≠ p ∧ 0 < xs.length ∧ xs.length ≤ 100000 ∧ PenAt H p n ∧ n ≤ 1000 ∧
  ∀ (x : V) (H' : Hp), x ∈ xs → PenAt H' p (n + 1) → But p H H' → Q x H'
def spPen (K : PySem.W.Frag) : Sp := fun vs H Q _ => ∃ (a : Addr) (ns : List Int), vs = [.ref a] ∧ SqL K H a (ns.map V.int) ∧ ns.length ≤ 63 ∧ ∀ (p : Addr) (H' : Hp), Same H H' → PenAt H' p 0 → H p = none → Q (.ref p) H'
/-! ### the bounds of a draw's numbers -/
theorem fmod_in {a m : Int} (h : 0 < m) : 0 ≤ a % m ∧ a % m < m := ⟨Int.emod_nonneg _ (by omega), Int.emod_lt_of_pos _ h⟩
theorem small5 {x t A B : Int} (h0 : 0 ≤ x) (h1 : x < 2147483648) (t0 : 0 ≤ t) (t1 : t ≤ 1000) (a0 : 0 ≤ A) (a1 : A ≤ 1000000) (b0 : 0 ≤ B) (b1 : B ≤ 1000000) : (x + A * t + B).natAbs < 2 ^ 64 := by
  have h2 : A * t ≤ 1000000 * 1000 := Int.mul_le_mul a1 t1 t0 (by omega)
  have h3 : 0 ≤ A * t := Int.mul_nonneg a0 t0
  omega
theorem small3 {x t A B D : Int} (h0 : 0 ≤ x) (h1 : x < 2147483648) (t0 : 0 ≤ t) (t1 : t ≤ 1000) (a0 : 0 ≤ A) (a1 : A ≤ 1000000) (b0 : 0 ≤ B) (b1 : B ≤ 1000000) (d0 : 0 ≤ D) (d1 : D ≤ 1000000) :
    (x * (2 * t + A) + B * t * t + D).natAbs < 2 ^ 64 := by
  have h2 : x * (2 * t + A) ≤ 2147483648 * 1002000 := Int.mul_le_mul (by omega) (by omega) (by omega) (by omega)
  have h3 : 0 ≤ x * (2 * t + A) := Int.mul_nonneg h0 (by omega)
  have h4 : B * t ≤ 1000000 * 1000 := Int.mul_le_mul b1 t1 t0 (by omega)
  have h5 : 0 ≤ B * t := Int.mul_nonneg b0 t0
  have h6 : B * t * t ≤ 1000000000 * 1000 := Int.mul_le_mul (by omega) t1 t0 (by omega)
  have h7 : 0 ≤ B * t * t := Int.mul_nonneg h5 t0
  omega
theorem in64 {B t : Int} (b0 : 0 ≤ B) (b1 : B ≤ 1000000) (t0 : 0 ≤ t) (t1 : t ≤ 1000) : -(2 ^ 64) < B * t ∧ B * t < 2 ^ 64 := by
  have h2 : B * t ≤ 1000000 * 1000 := Int.mul_le_mul b1 t1 t0 (by omega)
  have h3 : 0 ≤ B * t := Int.mul_nonneg b0 t0
  omega
theorem ixN_in {n : Nat} {i : Int} (h0 : 0 ≤ i) (h1 : i < n) : ixN n i = some i.toNat := by
  unfold ixN
  rw [if_pos h0, if_pos h1]
theorem atI_in {α : Type} {xs : List α} {i : Int} (h0 : 0 ≤ i) (h1 : i < xs.length) : ∃ x, atI xs i = some x ∧ x ∈ xs := by
  obtain ⟨j, rfl⟩ := Int.eq_ofNat_of_zero_le h0
  have hj : j < xs.length := by omega
  exact ⟨xs[j], atI_nat (List.getElem?_eq_getElem hj), List.getElem_mem hj⟩
end Ev
set_option Elab.async false
set_option linter.all false
set_option maxRecDepth 100000
set_option maxHeartbeats 4000000
namespace H8
open PySem PySem.Spec PyProof.Rows L2 Ev
abbrev FnL (K : PySem.W.Frag) (x : Str) (i : Nat) (f : Addr) (fd : FuncData) : Prop := FunD K x x (defArgs (top i)) (defBody (top i)) (defScope (top i)) [] [] f fd
section
variable {P : Program} {w : World} {K : PySem.W.Frag} {mg : Str → Option Value} {base : Heap} {f fD : Addr} {fd fdD : FuncData}
theorem sc26 : FnScope ["_law_script"] ["_law_script"] (defScope (top 26)) := ⟨rfl, rfl, rfl, by decide +kernel, rfl, by decide +kernel, by decide +kernel⟩
theorem ok_pen (F : FnL K "_law_pen" 26 f fd) (tList : mg "list" = none) : FnOk P w K mg base CX0 1 f fd ["_law_script"] (spPen K) := by
  refine F.ok sc26 (fun vs H Q E h => ?_) (fun cdv A outer s H vs Q E hr h => ?_)
  · obtain ⟨a, ns, rfl, _⟩ := h
    rfl
  · obtain ⟨a, ns, rfl, hS, hl, q⟩ := h
    refine ⟨_, PSs.nox (pss_one (ps_ret (pe_lst (pa_cons (pe_callTy call_list_of (by rfl) tList (by decide +kernel) (pa_cons (pe_slice sl_list (pv 0) po_none (po_some pe_int)) pa_nil))
      (pa_cons pe_int (pa_cons pe_int pa_nil)))))), ?_⟩
    refine ⟨_, rfl, 63, rfl, a, _, rfl, hS, fun r hr1 => ?_⟩
    refine ⟨r, _, rfl, .inl (SqL.of upd_same), fun c hc => ?_⟩
    refine ⟨(by show 3 ≤ sizeLine; decide), fun p hp => ?_⟩
    have cr : c ≠ r := fun z => by rw [z, upd_same] at hc; cases hc
    have pc : p ≠ c := fun z => by rw [z, upd_same] at hp; cases hp
    have hp2 := hp
    rw [upd_ne pc] at hp
    have pr : p ≠ r := fun z => by rw [z, upd_same] at hp; cases hp
    rw [upd_ne pr] at hp
    have hc2 := hc
    rw [upd_ne cr] at hc2
    refine q p _ (fun b o e => ?_) ⟨c, cutV (ns.map V.int) none (some 63), 0, 0, upd_same, ?_, ints_cut (ints_map ns) _ _, ?_, Ne.symm pc, by omega, by omega⟩ hp
    · rw [upd_ne (ne_of_none e hp), upd_ne (ne_of_none e hc2), upd_ne (ne_of_none e hr1)]
      exact e
    · rw [upd_ne (Ne.symm pc), upd_same]
    · exact Nat.le_trans (cutV_length _ _ _) (by rw [List.length_map]; exact hl)
theorem sc27 : FnScope ["_law_pen_here", "_law_many", "_law_digit", "_law_taken", "_law_cell", "_law_great", "_law_mixed"] ["_law_pen_here", "_law_many"] (defScope (top 27)) :=
  ⟨rfl, rfl, rfl, by decide +kernel, rfl, by decide +kernel, by decide +kernel⟩
theorem ok_draw (F : FnL K "_law_draw" 27 f fd) (tInt : mg "int" = none) (tLen : mg "len" = none) (tAbs : mg "abs" = none) : FnOk P w K mg base CX0 1 f fd ["_law_pen_here", "_law_many"] spDraw := by
  refine F.ok sc27 (fun vs H Q E h => ?_) (fun cdv A outer s H vs Q E hr h => ?_)
  · obtain ⟨p, m, n, rfl, _⟩ := h
    rfl
  · obtain ⟨p, m, n, rfl, m0, m1, ⟨c, cells, t, l, hp, hc, hi, hl, cp, t0, t1⟩, hn, q⟩ := h
    refine ⟨_, PSs.nox (pss_cons (ps_if (pt_cmpR op_gt (pe_ix ix_list (pv 0) pe_int (fun _ _ => rfl)) pe_int (nomark _))
        (pss_cons (ps_set (i := 2) sc27.nd rfl (Or.inl rfl) (pe_op op_mod (pe_callTy call_int1 (by rfl) tInt (by decide +kernel) (pa_cons (pe_ix ix_list (pv 0) pe_int (fun _ _ => rfl)) pa_nil)) (pv 1)))
        (pss_cons (ps_asg (pe_op op_fdivN (pe_callTy call_int1 (by rfl) tInt (by decide +kernel) (pa_cons (pe_ix ix_list (pv 0) pe_int (fun _ _ => rfl)) pa_nil)) (pv 1)) (pg_sub (pv 0) pe_int set_list))
        (pss_one (ps_ret (pv 2))))) pss_nil)
      (pss_cons (ps_set (i := 3) sc27.nd rfl (Or.inl rfl) (pe_ix ix_list (pv 0) pe_int (fun _ _ => rfl)))
      (pss_cons (ps_asg (pe_op op_add (pv 3) pe_int) (pg_sub (pv 0) pe_int set_list))
      (pss_cons (ps_set (i := 4) sc27.nd rfl (Or.inl rfl) (pe_op op_add (pe_op op_mul pe_int (pv 3)) pe_int))
      (pss_cons (ps_if (pt_cmpR (op_neD hr.units) (pe_ix ix_list (pv 0) pe_int (fun _ _ => rfl)) (pe_lst pa_nil) (nomark _))
        (pss_one (ps_set (i := 4) sc27.nd rfl (Or.inl rfl) (pe_ix ix_list (pe_ix ix_list (pv 0) pe_int (fun _ _ => rfl))
          (pe_op op_mod (pe_callTy call_int1 (by rfl) tInt (by decide +kernel) (pa_cons (pv 3) pa_nil)) (pe_callB call_len_seq (by rfl) tLen PySem.boot_len (pa_cons (pe_ix ix_list (pv 0) pe_int (fun _ _ => rfl)) pa_nil))) (fun _ _ => rfl)))) pss_nil)
      (pss_cons (ps_if (PW.pt (pw_and (pt_cmpR op_lt (pv 3) (pe_callB call_len_seq (by rfl) tLen PySem.boot_len (pa_cons (pe_ix ix_list (pv 0) pe_int (fun _ _ => rfl)) pa_nil)) (nomark _))
          (pw_and1 (pt_cmpR op_ge (pe_callB call_abs (by rfl) tAbs (by decide +kernel) (pa_cons (pv 4) pa_nil)) (pe_op op_pow pe_int pe_int) (nomark _)))))
        (pss_cons (ps_set (i := 5) sc27.nd rfl (Or.inl rfl) (pe_op op_add (pe_op op_mul pe_int (pe_op op_sub (pe_callB call_abs (by rfl) tAbs (by decide +kernel) (pa_cons (pv 4) pa_nil)) (pe_op op_pow pe_int pe_int)))
          (pe_callTy call_int1 (by rfl) tInt (by decide +kernel) (pa_cons (pe_cmpR op_lt (pv 4) pe_int (nomark _)) pa_nil))))
        (pss_cons (ps_asg (pe_op op_fdivN (pe_callTy call_int1 (by rfl) tInt (by decide +kernel) (pa_cons (pv 5) pa_nil)) (pv 1)) (pg_sub (pv 0) pe_int set_list))
        (pss_one (ps_ret (pe_op op_mod (pe_callTy call_int1 (by rfl) tInt (by decide +kernel) (pa_cons (pv 5) pa_nil)) (pv 1)))))) pss_nil)
      (pss_cons (ps_set (i := 6) sc27.nd rfl (Or.inl rfl) (pe_op op_mod (pe_callTy call_int1 (by rfl) tInt (by decide +kernel) (pa_cons
        (pe_op op_pow (pe_op op_add (pe_op op_add (pe_op op_mod (pe_callTy call_int1 (by rfl) tInt (by decide +kernel) (pa_cons (pv 4) pa_nil)) pe_int) (pe_op op_mul pe_int (pv 3))) pe_int) pe_int) pa_nil)) pe_int))
      (pss_cons (ps_set (i := 6) sc27.nd rfl (Or.inl rfl) (pe_op op_mod (pe_callTy call_int1 (by rfl) tInt (by decide +kernel) (pa_cons
        (pe_op op_pow (pe_op op_add (pe_op op_add (pe_op op_mul (pv 6) (pe_op op_add (pe_op op_mul pe_int (pv 3)) pe_int)) (pe_op op_mul (pe_op op_mul pe_int (pv 3)) (pv 3))) pe_int) pe_int) pa_nil)) pe_int))
      (pss_one (ps_ret (pe_op op_mod (pe_callTy call_int1 (by rfl) tInt (by decide +kernel) (pa_cons (pe_op op_fdiv (pv 6) pe_int) pa_nil)) (pv 1)))))))))))), ?_⟩
    have m2 : m ≠ 0 := by omega
    have m3 : m ≠ 0 ∧ m.natAbs < 1073741824 := ⟨m2, by omega⟩
    have i0 : ∀ {x y z : V}, atI [x, y, z] 0 = some x := fun {x y z} => atI_nat (j := 0) rfl
    have i1 : ∀ {x y z : V}, atI [x, y, z] 1 = some y := fun {x y z} => atI_nat (j := 1) rfl
    have i2 : ∀ {x y z : V}, atI [x, y, z] 2 = some z := fun {x y z} => atI_nat (j := 2) rfl
    -- if pen[2] > 0
    refine ⟨_, rfl, p, _, 2, _, rfl, rfl, SqL.of hp, i2, _, _, rfl, rfl, _, rfl, ?_⟩
    refine ite2 (fun _ => ?_) (fun _ => ?_)
    · refine ⟨_, rfl, p, _, 2, _, rfl, rfl, SqL.of hp, i2, .inl ⟨_, rfl, _, rfl, _, _, rfl, rfl, m0, ?_⟩⟩
      refine ⟨_, rfl, p, _, 2, _, rfl, rfl, SqL.of hp, i2, .inl ⟨_, rfl, _, rfl, _, _, rfl, rfl, m3, ?_⟩⟩
      refine ⟨_, rfl, p, _, 2, 2, rfl, rfl, hp, rfl, ?_⟩
      refine ⟨_, rfl, ?_⟩
      refine q _ _ (fmod_in m0).1 (fmod_in m0).2 ⟨c, cells, t, _, upd_same, ?_, hi, hl, cp, t0, by omega⟩ fun b o nb e => ?_
      · rw [upd_ne cp]; exact hc
      · rw [upd_ne nb]; exact e
    · -- taken = pen[1]; pen[1] = taken + 1
      refine ⟨_, rfl, p, _, 1, _, rfl, rfl, SqL.of hp, i1, ?_⟩
      refine ⟨_, rfl, _, _, rfl, rfl, _, rfl, p, _, 1, 1, rfl, rfl, hp, rfl, ?_⟩
      generalize hH : upd H p (HO.lst ([V.ref c, V.int t, V.int l].set 1 (V.int (t + 1)))) = H1
      have hp1 : H1 p = some (.lst [.ref c, .int (t + 1), .int l]) := by rw [← hH]; exact upd_same
      have hc1 : H1 c = some (.lst cells) := by rw [← hH, upd_ne cp]; exact hc
      have k1 : But p H H1 := fun b o nb e => by rw [← hH, upd_ne nb]; exact e
      -- cell = .. * taken + ..
      refine ⟨_, rfl, _, _, rfl, rfl, .inl ⟨by decide, by decide⟩, _, _, rfl, rfl, ?_⟩
      -- if pen[0] != []
      obtain ⟨ds, dd, ds2⟩ := ints_dp (K := K) (H := H1) hi
      refine ⟨_, rfl, p, _, 0, _, rfl, rfl, SqL.of hp1, i0, (by show 0 ≤ sizeLine; decide), fun r hr1 => ?_⟩
      generalize hH2 : upd H1 r (HO.lst []) = H2
      have S2 : Same H1 H2 := fun b o e => by rw [← hH2, upd_ne (ne_of_none e hr1)]; exact e
      have hr2 : H2 r = some (.lst []) := by rw [← hH2]; exact upd_same
      have hp2 := S2 _ _ hp1
      have hc2 := S2 _ _ hc1
      have k2 : But p H H2 := k1.tr (But.of S2)
      have w2 : ∀ z, PenAt (upd H2 p (.lst [.ref c, .int (t + 1), .int z])) p (n + 1) := fun z => ⟨c, cells, _, z, upd_same, by rw [upd_ne cp]; exact hc2, hi, hl, cp, by omega, by omega⟩
      have w3 : PenAt H2 p (n + 1) := ⟨c, cells, _, l, hp2, hc2, hi, hl, cp, by omega, by omega⟩
      obtain ⟨ds', dd', ds3⟩ := ints_dp (K := K) (H := H2) hi
      refine ⟨.list ds', .list [], .lst (SqL.of hc2) dd', .lst (SqL.of hr2) .nil, ds3, rfl, _, rfl, ?_⟩
      have full : cells = [] → (!PyData.eqv (.list ds') (.list [])) = false := fun e => by
        subst e
        cases dd'
        rfl
      have t9 : t ≤ 1000 := by omega
      refine ite2 (fun hne => ?z1) (fun _ => ?z2)
      case' z1 =>
        have n0 : 0 < (cells.length : Int) := by
          cases cells with
          | nil =>
            rw [full rfl] at hne
            cases hne
          | cons _ _ => simp
        obtain ⟨x, hx, hm⟩ := atI_in (xs := cells) (i := t % (cells.length : Int)) (fmod_in n0).1 (fmod_in n0).2
        obtain ⟨cell, rfl⟩ := hi x hm
        refine ⟨_, rfl, p, _, 0, _, rfl, rfl, SqL.of hp2, i0, _, rfl, .inl ⟨_, rfl, _, rfl, p, _, 0, _, rfl, rfl, SqL.of hp2, i0, c, _, rfl, .inl (SqL.of hc2), _, _, rfl, rfl, n0, c, _, _, _, rfl, rfl, SqL.of hc2, hx, ?_⟩⟩
      all_goals
        refine ⟨_, rfl, _, rfl, p, _, 0, _, rfl, rfl, SqL.of hp2, i0, c, _, rfl, .inl (SqL.of hc2), _, _, rfl, rfl, _, rfl, ?_⟩
        refine ite2 (fun _ => ?x1) (fun _ => ?x2)
        case x1 =>
          refine ⟨_, rfl, _, rfl, _, _, rfl, rfl, ⟨by decide, by decide, by decide⟩, _, _, rfl, rfl, _, rfl, ?_⟩
          refine ite2 (fun _ => ?y1) (fun _ => ?y2)
          case y1 =>
            refine ⟨_, rfl, _, rfl, _, _, rfl, rfl, ⟨by decide, by decide, by decide⟩, _, _, rfl, rfl, _, _, rfl, rfl, .inl ⟨by decide, by decide⟩, _, rfl, _, _, rfl, rfl, .inr ⟨_, rfl, _, _, rfl, rfl, ?_⟩⟩
            refine ⟨_, rfl, .inl ⟨_, rfl, _, rfl, _, _, rfl, rfl, m3, _, rfl, p, _, 2, 2, rfl, rfl, hp2, rfl, ?_⟩⟩
            refine ⟨_, rfl, .inl ⟨_, rfl, _, rfl, _, _, rfl, rfl, m0, ?_⟩⟩
            exact q _ _ (fmod_in m0).1 (fmod_in m0).2 (w2 _) (k2.tr fun b o nb e => by rw [upd_ne nb]; exact e)
          case y2 =>
            refine ⟨_, rfl, .inl ⟨_, rfl, _, _, rfl, rfl, (by show (0 : Int) < 2147483563; decide), _, rfl, _, _, rfl, rfl, .inl ⟨by decide, by decide⟩, _, _, rfl, rfl, _, _, rfl, rfl, _, _, rfl, rfl, ⟨by decide, by decide, small5 (fmod_in (by decide)).1 (Int.lt_of_lt_of_le (fmod_in (by decide)).2 (by decide)) t0 t9 (by decide) (by decide) (by decide) (by decide)⟩,
              .inl ⟨_, rfl, _, _, rfl, rfl, (by show (0 : Int) < 2147483629; decide), ?_⟩⟩⟩
            refine ⟨_, rfl, _, rfl, _, _, rfl, rfl, .inl ⟨by decide, by decide⟩, _, _, rfl, rfl, _, _, rfl, rfl, .inl ⟨Int.lt_of_lt_of_le (by decide) (fmod_in (by decide)).1, Int.lt_trans (fmod_in (by decide)).2 (by decide)⟩,
              _, rfl, _, _, rfl, rfl, .inl ⟨by decide, by decide⟩, _, rfl, _, _, rfl, rfl, .inl (in64 (by decide) (by decide) t0 t9), _, _, rfl, rfl, _, _, rfl, rfl, _, _, rfl, rfl,
              ⟨by decide, by decide, small3 (fmod_in (by decide)).1 (Int.lt_of_lt_of_le (fmod_in (by decide)).2 (by decide)) t0 t9 (by decide) (by decide) (by decide) (by decide) (by decide) (by decide)⟩,
              .inl ⟨_, rfl, _, _, rfl, rfl, (by show (0 : Int) < 2147483587; decide), ?_⟩⟩
            refine ⟨_, rfl, _, _, rfl, rfl, ⟨by decide, by decide⟩, .inl ⟨_, rfl, _, rfl, _, _, rfl, rfl, m0, ?_⟩⟩
            exact q _ _ (fmod_in m0).1 (fmod_in m0).2 w3 k2
        case x2 =>
          refine ⟨_, rfl, .inl ⟨_, rfl, _, _, rfl, rfl, (by show (0 : Int) < 2147483563; decide), _, rfl, _, _, rfl, rfl, .inl ⟨by decide, by decide⟩, _, _, rfl, rfl, _, _, rfl, rfl, _, _, rfl, rfl, ⟨by decide, by decide, small5 (fmod_in (by decide)).1 (Int.lt_of_lt_of_le (fmod_in (by decide)).2 (by decide)) t0 t9 (by decide) (by decide) (by decide) (by decide)⟩,
            .inl ⟨_, rfl, _, _, rfl, rfl, (by show (0 : Int) < 2147483629; decide), ?_⟩⟩⟩
          refine ⟨_, rfl, _, rfl, _, _, rfl, rfl, .inl ⟨by decide, by decide⟩, _, _, rfl, rfl, _, _, rfl, rfl, .inl ⟨Int.lt_of_lt_of_le (by decide) (fmod_in (by decide)).1, Int.lt_trans (fmod_in (by decide)).2 (by decide)⟩,
            _, rfl, _, _, rfl, rfl, .inl ⟨by decide, by decide⟩, _, rfl, _, _, rfl, rfl, .inl (in64 (by decide) (by decide) t0 t9), _, _, rfl, rfl, _, _, rfl, rfl, _, _, rfl, rfl,
            ⟨by decide, by decide, small3 (fmod_in (by decide)).1 (Int.lt_of_lt_of_le (fmod_in (by decide)).2 (by decide)) t0 t9 (by decide) (by decide) (by decide) (by decide) (by decide) (by decide)⟩,
            .inl ⟨_, rfl, _, _, rfl, rfl, (by show (0 : Int) < 2147483587; decide), ?_⟩⟩
          refine ⟨_, rfl, _, _, rfl, rfl, ⟨by decide, by decide⟩, .inl ⟨_, rfl, _, rfl, _, _, rfl, rfl, m0, ?_⟩⟩
          exact q _ _ (fmod_in m0).1 (fmod_in m0).2 w3 k2
end
end H8
set_option Elab.async false
set_option linter.all false
set_option maxRecDepth 100000
set_option maxHeartbeats 4000000
namespace Ev
open PySem PySem.Spec PyProof.Rows L2
def Small (d : PyData) : Prop := d.showable = true ∧ d.shown.length ≤ 1000 ∧ d.depth ≤ 8
def ItemOk (K : PySem.W.Frag) (H : Hp) (p : Addr) (x : V) : Prop := ∃ d, Dr K (del H p) x d ∧ Small d
theorem ItemOk.but {K : PySem.W.Frag} {H H' : Hp} {p : Addr} {x : V} (k : But p H H') : ItemOk K H p x → ItemOk K H' p x
  | ⟨d, h, s⟩ => ⟨d, h.same k.del, s⟩
theorem small_int {z : Int} (h0 : 0 ≤ z) (h1 : z < 10 ^ 6) : Small (.int z) := by
  refine ⟨?_, ?_, ?_⟩
  · show decide (z.natAbs.log2 < 1920) = true
    refine decide_eq_true ?_
    have h2 : z.natAbs < 2 ^ 20 := by omega
    by_cases n0 : z.natAbs = 0
    · rw [n0]; decide
    · exact Nat.lt_trans ((Nat.log2_lt n0).mpr h2) (by decide)
  · show (Str.ofString (toString z)).length ≤ 1000
    exact Nat.le_trans (toString_length_le h0 (by decide) h1) (by decide)
  · simp [PyData.depth]
/-- a new object beside the pen -/
theorem new_at {H H' : Hp} {p x : Addr} {o o' : HO} (hp : H p = some o') (hx : H x = none) (e : upd H x o = H') : Same H H' ∧ (del H' p) x = some o ∧ H' x = some o ∧ H' p = some o' ∧ x ≠ p := by
  have n : x ≠ p := Ne.symm (ne_of_none hp hx)
  subst e
  refine ⟨fun b q z => ?_, ?_, upd_same, ?_, n⟩
  · rw [upd_ne (ne_of_none z hx)]; exact z
  · rw [del_ne n]; exact upd_same
  · rw [upd_ne (Ne.symm n)]; exact hp
theorem PenAt.ex {H : Hp} {p : Addr} {n : Nat} : PenAt H p n → ∃ o, H p = some o
  | ⟨_, _, _, _, h, _⟩ => ⟨_, h⟩
/-- a drawn value of any kind -/
def spVal (K : PySem.W.Frag) : Sp := fun vs H Q _ => ∃ (p : Addr) (n : Nat), vs = [.ref p] ∧ PenAt H p n ∧ n + 2 ≤ 1000 ∧
  ∀ (v : V) (H' : Hp), ItemOk K H' p v → PenAt H' p (n + 2) → But p H H' → Q v H'
end Ev
namespace H8
open PySem PySem.Spec PyProof.Rows L2 Ev
section
variable {P : Program} {w : World} {K : PySem.W.Frag} {mg : Str → Option Value} {base : Heap} {f fD fP : Addr} {fd fdD fdP : FuncData}
theorem sc28 : FnScope ["_law_pen_here", "_law_some"] ["_law_pen_here", "_law_some"] (defScope (top 28)) := ⟨rfl, rfl, rfl, by decide +kernel, rfl, by decide +kernel, by decide +kernel⟩
theorem b27 (FD : FnL K "_law_draw" 27 fD fdD) : Binds K fdD ["_law_pen_here", "_law_many"] [] := FunD.bindsN FD fun _ _ _ _ _ _ us hl => match us, hl with | [_, _], _ => rfl
theorem b28 (FP : FnL K "_law_pick" 28 fP fdP) : Binds K fdP ["_law_pen_here", "_law_some"] [] := FunD.bindsN FP fun _ _ _ _ _ _ us hl => match us, hl with | [_, _], _ => rfl
theorem ok_pick (F : FnL K "_law_pick" 28 f fd) (tLen : mg "len" = none) (gD : mg "_law_draw" = some (.ref fD)) (FD : FnL K "_law_draw" 27 fD fdD)
    (GD : FnOk P w K mg base CX0 1 fD fdD ["_law_pen_here", "_law_many"] spDraw) : FnOk P w K mg base CX0 2 f fd ["_law_pen_here", "_law_some"] (spPick K) := by
  refine F.ok sc28 (fun vs H Q E h => ?_) (fun cdv A outer s H vs Q E hr h => ?_)
  · obtain ⟨p, l, xs, n, rfl, _⟩ := h
    rfl
  · obtain ⟨p, l, xs, n, rfl, hl, lp, x0, x1, pen, hn, q⟩ := h
    refine ⟨_, PSs.nox (pss_one (ps_ret (pe_ix ix_list (pv 1) (pe_call (E := E0) GD hr (by rfl) gD FD.kp (b27 FD) .nil pass0 (pa_cons (pv 0) (pa_cons
      (pe_callB call_len_seq (by rfl) tLen PySem.boot_len (pa_cons (pv 1) pa_nil)) pa_nil))) (fun _ _ => rfl)))), ?_⟩
    refine ⟨_, rfl, _, rfl, _, rfl, l, _, rfl, .inl (SqL.of hl), p, _, n, rfl, by omega, by omega, pen, hn, fun z H' z0 z1 pen' k => ?_⟩
    obtain ⟨x, hx, hm⟩ := atI_in (xs := xs) z0 z1
    exact ⟨l, xs, z, x, rfl, rfl, SqL.of (k l _ lp hl), hx, q x H' hm pen' k⟩
theorem sc29 : FnScope ["_law_pen_here", "_law_some"] ["_law_pen_here"] (defScope (top 29)) := ⟨rfl, rfl, rfl, by decide +kernel, rfl, by decide +kernel, by decide +kernel⟩
theorem ok_value (F : FnL K "_law_value" 29 f fd) (gD : mg "_law_draw" = some (.ref fD)) (FD : FnL K "_law_draw" 27 fD fdD)
    (GD : FnOk P w K mg base CX0 1 fD fdD ["_law_pen_here", "_law_many"] spDraw) (gP : mg "_law_pick" = some (.ref fP)) (FP : FnL K "_law_pick" 28 fP fdP)
    (GP : FnOk P w K mg base CX0 2 fP fdP ["_law_pen_here", "_law_some"] (spPick K)) : FnOk P w K mg base CX0 3 f fd ["_law_pen_here"] (spVal K) := by
  refine F.ok sc29 (fun vs H Q E h => ?_) (fun cdv A outer s H vs Q E hr h => ?_)
  · obtain ⟨p, n, rfl, _⟩ := h
    rfl
  · obtain ⟨p, n, rfl, pen, hn, q⟩ := h
    refine ⟨_, PSs.nox (pss_cons (ps_set (i := 1) sc29.nd rfl (Or.inl rfl) (pe_lst (pa_cons pe_non (pa_cons pe_bl (pa_cons pe_bl (pa_cons pe_int (pa_cons (pe_un un_neg pe_int) (pa_cons (pe_op op_pow pe_int pe_int)
        (pa_cons pe_str (pa_cons pe_str (pa_cons pe_str (pa_cons (pe_tup pa_nil) (pa_cons (pe_tup (pa_cons pe_str (pa_cons pe_str pa_nil))) (pa_cons (pe_lst (pa_cons pe_int (pa_cons pe_non pa_nil)))
        (pa_cons (pe_disp (pps_cons pe_str (pe_tup (pa_cons pe_int (pa_cons pe_int pa_nil))) pps_nil) (by rfl) (by rfl) (fun z => by cases z) (by decide)) pa_nil)))))))))))))))
      (pss_one (ps_ret (pe_call (E := E0) GP hr (by rfl) gP FP.kp (b28 FP) .nil pass0 (pa_cons (pv 0) (pa_cons (pe_op op_cat (pv 1) (pe_lst
        (pa_cons (pe_call (E := E0) GD (hr.mono (by decide)) (by rfl) gD FD.kp (b27 FD) .nil pass0 (pa_cons (pv 0) (pa_cons (pe_op op_pow pe_int pe_int) pa_nil)))
        (pa_cons (pe_lst (pa_cons (pe_lst pa_nil) (pa_cons pe_dnewK pa_nil))) (pa_cons pe_str (pa_cons (pe_tup (pa_cons pe_str (pa_cons pe_str (pa_cons (pe_un un_neg pe_int) pa_nil)))) pa_nil)))))) pa_nil)))))), ?_⟩
    refine ⟨_, rfl, _, _, rfl, rfl, ⟨by decide, by decide, by decide⟩, (by show 0 ≤ sizeLine; decide), fun t1 ht1 => ?_⟩
    obtain ⟨o0, hp0⟩ := pen.ex
    generalize e1 : upd H t1 (HO.tup []) = H1 at *
    obtain ⟨s1, a1, _, p1, _⟩ := new_at hp0 ht1 e1
    refine ⟨(by show 2 ≤ sizeLine; decide), fun t2 ht2 => ?_⟩
    generalize e2 : upd H1 t2 _ = H2 at *
    obtain ⟨s2, a2, _, p2, _⟩ := new_at p1 ht2 e2
    refine ⟨(by show 2 ≤ sizeLine; decide), fun l1 hl1 => ?_⟩
    generalize e3 : upd H2 l1 _ = H3 at *
    obtain ⟨s3, a3, _, p3, _⟩ := new_at p2 hl1 e3
    intro d1 hd1
    refine ⟨(by show 2 ≤ sizeLine; decide), fun t3 ht3 => ⟨?_, [(Sum.inr ("a" : Str), V.ref t3)], rfl, (by show 1 ≤ 15; decide), ?_⟩⟩
    · rw [upd_ne (fun z => by rw [← z, upd_same] at ht3; cases ht3), upd_same]
    have td : t3 ≠ d1 := fun z => by rw [z, upd_same] at ht3; cases ht3
    rw [upd_ne td] at ht3
    have dp : d1 ≠ p := Ne.symm (ne_of_none p3 hd1)
    have tp : t3 ≠ p := Ne.symm (ne_of_none p3 ht3)
    generalize e4 : upd (upd (upd H3 d1 _) t3 _) d1 _ = H4 at *
    have s4 : Same H3 H4 := fun b o e => by
      rw [← e4, upd_ne (ne_of_none e hd1), upd_ne (ne_of_none e ht3), upd_ne (ne_of_none e hd1)]; exact e
    have a4 : del H4 p d1 = some (.dK [(Sum.inr ("a" : Str), V.ref t3)]) := by rw [del_ne dp, ← e4]; exact upd_same
    have a4' : del H4 p t3 = some (.tup [.int 1, .int 2]) := by rw [del_ne tp, ← e4, upd_ne td]; exact upd_same
    have p4 := s4 _ _ p3
    refine ⟨(by show 13 ≤ sizeLine; decide), fun L hL => ?_⟩
    generalize e5 : upd H4 L _ = H5 at *
    obtain ⟨s5, _, hL5, p5, Lp⟩ := new_at p4 hL e5
    have s05 : Same H H5 := fun b o e => s5 _ _ (s4 _ _ (s3 _ _ (s2 _ _ (s1 _ _ e))))
    -- return pick(pen, some + [draw(pen, 10 ** 6), ..])
    refine ⟨_, rfl, _, rfl, _, rfl, _, _, rfl, rfl, ⟨by decide, by decide, by decide⟩, p, _, n, rfl, (by decide), (by decide), pen.same s05, by omega, fun z H6 z0 z1 pen6 k6 => ?_⟩
    obtain ⟨o6, p6⟩ := pen6.ex
    refine ⟨(by show 0 ≤ sizeLine; decide), fun b1 hb1 => ?_⟩
    generalize e7 : upd H6 b1 _ = H7 at *
    obtain ⟨s7, a7, _, p7, _⟩ := new_at p6 hb1 e7
    intro b2 hb2
    generalize e8 : upd H7 b2 _ = H8 at *
    obtain ⟨s8, a8, _, p8, _⟩ := new_at p7 hb2 e8
    refine ⟨(by show 2 ≤ sizeLine; decide), fun b3 hb3 => ?_⟩
    generalize e9 : upd H8 b3 _ = H9 at *
    obtain ⟨s9, a9, _, p9, _⟩ := new_at p8 hb3 e9
    refine ⟨_, rfl, (by show 3 ≤ sizeLine; decide), fun t4 ht4 => ?_⟩
    generalize e10 : upd H9 t4 _ = H10 at *
    obtain ⟨s10, a10, _, p10, _⟩ := new_at p9 ht4 e10
    refine ⟨(by show 4 ≤ sizeLine; decide), fun L2 hL2 => ?_⟩
    generalize e11 : upd H10 L2 _ = H11 at *
    obtain ⟨s11, _, h11, p11, _⟩ := new_at p10 hL2 e11
    have s7' : Same H6 H11 := fun b o e => s11 _ _ (s10 _ _ (s9 _ _ (s8 _ _ (s7 _ _ e))))
    refine ⟨L, L2, _, _, rfl, rfl, s7' _ _ (k6 _ _ Lp hL5), h11, (by show 13 + 4 ≤ sizeLine; decide), fun L3 hL3 => ?_⟩
    generalize e12 : upd H11 L3 _ = H12 at *
    obtain ⟨s12, _, h12, p12, L3p⟩ := new_at p11 hL3 e12
    have s6' : Same H6 H12 := fun b o e => s12 _ _ (s7' _ _ e)
    have k12 : But p H H12 := (But.of s05).tr (k6.tr (But.of s6'))
    have k5 : But p H5 H12 := k6.tr (But.of s6')
    have m1 : Same (del H1 p) (del H12 p) := (((But.of s2).tr (But.of s3)).tr ((But.of s4).tr ((But.of s5).tr k5))).del
    have m2 : Same (del H2 p) (del H12 p) := ((But.of s3).tr ((But.of s4).tr ((But.of s5).tr k5))).del
    have m3 : Same (del H3 p) (del H12 p) := ((But.of s4).tr ((But.of s5).tr k5)).del
    have m4 : Same (del H4 p) (del H12 p) := ((But.of s5).tr k5).del
    have m10 : Same (del H10 p) (del H12 p) := ((But.of s11).tr (But.of s12)).del
    have m9 : Same (del H9 p) (del H12 p) := fun b o e => m10 _ _ (same_del s10 _ _ e)
    have m8 : Same (del H8 p) (del H12 p) := fun b o e => m9 _ _ (same_del s9 _ _ e)
    have m7 : Same (del H7 p) (del H12 p) := fun b o e => m8 _ _ (same_del s8 _ _ e)
    refine ⟨p, L3, _, n + 1, rfl, h12, L3p, (by show 0 < 17; decide), (by show 17 ≤ 100000; decide), pen6.same s6', by omega, fun x H13 hm pen' k' => ?_⟩
    refine q x H13 (ItemOk.but k' ?_) pen' (k12.tr k')
    simp only [List.cons_append, List.nil_append, List.mem_cons, List.not_mem_nil, or_false] at hm
    have S : ∀ {d : PyData}, d.showable = true → decide (d.shown.length ≤ 1000) = true → decide (d.depth ≤ 8) = true → Small d := fun a b c => ⟨a, of_decide_eq_true b, of_decide_eq_true c⟩
    rcases hm with rfl | rfl | rfl | rfl | rfl | rfl | rfl | rfl | rfl | rfl | rfl | rfl | rfl | rfl | rfl | rfl | rfl
    · exact ⟨_, .non, S (by decide +kernel) (by decide +kernel) (by decide +kernel)⟩
    · exact ⟨_, .bl _, S (by decide +kernel) (by decide +kernel) (by decide +kernel)⟩
    · exact ⟨_, .bl _, S (by decide +kernel) (by decide +kernel) (by decide +kernel)⟩
    · exact ⟨_, .int _, S (by decide +kernel) (by decide +kernel) (by decide +kernel)⟩
    · exact ⟨_, .int _, S (by decide +kernel) (by decide +kernel) (by decide +kernel)⟩
    · exact ⟨_, .int _, S (by decide +kernel) (by decide +kernel) (by decide +kernel)⟩
    · exact ⟨_, .str _, S (by decide +kernel) (by decide +kernel) (by decide +kernel)⟩
    · exact ⟨_, .str _, S (by decide +kernel) (by decide +kernel) (by decide +kernel)⟩
    · exact ⟨_, .str _, S (by decide +kernel) (by decide +kernel) (by decide +kernel)⟩
    · exact ⟨_, .tup (SqT.of (m1 _ _ a1)) .nil, S (by decide +kernel) (by decide +kernel) (by decide +kernel)⟩
    · exact ⟨_, .tup (SqT.of (m2 _ _ a2)) (.cons (.str _) (.cons (.str _) .nil)), S (by decide +kernel) (by decide +kernel) (by decide +kernel)⟩
    · exact ⟨_, .lst (SqL.of (m3 _ _ a3)) (.cons (.int _) (.cons .non .nil)), S (by decide +kernel) (by decide +kernel) (by decide +kernel)⟩
    · have D : Dr K (del H12 p) (V.ref d1) (.dict [(.str ("a" : Str), .tuple [.int 1, .int 2])]) := .dct (m4 _ _ a4) (.cons (.tup (SqT.of (m4 _ _ a4')) (.cons (.int _) (.cons (.int _) .nil))) .nil)
      exact ⟨_, D, S (by decide +kernel) (by decide +kernel) (by decide +kernel)⟩
    · exact ⟨_, .int _, small_int z0 z1⟩
    · exact ⟨_, .lst (SqL.of (m9 _ _ a9)) (.cons (.lst (SqL.of (m7 _ _ a7)) .nil) (.cons (.dct (m8 _ _ a8) .nil) .nil)), S (by decide +kernel) (by decide +kernel) (by decide +kernel)⟩
    · exact ⟨_, .str _, S (by decide +kernel) (by decide +kernel) (by decide +kernel)⟩
    · exact ⟨_, .tup (SqT.of (m10 _ _ a10)) (.cons (.str _) (.cons (.str _) (.cons (.int _) .nil))), S (by decide +kernel) (by decide +kernel) (by decide +kernel)⟩
end
end H8
set_option Elab.async false
set_option linter.all false
set_option maxRecDepth 100000
set_option maxHeartbeats 4000000
/-! Rows: an error, what it tells, what it must tell. -/
namespace Ev
open PySem PySem.Spec PyProof.Rows L2
def Good (d : PyData) : Prop := d.showable = true ∧ d.shown.length ≤ sizeLine ∧ d.depth ≤ 20
theorem Small.good {d : PyData} (h : Small d) : Good d := ⟨h.1, by rw [sizeLine_eq]; have := h.2.1; omega, by have := h.2.2; omega⟩
theorem good_pair {d e : PyData} (h : Small d) (h2 : Small e) : Good (.list [d, e]) := by
  obtain ⟨a1, a2, a3⟩ := h
  obtain ⟨b1, b2, b3⟩ := h2
  refine ⟨?_, ?_, ?_⟩
  · simp [PyData.showable, PyData.showableAll, a1, b1]
  · have e1 : ((", " : String) : Str).length = 2 := rfl
    have e2 : (("[" : String) : Str).length = 1 := rfl
    have e3 : (("]" : String) : Str).length = 1 := rfl
    have e4 : (("" : String) : Str).length = 0 := rfl
    rw [sizeLine_eq]
    simp only [PyData.shown, PyData.shownAll, listText, textFrom, strLen_append, e1, e2, e3, e4, Nat.lt_irrefl, if_false, Nat.zero_lt_succ, if_true, gt_iff_lt]
    omega
  · simp only [PyData.depth, PyData.depthAll]
    omega
def RowAt (K : PySem.W.Frag) (H : Hp) (x : Str) (r : V) : Prop := ∃ (t e : Addr) (fs : List (Str × V)) (seen due : V) (d : PyData), r = .ref t ∧ H t = some (.tup [.ref e, seen, due]) ∧ ErrAt H e (He.ga K x) fs ∧
  Dr K H seen d ∧ Dr K H due d ∧ Good d
theorem RowAt.same {K : PySem.W.Frag} {H H' : Hp} {x : Str} {r : V} (S : Same H H') : RowAt K H x r → RowAt K H' x r
  | ⟨t, e, fs, a, b, d, h1, h2, h3, h4, h5, h6⟩ => ⟨t, e, fs, a, b, d, h1, S _ _ h2, h3.same S, h4.same S, h5.same S, h6⟩
inductive Rows (K : PySem.W.Frag) (H : Hp) : List Str → List V → Prop
  | nil : Rows K H [] []
  | cons {x : Str} {xs : List Str} {r : V} {rs : List V} : RowAt K H x r → Rows K H xs rs → Rows K H (x :: xs) (r :: rs)
theorem Rows.same {K : PySem.W.Frag} {H H' : Hp} (S : Same H H') : ∀ {xs : List Str} {rs : List V}, Rows K H xs rs → Rows K H' xs rs
  | _, _, .nil => .nil
  | _, _, .cons a b => .cons (a.same S) (b.same S)
theorem Rows.app {K : PySem.W.Frag} {H : Hp} : ∀ {xs ys : List Str} {rs ss : List V}, Rows K H xs rs → Rows K H ys ss → Rows K H (xs ++ ys) (rs ++ ss)
  | _, _, _, _, .nil, b => b
  | _, _, _, _, .cons a r, b => .cons a (Rows.app r b)
theorem Rows.len {K : PySem.W.Frag} {H : Hp} : ∀ {xs : List Str} {rs : List V}, Rows K H xs rs → rs.length = xs.length
  | _, _, .nil => rfl
  | _, _, .cons _ b => congrArg Nat.succ b.len
theorem Rows.get {K : PySem.W.Frag} {H : Hp} : ∀ {xs : List Str} {rs : List V}, Rows K H xs rs → ∀ {i : Nat} {r : V}, rs[i]? = some r → ∃ x, xs[i]? = some x ∧ RowAt K H x r
  | _, _, .nil, _, _, e => by cases e
  | _, _, .cons a b, 0, _, e => by cases e; exact ⟨_, rfl, a⟩
  | _, _, .cons a b, i + 1, _, e => b.get (i := i) e
/-- a class of errors: where it stands, what is known of it, its __init__ -/
structure ErrCls (P : Program) (w : World) (K : PySem.W.Frag) (mg : Str → Option Value) (base : Heap) (x : Str) (fs : List Str) : Prop where
  g : mg x = some (.ref (He.ga K x))
  t : ErrT K (He.ga K x) (He.ma K (He.ga K x) "__init__") ("told" :: fs)
  r : FnR P w K mg base CX0 2 (He.ma K (He.ga K x) "__init__") (spIni K (He.ga K x) fs)
  o : ∃ fd ps, FnOk P w K mg base CX0 2 (He.ma K (He.ga K x) "__init__") fd ps (spIni K (He.ga K x) fs) ∧ ∀ (s : Shared) (a : Addr) (ws : List Value), ws.length = fs.length →
    BindsTo s fd ⟨[.ref a], fs.reverse.zip ws⟩ (ps.zip (.ref a :: ws.reverse))
def tRow1 (K : PySem.W.Frag) (x : Str) (i : Nat) : TE := fun σ H Q => ∃ v d, σ[i]? = some (some v) ∧ Dr K H v d ∧ Good d ∧ ∀ t H', Same H H' → RowAt K H' x (.ref t) → Q (.ref t) H'
def tRow0 (K : PySem.W.Frag) (x : Str) : TE := fun _ H Q => ∀ t H', Same H H' → RowAt K H' x (.ref t) → Q (.ref t) H'
def tRow2 (K : PySem.W.Frag) (x f g : Str) (ie i j : Nat) : TE := fun σ H Q => ∃ e v y, σ[ie]? = some (some (.ref e)) ∧ ErrAt H e (He.ga K x) [(g, y), (f, v)] ∧ σ[i]? = some (some v) ∧ σ[j]? = some (some y) ∧
  ∀ t a b H', Same H H' → H' t = some (.tup [.ref e, .ref a, .ref b]) → H' a = some (.lst [v, y]) → H' b = some (.lst [v, y]) → Q (.ref t) H'
theorem row2_at {K : PySem.W.Frag} {H : Hp} {x f g : Str} {t e a b : Addr} {v y : V} {d d' : PyData} (A : ErrAt H e (He.ga K x) [(g, y), (f, v)]) (h1 : H t = some (.tup [.ref e, .ref a, .ref b]))
    (h2 : H a = some (.lst [v, y])) (h3 : H b = some (.lst [v, y])) (d1 : Dr K H v d) (s1 : Small d) (d2 : Dr K H y d') (s2 : Small d') : RowAt K H x (.ref t) :=
  ⟨t, e, _, .ref a, .ref b, .list [d, d'], rfl, h1, A, .lst (SqL.of h2) (.cons d1 (.cons d2 .nil)), .lst (SqL.of h3) (.cons d1 (.cons d2 .nil)), good_pair s1 s2⟩
theorem good_zero : Good (.int 0) := ⟨by decide +kernel, by decide +kernel, by decide +kernel⟩
section
variable {X : Cx} {x y z f g : Str} {p0 p1 p2 p3 p4 p5 p6 p7 p8 p9 p10 p11 p12 : Pos} {i j ie k0 k1 : Nat} {ez : Str}
theorem pe_row1 (c : ErrCls X.prog X.w X.K X.mg X.base x [f]) (hr : Room 3 X.A) (hg : Gl X x) (hy : ∀ q, PE X (.Name y q) (tVar i)) (hdb : (x == ("__debug__" : Str)) = false := by decide) :
    PE X (.Tuple [.Call (.Name x p0) [.Name y p1] [] p2, .Attribute (.Call (.Name x p3) [.Name y p4] [] p5) f p6, .Name y p7] k0 p8) (tRow1 X.K x i) :=
  PE.imp (pe_tup (pa_cons (pe_new1 c.t c.r hr hg c.g (pa_cons (hy _) pa_nil) hdb) (pa_cons (pe_get1 c.t (by simp) (pe_new1 c.t c.r hr hg c.g (pa_cons (hy _) pa_nil) hdb)) (pa_cons (hy _) pa_nil))))
    fun σ H Q ⟨v, d, h1, h2, h3, q⟩ => ⟨v, h1, fun e H1 S1 n1 A1 => ⟨v, h1, fun H2 S2 => ⟨v, h1, (by show 3 ≤ sizeLine; decide), fun t ht => by
      have S3 : Same H2 (upd H2 t (.tup [.ref e, v, v])) := fun b o z => by rw [upd_ne (ne_of_none z ht)]; exact z
      have S : Same H (upd H2 t (.tup [.ref e, v, v])) := fun b o z => S3 _ _ (S2 _ _ (S1 _ _ z))
      exact q t _ S ⟨t, e, _, v, v, d, rfl, upd_same, (A1.same S2).same S3, h2.same S, h2.same S, h3⟩⟩⟩⟩
theorem pe_row0 (c : ErrCls X.prog X.w X.K X.mg X.base x []) (hr : Room 3 X.A) (hg : Gl X x) (hdb : (x == ("__debug__" : Str)) = false := by decide) :
    PE X (.Tuple [.Call (.Name x p0) [] [] p2, .Constant (.int 0) k1 p3, .Constant (.int 0) k1 p4] k0 p8) (tRow0 X.K x) :=
  PE.imp (pe_tup (pa_cons (pe_new0 c.t c.r hr hg c.g hdb) (pa_cons pe_int (pa_cons pe_int pa_nil))))
    fun σ H Q q => fun e H1 S1 n1 A1 => ⟨(by show 3 ≤ sizeLine; decide), fun t ht => by
      have S3 : Same H1 (upd H1 t (.tup [.ref e, .int 0, .int 0])) := fun b o z => by rw [upd_ne (ne_of_none z ht)]; exact z
      exact q t _ (fun b o z => S3 _ _ (S1 _ _ z)) ⟨t, e, _, .int 0, .int 0, .int 0, rfl, upd_same, A1.same S3, .int 0, .int 0, good_zero⟩⟩
theorem pe_row2 (c : ErrCls X.prog X.w X.K X.mg X.base x [f, g]) (fg : f ≠ g) (hE : ∀ q, PE X (.Name ez q) (tVar ie)) (hy : ∀ q, PE X (.Name y q) (tVar i)) (hz : ∀ q, PE X (.Name z q) (tVar j)) :
    PE X (.Tuple [.Name ez p0, .List [.Attribute (.Name ez p1) f p2, .Attribute (.Name ez p3) g p4] p5, .List [.Name y p6, .Name z p7] p9] k0 p8) (tRow2 X.K x f g ie i j) :=
  PE.imp (pe_tup (pa_cons (hE _) (pa_cons (pe_lst (pa_cons (pe_getv c.t (by simp) (hE _)) (pa_cons (pe_getv c.t (by simp) (hE _)) pa_nil))) (pa_cons (pe_lst (pa_cons (hy _) (pa_cons (hz _) pa_nil))) pa_nil))))
    fun σ H Q ⟨e, v, u, h0, A, h1, h2, q⟩ => by
      have l1 : ([(g, u), (f, v)] : List (Str × V)).lookup f = some v := by
        have : (f == g) = false := beq_eq_false_iff_ne.mpr fg
        simp [List.lookup, this]
      have l2 : ([(g, u), (f, v)] : List (Str × V)).lookup g = some u := by simp [List.lookup]
      refine ⟨_, h0, e, _, v, h0, A, l1, e, _, u, h0, A, l2, (by show 2 ≤ sizeLine; decide), fun a ha => ?_⟩
      generalize ea : upd H a _ = H1 at *
      have S1 : Same H H1 := fun b o z => by rw [← ea, upd_ne (ne_of_none z ha)]; exact z
      have aa : H1 a = some (.lst [v, u]) := by rw [← ea]; exact upd_same
      refine ⟨_, h1, _, h2, (by show 2 ≤ sizeLine; decide), fun b hb => ?_⟩
      generalize eb : upd H1 b _ = H2 at *
      have S2 : Same H1 H2 := fun c o z => by rw [← eb, upd_ne (ne_of_none z hb)]; exact z
      have bb : H2 b = some (.lst [v, u]) := by rw [← eb]; exact upd_same
      refine ⟨(by show 3 ≤ sizeLine; decide), fun t ht => ?_⟩
      have S3 : Same H2 (upd H2 t (.tup [.ref e, .ref a, .ref b])) := fun c o z => by rw [upd_ne (ne_of_none z ht)]; exact z
      exact q t a b _ (fun b o z => S3 _ _ (S2 _ _ (S1 _ _ z))) upd_same (S3 _ _ (S2 _ _ aa)) (S3 _ _ bb)
end
/-- the two values that a law has drawn -/
structure Two (K : PySem.W.Frag) (H : Hp) (v : V) (d : PyData) (y : V) (d' : PyData) : Prop where
  d1 : Dr K H v d
  s1 : Small d
  d2 : Dr K H y d'
  s2 : Small d'
theorem Two.same {K : PySem.W.Frag} {H H' : Hp} {v y : V} {d d' : PyData} (S : Same H H') (t : Two K H v d y d') : Two K H' v d y d' := ⟨t.d1.same S, t.s1, t.d2.same S, t.s2⟩
/-- [row of the value in slot 0, row of the value in slot 1] -/
def tTwo (K : PySem.W.Frag) (x1 x2 : Str) : TA := tCons (tRow1 K x1 0) (tCons (tRow1 K x2 1) tNil)
def tList2 (K : PySem.W.Frag) (x1 x2 : Str) : TE := fun σ H Q => ∃ v d y d', σ[0]? = some (some v) ∧ σ[1]? = some (some y) ∧ Two K H v d y d' ∧
  ∀ l H1 H' rs, Same H H1 → H1 l = none → Rows K H1 [x1, x2] rs → upd H1 l (.lst rs) = H' → Q (.ref l) H'
def tAdd2 (K : PySem.W.Frag) (k : Nat) (x1 x2 : Str) : TE := fun σ H Q => ∃ v d y d' l rs ns, σ[0]? = some (some v) ∧ σ[1]? = some (some y) ∧ Two K H v d y d' ∧ σ[k]? = some (some (.ref l)) ∧ H l = some (.lst rs) ∧ Rows K H ns rs ∧ ns.length ≤ 100 ∧
  ∀ l H1 H' rs, Same H H1 → H1 l = none → Rows K H1 (ns ++ [x1, x2]) rs → upd H1 l (.lst rs) = H' → Q (.ref l) H'
section
variable {X : Cx} {x1 x2 : Str} {p q : Pos} {es : List Expr} {a : Expr} {k : Nat}
theorem list2_of {K : PySem.W.Frag} {σ : L2.St} {H : Hp} {v y : V} {d d' : PyData} {x1 x2 : Str} (h0 : σ[0]? = some (some v)) (h1 : σ[1]? = some (some y)) (T : Two K H v d y d') {Q : List V → Hp → Prop}
    (q : ∀ H' r1 r2, Same H H' → RowAt K H' x1 r1 → RowAt K H' x2 r2 → Q [r1, r2] H') : tTwo K x1 x2 σ H Q :=
  ⟨v, d, h0, T.d1, T.s1.good, fun t H1 S1 R1 => ⟨y, d', h1, T.d2.same S1, T.s2.good, fun t' H2 S2 R2 => q H2 _ _ (fun b o z => S2 _ _ (S1 _ _ z)) (R1.same S2) R2⟩⟩
theorem pe_list2 (hs : PA X es (tTwo X.K x1 x2)) : PE X (.List es p) (tList2 X.K x1 x2) :=
  PE.imp (pe_lst hs) fun σ H Q ⟨v, d, y, d', h0, h1, T, q⟩ => list2_of h0 h1 T fun H1 r1 r2 S R1 R2 => ⟨(by show 2 ≤ sizeLine; decide), fun l hl => q l H1 _ _ S hl (.cons R1 (.cons R2 .nil)) rfl⟩
theorem pe_add2 (ha : PE X a (tVar k)) (hs : PA X es (tTwo X.K x1 x2)) : PE X (.BinOp a .Add (.List es p) q) (tAdd2 X.K k x1 x2) :=
  PE.imp (pe_op op_cat ha (pe_lst hs)) fun σ H Q ⟨v, d, y, d', l, rs, ns, h0, h1, T, hk, hl, R, hz, q⟩ => ⟨_, hk, list2_of h0 h1 T fun H1 r1 r2 S R1 R2 => ⟨(by show 2 ≤ sizeLine; decide), fun l2 hl2 => by
    have S2 : Same H1 (upd H1 l2 (.lst [r1, r2])) := fun c o z => by rw [upd_ne (ne_of_none z hl2)]; exact z
    have e := R.len
    refine ⟨l, l2, rs, [r1, r2], rfl, rfl, S2 _ _ (S _ _ hl), upd_same, by rw [sizeLine_eq]; show rs.length + 2 ≤ _; omega, fun l3 hl3 => ?_⟩
    exact q l3 _ _ _ (fun b o z => S2 _ _ (S _ _ z)) hl3 (Rows.app ((R.same S).same S2) (.cons (R1.same S2) (.cons (R2.same S2) .nil))) rfl⟩⟩
end
/-- rows of these classes, in order -/
def spRows (K : PySem.W.Frag) (ns : List Str) : Sp := fun vs H Q _ => ∃ v d y d', vs = [v, y] ∧ Two K H v d y d' ∧ ∀ l H' rs, Same H H' → H' l = some (.lst rs) → Rows K H' ns rs → Q (.ref l) H'
end Ev
set_option Elab.async false
set_option linter.all false
set_option maxRecDepth 100000
set_option maxHeartbeats 4000000
namespace H8
open PySem PySem.Spec PyProof.Rows L2 Ev
def names1 : List Str := ["BadName", "BadTimes", "BadParts", "NoName", "NoPath", "Taken", "Ring", "InUse", "Unresolved", "NoMachine", "BadValue", "TooLarge"]
def names2 : List Str := ["NoScale", "BadBound", "NoTerm", "NoClaim", "NotRecord", "Endless", "NoOffer", "NoOrder", "BadText", "Barred", "NoLine"]
section
variable {P : Program} {w : World} {K : PySem.W.Frag} {mg : Str → Option Value} {base : Heap} {f : Addr} {fd : FuncData}
theorem sc30 : FnScope ["_law_one", "_law_two", "_law_found", "_law_error"] ["_law_one", "_law_two"] (defScope (top 30)) := ⟨rfl, rfl, rfl, by decide +kernel, rfl, by decide +kernel, by decide +kernel⟩
theorem ok_first (F : FnL K "_law_first_rows" 30 f fd) (c : ∀ x fs, (x, fs) ∈ errs → ErrCls P w K mg base x fs) : FnOk P w K mg base CX0 4 f fd ["_law_one", "_law_two"] (spRows K names1) := by
  have c1 := c "BadName" ["name"] (by decide +kernel)
  have c2 := c "BadTimes" ["value"] (by decide +kernel)
  have c3 := c "BadParts" ["at"] (by decide +kernel)
  have c4 := c "NoName" ["name"] (by decide +kernel)
  have c5 := c "NoPath" ["path", "at"] (by decide +kernel)
  have c6 := c "Taken" ["name"] (by decide +kernel)
  have c7 := c "Ring" ["way"] (by decide +kernel)
  have c8 := c "InUse" ["name"] (by decide +kernel)
  have c9 := c "Unresolved" ["name"] (by decide +kernel)
  have c10 := c "NoMachine" ["scale"] (by decide +kernel)
  have c11 := c "BadValue" ["path"] (by decide +kernel)
  have c12 := c "TooLarge" ["what", "most"] (by decide +kernel)
  refine F.ok sc30 (fun vs H Q E h => ?_) (fun cdv A outer s H vs Q E hr h => ?_)
  · obtain ⟨v, d, y, d', rfl, _⟩ := h
    rfl
  · obtain ⟨v, d, y, d', rfl, T, q⟩ := h
    refine ⟨_, PSs.nox (pss_cons (ps_set (i := 2) sc30.nd rfl (Or.inl rfl) (pe_list2 (pa_cons (pe_row1 c1 hr (by rfl) (fun _ => pv 0)) (pa_cons (pe_row1 c2 hr (by rfl) (fun _ => pv 1)) pa_nil))))
      (pss_cons (ps_set (i := 2) sc30.nd rfl (Or.inl rfl) (pe_add2 (pv 2) (pa_cons (pe_row1 c3 hr (by rfl) (fun _ => pv 0)) (pa_cons (pe_row1 c4 hr (by rfl) (fun _ => pv 1)) pa_nil))))
      (pss_cons (ps_set (i := 3) sc30.nd rfl (Or.inl rfl) (pe_new2 c5.t c5.r hr (by rfl) c5.g (pa_cons (pv 0) (pa_cons (pv 1) pa_nil))))
      (pss_cons (ps_expr (pe_bm PySem.F.plainAttrs_list PySem.F.slot_list_append PySem.F.type_list_append mt_append (pv 2) (pa_cons (pe_row2 c5 (by decide) (fun _ => pv 3) (fun _ => pv 0) (fun _ => pv 1)) pa_nil)))
      (pss_cons (ps_set (i := 2) sc30.nd rfl (Or.inl rfl) (pe_add2 (pv 2) (pa_cons (pe_row1 c6 hr (by rfl) (fun _ => pv 0)) (pa_cons (pe_row1 c7 hr (by rfl) (fun _ => pv 1)) pa_nil))))
      (pss_cons (ps_set (i := 2) sc30.nd rfl (Or.inl rfl) (pe_add2 (pv 2) (pa_cons (pe_row1 c8 hr (by rfl) (fun _ => pv 0)) (pa_cons (pe_row1 c9 hr (by rfl) (fun _ => pv 1)) pa_nil))))
      (pss_cons (ps_set (i := 2) sc30.nd rfl (Or.inl rfl) (pe_add2 (pv 2) (pa_cons (pe_row1 c10 hr (by rfl) (fun _ => pv 0)) (pa_cons (pe_row1 c11 hr (by rfl) (fun _ => pv 1)) pa_nil))))
      (pss_cons (ps_set (i := 3) sc30.nd rfl (Or.inl rfl) (pe_new2 c12.t c12.r hr (by rfl) c12.g (pa_cons (pv 1) (pa_cons (pv 0) pa_nil))))
      (pss_one (ps_ret (pe_op op_cat (pv 2) (pe_lst (pa_cons (pe_row2 c12 (by decide) (fun _ => pv 3) (fun _ => pv 1) (fun _ => pv 0)) pa_nil))))))))))))), ?_⟩
    refine ⟨v, d, y, d', rfl, rfl, T, fun l1 H1 H2 rs1 S1 n1 R1 u1 => ?_⟩
    have S12 : Same H1 H2 := fun b o z => by rw [← u1, upd_ne (ne_of_none z n1)]; exact z
    have S2 : Same H H2 := fun b o z => S12 _ _ (S1 _ _ z)
    refine ⟨v, d, y, d', l1, rs1, _, rfl, rfl, T.same S2, rfl, by rw [← u1]; exact upd_same, R1.same S12, (by decide), fun l2 H3 H4 rs2 S3 n2 R2 u2 => ?_⟩
    have S34 : Same H3 H4 := fun b o z => by rw [← u2, upd_ne (ne_of_none z n2)]; exact z
    have S3' : Same H H3 := fun b o z => S3 _ _ (S2 _ _ z)
    have h4 : H4 l2 = some (.lst rs2) := by rw [← u2]; exact upd_same
    -- error = NoPath(one, two); found.append(..)
    refine ⟨v, y, rfl, rfl, fun e H5 S5 n5 A5 => ?_⟩
    refine ⟨_, rfl, .inl ⟨rfl, _, SqL.of (S5 _ _ h4)⟩, e, v, y, rfl, A5, rfl, rfl, fun t a b H6 S6 t6 a6 b6 => ?_⟩
    have h6 : H6 l2 = some (.lst rs2) := S6 _ _ (S5 _ _ h4)
    have e2 := R2.len
    refine ⟨l2, rs2, _, rfl, rfl, h6, by rw [sizeLine_eq, e2]; decide, ?_⟩
    generalize e7 : upd H6 l2 _ = H7 at *
    have far : ∀ {b : Addr} {o : HO}, H6 b = some o → o ≠ .lst rs2 → H7 b = some o := fun {b o} z n => by rw [← e7, upd_ne (ne_of z h6 n)]; exact z
    have S37 : Same H3 H7 := fun b o z => by
      rw [← e7, upd_ne (ne_of_none z n2)]
      exact S6 _ _ (S5 _ _ (S34 _ _ z))
    have two : HO.lst [v, y] ≠ .lst rs2 := fun z => by
      have z2 : [v, y] = rs2 := HO.lst.inj z
      rw [← z2] at e2
      exact absurd (show 2 = 4 from e2) (by decide)
    have A7 : ErrAt H7 e (He.ga K "NoPath") [("at", y), ("path", v)] := by
      obtain ⟨dd, pp, x1, x2⟩ := A5
      exact ⟨dd, pp, far (S6 _ _ x1) (fun z => by have z2 : HO.ext _ = HO.lst rs2 := z; cases z2), far (S6 _ _ x2) (fun z => by have z2 : HO.ext _ = HO.lst rs2 := z; cases z2)⟩
    have T7 := T.same (fun b o z => S37 _ _ (S3' _ _ z))
    have R7 : Rows K H7 ["BadName", "BadTimes", "BadParts", "NoName", "NoPath"] (rs2 ++ [V.ref t]) :=
      Rows.app (R2.same S37) (.cons (row2_at A7 (far t6 (fun z => by cases z)) (far a6 two) (far b6 two) T7.d1 T7.s1 T7.d2 T7.s2) .nil)
    have h7 : H7 l2 = some (.lst (rs2 ++ [V.ref t])) := by rw [← e7]; exact upd_same
    have S07 : Same H H7 := fun b o z => S37 _ _ (S3' _ _ z)
    refine ⟨v, d, y, d', l2, _, _, rfl, rfl, T7, rfl, h7, R7, (by decide), fun l3 H8 H9 rs3 S8 n3 R3 u3 => ?_⟩
    have S89 : Same H8 H9 := fun b o z => by rw [← u3, upd_ne (ne_of_none z n3)]; exact z
    have S79 : Same H7 H9 := fun b o z => S89 _ _ (S8 _ _ z)
    refine ⟨v, d, y, d', l3, _, _, rfl, rfl, T7.same S79, rfl, by rw [← u3]; exact upd_same, R3.same S89, (by decide), fun l4 H10 H11 rs4 S10 n4 R4 u4 => ?_⟩
    have S1011 : Same H10 H11 := fun b o z => by rw [← u4, upd_ne (ne_of_none z n4)]; exact z
    have S911 : Same H9 H11 := fun b o z => S1011 _ _ (S10 _ _ z)
    have T11 := (T7.same S79).same S911
    refine ⟨v, d, y, d', l4, _, _, rfl, rfl, T11, rfl, by rw [← u4]; exact upd_same, R4.same S1011, (by decide), fun l5 H12 H13 rs5 S12 n5' R5 u5 => ?_⟩
    have S1213 : Same H12 H13 := fun b o z => by rw [← u5, upd_ne (ne_of_none z n5')]; exact z
    have S1113 : Same H11 H13 := fun b o z => S1213 _ _ (S12 _ _ z)
    have h13 : H13 l5 = some (.lst rs5) := by rw [← u5]; exact upd_same
    -- error = TooLarge(two, one); return found + [..]
    refine ⟨y, v, rfl, rfl, fun e' H14 S14 n14 A14 => ?_⟩
    refine ⟨_, rfl, e', y, v, rfl, A14, rfl, rfl, fun t' a' b' H15 S15 t15 a15 b15 => ⟨(by show 1 ≤ sizeLine; decide), fun l6 hl6 => ?_⟩⟩
    generalize e16 : upd H15 l6 _ = H16 at *
    have S1516 : Same H15 H16 := fun b o z => by rw [← e16, upd_ne (ne_of_none z hl6)]; exact z
    have S1316 : Same H13 H16 := fun b o z => S1516 _ _ (S15 _ _ (S14 _ _ z))
    have e5 := R5.len
    refine ⟨l5, l6, rs5, _, rfl, rfl, S1316 _ _ h13, by rw [← e16]; exact upd_same, by rw [sizeLine_eq, e5]; show 11 + 1 ≤ 16777216; decide, fun l7 hl7 => ?_⟩
    have S17 : Same H16 (upd H16 l7 (.lst (rs5 ++ [V.ref t']))) := fun b o z => by rw [upd_ne (ne_of_none z hl7)]; exact z
    have S13' : Same H13 (upd H16 l7 (.lst (rs5 ++ [V.ref t']))) := fun b o z => S17 _ _ (S1316 _ _ z)
    have S15' : Same H15 (upd H16 l7 (.lst (rs5 ++ [V.ref t']))) := fun b o z => S17 _ _ (S1516 _ _ z)
    have T17 := (T11.same S1113).same S13'
    refine q l7 _ _ (fun b o z => S13' _ _ (S1113 _ _ (S911 _ _ (S79 _ _ (S07 _ _ z))))) upd_same ?_
    exact Rows.app ((R5.same S1213).same S13') (.cons (row2_at ((A14.same S15).same S15') (S15' _ _ t15) (S15' _ _ a15) (S15' _ _ b15) T17.d2 T17.s2 T17.d1 T17.s1) .nil)
theorem sc31 : FnScope ["_law_one", "_law_two", "_law_found"] ["_law_one", "_law_two"] (defScope (top 31)) := ⟨rfl, rfl, rfl, by decide +kernel, rfl, by decide +kernel, by decide +kernel⟩
theorem ok_last (F : FnL K "_law_last_rows" 31 f fd) (c : ∀ x fs, (x, fs) ∈ errs → ErrCls P w K mg base x fs) : FnOk P w K mg base CX0 4 f fd ["_law_one", "_law_two"] (spRows K names2) := by
  have c1 := c "NoScale" ["scale"] (by decide +kernel)
  have c2 := c "BadBound" ["value"] (by decide +kernel)
  have c3 := c "NoTerm" ["at"] (by decide +kernel)
  have c4 := c "NoClaim" ["at"] (by decide +kernel)
  have c5 := c "NotRecord" ["name"] (by decide +kernel)
  have c6 := c "Endless" ["scale"] (by decide +kernel)
  have c7 := c "NoOffer" ["at"] (by decide +kernel)
  have c8 := c "NoOrder" ["at"] (by decide +kernel)
  have c9 := c "BadText" ["at"] (by decide +kernel)
  have c10 := c "Barred" [] (by decide +kernel)
  have c11 := c "NoLine" [] (by decide +kernel)
  refine F.ok sc31 (fun vs H Q E h => ?_) (fun cdv A outer s H vs Q E hr h => ?_)
  · obtain ⟨v, d, y, d', rfl, _⟩ := h
    rfl
  · obtain ⟨v, d, y, d', rfl, T, q⟩ := h
    refine ⟨_, PSs.nox (pss_cons (ps_set (i := 2) sc31.nd rfl (Or.inl rfl) (pe_list2 (pa_cons (pe_row1 c1 hr (by rfl) (fun _ => pv 0)) (pa_cons (pe_row1 c2 hr (by rfl) (fun _ => pv 1)) pa_nil))))
      (pss_cons (ps_set (i := 2) sc31.nd rfl (Or.inl rfl) (pe_add2 (pv 2) (pa_cons (pe_row1 c3 hr (by rfl) (fun _ => pv 0)) (pa_cons (pe_row1 c4 hr (by rfl) (fun _ => pv 1)) pa_nil))))
      (pss_cons (ps_set (i := 2) sc31.nd rfl (Or.inl rfl) (pe_add2 (pv 2) (pa_cons (pe_row1 c5 hr (by rfl) (fun _ => pv 0)) (pa_cons (pe_row1 c6 hr (by rfl) (fun _ => pv 1)) pa_nil))))
      (pss_cons (ps_set (i := 2) sc31.nd rfl (Or.inl rfl) (pe_add2 (pv 2) (pa_cons (pe_row1 c7 hr (by rfl) (fun _ => pv 0)) (pa_cons (pe_row1 c8 hr (by rfl) (fun _ => pv 1)) pa_nil))))
      (pss_one (ps_ret (pe_op op_cat (pv 2) (pe_lst (pa_cons (pe_row1 c9 hr (by rfl) (fun _ => pv 0)) (pa_cons (pe_row0 c10 hr (by rfl)) (pa_cons (pe_row0 c11 hr (by rfl)) pa_nil)))))))))))
      , ?_⟩
    refine ⟨v, d, y, d', rfl, rfl, T, fun l1 H1 H2 rs1 S1 n1 R1 u1 => ?_⟩
    have S12 : Same H1 H2 := fun b o z => by rw [← u1, upd_ne (ne_of_none z n1)]; exact z
    have S2 : Same H H2 := fun b o z => S12 _ _ (S1 _ _ z)
    refine ⟨v, d, y, d', l1, rs1, _, rfl, rfl, T.same S2, rfl, by rw [← u1]; exact upd_same, R1.same S12, (by decide), fun l2 H3 H4 rs2 S3 n2 R2 u2 => ?_⟩
    have S34 : Same H3 H4 := fun b o z => by rw [← u2, upd_ne (ne_of_none z n2)]; exact z
    have S4 : Same H H4 := fun b o z => S34 _ _ (S3 _ _ (S2 _ _ z))
    refine ⟨v, d, y, d', l2, rs2, _, rfl, rfl, T.same S4, rfl, by rw [← u2]; exact upd_same, R2.same S34, (by decide), fun l3 H5 H6 rs3 S5 n3 R3 u3 => ?_⟩
    have S56 : Same H5 H6 := fun b o z => by rw [← u3, upd_ne (ne_of_none z n3)]; exact z
    have S6 : Same H H6 := fun b o z => S56 _ _ (S5 _ _ (S4 _ _ z))
    refine ⟨v, d, y, d', l3, rs3, _, rfl, rfl, T.same S6, rfl, by rw [← u3]; exact upd_same, R3.same S56, (by decide), fun l4 H7 H8 rs4 S7 n4 R4 u4 => ?_⟩
    have S78 : Same H7 H8 := fun b o z => by rw [← u4, upd_ne (ne_of_none z n4)]; exact z
    have S8 : Same H H8 := fun b o z => S78 _ _ (S7 _ _ (S6 _ _ z))
    have h8 : H8 l4 = some (.lst rs4) := by rw [← u4]; exact upd_same
    refine ⟨_, rfl, v, d, rfl, (T.same S8).d1, T.s1.good, fun t1 H9 S9 Q1 => ?_⟩
    intro t2 H10 S10 Q2
    intro t3 H11 S11 Q3
    refine ⟨(by show 3 ≤ sizeLine; decide), fun l5 hl5 => ?_⟩
    generalize e12 : upd H11 l5 _ = H12 at *
    have S1112 : Same H11 H12 := fun b o z => by rw [← e12, upd_ne (ne_of_none z hl5)]; exact z
    have S812 : Same H8 H12 := fun b o z => S1112 _ _ (S11 _ _ (S10 _ _ (S9 _ _ z)))
    have e4 := R4.len
    refine ⟨l4, l5, rs4, _, rfl, rfl, S812 _ _ h8, by rw [← e12]; exact upd_same, by rw [sizeLine_eq, e4]; show 8 + 3 ≤ 16777216; decide, fun l6 hl6 => ?_⟩
    have S13 : Same H12 (upd H12 l6 (.lst (rs4 ++ [V.ref t1, V.ref t2, V.ref t3]))) := fun b o z => by rw [upd_ne (ne_of_none z hl6)]; exact z
    have S813 : Same H8 (upd H12 l6 (.lst (rs4 ++ [V.ref t1, V.ref t2, V.ref t3]))) := fun b o z => S13 _ _ (S812 _ _ z)
    have S1113 : Same H11 (upd H12 l6 (.lst (rs4 ++ [V.ref t1, V.ref t2, V.ref t3]))) := fun b o z => S13 _ _ (S1112 _ _ z)
    refine q l6 _ _ (fun b o z => S813 _ _ (S8 _ _ z)) upd_same ?_
    exact Rows.app ((R4.same S78).same S813) (.cons (((Q1.same S10).same S11).same S1113) (.cons ((Q2.same S11).same S1113) (.cons (Q3.same S1113) .nil)))
end
end H8
set_option Elab.async false
set_option linter.all false
set_option maxRecDepth 100000
set_option maxHeartbeats 4000000
/-! isinstance over the classes; pairs: what an error tells, what it must tell, made by keywords. -/
namespace Ev
open PySem PySem.Spec PyProof.Rows L2
/-! ### the marks -/
/-- isinstance(e, x), e an error in slot i, of one of the classes ns -/
def tIsC (ns : List Str) (K : PySem.W.Frag) (i : Nat) (x : Str) : TE := fun σ H Q => ∃ (e : Addr) (z : Str) (fs : List (Str × V)), σ[i]? = some (some (.ref e)) ∧ z ∈ ns ∧ ErrAt H e (He.ga K z) fs ∧ Q (.bl (decide (z = x))) H
def tIss (ns : List Str) (K : PySem.W.Frag) (i : Nat) : List Str → TA
  | [] => tNil
  | x :: xs => tCons (tIsC ns K i x) (tIss ns K i xs)
theorem iss_of {ns : List Str} {K : PySem.W.Frag} {i : Nat} {σ : L2.St} {H : Hp} {e : Addr} {z : Str} {fs : List (Str × V)} (h0 : σ[i]? = some (some (.ref e))) (hz : z ∈ ns) (A : ErrAt H e (He.ga K z) fs) :
    ∀ (xs : List Str) (Q : List V → Hp → Prop), Q (xs.map fun x => V.bl (decide (z = x))) H → tIss ns K i xs σ H Q
  | [], Q, q => q
  | x :: xs, Q, q => ⟨e, z, fs, h0, hz, A, iss_of h0 hz A xs (fun r H2 => Q (V.bl (decide (z = x)) :: r) H2) q⟩
section
variable {X : Cx} {es : List (Str × List Str)} {i k : Nat} {x y : Str} {p0 p1 p2 p3 p4 : Pos} {xs : List Str} {rs : List Expr} {a : Expr}
theorem pe_isC (ns : List Str) (hn : ∀ z ∈ ns, ∃ fs, (z, fs) ∈ es) (hx : ∃ fs, (x, fs) ∈ es) (T : ErrsT es X.K) (tI : X.mg "isinstance" = none) (g : X.mg x = some (.ref (He.ga X.K x))) (hgx : Gl X x) (hgi : Gl X "isinstance") (ha : PE X (.Name y p1) (tVar i))
    (hdb : (x == ("__debug__" : Str)) = false := by decide) : PE X (.Call (.Name "isinstance" p0) [.Name y p1, .Name x p2] [] p3) (tIsC ns X.K i x) :=
  PE.imp (pe_callB call_isV hgi tI (by decide +kernel) (pa_cons ha (pa_cons (pe_glob (v := .ref (He.ga X.K x)) hgx g rfl hdb) pa_nil))) fun σ H Q ⟨e, z, fs, h0, hz, ⟨d, p, a1, a2⟩, q⟩ => by
    obtain ⟨fz, mz⟩ := hn z hz
    obtain ⟨fx, mx⟩ := hx
    exact ⟨_, h0, e, He.ga X.K z, d, _, _, .ref (He.ga X.K x), decide (z = x), rfl, (T.one _ mz).ec, a1, a2, (fun u r => r), T.each _ mz _ mx, q⟩
def tMarks (ns : List Str) (K : PySem.W.Frag) (i : Nat) (xs : List Str) : TE := fun σ H Q => ∃ (e : Addr) (z : Str) (fs : List (Str × V)), σ[i]? = some (some (.ref e)) ∧ z ∈ ns ∧ ErrAt H e (He.ga K z) fs ∧
  ∀ l H', Same H H' → H' l = some (.lst (xs.map fun x => V.bl (decide (z = x)))) → Q (.ref l) H'
theorem pe_marks {ns : List Str} (hz : xs.length ≤ 1000) (hs : PA X rs (tIss ns X.K i xs)) : PE X (.List rs p0) (tMarks ns X.K i xs) :=
  PE.imp (pe_lst hs) fun σ H Q ⟨e, z, fs, h0, hn, A, q⟩ => iss_of h0 hn A xs _ ⟨by rw [List.length_map, sizeLine_eq]; omega, fun l hl => q l _ (fun b o w => by rw [upd_ne (ne_of_none w hl)]; exact w) upd_same⟩
def tMarks2 (ns : List Str) (K : PySem.W.Frag) (i k : Nat) (xs : List Str) : TE := fun σ H Q => ∃ (e : Addr) (z : Str) (fs : List (Str × V)) (l : Addr) (bs : List V), σ[i]? = some (some (.ref e)) ∧ z ∈ ns ∧ ErrAt H e (He.ga K z) fs ∧
  σ[k]? = some (some (.ref l)) ∧ H l = some (.lst bs) ∧ bs.length ≤ 1000 ∧ ∀ l' H', Same H H' → H' l' = some (.lst (bs ++ xs.map fun x => V.bl (decide (z = x)))) → Q (.ref l') H'
theorem pe_marks2 {ns : List Str} (hz : xs.length ≤ 1000) (ha : PE X a (tVar k)) (hs : PA X rs (tIss ns X.K i xs)) : PE X (.BinOp a .Add (.List rs p0) p1) (tMarks2 ns X.K i k xs) :=
  PE.imp (pe_op op_cat ha (pe_lst hs)) fun σ H Q ⟨e, z, fs, l, bs, h0, hn, A, hk, hl, hb, q⟩ => ⟨_, hk, iss_of h0 hn A xs _ ⟨by rw [List.length_map, sizeLine_eq]; omega, fun l1 hl1 => by
    have S1 : Same H (upd H l1 (.lst (xs.map fun x => V.bl (decide (z = x))))) := fun b o w => by rw [upd_ne (ne_of_none w hl1)]; exact w
    refine ⟨l, l1, bs, _, rfl, rfl, S1 _ _ hl, upd_same, by rw [List.length_map, sizeLine_eq]; omega, fun l2 hl2 => ?_⟩
    exact q l2 _ (fun b o w => by rw [upd_ne (ne_of_none (S1 _ _ w) hl2)]; exact S1 _ _ w) upd_same⟩⟩
end
def spMarks (K : PySem.W.Frag) (ns : List Str) : Sp := fun vs H Q _ => ∃ (e : Addr) (z : Str) (fs : List (Str × V)), vs = [.ref e] ∧ z ∈ ns ∧ ErrAt H e (He.ga K z) fs ∧
  ∀ l H', Same H H' → H' l = some (.lst (ns.map fun x => V.bl (decide (z = x)))) → Q (.ref l) H'
/-! ### pairs -/
def PairAt (K : PySem.W.Frag) (H : Hp) (r : V) : Prop := ∃ (t : Addr) (a b : V) (d : PyData), r = .ref t ∧ H t = some (.tup [a, b]) ∧ Dr K H a d ∧ Dr K H b d ∧ Good d
theorem PairAt.same {K : PySem.W.Frag} {H H' : Hp} {r : V} (S : Same H H') : PairAt K H r → PairAt K H' r
  | ⟨t, a, b, d, h1, h2, h3, h4, h5⟩ => ⟨t, a, b, d, h1, S _ _ h2, h3.same S, h4.same S, h5⟩
def tPair1 (K : PySem.W.Frag) (i : Nat) : TE := fun σ H Q => ∃ v d, σ[i]? = some (some v) ∧ Dr K H v d ∧ Good d ∧ ∀ t H', Same H H' → PairAt K H' (.ref t) → Q (.ref t) H'
section
variable {X : Cx} {x y z f g ez : Str} {p0 p1 p2 p3 p4 p5 p6 p7 p8 p9 p10 : Pos} {i j ie k0 k1 : Nat}
theorem kw_one {P : Program} {w : World} {K : PySem.W.Frag} {mg : Str → Option Value} {base : Heap} {x f : Str} (c : ErrCls P w K mg base x [f]) : ∃ fd ps, FnOk P w K mg base CX0 2 (He.ma K (He.ga K x) "__init__") fd ps (spIni K (He.ga K x) [f]) ∧
    ∀ (s : Shared) (a : Addr) (ws : List Value), ws.length = [f].length → BindsTo s fd ⟨[.ref a], [f].zip ws⟩ (ps.zip (.ref a :: ws)) := by
  obtain ⟨fd, ps, h1, h2⟩ := c.o
  refine ⟨fd, ps, h1, fun s a ws hl => ?_⟩
  obtain ⟨u, rfl⟩ : ∃ u, ws = [u] := match ws, hl with | [u], _ => ⟨u, rfl⟩
  exact h2 s a [u] rfl
theorem pe_pair1 (c : ErrCls X.prog X.w X.K X.mg X.base x [f]) (hr : Room 3 X.A) (hg : Gl X x) (hy : ∀ q, PE X (.Name y q) (tVar i))
    (hks : (backToKw p5 (keywordEach [⟨some f, .Name y p2, p3⟩] X.env)).filterMap (·.1) = [f] := by rfl)
    (hall : (backToKw p5 (keywordEach [⟨some f, .Name y p2, p3⟩] X.env)).all (·.1.isSome) = true := by rfl)
    (hpl : ((backTo p5 (starEach [] X.env)).any (·.1) || (backToKw p5 (keywordEach [⟨some f, .Name y p2, p3⟩] X.env)).any (·.1.isNone)) = false := by rfl)
    (hdb : (x == ("__debug__" : Str)) = false := by decide) :
    PE X (.Tuple [.Attribute (.Call (.Name x p1) [] [⟨some f, .Name y p2, p3⟩] p5) f p6, .Name y p7] k0 p8) (tPair1 X.K i) := by
  obtain ⟨fd, ps, FO, hb⟩ := kw_one c
  exact PE.imp (pe_tup (pa_cons (pe_get1 c.t (by simp) (pe_newK1 c.t FO hb hr hg c.g (hy _) hks hall hpl hdb)) (pa_cons (hy _) pa_nil)))
    fun σ H Q ⟨v, d, h1, h2, h3, q⟩ => ⟨v, h1, fun H1 S1 => ⟨v, h1, (by show 2 ≤ sizeLine; decide), fun t ht => by
      have S : Same H (upd H1 t (.tup [v, v])) := fun b o z => by rw [upd_ne (ne_of_none (S1 _ _ z) ht)]; exact S1 _ _ z
      exact q t _ S ⟨t, v, v, d, rfl, upd_same, h2.same S, h2.same S, h3⟩⟩⟩
def tPair2 (K : PySem.W.Frag) (x f g : Str) (ie i j : Nat) : TE := fun σ H Q => ∃ e v y d d', σ[ie]? = some (some (.ref e)) ∧ ErrAt H e (He.ga K x) [(g, y), (f, v)] ∧ σ[i]? = some (some v) ∧ σ[j]? = some (some y) ∧
  Dr K H v d ∧ Small d ∧ Dr K H y d' ∧ Small d' ∧ ∀ t H', Same H H' → PairAt K H' (.ref t) → Q (.ref t) H'
theorem pe_pair2 (c : ErrCls X.prog X.w X.K X.mg X.base x [f, g]) (fg : f ≠ g) (hE : ∀ q, PE X (.Name ez q) (tVar ie)) (hy : ∀ q, PE X (.Name y q) (tVar i)) (hz : ∀ q, PE X (.Name z q) (tVar j)) :
    PE X (.Tuple [.List [.Attribute (.Name ez p1) f p2, .Attribute (.Name ez p3) g p4] p5, .List [.Name y p6, .Name z p7] p9] k0 p8) (tPair2 X.K x f g ie i j) :=
  PE.imp (pe_tup (pa_cons (pe_lst (pa_cons (pe_getv c.t (by simp) (hE _)) (pa_cons (pe_getv c.t (by simp) (hE _)) pa_nil))) (pa_cons (pe_lst (pa_cons (hy _) (pa_cons (hz _) pa_nil))) pa_nil)))
    fun σ H Q ⟨e, v, u, d, d', h0, A, h1, h2, h3, h4, h5, h6, q⟩ => by
      have l1 : ([(g, u), (f, v)] : List (Str × V)).lookup f = some v := by
        have : (f == g) = false := beq_eq_false_iff_ne.mpr fg
        simp [List.lookup, this]
      have l2 : ([(g, u), (f, v)] : List (Str × V)).lookup g = some u := by simp [List.lookup]
      refine ⟨e, _, v, h0, A, l1, e, _, u, h0, A, l2, (by show 2 ≤ sizeLine; decide), fun a ha => ?_⟩
      generalize ea : upd H a _ = H1 at *
      have S1 : Same H H1 := fun b o z => by rw [← ea, upd_ne (ne_of_none z ha)]; exact z
      have aa : H1 a = some (.lst [v, u]) := by rw [← ea]; exact upd_same
      refine ⟨_, h1, _, h2, (by show 2 ≤ sizeLine; decide), fun b hb => ?_⟩
      generalize eb : upd H1 b _ = H2 at *
      have S2 : Same H1 H2 := fun c o z => by rw [← eb, upd_ne (ne_of_none z hb)]; exact z
      have bb : H2 b = some (.lst [v, u]) := by rw [← eb]; exact upd_same
      refine ⟨(by show 2 ≤ sizeLine; decide), fun t ht => ?_⟩
      have S3 : Same H2 (upd H2 t (.tup [.ref a, .ref b])) := fun c o z => by rw [upd_ne (ne_of_none z ht)]; exact z
      have S : Same H (upd H2 t (.tup [.ref a, .ref b])) := fun b o z => S3 _ _ (S2 _ _ (S1 _ _ z))
      have dd : DrAll X.K (upd H2 t (.tup [.ref a, .ref b])) [v, u] [d, d'] := .cons (h3.same S) (.cons (h5.same S) .nil)
      exact q t _ S ⟨t, .ref a, .ref b, .list [d, d'], rfl, upd_same, .lst (SqL.of (S3 _ _ (S2 _ _ aa))) dd, .lst (SqL.of (S3 _ _ bb)) dd, good_pair h4 h6⟩
end
def Pairs (K : PySem.W.Frag) (H : Hp) (rs : List V) : Prop := ∀ r ∈ rs, PairAt K H r
theorem Pairs.same {K : PySem.W.Frag} {H H' : Hp} {rs : List V} (S : Same H H') (h : Pairs K H rs) : Pairs K H' rs := fun r m => (h r m).same S
theorem Pairs.app {K : PySem.W.Frag} {H : Hp} {rs ss : List V} (h : Pairs K H rs) (g : Pairs K H ss) : Pairs K H (rs ++ ss) := fun r m => (List.mem_append.mp m).elim (h r) (g r)
/-- [(C(f = value of slot i).f, value), ..], the slots one behind another -/
def tPs (K : PySem.W.Frag) : List Nat → TA
  | [] => tNil
  | i :: is => tCons (tPair1 K i) (tPs K is)
theorem ps_of {K : PySem.W.Frag} {σ : L2.St} {v y : V} {d d' : PyData} (h0 : σ[0]? = some (some v)) (h1 : σ[1]? = some (some y)) : ∀ (is : List Nat), (∀ i ∈ is, i < 2) → ∀ (H : Hp) (Q : List V → Hp → Prop), Two K H v d y d' →
    (∀ H' rs, Same H H' → rs.length = is.length → Pairs K H' rs → Q rs H') → tPs K is σ H Q
  | [], _, H, Q, T, q => q H [] (fun _ _ z => z) rfl (fun r m => nomatch m)
  | i :: is, hi, H, Q, T, q => by
    have go : ∀ v d, σ[i]? = some (some v) → Dr K H v d → Good d → tPs K (i :: is) σ H Q := fun v d e D G =>
      ⟨v, d, e, D, G, fun t H1 S1 R1 => ps_of h0 h1 is (fun j m => hi j (List.mem_cons_of_mem _ m)) H1 _ (T.same S1) fun H2 rs S2 e2 R2 =>
        q H2 (.ref t :: rs) (fun b o z => S2 _ _ (S1 _ _ z)) (congrArg Nat.succ e2) fun r m => by
          rcases List.mem_cons.mp m with e | m
          · rw [e]; exact R1.same S2
          · exact R2 r m⟩
    have h2 := hi i (by simp)
    by_cases e : i = 0
    · subst e; exact go v d h0 T.d1 T.s1.good
    · have e1 : i = 1 := by omega
      subst e1; exact go y d' h1 T.d2 T.s2.good
section
variable {X : Cx} {p q : Pos} {es : List Expr} {a : Expr} {k : Nat} {is : List Nat}
def tPList (K : PySem.W.Frag) (n : Nat) : TE := fun σ H Q => ∃ v d y d', σ[0]? = some (some v) ∧ σ[1]? = some (some y) ∧ Two K H v d y d' ∧ ∀ l H' rs, Same H H' → rs.length = n → Pairs K H' rs → H' l = some (.lst rs) → Q (.ref l) H'
def tPAdd (K : PySem.W.Frag) (k n : Nat) : TE := fun σ H Q => ∃ v d y d' l rs, σ[0]? = some (some v) ∧ σ[1]? = some (some y) ∧ Two K H v d y d' ∧ σ[k]? = some (some (.ref l)) ∧ H l = some (.lst rs) ∧ rs.length ≤ 100 ∧ Pairs K H rs ∧
  ∀ l' H' rs', Same H H' → rs'.length = rs.length + n → Pairs K H' rs' → H' l' = some (.lst rs') → Q (.ref l') H'
theorem pe_plist (hi : ∀ i ∈ is, i < 2) (hz : is.length ≤ 100) (hs : PA X es (tPs X.K is)) : PE X (.List es p) (tPList X.K is.length) :=
  PE.imp (pe_lst hs) fun σ H Q ⟨v, d, y, d', h0, h1, T, q⟩ => ps_of h0 h1 is hi H _ T fun H1 rs S e R => ⟨by rw [e, sizeLine_eq]; omega, fun l hl => by
    have S2 : Same H1 (upd H1 l (.lst rs)) := fun c o z => by rw [upd_ne (ne_of_none z hl)]; exact z
    exact q l _ rs (fun b o z => S2 _ _ (S _ _ z)) e (R.same S2) upd_same⟩
theorem pe_padd (hi : ∀ i ∈ is, i < 2) (hz : is.length ≤ 100) (ha : PE X a (tVar k)) (hs : PA X es (tPs X.K is)) : PE X (.BinOp a .Add (.List es p) q) (tPAdd X.K k is.length) :=
  PE.imp (pe_op op_cat ha (pe_lst hs)) fun σ H Q ⟨v, d, y, d', l, rs0, h0, h1, T, hk, hl, hb, R0, q⟩ => ⟨_, hk, ps_of h0 h1 is hi H _ T fun H1 rs S e R => ⟨by rw [e, sizeLine_eq]; omega, fun l1 hl1 => by
    have S2 : Same H1 (upd H1 l1 (.lst rs)) := fun c o z => by rw [upd_ne (ne_of_none z hl1)]; exact z
    refine ⟨l, l1, rs0, rs, rfl, rfl, S2 _ _ (S _ _ hl), upd_same, by rw [e, sizeLine_eq]; omega, fun l2 hl2 => ?_⟩
    have S3 : Same (upd H1 l1 (.lst rs)) (upd (upd H1 l1 (.lst rs)) l2 (.lst (rs0 ++ rs))) := fun c o z => by rw [upd_ne (ne_of_none z hl2)]; exact z
    have S4 : Same H1 (upd (upd H1 l1 (.lst rs)) l2 (.lst (rs0 ++ rs))) := fun c o z => S3 _ _ (S2 _ _ z)
    exact q l2 _ _ (fun b o z => S4 _ _ (S _ _ z)) (by rw [List.length_append, e]) (Pairs.app ((R0.same S).same S4) (R.same S4)) upd_same⟩⟩
end
end Ev
set_option Elab.async false
set_option linter.all false
set_option maxRecDepth 100000
set_option maxHeartbeats 4000000
namespace H8
open PySem PySem.Spec PyProof.Rows L2 Ev
def names : List Str := names1 ++ names2
section
variable {P : Program} {w : World} {K : PySem.W.Frag} {mg : Str → Option Value} {base : Heap} {f : Addr} {fd : FuncData}
theorem names_errs : ∀ z ∈ names, ∃ fs, (z, fs) ∈ errs := by
  have h : (names.all fun z => errs.any fun e => decide (e.1 = z)) = true := by decide +kernel
  intro z hz
  obtain ⟨e, he, q⟩ := List.any_eq_true.mp (List.all_eq_true.mp h z hz)
  exact ⟨e.2, by rw [← of_decide_eq_true q]; exact he⟩
theorem sc33 : FnScope ["_law_error", "_law_found"] ["_law_error"] (defScope (top 33)) := ⟨rfl, rfl, rfl, by decide +kernel, rfl, by decide +kernel, by decide +kernel⟩
theorem ok_marks (F : FnL K "_law_marks" 33 f fd) (T : ErrsT errs K) (tI : mg "isinstance" = none) (g : ∀ x ∈ names, mg x = some (.ref (He.ga K x))) : FnOk P w K mg base CX0 1 f fd ["_law_error"] (spMarks K names) := by
  have i : ∀ {X : Cx} {x : Str} {p0 p1 p2 p3 : Pos}, X.K = K → X.mg = mg → x ∈ names → Gl X x → Gl X "isinstance" → PE X (.Name "_law_error" p1) (tVar 0) → (x == ("__debug__" : Str)) = false →
      PE X (.Call (.Name "isinstance" p0) [.Name "_law_error" p1, .Name x p2] [] p3) (tIsC names X.K 0 x) := fun {X x p0 p1 p2 p3} e1 e2 hx h1 h2 h3 h4 =>
    pe_isC (es := errs) names names_errs (names_errs x hx) (by rw [e1]; exact T) (by rw [e2]; exact tI) (by rw [e1, e2]; exact g x hx) h1 h2 h3 h4
  refine F.ok sc33 (fun vs H Q E h => ?_) (fun cdv A outer s H vs Q E hr h => ?_)
  · obtain ⟨e, z, fs, rfl, _⟩ := h
    rfl
  · obtain ⟨e, z, fs, rfl, hz, A0, q⟩ := h
    refine ⟨_, PSs.nox (pss_cons (ps_set (i := 1) sc33.nd rfl (Or.inl rfl) (pe_marks (ns := names) (xs := ["BadName", "BadTimes", "BadParts"]) (by decide)
        (pa_cons (i rfl rfl (by decide +kernel) (by rfl) (by rfl) (pv 0) (by decide)) (pa_cons (i rfl rfl (by decide +kernel) (by rfl) (by rfl) (pv 0) (by decide)) (pa_cons (i rfl rfl (by decide +kernel) (by rfl) (by rfl) (pv 0) (by decide)) pa_nil)))))
      (pss_cons (ps_set (i := 1) sc33.nd rfl (Or.inl rfl) (pe_marks2 (ns := names) (xs := ["NoName", "NoPath", "Taken"]) (by decide) (pv 1)
        (pa_cons (i rfl rfl (by decide +kernel) (by rfl) (by rfl) (pv 0) (by decide)) (pa_cons (i rfl rfl (by decide +kernel) (by rfl) (by rfl) (pv 0) (by decide)) (pa_cons (i rfl rfl (by decide +kernel) (by rfl) (by rfl) (pv 0) (by decide)) pa_nil)))))
      (pss_cons (ps_set (i := 1) sc33.nd rfl (Or.inl rfl) (pe_marks2 (ns := names) (xs := ["Ring", "InUse", "Unresolved"]) (by decide) (pv 1)
        (pa_cons (i rfl rfl (by decide +kernel) (by rfl) (by rfl) (pv 0) (by decide)) (pa_cons (i rfl rfl (by decide +kernel) (by rfl) (by rfl) (pv 0) (by decide)) (pa_cons (i rfl rfl (by decide +kernel) (by rfl) (by rfl) (pv 0) (by decide)) pa_nil)))))
      (pss_cons (ps_set (i := 1) sc33.nd rfl (Or.inl rfl) (pe_marks2 (ns := names) (xs := ["NoMachine", "BadValue", "TooLarge"]) (by decide) (pv 1)
        (pa_cons (i rfl rfl (by decide +kernel) (by rfl) (by rfl) (pv 0) (by decide)) (pa_cons (i rfl rfl (by decide +kernel) (by rfl) (by rfl) (pv 0) (by decide)) (pa_cons (i rfl rfl (by decide +kernel) (by rfl) (by rfl) (pv 0) (by decide)) pa_nil)))))
      (pss_cons (ps_set (i := 1) sc33.nd rfl (Or.inl rfl) (pe_marks2 (ns := names) (xs := ["NoScale", "BadBound", "NoTerm"]) (by decide) (pv 1)
        (pa_cons (i rfl rfl (by decide +kernel) (by rfl) (by rfl) (pv 0) (by decide)) (pa_cons (i rfl rfl (by decide +kernel) (by rfl) (by rfl) (pv 0) (by decide)) (pa_cons (i rfl rfl (by decide +kernel) (by rfl) (by rfl) (pv 0) (by decide)) pa_nil)))))
      (pss_cons (ps_set (i := 1) sc33.nd rfl (Or.inl rfl) (pe_marks2 (ns := names) (xs := ["NoClaim", "NotRecord", "Endless"]) (by decide) (pv 1)
        (pa_cons (i rfl rfl (by decide +kernel) (by rfl) (by rfl) (pv 0) (by decide)) (pa_cons (i rfl rfl (by decide +kernel) (by rfl) (by rfl) (pv 0) (by decide)) (pa_cons (i rfl rfl (by decide +kernel) (by rfl) (by rfl) (pv 0) (by decide)) pa_nil)))))
      (pss_cons (ps_set (i := 1) sc33.nd rfl (Or.inl rfl) (pe_marks2 (ns := names) (xs := ["NoOffer", "NoOrder", "BadText"]) (by decide) (pv 1)
        (pa_cons (i rfl rfl (by decide +kernel) (by rfl) (by rfl) (pv 0) (by decide)) (pa_cons (i rfl rfl (by decide +kernel) (by rfl) (by rfl) (pv 0) (by decide)) (pa_cons (i rfl rfl (by decide +kernel) (by rfl) (by rfl) (pv 0) (by decide)) pa_nil)))))
      (pss_one (ps_ret (pe_marks2 (ns := names) (xs := ["Barred", "NoLine"]) (by decide) (pv 1)
        (pa_cons (i rfl rfl (by decide +kernel) (by rfl) (by rfl) (pv 0) (by decide)) (pa_cons (i rfl rfl (by decide +kernel) (by rfl) (by rfl) (pv 0) (by decide)) pa_nil))))))))))))
      , ?_⟩
    refine ⟨e, z, fs, rfl, hz, A0, fun l1 H1 S1 h1 => ?_⟩
    refine ⟨e, z, fs, l1, _, rfl, hz, A0.same S1, rfl, h1, (by show 3 ≤ 1000; decide), fun l2 H2 S2 h2 => ?_⟩
    have A2 := (A0.same S1).same S2
    refine ⟨e, z, fs, l2, _, rfl, hz, A2, rfl, h2, (by show 6 ≤ 1000; decide), fun l3 H3 S3 h3 => ?_⟩
    have A3 := A2.same S3
    refine ⟨e, z, fs, l3, _, rfl, hz, A3, rfl, h3, (by show 9 ≤ 1000; decide), fun l4 H4 S4 h4 => ?_⟩
    have A4 := A3.same S4
    refine ⟨e, z, fs, l4, _, rfl, hz, A4, rfl, h4, (by show 12 ≤ 1000; decide), fun l5 H5 S5 h5 => ?_⟩
    have A5 := A4.same S5
    refine ⟨e, z, fs, l5, _, rfl, hz, A5, rfl, h5, (by show 15 ≤ 1000; decide), fun l6 H6 S6 h6 => ?_⟩
    have A6 := A5.same S6
    refine ⟨e, z, fs, l6, _, rfl, hz, A6, rfl, h6, (by show 18 ≤ 1000; decide), fun l7 H7 S7 h7 => ?_⟩
    have A7 := A6.same S7
    refine ⟨e, z, fs, l7, _, rfl, hz, A7, rfl, h7, (by show 21 ≤ 1000; decide), fun l8 H8' S8 h8 => ?_⟩
    exact q l8 H8' (fun b o x => S8 _ _ (S7 _ _ (S6 _ _ (S5 _ _ (S4 _ _ (S3 _ _ (S2 _ _ (S1 _ _ x)))))))) h8
end
end H8
set_option Elab.async false
set_option linter.all false
set_option maxRecDepth 100000
set_option maxHeartbeats 4000000
/-! Slots of a comprehension's own names. -/
namespace Ev
open PySem PySem.Spec PyProof.Rows L2
theorem blk2 {σ : L2.St} {i j : Nat} {a b : V} (ij : i ≠ j) (hi : i < σ.length) (hj : j < σ.length) :
    (((wipe σ [i, j]).set i (some a)).set j (some b))[i]? = some (some a) ∧ (((wipe σ [i, j]).set i (some a)).set j (some b))[j]? = some (some b) ∧
    wipe (((wipe σ [i, j]).set i (some a)).set j (some b)) [i, j] = wipe σ [i, j] := by
  have hl : (wipe σ [i, j]).length = σ.length := wipe_length σ _
  refine ⟨?_, ?_, ?_⟩
  · rw [List.getElem?_set_ne (Ne.symm ij), List.getElem?_set_self (by rw [hl]; exact hi)]
  · rw [List.getElem?_set_self (by rw [List.length_set, hl]; exact hj)]
  · show (((((σ.set j none).set i none).set i (some a)).set j (some b)).set j none).set i none = (σ.set j none).set i none
    rw [List.set_set, List.set_set, List.set_comm _ _ ij, List.set_set, List.set_comm _ _ (Ne.symm ij), List.set_comm _ _ ij, List.set_set]
theorem blk1 {σ : L2.St} {i : Nat} {a : V} (hi : i < σ.length) :
    ((wipe σ [i]).set i (some a))[i]? = some (some a) ∧ wipe ((wipe σ [i]).set i (some a)) [i] = wipe σ [i] ∧ ∀ k v, k ≠ i → σ[k]? = some (some v) → ((wipe σ [i]).set i (some a))[k]? = some (some v) := by
  have hl : (wipe σ [i]).length = σ.length := wipe_length σ _
  refine ⟨?_, ?_, fun k v n e => ?_⟩
  · rw [List.getElem?_set_self (by rw [hl]; exact hi)]
  · show (((σ.set i none).set i (some a)).set i none) = σ.set i none
    rw [List.set_set, List.set_set]
  · show (((σ.set i none).set i (some a)))[k]? = _
    rw [List.getElem?_set_ne (Ne.symm n), List.getElem?_set_ne (Ne.symm n)]
    exact e
end Ev
set_option Elab.async false
set_option linter.all false
set_option maxRecDepth 100000
set_option maxHeartbeats 4000000
namespace H8
open PySem PySem.Spec PyProof.Rows L2 Ev
/-- made by keywords, the errors keep the values -/
def spNamed (K : PySem.W.Frag) : Sp := fun vs H Q _ => ∃ v d y d', vs = [v, y] ∧ Two K H v d y d' ∧ ∀ H', Same H H' → Q (.bl true) H'
section
variable {P : Program} {w : World} {K : PySem.W.Frag} {mg : Str → Option Value} {base : Heap} {f : Addr} {fd : FuncData}
theorem sc32 : FnScope ["_law_one", "_law_two", "_law_found", "_law_error", "_law_seen", "_law_due"] ["_law_one", "_law_two"] (defScope (top 32)) := ⟨rfl, rfl, rfl, by decide +kernel, rfl, by decide +kernel, by decide +kernel⟩
theorem lt2 : ∀ {is : List Nat}, (is.all fun i => decide (i < 2)) = true → ∀ i ∈ is, i < 2 := fun h i m => of_decide_eq_true (List.all_eq_true.mp h i m)
theorem ok_named (F : FnL K "_law_named_right" 32 f fd) (T : SysK K) (tR : mg "repr" = none) (c : ∀ x fs, (x, fs) ∈ errs → ErrCls P w K mg base x fs) : FnG P w K mg base CX0 4 f (spNamed K) := by
  have m : ∀ x fs, decide ((x, fs) ∈ errs) = true → ErrCls P w K mg base x fs := fun x fs h => c x fs (of_decide_eq_true h)
  refine okG F sc32 (fun _ _ _ _ _ _ us hl => match us, hl with | [_, _], _ => rfl) (fun vs H Q E h => ?_) (fun cdv A outer s H vs Q E hg hr h => ?_)
  · obtain ⟨v, d, y, d', rfl, _⟩ := h
    rfl
  · obtain ⟨v, d, y, d', rfl, T0, q⟩ := h
    have hgd : (A.deeper (envOfC "_law_named_right" (defScope (top 32)) s.heap.objs.size f cdv)).guards = some [] := hg
    have rp : ∀ (X : Cx), X.A.guards = some [] → X.A.units + 64 < cLine → X.K = K → CallR X (.builtin "repr") (rRepr K) := fun X h1 h2 h3 => by
      subst h3
      exact call_repr h1 h2 T
    refine ⟨_, PSs.nox (pss_cons (ps_set (i := 2) sc32.nd rfl (Or.inl rfl) (pe_plist (is := [0, 1, 0]) (lt2 (by decide)) (by decide)
        (pa_cons (pe_pair1 (m "BadName" ["name"] (by decide +kernel)) hr (by rfl) (fun _ => pv 0)) (pa_cons (pe_pair1 (m "BadTimes" ["value"] (by decide +kernel)) hr (by rfl) (fun _ => pv 1)) (pa_cons (pe_pair1 (m "BadParts" ["at"] (by decide +kernel)) hr (by rfl) (fun _ => pv 0)) pa_nil)))))
      (pss_cons (ps_set (i := 2) sc32.nd rfl (Or.inl rfl) (pe_padd (is := [1, 0, 1]) (lt2 (by decide)) (by decide) (pv 2)
        (pa_cons (pe_pair1 (m "NoName" ["name"] (by decide +kernel)) hr (by rfl) (fun _ => pv 1)) (pa_cons (pe_pair1 (m "Taken" ["name"] (by decide +kernel)) hr (by rfl) (fun _ => pv 0)) (pa_cons (pe_pair1 (m "Ring" ["way"] (by decide +kernel)) hr (by rfl) (fun _ => pv 1)) pa_nil)))))
      (pss_cons (ps_set (i := 2) sc32.nd rfl (Or.inl rfl) (pe_padd (is := [0, 1, 0]) (lt2 (by decide)) (by decide) (pv 2)
        (pa_cons (pe_pair1 (m "InUse" ["name"] (by decide +kernel)) hr (by rfl) (fun _ => pv 0)) (pa_cons (pe_pair1 (m "Unresolved" ["name"] (by decide +kernel)) hr (by rfl) (fun _ => pv 1)) (pa_cons (pe_pair1 (m "NoMachine" ["scale"] (by decide +kernel)) hr (by rfl) (fun _ => pv 0)) pa_nil)))))
      (pss_cons (ps_set (i := 2) sc32.nd rfl (Or.inl rfl) (pe_padd (is := [1, 0, 1]) (lt2 (by decide)) (by decide) (pv 2)
        (pa_cons (pe_pair1 (m "BadValue" ["path"] (by decide +kernel)) hr (by rfl) (fun _ => pv 1)) (pa_cons (pe_pair1 (m "NoScale" ["scale"] (by decide +kernel)) hr (by rfl) (fun _ => pv 0)) (pa_cons (pe_pair1 (m "BadBound" ["value"] (by decide +kernel)) hr (by rfl) (fun _ => pv 1)) pa_nil)))))
      (pss_cons (ps_set (i := 2) sc32.nd rfl (Or.inl rfl) (pe_padd (is := [0, 1, 0]) (lt2 (by decide)) (by decide) (pv 2)
        (pa_cons (pe_pair1 (m "NoTerm" ["at"] (by decide +kernel)) hr (by rfl) (fun _ => pv 0)) (pa_cons (pe_pair1 (m "NoClaim" ["at"] (by decide +kernel)) hr (by rfl) (fun _ => pv 1)) (pa_cons (pe_pair1 (m "NotRecord" ["name"] (by decide +kernel)) hr (by rfl) (fun _ => pv 0)) pa_nil)))))
      (pss_cons (ps_set (i := 2) sc32.nd rfl (Or.inl rfl) (pe_padd (is := [1, 0, 1]) (lt2 (by decide)) (by decide) (pv 2)
        (pa_cons (pe_pair1 (m "Endless" ["scale"] (by decide +kernel)) hr (by rfl) (fun _ => pv 1)) (pa_cons (pe_pair1 (m "NoOffer" ["at"] (by decide +kernel)) hr (by rfl) (fun _ => pv 0)) (pa_cons (pe_pair1 (m "NoOrder" ["at"] (by decide +kernel)) hr (by rfl) (fun _ => pv 1)) pa_nil)))))
      (pss_cons (ps_set (i := 2) sc32.nd rfl (Or.inl rfl) (pe_padd (is := [0]) (lt2 (by decide)) (by decide) (pv 2)
        (pa_cons (pe_pair1 (m "BadText" ["at"] (by decide +kernel)) hr (by rfl) (fun _ => pv 0)) pa_nil)))
      (pss_cons (ps_set (i := 3) sc32.nd rfl (Or.inl rfl) (pe_newK2 (f := "path") (g := "at") (i := 0) (j := 1) (m "NoPath" ["path", "at"] (by decide +kernel)).t (m "NoPath" ["path", "at"] (by decide +kernel)).o.choose_spec.choose_spec.1
        (m "NoPath" ["path", "at"] (by decide +kernel)).o.choose_spec.choose_spec.2 hr (by rfl) (m "NoPath" ["path", "at"] (by decide +kernel)).g (pv 1) (pv 0)))
      (pss_cons (ps_set (i := 2) sc32.nd rfl (Or.inl rfl) (pe_op op_cat (pv 2) (pe_lst (pa_cons (pe_pair2 (m "NoPath" ["path", "at"] (by decide +kernel)) (by decide) (fun _ => pv 3) (fun _ => pv 0) (fun _ => pv 1)) pa_nil))))
      (pss_cons (ps_set (i := 3) sc32.nd rfl (Or.inl rfl) (pe_newK2 (f := "what") (g := "most") (i := 1) (j := 0) (m "TooLarge" ["what", "most"] (by decide +kernel)).t (m "TooLarge" ["what", "most"] (by decide +kernel)).o.choose_spec.choose_spec.1
        (m "TooLarge" ["what", "most"] (by decide +kernel)).o.choose_spec.choose_spec.2 hr (by rfl) (m "TooLarge" ["what", "most"] (by decide +kernel)).g (pv 0) (pv 1)))
      (pss_cons (ps_set (i := 2) sc32.nd rfl (Or.inl rfl) (pe_op op_cat (pv 2) (pe_lst (pa_cons (pe_pair2 (m "TooLarge" ["what", "most"] (by decide +kernel)) (by decide) (fun _ => pv 3) (fun _ => pv 1) (fun _ => pv 0)) pa_nil))))
      (pss_one (ps_ret (pe_cmpR (op_eqD hr.units) (pe_lc (own := [("_law_seen", 4), ("_law_due", 5)]) (g := gTup K 2 (gCons (gName 4) (gCons (gName 5) gNil))) rfl sc32.nd (pi_list (pv 2))
          (blkOk_by (N := ["_law_one", "_law_two", "_law_found", "_law_error", "_law_seen", "_law_due"]) (sc := defScope (top 32)) (by decide +kernel))
          (fun _ _ _ _ _ => pg_tup rfl (pgs_cons (pg_name (i := 4) sc32.nd rfl (Or.inl rfl)) (pgs_cons (pg_name (i := 5) sc32.nd rfl (Or.inl rfl)) pgs_nil)))
          (fun _ _ _ _ _ => pts_one (pt_cmpR op_ne (pe_callB (id := "repr") (r := rRepr K) (rp _ hgd hr.units rfl) (by rfl) tR (by decide +kernel) (pa_cons (pv 4) pa_nil)) (pe_callB (id := "repr") (r := rRepr K) (rp _ hgd hr.units rfl) (by rfl) tR (by decide +kernel) (pa_cons (pv 5) pa_nil)) (nomark _)))
          (fun _ _ _ _ _ => pe_int)) (pe_lst pa_nil) (nomark _)))))))))))))))
      , ?_⟩
    refine ⟨v, d, y, d', rfl, rfl, T0, fun l1 H1 rs1 S1 e1 R1 h1 => ?_⟩
    have f1 : rs1.length = 3 := e1
    have T1 := T0.same S1
    refine ⟨v, d, y, d', l1, _, rfl, rfl, T1, rfl, h1, by rw [f1]; decide, R1, fun l2 H2 rs2 S2 e2 R2 h2 => ?_⟩
    have f2 : rs2.length = 6 := e2.trans (by rw [f1] <;> rfl)
    have T2 := T1.same S2
    refine ⟨v, d, y, d', l2, _, rfl, rfl, T2, rfl, h2, by rw [f2]; decide, R2, fun l3 H3 rs3 S3 e3 R3 h3 => ?_⟩
    have f3 : rs3.length = 9 := e3.trans (by rw [f2] <;> rfl)
    have T3 := T2.same S3
    refine ⟨v, d, y, d', l3, _, rfl, rfl, T3, rfl, h3, by rw [f3]; decide, R3, fun l4 H4 rs4 S4 e4 R4 h4 => ?_⟩
    have f4 : rs4.length = 12 := e4.trans (by rw [f3] <;> rfl)
    have T4 := T3.same S4
    refine ⟨v, d, y, d', l4, _, rfl, rfl, T4, rfl, h4, by rw [f4]; decide, R4, fun l5 H5 rs5 S5 e5 R5 h5 => ?_⟩
    have f5 : rs5.length = 15 := e5.trans (by rw [f4] <;> rfl)
    have T5 := T4.same S5
    refine ⟨v, d, y, d', l5, _, rfl, rfl, T5, rfl, h5, by rw [f5]; decide, R5, fun l6 H6 rs6 S6 e6 R6 h6 => ?_⟩
    have f6 : rs6.length = 18 := e6.trans (by rw [f5] <;> rfl)
    have T6 := T5.same S6
    refine ⟨v, d, y, d', l6, _, rfl, rfl, T6, rfl, h6, by rw [f6]; decide, R6, fun l7 H7 rs7 S7 e7 R7 h7 => ?_⟩
    have f7 : rs7.length = 19 := e7.trans (by rw [f6] <;> rfl)
    have T7 := T6.same S7
    refine ⟨v, y, rfl, rfl, fun e H8' S8 n8 A8 => ?_⟩
    have T8 := T7.same S8
    refine ⟨_, rfl, e, v, y, d, d', rfl, A8, rfl, rfl, T8.d1, T8.s1, T8.d2, T8.s2, fun t9 H9 S9 Q9 => ⟨(by show 1 ≤ sizeLine; decide), fun l9 hl9 => ?_⟩⟩
    generalize u10 : upd H9 l9 _ = H10 at *
    have S910 : Same H9 H10 := fun b o z => by rw [← u10, upd_ne (ne_of_none z hl9)]; exact z
    have S710 : Same H7 H10 := fun b o z => S910 _ _ (S9 _ _ (S8 _ _ z))
    refine ⟨l7, l9, rs7, _, rfl, rfl, S710 _ _ h7, by rw [← u10]; exact upd_same, by rw [sizeLine_eq, f7]; show 19 + 1 ≤ 16777216; decide, fun l10 hl10 => ?_⟩
    generalize u11 : upd H10 l10 _ = H11 at *
    have S1011 : Same H10 H11 := fun b o z => by rw [← u11, upd_ne (ne_of_none z hl10)]; exact z
    have h11 : H11 l10 = some (.lst (rs7 ++ [V.ref t9])) := by rw [← u11]; exact upd_same
    have S711 : Same H7 H11 := fun b o z => S1011 _ _ (S710 _ _ z)
    have R11 : Ev.Pairs K H11 (rs7 ++ [V.ref t9]) := Ev.Pairs.app (R7.same S711) (fun r m => by
      obtain rfl : r = V.ref t9 := by simpa using m
      exact (Q9.same S910).same S1011)
    refine ⟨y, v, rfl, rfl, fun e' H12 S12 n12 A12 => ?_⟩
    have T12 := (T7.same S711).same S12
    refine ⟨_, rfl, e', y, v, d', d, rfl, A12, rfl, rfl, T12.d2, T12.s2, T12.d1, T12.s1, fun t13 H13 S13 Q13 => ⟨(by show 1 ≤ sizeLine; decide), fun l13 hl13 => ?_⟩⟩
    generalize u14 : upd H13 l13 _ = H14 at *
    have S1314 : Same H13 H14 := fun b o z => by rw [← u14, upd_ne (ne_of_none z hl13)]; exact z
    have S1114 : Same H11 H14 := fun b o z => S1314 _ _ (S13 _ _ (S12 _ _ z))
    refine ⟨l10, l13, _, _, rfl, rfl, S1114 _ _ h11, by rw [← u14]; exact upd_same, by rw [sizeLine_eq, List.length_append, f7]; show 19 + 1 + 1 ≤ 16777216; decide, fun l14 hl14 => ?_⟩
    generalize u15 : upd H14 l14 _ = H15 at *
    have S1415 : Same H14 H15 := fun b o z => by rw [← u15, upd_ne (ne_of_none z hl14)]; exact z
    have h15 : H15 l14 = some (.lst ((rs7 ++ [V.ref t9]) ++ [V.ref t13])) := by rw [← u15]; exact upd_same
    have S1115 : Same H11 H15 := fun b o z => S1415 _ _ (S1114 _ _ z)
    have R15 : Ev.Pairs K H15 ((rs7 ++ [V.ref t9]) ++ [V.ref t13]) := Ev.Pairs.app (R11.same S1115) (fun r m => by
      obtain rfl : r = V.ref t13 := by simpa using m
      exact (Q13.same S1314).same S1415)
    have S015 : Same H H15 := fun b o z => S1115 _ _ (S711 _ _ (S7 _ _ (S6 _ _ (S5 _ _ (S4 _ _ (S3 _ _ (S2 _ _ (S1 _ _ z))))))))
    -- [1 for seen, due in found if ..] == []
    refine ⟨_, rfl, l14, rfl, ⟨_, SqL.of h15⟩, fun D hD => ?_⟩
    generalize hσ : List.set _ 2 (some (V.ref l14)) = σ
    have hlen : σ.length = 6 := by rw [← hσ]; simp only [List.length_set]; rfl
    refine lc_list (K := K) (a := l14) (xs := (rs7 ++ [V.ref t9]) ++ [V.ref t13]) (fun i H' => Same H15 H' ∧ H' D = some (.lst [])) ⟨fun b o z => by rw [upd_ne (ne_of_none z hD)]; exact z, upd_same⟩
      (fun i H' _ h => SqL.of (h.1 _ _ h15)) (fun i x H' hx h => ?_) (fun H' h => ?_)
    · obtain ⟨t, a, b, dd, rfl, ht, ha, hb, G⟩ := (R15 x (List.mem_of_getElem? hx)).same h.1
      have B := blk2 (σ := σ) (i := 4) (j := 5) (a := a) (b := b) (by decide) (by omega) (by omega)
      refine ⟨t, _, rfl, SqT.of ht, rfl, a, [b], rfl, b, [], rfl, rfl, B.2.2, ?_⟩
      refine ⟨_, B.1, a, dd, rfl, ha, G.1, G.2.1, G.2.2, _, B.2.1, b, dd, rfl, hb, G.1, G.2.1, G.2.2, rfl, _, rfl, ?_⟩
      have z : (!decide (V.str dd.shown = V.str dd.shown)) = false := by rw [decide_eq_true rfl]; rfl
      rw [z]
      exact iteF h
    · refine ⟨(by show 0 ≤ sizeLine; decide), fun l hl => ?_⟩
      refine ⟨.list [], .list [], .lst (SqL.of (by rw [upd_ne (ne_of_none h.2 hl)]; exact h.2)) .nil, .lst (SqL.of upd_same) .nil, rfl, rfl, ?_⟩
      exact q _ fun b o z => by rw [upd_ne (ne_of_none (h.1 _ _ (S015 _ _ z)) hl)]; exact h.1 _ _ (S015 _ _ z)
end
end H8
set_option Elab.async false
set_option linter.all false
set_option maxRecDepth 100000
set_option maxHeartbeats 4000000
namespace H8
open PySem PySem.Spec PyProof.Rows L2 Ev
def spLaw (K : PySem.W.Frag) : Sp := fun vs H Q _ => ∃ (a : Addr) (ns : List Int), vs = [.ref a] ∧ SqL K H a (ns.map V.int) ∧ ns.length ≤ 63 ∧ ∀ H', Q (.bl true) H'
/-- what the law's text says -/
structure Txt (P : Program) (w : World) (K : PySem.W.Frag) (mg : Str → Option Value) (base : Heap) (fPen fVal fFst fLst fNmd fMrk fPad : Addr) : Prop where
  er : ErrsT errs K
  gPen : mg "_law_pen" = some (.ref fPen)
  gVal : mg "_law_value" = some (.ref fVal)
  gFst : mg "_law_first_rows" = some (.ref fFst)
  gLst : mg "_law_last_rows" = some (.ref fLst)
  gNmd : mg "_law_named_right" = some (.ref fNmd)
  gMrk : mg "_law_marks" = some (.ref fMrk)
  gPad : mg "PadError" = some (.ref (He.ga K "PadError"))
  Pad : FnR P w K mg base CX0 1 (He.ma K (He.ga K "PadError") "__init__") (spPad K)
  tRng : mg "range" = none
  tLen : mg "len" = none
  tRep : mg "repr" = none
  tIsi : mg "isinstance" = none
  tVE : mg "ValueError" = none
  tKE : mg "KeyError" = none
  tIE : mg "IndexError" = none
  tLE : mg "LookupError" = none
  kNmd : PySem.W.keepIn K (.ref fNmd) = true
  Nmd : FnG P w K mg base CX0 4 fNmd (spNamed K)
theorem dp_bools {K : PySem.W.Frag} {H : Hp} : ∀ bs : List Bool, DpAll K H (bs.map V.bl) (bs.map PyData.bool)
  | [] => .nil
  | b :: bs => .cons (.bl b) (dp_bools bs)
theorem shaped_bools : ∀ bs : List Bool, SeqAt.shaped (.list (bs.map PyData.bool)) = true
  | [] => rfl
  | b :: bs => by
    have ih := shaped_bools bs
    first
      | exact ih
      | (simp [SeqAt.shaped, SeqAt.shapedAll] at ih ⊢; exact ih)
theorem eqv_bools : ∀ bs : List Bool, PyData.eqv (.list (bs.map PyData.bool)) (.list (bs.map PyData.bool)) = true
  | [] => rfl
  | b :: bs => by
    have ih := eqv_bools bs
    simp only [List.map_cons, PyData.eqv, PyData.eqvAll] at ih ⊢
    rw [ih]
    simp
theorem marks_all : ((List.range 23).all fun k => decide ((names.map fun x => decide (names.getD k "" = x)) = (List.range 23).map fun (j : Nat) => decide (V.int ((0 : Int) + (j : Int)) = V.int (0 + (k : Int))))) = true := by decide +kernel
theorem marks_eq {k : Nat} {x : Str} (hk : names[k]? = some x) : (names.map fun y => decide (x = y)) = (List.range 23).map fun (j : Nat) => decide (V.int ((0 : Int) + (j : Int)) = V.int (0 + (k : Int))) := by
  have h : k < 23 := (List.getElem?_eq_some_iff.mp hk).1
  have z := of_decide_eq_true (List.all_eq_true.mp marks_all k (List.mem_range.mpr h))
  have e : names.getD k "" = x := by rw [List.getD_eq_getElem?_getD, hk]; rfl
  rw [e] at z
  exact z
section
variable {P : Program} {w : World} {K : PySem.W.Frag} {mg : Str → Option Value} {base : Heap} {f fPen fVal fFst fLst fNmd fMrk fPad : Addr} {fd dPen dVal dFst dLst dMrk : FuncData}
abbrev NL : List Str := ["_law_script", "_law_pen_here", "_law_turn", "_law_one", "_law_two", "_law_rows", "_law_spot", "_law_error", "_law_seen", "_law_due", "_law_k"]
theorem sc34 : FnScope NL ["_law_script"] (defScope (top 34)) := ⟨rfl, rfl, rfl, by decide +kernel, rfl, by decide +kernel, by decide +kernel⟩
theorem bn1 {x : Str} {i : Nat} {p : Str} {f : Addr} {fd : FuncData} (F : FnL K x i f fd) (h : ∀ (kV doc pm : Value) (an : Option Addr) (cdv ct : Value) (us : List Value), us.length = ([p] : List Str).length →
    bindArgs (PySem.W.fnOf x x (defArgs (top i)) (defBody (top i)) (defScope (top i)) .none kV doc pm an cdv ct) ⟨us, []⟩ = pure (([p] : List Str).zip us)) : Binds K fd [p] [] := FunD.bindsN F h
theorem ok_law (F : FnL K "law" 34 f fd) (T : Txt P w K mg base fPen fVal fFst fLst fNmd fMrk fPad)
    (FPen : FnL K "_law_pen" 26 fPen dPen) (GPen : FnOk P w K mg base CX0 1 fPen dPen ["_law_script"] (spPen K))
    (FVal : FnL K "_law_value" 29 fVal dVal) (GVal : FnOk P w K mg base CX0 3 fVal dVal ["_law_pen_here"] (spVal K))
    (FFst : FnL K "_law_first_rows" 30 fFst dFst) (GFst : FnOk P w K mg base CX0 4 fFst dFst ["_law_one", "_law_two"] (spRows K names1))
    (FLst : FnL K "_law_last_rows" 31 fLst dLst) (GLst : FnOk P w K mg base CX0 4 fLst dLst ["_law_one", "_law_two"] (spRows K names2))
    (FMrk : FnL K "_law_marks" 33 fMrk dMrk) (GMrk : FnOk P w K mg base CX0 1 fMrk dMrk ["_law_error"] (spMarks K names)) : FnG P w K mg base CX0 5 f (spLaw K) := by
  have bPen : Binds K dPen ["_law_script"] [] := FunD.bindsN FPen fun _ _ _ _ _ _ us hl => match us, hl with | [_], _ => rfl
  have bVal : Binds K dVal ["_law_pen_here"] [] := FunD.bindsN FVal fun _ _ _ _ _ _ us hl => match us, hl with | [_], _ => rfl
  have bFst : Binds K dFst ["_law_one", "_law_two"] [] := FunD.bindsN FFst fun _ _ _ _ _ _ us hl => match us, hl with | [_, _], _ => rfl
  have bLst : Binds K dLst ["_law_one", "_law_two"] [] := FunD.bindsN FLst fun _ _ _ _ _ _ us hl => match us, hl with | [_, _], _ => rfl
  have bMrk : Binds K dMrk ["_law_error"] [] := FunD.bindsN FMrk fun _ _ _ _ _ _ us hl => match us, hl with | [_], _ => rfl
  refine okG F sc34 (fun _ _ _ _ _ _ us hl => match us, hl with | [_], _ => rfl) (fun vs H Q E h => ?_) (fun cdv A outer s H vs Q E hg hr h => ?_)
  · obtain ⟨a, ns, rfl, _⟩ := h
    rfl
  · obtain ⟨a, ns, rfl, hS, hn, q⟩ := h
    have hgd : (A.deeper (envOfC "law" (defScope (top 34)) s.heap.objs.size f cdv)).guards = some [] := hg
    have rp : ∀ (X : Cx), X.A.guards = some [] → X.A.units + 64 < cLine → X.K = K → CallR X (.builtin "repr") (rRepr K) := fun X h1 h2 h3 => by
      subst h3
      exact call_repr h1 h2 T.er.sys
    have hr1 : Room 1 _ := hr.mono (by decide)
    have hr3 : Room 3 _ := hr.mono (by decide)
    have hr2 : Room 2 _ := hr.mono (by decide)
    refine ⟨_, PSs.nox (pss_cons (ps_set (i := 1) sc34.nd rfl (Or.inl rfl) (pe_call (E := E0) GPen hr1 (by rfl) T.gPen FPen.kp bPen .nil pass0 (pa_cons (pv 0) pa_nil)))
      (pss_cons (ps_for PassesOwn.never rfl (pi_range1 rfl T.tRng (pa_cons pe_int pa_nil)) (pg_name (i := 2) sc34.nd rfl (Or.inl rfl))
        (pss_cons (ps_par (i := 3) (j := 4) rfl sc34.nd rfl rfl (by decide) rfl rfl (pa_cons (pe_call (E := E0) GVal hr3 (by rfl) T.gVal FVal.kp bVal .nil pass0 (pa_cons (pv 1) pa_nil))
            (pa_cons (pe_call (E := E0) GVal hr3 (by rfl) T.gVal FVal.kp bVal .nil pass0 (pa_cons (pv 1) pa_nil)) pa_nil)) (by rfl))
        (pss_cons (ps_set (i := 5) sc34.nd rfl (Or.inl rfl) (pe_op op_cat (pe_call (E := E0) GFst hr (by rfl) T.gFst FFst.kp bFst .nil pass0 (pa_cons (pv 3) (pa_cons (pv 4) pa_nil)))
            (pe_call (E := E0) GLst hr (by rfl) T.gLst FLst.kp bLst .nil pass0 (pa_cons (pv 3) (pa_cons (pv 4) pa_nil)))))
        (pss_cons (ps_if (pt_not (pt_val (pe_callG (E := E0) T.Nmd hgd hr (by rfl) T.gNmd T.kNmd pass0 (pa_cons (pv 3) (pa_cons (pv 4) pa_nil))))) (pss_one (ps_ret pe_bl)) pss_nil)
        (pss_one (ps_for PassesOwn.never rfl (pi_range1 rfl T.tRng (pa_cons (pe_callB call_len_seq (by rfl) T.tLen PySem.boot_len (pa_cons (pv 5) pa_nil)) pa_nil)) (pg_name (i := 6) sc34.nd rfl (Or.inr rfl))
          (pss_cons (ps_asg (pe_ix ix_list (pv 5) (pv 6) (fun _ _ => rfl)) (pg_tup rfl (pgs_cons (pg_name (i := 7) sc34.nd rfl (Or.inl rfl)) (pgs_cons (pg_name (i := 8) sc34.nd rfl (Or.inl rfl)) (pgs_cons (pg_name (i := 9) sc34.nd rfl (Or.inl rfl)) pgs_nil)))))
          (pss_cons (ps_if (PW.pt (pw_or (pt_cmpR op_ne (pe_callB (id := "repr") (r := rRepr K) (rp _ hgd hr.units rfl) (by rfl) T.tRep (by decide +kernel) (pa_cons (pv 8) pa_nil)) (pe_callB (id := "repr") (r := rRepr K) (rp _ hgd hr.units rfl) (by rfl) T.tRep (by decide +kernel) (pa_cons (pv 9) pa_nil)) (nomark _))
              (pw_or1 (pt_cmpR (op_neD hr.units) (pe_call (E := E0) GMrk hr1 (by rfl) T.gMrk FMrk.kp bMrk .nil pass0 (pa_cons (pv 7) pa_nil))
                (pe_lc (own := [("_law_k", 10)]) (g := gName 10) (tt := tYes) rfl sc34.nd (pi_range1 rfl T.tRng (pa_cons pe_int pa_nil)) (blkOk_by (N := NL) (sc := defScope (top 34)) (by decide +kernel))
                  (fun _ _ _ _ _ => pg_name (i := 10) sc34.nd rfl (Or.inl rfl)) (fun _ _ _ _ _ => pts_nil) (fun _ _ _ _ _ => pe_cmpR op_eq (pv 10) (pv 6) (nomark _))) (nomark _))))) (pss_one (ps_ret pe_bl)) pss_nil)
          (pss_cons (ps_if (PW.pt (pw_or (pt_not (pt_val (pe_callB call_isV (by rfl) T.tIsi (by decide +kernel) (pa_cons (pv 7) (pa_cons (pe_glob (v := .ref (He.ga K "PadError")) (by rfl) T.gPad rfl) pa_nil)))))
              (pw_or1 (pt_not (pt_val (pe_callB call_isV (by rfl) T.tIsi (by decide +kernel) (pa_cons (pv 7) (pa_cons (pe_bltn (v := .ty "ValueError") (by rfl) T.tVE (by decide +kernel) rfl) pa_nil)))))))) (pss_one (ps_ret pe_bl)) pss_nil)
          (pss_one (ps_if (pt_val (pe_callB call_isW (by rfl) T.tIsi (by decide +kernel) (pa_cons (pv 7) (pa_cons (pe_tup (pa_cons (pe_bltn (v := .ty "KeyError") (by rfl) T.tKE (by decide +kernel) rfl)
              (pa_cons (pe_bltn (v := .ty "IndexError") (by rfl) T.tIE (by decide +kernel) rfl) (pa_cons (pe_bltn (v := .ty "LookupError") (by rfl) T.tLE (by decide +kernel) rfl) pa_nil)))) pa_nil)))) (pss_one (ps_ret pe_bl)) pss_nil)))))))))))
      (pss_one (ps_ret (pe_callB call_isV (by rfl) T.tIsi (by decide +kernel) (pa_cons (pe_mk (E := E0) T.er.pad.ox T.er.pad.iC T.er.pad.tI T.Pad hr2 pass0 (by rfl) T.gPad (pa_cons pe_str pa_nil))
        (pa_cons (pe_bltn (v := .ty "ValueError") (by rfl) T.tVE (by decide +kernel) rfl) pa_nil)))))))
      , ?_⟩
    -- pen = _law_pen(script)
    refine ⟨_, rfl, a, ns, rfl, hS, hn, fun p H1 S1 pen1 np => ?_⟩
    -- for turn in range(4)
    refine ⟨4, rfl, by decide, by decide, for_range (lo := 0) (n := 4) (fun i σ H' => ∃ v2 v3 v4 v5 v6 v7 v8 v9 : Option V, σ = [some (.ref a), some (.ref p), v2, v3, v4, v5, v6, v7, v8, v9, none] ∧ PenAt H' p (4 * i))
      ⟨none, none, none, none, none, none, none, none, rfl, pen1⟩ ?_ ?_⟩
    · rintro i σ H2 hi ⟨v2, v3, v4, v5, v6, v7, v8, v9, rfl, pen2⟩
      -- one, two = value(pen), value(pen)
      refine ⟨_, rfl, p, 4 * i, rfl, pen2, by omega, fun one H3 I3 pen3 k3 => ?_⟩
      refine ⟨_, rfl, p, 4 * i + 2, rfl, pen3, by omega, fun two H4 I4 pen4 k4 => ⟨one, two, rfl, ?_⟩⟩
      obtain ⟨d1, D1, s1⟩ := I3.but k4
      obtain ⟨d2, D2, s2⟩ := I4
      have T4 : Two K H4 one d1 two d2 := ⟨D1.same del_same', s1, D2.same del_same', s2⟩
      -- rows
      refine ⟨_, rfl, _, rfl, one, d1, two, d2, rfl, T4, fun l1 H5 rs1 S5 h5 R1 => ?_⟩
      refine ⟨_, rfl, _, rfl, one, d1, two, d2, rfl, T4.same S5, fun l2 H6 rs2 S6 h6 R2 => ?_⟩
      have len : (rs1 ++ rs2).length = 23 := by rw [List.length_append, R1.len, R2.len]; rfl
      refine ⟨l1, l2, rs1, rs2, rfl, rfl, S6 _ _ h5, h6, by rw [← List.length_append, len, sizeLine_eq]; decide, fun l3 hl3 => ?_⟩
      generalize e7 : upd H6 l3 _ = H7 at *
      have S67 : Same H6 H7 := fun b o z => by rw [← e7, upd_ne (ne_of_none z hl3)]; exact z
      have h7 : H7 l3 = some (.lst (rs1 ++ rs2)) := by rw [← e7]; exact upd_same
      have S47 : Same H4 H7 := fun b o z => S67 _ _ (S6 _ _ (S5 _ _ z))
      have R7 : Rows K H7 names (rs1 ++ rs2) := Rows.app ((R1.same S6).same S67) (R2.same S67)
      -- if not named_right(one, two)
      refine ⟨_, rfl, _, rfl, one, d1, two, d2, rfl, T4.same S47, fun H8 S8 => ⟨true, rfl, iteF ?_⟩⟩
      have h8 := S8 _ _ h7
      -- for spot in range(len(rows))
      refine ⟨_, rfl, l3, _, rfl, .inl (SqL.of h8), _, rfl, by omega, by omega, for_range (lo := 0) (n := ((rs1 ++ rs2).length : Int).toNat)
        (fun k σ H' => ∃ v6 v7 v8 v9 : Option V, σ = [some (.ref a), some (.ref p), some (V.int (0 + (i : Int))), some one, some two, some (.ref l3), v6, v7, v8, v9, none] ∧ Same H8 H')
        ⟨v6, v7, v8, v9, rfl, fun b o z => z⟩ ?_ ?_⟩
      · rintro k σ H9 hk ⟨u6, u7, u8, u9, rfl, S9⟩
        have hk2 : k < (rs1 ++ rs2).length := by omega
        obtain ⟨x, hx, RA⟩ := R7.get (List.getElem?_eq_getElem hk2)
        have mx : x ∈ names := List.mem_of_getElem? hx
        obtain ⟨t, e, fs, seen, due, d, er, ht, A7, Da, Db, G⟩ := (RA.same S8).same S9
        have hr9 : atI (rs1 ++ rs2) (0 + (k : Int)) = some (V.ref t) := by
          rw [Int.zero_add, ← er]
          exact atI_nat (List.getElem?_eq_getElem hk2)
        refine ⟨_, rfl, _, rfl, l3, _, _, _, rfl, rfl, SqL.of (S9 _ _ h8), hr9, ?_⟩
        refine ⟨t, _, rfl, SqT.of ht, rfl, _, _, rfl, _, _, rfl, _, _, rfl, rfl, ?_⟩
        obtain ⟨fx, mfx⟩ := names_errs x mx
        have Tx := T.er.one _ mfx
        -- repr(seen) != repr(due)
        refine ⟨_, rfl, seen, d, rfl, Da, G.1, G.2.1, G.2.2, _, rfl, due, d, rfl, Db, G.1, G.2.1, G.2.2, rfl, _, rfl, ?_⟩
        have z : (!decide (V.str d.shown = V.str d.shown)) = false := by rw [decide_eq_true rfl]; rfl
        rw [z]
        refine iteF ?_
        -- marks(error) != [k == spot for k in range(23)]
        refine ⟨_, rfl, e, x, fs, rfl, mx, A7, fun lm H10 S10 hm => ?_⟩
        generalize hσ : List.set _ 9 (some due) = σ
        have l11 : σ.length = 11 := by rw [← hσ]; simp only [List.length_set, List.length_cons, List.length_nil]
        have g6 : σ[6]? = some (some (V.int (0 + (k : Int)))) := by rw [← hσ]; rfl
        have g7 : σ[7]? = some (some (V.ref e)) := by rw [← hσ]; rfl
        have gσ : σ = [some (.ref a), some (.ref p), some (V.int (0 + (i : Int))), some one, some two, some (.ref l3), some (V.int (0 + (k : Int))), some (V.ref e), some seen, some due, none] := by rw [← hσ]; rfl
        refine ⟨23, rfl, by decide, by decide, fun D hD => ?_⟩
        refine lc_range (lo := 0) (n := 23) (fun j H' => Same H10 H' ∧ H' D = some (.lst (((List.range j).map fun (j : Nat) => decide (V.int ((0 : Int) + (j : Int)) = V.int (0 + (k : Int)))).map V.bl)))
          ⟨fun b o z => by rw [upd_ne (ne_of_none z hD)]; exact z, upd_same⟩ (fun j H' hj h => ?_) (fun H' h => ?_)
        · have B := blk1 (σ := σ) (i := 10) (a := V.int (0 + (j : Int))) (by omega)
          refine ⟨B.2.1, ?_⟩
          dsimp only [tYes]
          rw [if_pos rfl]
          refine ⟨_, B.1, _, B.2.2 6 _ (by decide) g6, rfl, _, h.2, by rw [List.length_map, List.length_map, List.length_range, sizeLine_eq]; omega, fun b o z => ?_, ?_⟩
          · rw [upd_ne (ne_of_none z hD)]; exact h.1 _ _ z
          · rw [upd_same, List.range_succ, List.map_append, List.map_append]; rfl
        · have hm2 : SqL K H' lm ((names.map fun y => decide (x = y)).map V.bl) := by
            refine SqL.of ?_
            rw [List.map_map]
            exact h.1 _ _ hm
          refine ⟨_, _, .lst hm2 (dp_bools _), .lst (SqL.of h.2) (dp_bools _), shaped_bools _, shaped_bools _, _, rfl, ?_⟩
          rw [← marks_eq hx, eqv_bools]
          refine iteF ?_
          have S8' : Same H9 H' := fun b o z => h.1 _ _ (S10 _ _ z)
          obtain ⟨dd, pp, a1, a2⟩ := A7.same S8'
          have b1 := Tx.ec
          -- isinstance(error, PadError), isinstance(error, ValueError)
          refine ⟨_, g7, e, _, dd, _, _, .ref (He.ga K "PadError"), true, rfl, b1, a1, a2, (fun u r => r), T.er.under _ mfx, true, rfl, iteF ?_⟩
          refine ⟨_, g7, e, _, dd, _, .ty "ValueError", .type "ValueError", true, rfl, b1, a1, a2, (fun u r => r), T.er.val _ mfx, true, rfl, iteF ?_⟩
          -- isinstance(error, (KeyError, IndexError, LookupError))
          refine ⟨_, g7, (by show 3 ≤ sizeLine; decide), fun tp htp => ?_⟩
          refine ⟨e, _, dd, tp, _, _, [.type "KeyError", .type "IndexError", .type "LookupError"], false, rfl, b1, by rw [upd_ne (ne_of_none a1 htp)]; exact a1, by rw [upd_ne (ne_of_none a2 htp)]; exact a2, SqT.of upd_same, ?_, T.er.look _ mfx, false, rfl, iteF ?_⟩
          · intro us r
            cases r with
            | cons r1 r => cases r with
              | cons r2 r => cases r with
                | cons r3 r =>
                  cases r
                  cases r1
                  cases r2
                  cases r3
                  rfl
          · exact ⟨_, _, _, _, gσ, fun b o z => by
              have z9 := S8' _ _ (S9 _ _ z)
              rw [upd_ne (ne_of_none z9 htp)]; exact z9⟩
      · rintro σ H9 ⟨u6, u7, u8, u9, rfl, S9⟩
        exact ⟨_, _, _, _, _, _, _, _, rfl, ((pen4.same S47).same S8).same S9⟩
    · rintro σ H2 ⟨v2, v3, v4, v5, v6, v7, v8, v9, rfl, pen2⟩
      -- return isinstance(PadError('x'), ValueError)
      refine ⟨(by show 1 ≤ 1000; decide), fun e he => ?_⟩
      refine ⟨e, He.ga K "PadError", [.str "x"], rfl, T.er.pad.ox, T.er.pad.no _ (by simp), upd_same, (by show 1 ≤ 900; decide), fun pp d hp hd dp da => ⟨rfl, ?_⟩⟩
      refine ⟨e, He.ga K "PadError", d, _, .ty "ValueError", .type "ValueError", true, rfl, T.er.pad.ec, upd_same, by rw [upd_ne da, upd_same], (fun u r => r), T.er.padV, ?_⟩
      exact q _
end
end H8
set_option Elab.async false
set_option linter.all false
set_option maxRecDepth 100000
set_option maxHeartbeats 4000000
namespace H8
open PySem PySem.Spec PyProof.Rows L2 Ev
section
variable {P : Program} {w : World} {K : PySem.W.Frag} {mg : Str → Option Value} {base : Heap} {f f0 C0 : Addr} {fd : FuncData}
theorem cls_2 (F : FnI K "BadName" 2 (He.ma K (He.ga K "BadName") "__init__") fd) (gP : mg "PadError" = some (.ref C0)) (O : OffT K C0 f0) (GP : FnR P w K mg base CX0 1 f0 (spPad K))
    (g : mg "BadName" = some (.ref (He.ga K "BadName"))) (T : ErrT K (He.ga K "BadName") (He.ma K (He.ga K "BadName") "__init__") ["told", "name"]) : ErrCls P w K mg base "BadName" ["name"] := by
  have FO := ok_2 (P := P) (w := w) (base := base) F gP O GP T
  refine ⟨g, T, FnR.imp (FO.raw (FunD.bindsN F fun _ _ _ _ _ _ us hl => match us, hl with | [_, _], _ => rfl) .nil) (fun vs H Q E h => by rw [List.append_nil]; exact h), _, _, FO, fun s a ws hl => ?_⟩
  obtain ⟨oc, od, dV, kV, doc, pm, an, cdv, ct, osl, rfl, lk, hcd, hD, hK⟩ := F.ex
  rcases hD with ⟨_, rfl⟩ | ⟨e, _⟩
  · obtain ⟨u, rfl⟩ : ∃ u, ws = [u] := match ws, hl with | [u], _ => ⟨u, rfl⟩
    exact BindsTo.of_eq rfl
  · exact absurd rfl e
theorem cls_3 (F : FnI K "BadTimes" 3 (He.ma K (He.ga K "BadTimes") "__init__") fd) (gP : mg "PadError" = some (.ref C0)) (O : OffT K C0 f0) (GP : FnR P w K mg base CX0 1 f0 (spPad K))
    (g : mg "BadTimes" = some (.ref (He.ga K "BadTimes"))) (T : ErrT K (He.ga K "BadTimes") (He.ma K (He.ga K "BadTimes") "__init__") ["told", "value"]) : ErrCls P w K mg base "BadTimes" ["value"] := by
  have FO := ok_3 (P := P) (w := w) (base := base) F gP O GP T
  refine ⟨g, T, FnR.imp (FO.raw (FunD.bindsN F fun _ _ _ _ _ _ us hl => match us, hl with | [_, _], _ => rfl) .nil) (fun vs H Q E h => by rw [List.append_nil]; exact h), _, _, FO, fun s a ws hl => ?_⟩
  obtain ⟨oc, od, dV, kV, doc, pm, an, cdv, ct, osl, rfl, lk, hcd, hD, hK⟩ := F.ex
  rcases hD with ⟨_, rfl⟩ | ⟨e, _⟩
  · obtain ⟨u, rfl⟩ : ∃ u, ws = [u] := match ws, hl with | [u], _ => ⟨u, rfl⟩
    exact BindsTo.of_eq rfl
  · exact absurd rfl e
theorem cls_4 (F : FnI K "BadParts" 4 (He.ma K (He.ga K "BadParts") "__init__") fd) (gP : mg "PadError" = some (.ref C0)) (O : OffT K C0 f0) (GP : FnR P w K mg base CX0 1 f0 (spPad K))
    (g : mg "BadParts" = some (.ref (He.ga K "BadParts"))) (T : ErrT K (He.ga K "BadParts") (He.ma K (He.ga K "BadParts") "__init__") ["told", "at"]) : ErrCls P w K mg base "BadParts" ["at"] := by
  have FO := ok_4 (P := P) (w := w) (base := base) F gP O GP T
  refine ⟨g, T, FnR.imp (FO.raw (FunD.bindsN F fun _ _ _ _ _ _ us hl => match us, hl with | [_, _], _ => rfl) .nil) (fun vs H Q E h => by rw [List.append_nil]; exact h), _, _, FO, fun s a ws hl => ?_⟩
  obtain ⟨oc, od, dV, kV, doc, pm, an, cdv, ct, osl, rfl, lk, hcd, hD, hK⟩ := F.ex
  rcases hD with ⟨_, rfl⟩ | ⟨e, _⟩
  · obtain ⟨u, rfl⟩ : ∃ u, ws = [u] := match ws, hl with | [u], _ => ⟨u, rfl⟩
    exact BindsTo.of_eq rfl
  · exact absurd rfl e
theorem cls_5 (F : FnI K "NoPath" 5 (He.ma K (He.ga K "NoPath") "__init__") fd) (gP : mg "PadError" = some (.ref C0)) (O : OffT K C0 f0) (GP : FnR P w K mg base CX0 1 f0 (spPad K))
    (g : mg "NoPath" = some (.ref (He.ga K "NoPath"))) (T : ErrT K (He.ga K "NoPath") (He.ma K (He.ga K "NoPath") "__init__") ["told", "path", "at"]) : ErrCls P w K mg base "NoPath" ["path", "at"] := by
  have FO := ok_5 (P := P) (w := w) (base := base) F gP O GP T
  refine ⟨g, T, FnR.imp (FO.raw (FunD.bindsN F fun _ _ _ _ _ _ us hl => match us, hl with | [_, _, _], _ => rfl) .nil) (fun vs H Q E h => by rw [List.append_nil]; exact h), _, _, FO, fun s a ws hl => ?_⟩
  obtain ⟨oc, od, dV, kV, doc, pm, an, cdv, ct, osl, rfl, lk, hcd, hD, hK⟩ := F.ex
  rcases hD with ⟨_, rfl⟩ | ⟨e, _⟩
  · obtain ⟨u, z, rfl⟩ : ∃ u z, ws = [u, z] := match ws, hl with | [u, z], _ => ⟨u, z, rfl⟩
    exact BindsTo.of_eq rfl
  · exact absurd rfl e
theorem cls_6 (F : FnI K "NoName" 6 (He.ma K (He.ga K "NoName") "__init__") fd) (gP : mg "PadError" = some (.ref C0)) (O : OffT K C0 f0) (GP : FnR P w K mg base CX0 1 f0 (spPad K))
    (g : mg "NoName" = some (.ref (He.ga K "NoName"))) (T : ErrT K (He.ga K "NoName") (He.ma K (He.ga K "NoName") "__init__") ["told", "name"]) : ErrCls P w K mg base "NoName" ["name"] := by
  have FO := ok_6 (P := P) (w := w) (base := base) F gP O GP T
  refine ⟨g, T, FnR.imp (FO.raw (FunD.bindsN F fun _ _ _ _ _ _ us hl => match us, hl with | [_, _], _ => rfl) .nil) (fun vs H Q E h => by rw [List.append_nil]; exact h), _, _, FO, fun s a ws hl => ?_⟩
  obtain ⟨oc, od, dV, kV, doc, pm, an, cdv, ct, osl, rfl, lk, hcd, hD, hK⟩ := F.ex
  rcases hD with ⟨_, rfl⟩ | ⟨e, _⟩
  · obtain ⟨u, rfl⟩ : ∃ u, ws = [u] := match ws, hl with | [u], _ => ⟨u, rfl⟩
    exact BindsTo.of_eq rfl
  · exact absurd rfl e
theorem cls_7 (F : FnI K "Taken" 7 (He.ma K (He.ga K "Taken") "__init__") fd) (gP : mg "PadError" = some (.ref C0)) (O : OffT K C0 f0) (GP : FnR P w K mg base CX0 1 f0 (spPad K))
    (g : mg "Taken" = some (.ref (He.ga K "Taken"))) (T : ErrT K (He.ga K "Taken") (He.ma K (He.ga K "Taken") "__init__") ["told", "name"]) : ErrCls P w K mg base "Taken" ["name"] := by
  have FO := ok_7 (P := P) (w := w) (base := base) F gP O GP T
  refine ⟨g, T, FnR.imp (FO.raw (FunD.bindsN F fun _ _ _ _ _ _ us hl => match us, hl with | [_, _], _ => rfl) .nil) (fun vs H Q E h => by rw [List.append_nil]; exact h), _, _, FO, fun s a ws hl => ?_⟩
  obtain ⟨oc, od, dV, kV, doc, pm, an, cdv, ct, osl, rfl, lk, hcd, hD, hK⟩ := F.ex
  rcases hD with ⟨_, rfl⟩ | ⟨e, _⟩
  · obtain ⟨u, rfl⟩ : ∃ u, ws = [u] := match ws, hl with | [u], _ => ⟨u, rfl⟩
    exact BindsTo.of_eq rfl
  · exact absurd rfl e
theorem cls_8 (F : FnI K "Ring" 8 (He.ma K (He.ga K "Ring") "__init__") fd) (gP : mg "PadError" = some (.ref C0)) (O : OffT K C0 f0) (GP : FnR P w K mg base CX0 1 f0 (spPad K))
    (g : mg "Ring" = some (.ref (He.ga K "Ring"))) (T : ErrT K (He.ga K "Ring") (He.ma K (He.ga K "Ring") "__init__") ["told", "way"]) : ErrCls P w K mg base "Ring" ["way"] := by
  have FO := ok_8 (P := P) (w := w) (base := base) F gP O GP T
  refine ⟨g, T, FnR.imp (FO.raw (FunD.bindsN F fun _ _ _ _ _ _ us hl => match us, hl with | [_, _], _ => rfl) .nil) (fun vs H Q E h => by rw [List.append_nil]; exact h), _, _, FO, fun s a ws hl => ?_⟩
  obtain ⟨oc, od, dV, kV, doc, pm, an, cdv, ct, osl, rfl, lk, hcd, hD, hK⟩ := F.ex
  rcases hD with ⟨_, rfl⟩ | ⟨e, _⟩
  · obtain ⟨u, rfl⟩ : ∃ u, ws = [u] := match ws, hl with | [u], _ => ⟨u, rfl⟩
    exact BindsTo.of_eq rfl
  · exact absurd rfl e
theorem cls_9 (F : FnI K "InUse" 9 (He.ma K (He.ga K "InUse") "__init__") fd) (gP : mg "PadError" = some (.ref C0)) (O : OffT K C0 f0) (GP : FnR P w K mg base CX0 1 f0 (spPad K))
    (g : mg "InUse" = some (.ref (He.ga K "InUse"))) (T : ErrT K (He.ga K "InUse") (He.ma K (He.ga K "InUse") "__init__") ["told", "name"]) : ErrCls P w K mg base "InUse" ["name"] := by
  have FO := ok_9 (P := P) (w := w) (base := base) F gP O GP T
  refine ⟨g, T, FnR.imp (FO.raw (FunD.bindsN F fun _ _ _ _ _ _ us hl => match us, hl with | [_, _], _ => rfl) .nil) (fun vs H Q E h => by rw [List.append_nil]; exact h), _, _, FO, fun s a ws hl => ?_⟩
  obtain ⟨oc, od, dV, kV, doc, pm, an, cdv, ct, osl, rfl, lk, hcd, hD, hK⟩ := F.ex
  rcases hD with ⟨_, rfl⟩ | ⟨e, _⟩
  · obtain ⟨u, rfl⟩ : ∃ u, ws = [u] := match ws, hl with | [u], _ => ⟨u, rfl⟩
    exact BindsTo.of_eq rfl
  · exact absurd rfl e
theorem cls_10 (F : FnI K "Unresolved" 10 (He.ma K (He.ga K "Unresolved") "__init__") fd) (gP : mg "PadError" = some (.ref C0)) (O : OffT K C0 f0) (GP : FnR P w K mg base CX0 1 f0 (spPad K))
    (g : mg "Unresolved" = some (.ref (He.ga K "Unresolved"))) (T : ErrT K (He.ga K "Unresolved") (He.ma K (He.ga K "Unresolved") "__init__") ["told", "name"]) : ErrCls P w K mg base "Unresolved" ["name"] := by
  have FO := ok_10 (P := P) (w := w) (base := base) F gP O GP T
  refine ⟨g, T, FnR.imp (FO.raw (FunD.bindsN F fun _ _ _ _ _ _ us hl => match us, hl with | [_, _], _ => rfl) .nil) (fun vs H Q E h => by rw [List.append_nil]; exact h), _, _, FO, fun s a ws hl => ?_⟩
  obtain ⟨oc, od, dV, kV, doc, pm, an, cdv, ct, osl, rfl, lk, hcd, hD, hK⟩ := F.ex
  rcases hD with ⟨_, rfl⟩ | ⟨e, _⟩
  · obtain ⟨u, rfl⟩ : ∃ u, ws = [u] := match ws, hl with | [u], _ => ⟨u, rfl⟩
    exact BindsTo.of_eq rfl
  · exact absurd rfl e
theorem cls_11 (F : FnI K "NoMachine" 11 (He.ma K (He.ga K "NoMachine") "__init__") fd) (gP : mg "PadError" = some (.ref C0)) (O : OffT K C0 f0) (GP : FnR P w K mg base CX0 1 f0 (spPad K))
    (g : mg "NoMachine" = some (.ref (He.ga K "NoMachine"))) (T : ErrT K (He.ga K "NoMachine") (He.ma K (He.ga K "NoMachine") "__init__") ["told", "scale"]) : ErrCls P w K mg base "NoMachine" ["scale"] := by
  have FO := ok_11 (P := P) (w := w) (base := base) F gP O GP T
  refine ⟨g, T, FnR.imp (FO.raw (FunD.bindsN F fun _ _ _ _ _ _ us hl => match us, hl with | [_, _], _ => rfl) .nil) (fun vs H Q E h => by rw [List.append_nil]; exact h), _, _, FO, fun s a ws hl => ?_⟩
  obtain ⟨oc, od, dV, kV, doc, pm, an, cdv, ct, osl, rfl, lk, hcd, hD, hK⟩ := F.ex
  rcases hD with ⟨_, rfl⟩ | ⟨e, _⟩
  · obtain ⟨u, rfl⟩ : ∃ u, ws = [u] := match ws, hl with | [u], _ => ⟨u, rfl⟩
    exact BindsTo.of_eq rfl
  · exact absurd rfl e
theorem cls_12 (F : FnI K "BadValue" 12 (He.ma K (He.ga K "BadValue") "__init__") fd) (gP : mg "PadError" = some (.ref C0)) (O : OffT K C0 f0) (GP : FnR P w K mg base CX0 1 f0 (spPad K))
    (g : mg "BadValue" = some (.ref (He.ga K "BadValue"))) (T : ErrT K (He.ga K "BadValue") (He.ma K (He.ga K "BadValue") "__init__") ["told", "path"]) : ErrCls P w K mg base "BadValue" ["path"] := by
  have FO := ok_12 (P := P) (w := w) (base := base) F gP O GP T
  refine ⟨g, T, FnR.imp (FO.raw (FunD.bindsN F fun _ _ _ _ _ _ us hl => match us, hl with | [_, _], _ => rfl) .nil) (fun vs H Q E h => by rw [List.append_nil]; exact h), _, _, FO, fun s a ws hl => ?_⟩
  obtain ⟨oc, od, dV, kV, doc, pm, an, cdv, ct, osl, rfl, lk, hcd, hD, hK⟩ := F.ex
  rcases hD with ⟨_, rfl⟩ | ⟨e, _⟩
  · obtain ⟨u, rfl⟩ : ∃ u, ws = [u] := match ws, hl with | [u], _ => ⟨u, rfl⟩
    exact BindsTo.of_eq rfl
  · exact absurd rfl e
theorem cls_13 (F : FnI K "TooLarge" 13 (He.ma K (He.ga K "TooLarge") "__init__") fd) (gP : mg "PadError" = some (.ref C0)) (O : OffT K C0 f0) (GP : FnR P w K mg base CX0 1 f0 (spPad K))
    (g : mg "TooLarge" = some (.ref (He.ga K "TooLarge"))) (T : ErrT K (He.ga K "TooLarge") (He.ma K (He.ga K "TooLarge") "__init__") ["told", "what", "most"]) : ErrCls P w K mg base "TooLarge" ["what", "most"] := by
  have FO := ok_13 (P := P) (w := w) (base := base) F gP O GP T
  refine ⟨g, T, FnR.imp (FO.raw (FunD.bindsN F fun _ _ _ _ _ _ us hl => match us, hl with | [_, _, _], _ => rfl) .nil) (fun vs H Q E h => by rw [List.append_nil]; exact h), _, _, FO, fun s a ws hl => ?_⟩
  obtain ⟨oc, od, dV, kV, doc, pm, an, cdv, ct, osl, rfl, lk, hcd, hD, hK⟩ := F.ex
  rcases hD with ⟨_, rfl⟩ | ⟨e, _⟩
  · obtain ⟨u, z, rfl⟩ : ∃ u z, ws = [u, z] := match ws, hl with | [u, z], _ => ⟨u, z, rfl⟩
    exact BindsTo.of_eq rfl
  · exact absurd rfl e
theorem cls_14 (F : FnI K "NoScale" 14 (He.ma K (He.ga K "NoScale") "__init__") fd) (gP : mg "PadError" = some (.ref C0)) (O : OffT K C0 f0) (GP : FnR P w K mg base CX0 1 f0 (spPad K))
    (g : mg "NoScale" = some (.ref (He.ga K "NoScale"))) (T : ErrT K (He.ga K "NoScale") (He.ma K (He.ga K "NoScale") "__init__") ["told", "scale"]) : ErrCls P w K mg base "NoScale" ["scale"] := by
  have FO := ok_14 (P := P) (w := w) (base := base) F gP O GP T
  refine ⟨g, T, FnR.imp (FO.raw (FunD.bindsN F fun _ _ _ _ _ _ us hl => match us, hl with | [_, _], _ => rfl) .nil) (fun vs H Q E h => by rw [List.append_nil]; exact h), _, _, FO, fun s a ws hl => ?_⟩
  obtain ⟨oc, od, dV, kV, doc, pm, an, cdv, ct, osl, rfl, lk, hcd, hD, hK⟩ := F.ex
  rcases hD with ⟨_, rfl⟩ | ⟨e, _⟩
  · obtain ⟨u, rfl⟩ : ∃ u, ws = [u] := match ws, hl with | [u], _ => ⟨u, rfl⟩
    exact BindsTo.of_eq rfl
  · exact absurd rfl e
theorem cls_15 (F : FnI K "BadBound" 15 (He.ma K (He.ga K "BadBound") "__init__") fd) (gP : mg "PadError" = some (.ref C0)) (O : OffT K C0 f0) (GP : FnR P w K mg base CX0 1 f0 (spPad K))
    (g : mg "BadBound" = some (.ref (He.ga K "BadBound"))) (T : ErrT K (He.ga K "BadBound") (He.ma K (He.ga K "BadBound") "__init__") ["told", "value"]) : ErrCls P w K mg base "BadBound" ["value"] := by
  have FO := ok_15 (P := P) (w := w) (base := base) F gP O GP T
  refine ⟨g, T, FnR.imp (FO.raw (FunD.bindsN F fun _ _ _ _ _ _ us hl => match us, hl with | [_, _], _ => rfl) .nil) (fun vs H Q E h => by rw [List.append_nil]; exact h), _, _, FO, fun s a ws hl => ?_⟩
  obtain ⟨oc, od, dV, kV, doc, pm, an, cdv, ct, osl, rfl, lk, hcd, hD, hK⟩ := F.ex
  rcases hD with ⟨_, rfl⟩ | ⟨e, _⟩
  · obtain ⟨u, rfl⟩ : ∃ u, ws = [u] := match ws, hl with | [u], _ => ⟨u, rfl⟩
    exact BindsTo.of_eq rfl
  · exact absurd rfl e
theorem cls_16 (F : FnI K "NoTerm" 16 (He.ma K (He.ga K "NoTerm") "__init__") fd) (gP : mg "PadError" = some (.ref C0)) (O : OffT K C0 f0) (GP : FnR P w K mg base CX0 1 f0 (spPad K))
    (g : mg "NoTerm" = some (.ref (He.ga K "NoTerm"))) (T : ErrT K (He.ga K "NoTerm") (He.ma K (He.ga K "NoTerm") "__init__") ["told", "at"]) : ErrCls P w K mg base "NoTerm" ["at"] := by
  have FO := ok_16 (P := P) (w := w) (base := base) F gP O GP T
  refine ⟨g, T, FnR.imp (FO.raw (FunD.bindsN F fun _ _ _ _ _ _ us hl => match us, hl with | [_, _], _ => rfl) .nil) (fun vs H Q E h => by rw [List.append_nil]; exact h), _, _, FO, fun s a ws hl => ?_⟩
  obtain ⟨oc, od, dV, kV, doc, pm, an, cdv, ct, osl, rfl, lk, hcd, hD, hK⟩ := F.ex
  rcases hD with ⟨_, rfl⟩ | ⟨e, _⟩
  · obtain ⟨u, rfl⟩ : ∃ u, ws = [u] := match ws, hl with | [u], _ => ⟨u, rfl⟩
    exact BindsTo.of_eq rfl
  · exact absurd rfl e
theorem cls_17 (F : FnI K "NoClaim" 17 (He.ma K (He.ga K "NoClaim") "__init__") fd) (gP : mg "PadError" = some (.ref C0)) (O : OffT K C0 f0) (GP : FnR P w K mg base CX0 1 f0 (spPad K))
    (g : mg "NoClaim" = some (.ref (He.ga K "NoClaim"))) (T : ErrT K (He.ga K "NoClaim") (He.ma K (He.ga K "NoClaim") "__init__") ["told", "at"]) : ErrCls P w K mg base "NoClaim" ["at"] := by
  have FO := ok_17 (P := P) (w := w) (base := base) F gP O GP T
  refine ⟨g, T, FnR.imp (FO.raw (FunD.bindsN F fun _ _ _ _ _ _ us hl => match us, hl with | [_, _], _ => rfl) .nil) (fun vs H Q E h => by rw [List.append_nil]; exact h), _, _, FO, fun s a ws hl => ?_⟩
  obtain ⟨oc, od, dV, kV, doc, pm, an, cdv, ct, osl, rfl, lk, hcd, hD, hK⟩ := F.ex
  rcases hD with ⟨_, rfl⟩ | ⟨e, _⟩
  · obtain ⟨u, rfl⟩ : ∃ u, ws = [u] := match ws, hl with | [u], _ => ⟨u, rfl⟩
    exact BindsTo.of_eq rfl
  · exact absurd rfl e
theorem cls_18 (F : FnI K "NotRecord" 18 (He.ma K (He.ga K "NotRecord") "__init__") fd) (gP : mg "PadError" = some (.ref C0)) (O : OffT K C0 f0) (GP : FnR P w K mg base CX0 1 f0 (spPad K))
    (g : mg "NotRecord" = some (.ref (He.ga K "NotRecord"))) (T : ErrT K (He.ga K "NotRecord") (He.ma K (He.ga K "NotRecord") "__init__") ["told", "name"]) : ErrCls P w K mg base "NotRecord" ["name"] := by
  have FO := ok_18 (P := P) (w := w) (base := base) F gP O GP T
  refine ⟨g, T, FnR.imp (FO.raw (FunD.bindsN F fun _ _ _ _ _ _ us hl => match us, hl with | [_, _], _ => rfl) .nil) (fun vs H Q E h => by rw [List.append_nil]; exact h), _, _, FO, fun s a ws hl => ?_⟩
  obtain ⟨oc, od, dV, kV, doc, pm, an, cdv, ct, osl, rfl, lk, hcd, hD, hK⟩ := F.ex
  rcases hD with ⟨_, rfl⟩ | ⟨e, _⟩
  · obtain ⟨u, rfl⟩ : ∃ u, ws = [u] := match ws, hl with | [u], _ => ⟨u, rfl⟩
    exact BindsTo.of_eq rfl
  · exact absurd rfl e
theorem cls_19 (F : FnI K "Barred" 19 (He.ma K (He.ga K "Barred") "__init__") fd) (gP : mg "PadError" = some (.ref C0)) (O : OffT K C0 f0) (GP : FnR P w K mg base CX0 1 f0 (spPad K))
    (g : mg "Barred" = some (.ref (He.ga K "Barred"))) (T : ErrT K (He.ga K "Barred") (He.ma K (He.ga K "Barred") "__init__") ["told"]) : ErrCls P w K mg base "Barred" [] := by
  have FO := ok_19 (P := P) (w := w) (base := base) F gP O GP T
  refine ⟨g, T, FnR.imp (FO.raw (FunD.bindsN F fun _ _ _ _ _ _ us hl => match us, hl with | [_], _ => rfl) .nil) (fun vs H Q E h => by rw [List.append_nil]; exact h), _, _, FO, fun s a ws hl => ?_⟩
  obtain ⟨oc, od, dV, kV, doc, pm, an, cdv, ct, osl, rfl, lk, hcd, hD, hK⟩ := F.ex
  rcases hD with ⟨_, rfl⟩ | ⟨e, _⟩
  · obtain rfl : ws = [] := match ws, hl with | [], _ => rfl
    exact BindsTo.of_eq rfl
  · exact absurd rfl e
theorem cls_20 (F : FnI K "Endless" 20 (He.ma K (He.ga K "Endless") "__init__") fd) (gP : mg "PadError" = some (.ref C0)) (O : OffT K C0 f0) (GP : FnR P w K mg base CX0 1 f0 (spPad K))
    (g : mg "Endless" = some (.ref (He.ga K "Endless"))) (T : ErrT K (He.ga K "Endless") (He.ma K (He.ga K "Endless") "__init__") ["told", "scale"]) : ErrCls P w K mg base "Endless" ["scale"] := by
  have FO := ok_20 (P := P) (w := w) (base := base) F gP O GP T
  refine ⟨g, T, FnR.imp (FO.raw (FunD.bindsN F fun _ _ _ _ _ _ us hl => match us, hl with | [_, _], _ => rfl) .nil) (fun vs H Q E h => by rw [List.append_nil]; exact h), _, _, FO, fun s a ws hl => ?_⟩
  obtain ⟨oc, od, dV, kV, doc, pm, an, cdv, ct, osl, rfl, lk, hcd, hD, hK⟩ := F.ex
  rcases hD with ⟨_, rfl⟩ | ⟨e, _⟩
  · obtain ⟨u, rfl⟩ : ∃ u, ws = [u] := match ws, hl with | [u], _ => ⟨u, rfl⟩
    exact BindsTo.of_eq rfl
  · exact absurd rfl e
theorem cls_21 (F : FnI K "NoOffer" 21 (He.ma K (He.ga K "NoOffer") "__init__") fd) (gP : mg "PadError" = some (.ref C0)) (O : OffT K C0 f0) (GP : FnR P w K mg base CX0 1 f0 (spPad K))
    (g : mg "NoOffer" = some (.ref (He.ga K "NoOffer"))) (T : ErrT K (He.ga K "NoOffer") (He.ma K (He.ga K "NoOffer") "__init__") ["told", "at"]) : ErrCls P w K mg base "NoOffer" ["at"] := by
  have FO := ok_21 (P := P) (w := w) (base := base) F gP O GP T
  refine ⟨g, T, FnR.imp (FO.raw (FunD.bindsN F fun _ _ _ _ _ _ us hl => match us, hl with | [_, _], _ => rfl) .nil) (fun vs H Q E h => by rw [List.append_nil]; exact h), _, _, FO, fun s a ws hl => ?_⟩
  obtain ⟨oc, od, dV, kV, doc, pm, an, cdv, ct, osl, rfl, lk, hcd, hD, hK⟩ := F.ex
  rcases hD with ⟨_, rfl⟩ | ⟨e, _⟩
  · obtain ⟨u, rfl⟩ : ∃ u, ws = [u] := match ws, hl with | [u], _ => ⟨u, rfl⟩
    exact BindsTo.of_eq rfl
  · exact absurd rfl e
theorem cls_22 (F : FnI K "NoOrder" 22 (He.ma K (He.ga K "NoOrder") "__init__") fd) (gP : mg "PadError" = some (.ref C0)) (O : OffT K C0 f0) (GP : FnR P w K mg base CX0 1 f0 (spPad K))
    (g : mg "NoOrder" = some (.ref (He.ga K "NoOrder"))) (T : ErrT K (He.ga K "NoOrder") (He.ma K (He.ga K "NoOrder") "__init__") ["told", "at"]) : ErrCls P w K mg base "NoOrder" ["at"] := by
  have FO := ok_22 (P := P) (w := w) (base := base) F gP O GP T
  refine ⟨g, T, FnR.imp (FO.raw (FunD.bindsN F fun _ _ _ _ _ _ us hl => match us, hl with | [_, _], _ => rfl) .nil) (fun vs H Q E h => by rw [List.append_nil]; exact h), _, _, FO, fun s a ws hl => ?_⟩
  obtain ⟨oc, od, dV, kV, doc, pm, an, cdv, ct, osl, rfl, lk, hcd, hD, hK⟩ := F.ex
  rcases hD with ⟨_, rfl⟩ | ⟨e, _⟩
  · obtain ⟨u, rfl⟩ : ∃ u, ws = [u] := match ws, hl with | [u], _ => ⟨u, rfl⟩
    exact BindsTo.of_eq rfl
  · exact absurd rfl e
theorem cls_23 (F : FnI K "BadText" 23 (He.ma K (He.ga K "BadText") "__init__") fd) (gP : mg "PadError" = some (.ref C0)) (O : OffT K C0 f0) (GP : FnR P w K mg base CX0 1 f0 (spPad K))
    (g : mg "BadText" = some (.ref (He.ga K "BadText"))) (T : ErrT K (He.ga K "BadText") (He.ma K (He.ga K "BadText") "__init__") ["told", "at"]) : ErrCls P w K mg base "BadText" ["at"] := by
  have FO := ok_23 (P := P) (w := w) (base := base) F gP O GP T
  refine ⟨g, T, FnR.imp (FO.raw (FunD.bindsN F fun _ _ _ _ _ _ us hl => match us, hl with | [_, _], _ => rfl) .nil) (fun vs H Q E h => by rw [List.append_nil]; exact h), _, _, FO, fun s a ws hl => ?_⟩
  obtain ⟨oc, od, dV, kV, doc, pm, an, cdv, ct, osl, rfl, lk, hcd, hD, hK⟩ := F.ex
  rcases hD with ⟨_, rfl⟩ | ⟨e, _⟩
  · obtain ⟨u, rfl⟩ : ∃ u, ws = [u] := match ws, hl with | [u], _ => ⟨u, rfl⟩
    exact BindsTo.of_eq rfl
  · exact absurd rfl e
theorem cls_24 (F : FnI K "NoLine" 24 (He.ma K (He.ga K "NoLine") "__init__") fd) (gP : mg "PadError" = some (.ref C0)) (O : OffT K C0 f0) (GP : FnR P w K mg base CX0 1 f0 (spPad K))
    (g : mg "NoLine" = some (.ref (He.ga K "NoLine"))) (T : ErrT K (He.ga K "NoLine") (He.ma K (He.ga K "NoLine") "__init__") ["told"]) : ErrCls P w K mg base "NoLine" [] := by
  have FO := ok_24 (P := P) (w := w) (base := base) F gP O GP T
  refine ⟨g, T, FnR.imp (FO.raw (FunD.bindsN F fun _ _ _ _ _ _ us hl => match us, hl with | [_], _ => rfl) .nil) (fun vs H Q E h => by rw [List.append_nil]; exact h), _, _, FO, fun s a ws hl => ?_⟩
  obtain ⟨oc, od, dV, kV, doc, pm, an, cdv, ct, osl, rfl, lk, hcd, hD, hK⟩ := F.ex
  rcases hD with ⟨_, rfl⟩ | ⟨e, _⟩
  · obtain rfl : ws = [] := match ws, hl with | [], _ => rfl
    exact BindsTo.of_eq rfl
  · exact absurd rfl e
theorem mem_fa {y : He.Fa} (h : y ∈ fa) {K : PySem.W.Frag} (c : He.SaysD fa fn K) : y.ok K = true := by
  obtain ⟨i, hi, e⟩ := List.mem_iff_getElem.mp h
  exact c.fact i (f := y) (by rw [List.getElem?_eq_getElem hi, e])
theorem facts {h : Heap} (X : K.In h) (G : h.Ns mainGlobals mg) (hfa : mg "law" = some (.ref f)) (c : He.SaysD fa fn K) (er : Ev.errsB errs K = true) (base : Heap) : FnG P w K mg base CX0 5 f (spLaw K) := by
  have E := errsB_ok er
  have g_PadError : mg "PadError" = some (.ref (He.ga K "PadError")) := He.glo_ok X G (c.fact 0 (f := .glo "PadError") rfl)
  have g_BadName : mg "BadName" = some (.ref (He.ga K "BadName")) := He.glo_ok X G (c.fact 1 (f := .glo "BadName") rfl)
  have g_BadTimes : mg "BadTimes" = some (.ref (He.ga K "BadTimes")) := He.glo_ok X G (c.fact 2 (f := .glo "BadTimes") rfl)
  have g_BadParts : mg "BadParts" = some (.ref (He.ga K "BadParts")) := He.glo_ok X G (c.fact 3 (f := .glo "BadParts") rfl)
  have g_NoPath : mg "NoPath" = some (.ref (He.ga K "NoPath")) := He.glo_ok X G (c.fact 4 (f := .glo "NoPath") rfl)
  have g_NoName : mg "NoName" = some (.ref (He.ga K "NoName")) := He.glo_ok X G (c.fact 5 (f := .glo "NoName") rfl)
  have g_Taken : mg "Taken" = some (.ref (He.ga K "Taken")) := He.glo_ok X G (c.fact 6 (f := .glo "Taken") rfl)
  have g_Ring : mg "Ring" = some (.ref (He.ga K "Ring")) := He.glo_ok X G (c.fact 7 (f := .glo "Ring") rfl)
  have g_InUse : mg "InUse" = some (.ref (He.ga K "InUse")) := He.glo_ok X G (c.fact 8 (f := .glo "InUse") rfl)
  have g_Unresolved : mg "Unresolved" = some (.ref (He.ga K "Unresolved")) := He.glo_ok X G (c.fact 9 (f := .glo "Unresolved") rfl)
  have g_NoMachine : mg "NoMachine" = some (.ref (He.ga K "NoMachine")) := He.glo_ok X G (c.fact 10 (f := .glo "NoMachine") rfl)
  have g_BadValue : mg "BadValue" = some (.ref (He.ga K "BadValue")) := He.glo_ok X G (c.fact 11 (f := .glo "BadValue") rfl)
  have g_TooLarge : mg "TooLarge" = some (.ref (He.ga K "TooLarge")) := He.glo_ok X G (c.fact 12 (f := .glo "TooLarge") rfl)
  have g_NoScale : mg "NoScale" = some (.ref (He.ga K "NoScale")) := He.glo_ok X G (c.fact 13 (f := .glo "NoScale") rfl)
  have g_BadBound : mg "BadBound" = some (.ref (He.ga K "BadBound")) := He.glo_ok X G (c.fact 14 (f := .glo "BadBound") rfl)
  have g_NoTerm : mg "NoTerm" = some (.ref (He.ga K "NoTerm")) := He.glo_ok X G (c.fact 15 (f := .glo "NoTerm") rfl)
  have g_NoClaim : mg "NoClaim" = some (.ref (He.ga K "NoClaim")) := He.glo_ok X G (c.fact 16 (f := .glo "NoClaim") rfl)
  have g_NotRecord : mg "NotRecord" = some (.ref (He.ga K "NotRecord")) := He.glo_ok X G (c.fact 17 (f := .glo "NotRecord") rfl)
  have g_Barred : mg "Barred" = some (.ref (He.ga K "Barred")) := He.glo_ok X G (c.fact 18 (f := .glo "Barred") rfl)
  have g_Endless : mg "Endless" = some (.ref (He.ga K "Endless")) := He.glo_ok X G (c.fact 19 (f := .glo "Endless") rfl)
  have g_NoOffer : mg "NoOffer" = some (.ref (He.ga K "NoOffer")) := He.glo_ok X G (c.fact 20 (f := .glo "NoOffer") rfl)
  have g_NoOrder : mg "NoOrder" = some (.ref (He.ga K "NoOrder")) := He.glo_ok X G (c.fact 21 (f := .glo "NoOrder") rfl)
  have g_BadText : mg "BadText" = some (.ref (He.ga K "BadText")) := He.glo_ok X G (c.fact 22 (f := .glo "BadText") rfl)
  have g_NoLine : mg "NoLine" = some (.ref (He.ga K "NoLine")) := He.glo_ok X G (c.fact 23 (f := .glo "NoLine") rfl)
  have g__law_pen : mg "_law_pen" = some (.ref (He.ga K "_law_pen")) := He.glo_ok X G (c.fact 24 (f := .glo "_law_pen") rfl)
  have g__law_draw : mg "_law_draw" = some (.ref (He.ga K "_law_draw")) := He.glo_ok X G (c.fact 25 (f := .glo "_law_draw") rfl)
  have g__law_pick : mg "_law_pick" = some (.ref (He.ga K "_law_pick")) := He.glo_ok X G (c.fact 26 (f := .glo "_law_pick") rfl)
  have g__law_value : mg "_law_value" = some (.ref (He.ga K "_law_value")) := He.glo_ok X G (c.fact 27 (f := .glo "_law_value") rfl)
  have g__law_first_rows : mg "_law_first_rows" = some (.ref (He.ga K "_law_first_rows")) := He.glo_ok X G (c.fact 28 (f := .glo "_law_first_rows") rfl)
  have g__law_last_rows : mg "_law_last_rows" = some (.ref (He.ga K "_law_last_rows")) := He.glo_ok X G (c.fact 29 (f := .glo "_law_last_rows") rfl)
  have g__law_named_right : mg "_law_named_right" = some (.ref (He.ga K "_law_named_right")) := He.glo_ok X G (c.fact 30 (f := .glo "_law_named_right") rfl)
  have g__law_marks : mg "_law_marks" = some (.ref (He.ga K "_law_marks")) := He.glo_ok X G (c.fact 31 (f := .glo "_law_marks") rfl)
  have g_law : mg "law" = some (.ref (He.ga K "law")) := He.glo_ok X G (c.fact 32 (f := .glo "law") rfl)
  have t_int : mg "int" = none := He.free_ok X G (c.fact 33 (f := .free "int") rfl)
  have t_len : mg "len" = none := He.free_ok X G (c.fact 34 (f := .free "len") rfl)
  have t_abs : mg "abs" = none := He.free_ok X G (c.fact 35 (f := .free "abs") rfl)
  have t_range : mg "range" = none := He.free_ok X G (c.fact 36 (f := .free "range") rfl)
  have t_list : mg "list" = none := He.free_ok X G (c.fact 37 (f := .free "list") rfl)
  have t_repr : mg "repr" = none := He.free_ok X G (c.fact 38 (f := .free "repr") rfl)
  have t_isinstance : mg "isinstance" = none := He.free_ok X G (c.fact 39 (f := .free "isinstance") rfl)
  have t_ValueError : mg "ValueError" = none := He.free_ok X G (c.fact 40 (f := .free "ValueError") rfl)
  have t_KeyError : mg "KeyError" = none := He.free_ok X G (c.fact 41 (f := .free "KeyError") rfl)
  have t_IndexError : mg "IndexError" = none := He.free_ok X G (c.fact 42 (f := .free "IndexError") rfl)
  have t_LookupError : mg "LookupError" = none := He.free_ok X G (c.fact 43 (f := .free "LookupError") rfl)
  obtain ⟨d_PadError, F_PadError⟩ := c.def_ 0 (d := mkD "PadError" 1) rfl
  obtain ⟨d_BadName, F_BadName⟩ := c.def_ 1 (d := mkD "BadName" 2) rfl
  obtain ⟨d_BadTimes, F_BadTimes⟩ := c.def_ 2 (d := mkD "BadTimes" 3) rfl
  obtain ⟨d_BadParts, F_BadParts⟩ := c.def_ 3 (d := mkD "BadParts" 4) rfl
  obtain ⟨d_NoPath, F_NoPath⟩ := c.def_ 4 (d := mkD "NoPath" 5) rfl
  obtain ⟨d_NoName, F_NoName⟩ := c.def_ 5 (d := mkD "NoName" 6) rfl
  obtain ⟨d_Taken, F_Taken⟩ := c.def_ 6 (d := mkD "Taken" 7) rfl
  obtain ⟨d_Ring, F_Ring⟩ := c.def_ 7 (d := mkD "Ring" 8) rfl
  obtain ⟨d_InUse, F_InUse⟩ := c.def_ 8 (d := mkD "InUse" 9) rfl
  obtain ⟨d_Unresolved, F_Unresolved⟩ := c.def_ 9 (d := mkD "Unresolved" 10) rfl
  obtain ⟨d_NoMachine, F_NoMachine⟩ := c.def_ 10 (d := mkD "NoMachine" 11) rfl
  obtain ⟨d_BadValue, F_BadValue⟩ := c.def_ 11 (d := mkD "BadValue" 12) rfl
  obtain ⟨d_TooLarge, F_TooLarge⟩ := c.def_ 12 (d := mkD "TooLarge" 13) rfl
  obtain ⟨d_NoScale, F_NoScale⟩ := c.def_ 13 (d := mkD "NoScale" 14) rfl
  obtain ⟨d_BadBound, F_BadBound⟩ := c.def_ 14 (d := mkD "BadBound" 15) rfl
  obtain ⟨d_NoTerm, F_NoTerm⟩ := c.def_ 15 (d := mkD "NoTerm" 16) rfl
  obtain ⟨d_NoClaim, F_NoClaim⟩ := c.def_ 16 (d := mkD "NoClaim" 17) rfl
  obtain ⟨d_NotRecord, F_NotRecord⟩ := c.def_ 17 (d := mkD "NotRecord" 18) rfl
  obtain ⟨d_Barred, F_Barred⟩ := c.def_ 18 (d := mkD "Barred" 19) rfl
  obtain ⟨d_Endless, F_Endless⟩ := c.def_ 19 (d := mkD "Endless" 20) rfl
  obtain ⟨d_NoOffer, F_NoOffer⟩ := c.def_ 20 (d := mkD "NoOffer" 21) rfl
  obtain ⟨d_NoOrder, F_NoOrder⟩ := c.def_ 21 (d := mkD "NoOrder" 22) rfl
  obtain ⟨d_BadText, F_BadText⟩ := c.def_ 22 (d := mkD "BadText" 23) rfl
  obtain ⟨d_NoLine, F_NoLine⟩ := c.def_ 23 (d := mkD "NoLine" 24) rfl
  obtain ⟨d__law_pen, F__law_pen⟩ := c.def_ 24 (d := fnD "_law_pen" 26) rfl
  obtain ⟨d__law_draw, F__law_draw⟩ := c.def_ 25 (d := fnD "_law_draw" 27) rfl
  obtain ⟨d__law_pick, F__law_pick⟩ := c.def_ 26 (d := fnD "_law_pick" 28) rfl
  obtain ⟨d__law_value, F__law_value⟩ := c.def_ 27 (d := fnD "_law_value" 29) rfl
  obtain ⟨d__law_first_rows, F__law_first_rows⟩ := c.def_ 28 (d := fnD "_law_first_rows" 30) rfl
  obtain ⟨d__law_last_rows, F__law_last_rows⟩ := c.def_ 29 (d := fnD "_law_last_rows" 31) rfl
  obtain ⟨d__law_named_right, F__law_named_right⟩ := c.def_ 30 (d := fnD "_law_named_right" 32) rfl
  obtain ⟨d__law_marks, F__law_marks⟩ := c.def_ 31 (d := fnD "_law_marks" 33) rfl
  obtain ⟨d_law, F_law⟩ := c.def_ 32 (d := fnD "law" 34) rfl
  have GP : FnR P w K mg base CX0 1 (He.ma K (He.ga K "PadError") "__init__") (spPad K) := ok_pad F_PadError
  have cl : ∀ x fs, (x, fs) ∈ errs → ErrCls P w K mg base x fs := by
    intro x fs hm
    have T := E.one (x, fs) hm
    simp only [errs, List.mem_cons, List.not_mem_nil, or_false, Prod.mk.injEq] at hm
    rcases hm with ⟨rfl, rfl⟩ | ⟨rfl, rfl⟩ | ⟨rfl, rfl⟩ | ⟨rfl, rfl⟩ | ⟨rfl, rfl⟩ | ⟨rfl, rfl⟩ | ⟨rfl, rfl⟩ | ⟨rfl, rfl⟩ | ⟨rfl, rfl⟩ | ⟨rfl, rfl⟩ | ⟨rfl, rfl⟩ | ⟨rfl, rfl⟩ | ⟨rfl, rfl⟩ | ⟨rfl, rfl⟩ | ⟨rfl, rfl⟩ | ⟨rfl, rfl⟩ | ⟨rfl, rfl⟩ | ⟨rfl, rfl⟩ | ⟨rfl, rfl⟩ | ⟨rfl, rfl⟩ | ⟨rfl, rfl⟩ | ⟨rfl, rfl⟩ | ⟨rfl, rfl⟩
    · exact cls_2 F_BadName g_PadError E.off GP g_BadName T
    · exact cls_3 F_BadTimes g_PadError E.off GP g_BadTimes T
    · exact cls_4 F_BadParts g_PadError E.off GP g_BadParts T
    · exact cls_5 F_NoPath g_PadError E.off GP g_NoPath T
    · exact cls_6 F_NoName g_PadError E.off GP g_NoName T
    · exact cls_7 F_Taken g_PadError E.off GP g_Taken T
    · exact cls_8 F_Ring g_PadError E.off GP g_Ring T
    · exact cls_9 F_InUse g_PadError E.off GP g_InUse T
    · exact cls_10 F_Unresolved g_PadError E.off GP g_Unresolved T
    · exact cls_11 F_NoMachine g_PadError E.off GP g_NoMachine T
    · exact cls_12 F_BadValue g_PadError E.off GP g_BadValue T
    · exact cls_13 F_TooLarge g_PadError E.off GP g_TooLarge T
    · exact cls_14 F_NoScale g_PadError E.off GP g_NoScale T
    · exact cls_15 F_BadBound g_PadError E.off GP g_BadBound T
    · exact cls_16 F_NoTerm g_PadError E.off GP g_NoTerm T
    · exact cls_17 F_NoClaim g_PadError E.off GP g_NoClaim T
    · exact cls_18 F_NotRecord g_PadError E.off GP g_NotRecord T
    · exact cls_19 F_Barred g_PadError E.off GP g_Barred T
    · exact cls_20 F_Endless g_PadError E.off GP g_Endless T
    · exact cls_21 F_NoOffer g_PadError E.off GP g_NoOffer T
    · exact cls_22 F_NoOrder g_PadError E.off GP g_NoOrder T
    · exact cls_23 F_BadText g_PadError E.off GP g_BadText T
    · exact cls_24 F_NoLine g_PadError E.off GP g_NoLine T
  have gn : ∀ x ∈ names, mg x = some (.ref (He.ga K x)) := fun x hx => by
    obtain ⟨fs, hm⟩ := names_errs x hx
    exact (cl x fs hm).g
  have GD := ok_draw (P := P) (w := w) (base := base) F__law_draw t_int t_len t_abs
  have GK := ok_pick (P := P) (w := w) (base := base) F__law_pick t_len g__law_draw F__law_draw GD
  have GV := ok_value (P := P) (w := w) (base := base) F__law_value g__law_draw F__law_draw GD g__law_pick F__law_pick GK
  have e := hfa.symm.trans g_law
  cases e
  exact ok_law F_law
    { er := E, gPen := g__law_pen, gVal := g__law_value, gFst := g__law_first_rows, gLst := g__law_last_rows, gNmd := g__law_named_right, gMrk := g__law_marks, gPad := g_PadError, Pad := GP,
      tRng := t_range, tLen := t_len, tRep := t_repr, tIsi := t_isinstance, tVE := t_ValueError, tKE := t_KeyError, tIE := t_IndexError, tLE := t_LookupError, kNmd := F__law_named_right.kp,
      Nmd := ok_named F__law_named_right E.sys t_repr cl }
    (fPad := 0) F__law_pen (ok_pen F__law_pen t_list) F__law_value GV F__law_first_rows (ok_first F__law_first_rows cl) F__law_last_rows (ok_last F__law_last_rows cl) F__law_marks (ok_marks F__law_marks E t_isinstance gn)
end
end H8
open PySem PySem.W PySem.Calls PyProof.Rows
set_option maxRecDepth 100000 in
set_option maxHeartbeats 0 in
theorem PySem.Challenge.cw_anypads_k08_errors_of_all_classes_holds : PySem.Challenge.rw_anypads_k08_errors_of_all_classes.Holds := by
  w_on; o_law
  refine HandSHeadRun.head_any (r := H8.R) (q := view H8.R.prog [34]) (H := H8.hk) (ob := H8.ob) (M := 8000) (loose := H8.loose) (d := HandSHeadRun.topDef H8.R.prog 34) (kwd := []) H8.ob_eq
    (by kernel_rfl) (fun s => by kernel_rfl) H8.run (by kernel_rfl) (by kernel_rfl) (by kernel_rfl) (by rfl) (by first | assumption | decide +kernel) (by decide +kernel) ⟨rfl, rfl, rfl, rfl, rfl, by decide +kernel⟩ ?hw ?hc
  case hw => w_witness2
  case hc =>
    refine Ev.walk_ofG (l := PySem.Challenge.rw_anypads_k08_errors_of_all_classes) (n := 63) (k := 5) (CX := L2.CX0) rfl (by decide) (by kernel_rfl) ⟨rfl, by decide, by decide⟩ ?F (fun _ _ _ _ z => z)
    intro w mg fa h Y G hmg0
    obtain ⟨K, KX, c, er⟩ := Y
    have hmg : mg ("law" : PySem.Str) = some (.ref fa) := by
      have e : (HandSHeadRun.topDef H8.R.prog 34).name = ("law" : PySem.Str) := by kernel_rfl
      rw [← e]
      exact hmg0
    exact ⟨K, H8.spLaw K, KX, fun H a ns hl _ hS => ⟨a, ns, rfl, hS, hl, fun _ => rfl⟩, fun base _ _ => H8.facts KX G hmg c er base⟩
