import PyProof.Rows.All
import Wide.All
import OpenK.AllK
import Wide.FinOn
import HandS.ForMost
import HandS.ForExc
import HandS.ExcInit
import HandS.ExcIs
import HandS.Star
import HandS.ClsMeth
import HandS.More
import HandS.RaiseMore
import HandS.Defaults
import HandS.Head0
import HandS.Head1
import HandS.Head2
import HandS.HeadEnd
import HandS.HeadHook1
import HandS.HeadHook2
import HandS.MakeKw
import HandS.TryOnly
import HandS.ExcField
import HandS.Lambda
import HandS.EndTab
import HandS.HeadHook4
import HandS.IsInst
import KE.KTypeName
import KE.DataMinMax
import HandS.SortKw
import HandS.SlotsOwn
import HandS.ForSpec
import HandS.Walk
import HandS.FStr
import HandS.Text
import HandS.WordsExc
import KE.KCallOwn
import PyProof.Rows.StrFit
import PyProof.Rows.NestShow
import HandS.MakeKwOnly
import PySem.Challenge.RW_anypads_k01_kinds_bytes_and_uses_made
set_option Elab.async false
set_option linter.all false
set_option maxRecDepth 100000
set_option maxHeartbeats 4000000
/-! Errors as values: own exception classes whose own __init__ calls that of a base off its class. -/
namespace Ev
open PySem PySem.Spec PyProof.Rows L2

section
variable {X : Cx} {pins : List (Addr × Obj)} {σ : L2.St} {H H1 : Hp} {s : Shared} {C fI : Addr} {CX : CXT} {k : Nat} {sp : Sp} {E : XK} {Q : VK}
/-- the class at C is called: the new error stays tracked -/
theorem run_mk {us : List Value} {vs : List V} (T : OexC X.K C)
    (iC : PySem.W.findIn X.K (.ref C) "__init__" = some (some (.ref fI)))
    (tI : PySem.W.typeIn X.K (.ref fI) = some (.type "function"))
    (FR : FnR X.prog X.w X.K X.mg X.base CX k fI sp) (hr : Room (k + 1) X.A) (hx : Passes CX X E)
    (I1 : Inv X pins σ H1 s) (r1 : Vals vs us) (hz : vs.length ≤ 1000)
    (q1 : ∀ a, H1 a = none → sp (.ref a :: vs) (upd H1 a (exo a C none)) (fun v H2 => v = .non ∧ Q (.ref a) H2) E) :
    wpAny (model X.prog X.w) X.A (call (.ref C) us) (EP X pins σ Q) X.xe s := by
  obtain ⟨x1, x2, x3, x4, x5, x6, x7, x8, x9, x10, x11, y0, y1, y2, y3, hC, hbm⟩ := T.cls
  obtain ⟨hp, g, dr, tk, os⟩ := s
  have hs1 : hp.objs.size ≤ hp.objs.size + 1 := Nat.le_succ _
  have hn : H1 (hp.objs.size + 1) = none := I1.hok.fresh hs1
  have hq := q1 (hp.objs.size + 1) hn
  have up : ∀ b o, hp.get? b = some o →
      ((hp.push (PySem.W.kdv_tup us)).push (PySem.HandSPX.excO C hp.objs.size)).get? b = some o :=
    fun b o e => Heap.get?_push_of_some _ (Heap.get?_push_of_some _ e)
  have here : ((hp.push (PySem.W.kdv_tup us)).push (PySem.HandSPX.excO C hp.objs.size)).get? (hp.objs.size + 1)
      = some (PySem.HandSPX.excO C hp.objs.size) := by heap_get
  have I2 : Inv X pins σ (upd H1 (hp.objs.size + 1) (exo (hp.objs.size + 1) C none))
      ⟨(hp.push (PySem.W.kdv_tup us)).push (PySem.HandSPX.excO C hp.objs.size), g, dr, tk, os⟩ :=
    I1.laid (t' := tk) (a := hp.objs.size + 1) (o := exo (hp.objs.size + 1) C none)
      (h' := (hp.push (PySem.W.kdv_tup us)).push (PySem.HandSPX.excO C hp.objs.size)) up hs1 (exo_ok here)
  have r2 : Vals (V.ref (hp.objs.size + 1) :: vs) (Value.ref (hp.objs.size + 1) :: us) := .cons rfl r1
  have hus : us.length ≤ sizeLine := by
    rw [← Paired.length r1, sizeLine_eq]; omega
  refine wpAny_call (PySem.HandSPX.call_own PySem.F.excBase_ValueError (fun Y => PySem.HandSPX.refsVE_contains Y x5 hbm)
    (I1.kIn _ _ hC) (PySem.W.looks_findIn I1.kIn iC) (fun self => PySem.W.bind_fn I1.kIn self tI) hus
    (codeAny_mono (FR _ X.stack _ _ (Value.ref (hp.objs.size + 1) :: us) _ _ E (hr.make C us [])
      (I2.env0.make C us []) r2 hq) fun r s' z => ?_))
  cases r with
  | error er => exact hx pins σ _ _ er s' I2 z
  | ok fl =>
    cases fl with
    | ret u =>
      obtain ⟨v, H', I3, rv, ev, q3⟩ := I2.after z
      subst ev
      exact ⟨rv, V.ref (hp.objs.size + 1), H', I3, rfl, q3⟩
    | next => exact False.elim z
    | brk => exact False.elim z
    | cont => exact False.elim z
end

/-- C(e, ..) as a value -/
def tMk (C : Addr) (sp : Sp) (E : XK) (ta : TA) : TE := fun σ H Q => ta σ H fun vs H1 => vs.length ≤ 1000 ∧
  ∀ a, H1 a = none → sp (.ref a :: vs) (upd H1 a (exo a C none)) (fun v H2 => v = .non ∧ Q (.ref a) H2) E
/-- o.m(e, ..), o a class of one's own, m a def of it -/
def tOff (C0 : Addr) (sp : Sp) (E : XK) (to : TE) (ta : TA) : TE := fun σ H Q => to σ H fun x H1 => x = .ref C0 ∧
  ta σ H1 fun vs H2 => sp vs H2 Q E
section
variable {X : Cx} {CX : CXT} {k : Nat} {C C0 fI f0 : Addr} {mc : Value} {sp : Sp} {E : XK} {x m : Str} {o e : Expr} {es : List Expr}
  {p pos apos : Pos} {to : TE} {ta : TA} {pl : Sem Bool}
theorem pe_mk (T : OexC X.K C) (iC : PySem.W.findIn X.K (.ref C) "__init__" = some (some (.ref fI)))
    (tI : PySem.W.typeIn X.K (.ref fI) = some (.type "function")) (FR : FnR X.prog X.w X.K X.mg X.base CX k fI sp)
    (hr : Room (k + 1) X.A) (hx : Passes CX X E) (hg : Gl X x) (hm : X.mg x = some (.ref C)) (ha : PA X (e :: es) ta)
    (hdb : (x == ("__debug__" : Str)) = false := by decide)
    (he : starEach (e :: es) X.env = (false, eval e X.env) :: starEach es X.env := by rfl)
    (hpl : (backTo pos (starEach es X.env)).any (·.1) = false := by rfl) :
    PE X (.Call (.Name x p) (e :: es) [] pos) (tMk C sp E ta) := by
  refine ⟨fun pins s σ H Q I h => wpAny_Call_Name_kw (ld_glob I hg hm ?_ hdb)⟩
  refine PySem.W.callWith_K (h₀ := X.base) I.ok.mod.kin T.kC
    (thn (ha.run pos pins s σ H _ I h) fun us s1 ⟨vs, H1, I1, r1, hz, q1⟩ => ⟨I1.kIn, ?_⟩) he hpl
  exact run_mk T iC tI FR hr hx I1 r1 hz q1
theorem pe_mk0 (T : OexC X.K C) (iC : PySem.W.findIn X.K (.ref C) "__init__" = some (some (.ref fI)))
    (tI : PySem.W.typeIn X.K (.ref fI) = some (.type "function")) (FR : FnR X.prog X.w X.K X.mg X.base CX k fI sp)
    (hr : Room (k + 1) X.A) (hx : Passes CX X E) (hg : Gl X x) (hm : X.mg x = some (.ref C))
    (hdb : (x == ("__debug__" : Str)) = false := by decide) :
    PE X (.Call (.Name x p) [] [] pos) (tMk C sp E tNil) := by
  refine ⟨fun pins s σ H Q I h => wpAny_Call_Name_kw (ld_glob I hg hm ?_ hdb)⟩
  exact PySem.W.callWith_K0 I.kIn T.kC (run_mk (us := []) T iC tI FR hr hx I .nil h.1 h.2)
theorem pe_off (he : PE X o to) (r : ClX.CRead X.K C0 mc) (hf : PySem.W.findCls X.K (.ref C0) mc m = some (.val (.ref f0)))
    (FR : FnR X.prog X.w X.K X.mg X.base CX k f0 sp) (hr : Room k X.A) (kf : PySem.W.keepIn X.K (.ref f0) = true)
    (hx : Passes CX X E) (ha : PA X (e :: es) ta)
    (hst : starEach (e :: es) X.env = (false, eval e X.env) :: starEach es X.env := by rfl)
    (hpl : (backTo pos (starEach es X.env)).any (·.1) = false := by rfl)
    (ht : eval (.Call (.Attribute o m apos) (e :: es) [] pos) X.env = (eval o X.env >>= fun ov => standAt apos.atName >>= fun _ =>
      holding [ov] (getMethod ov m pl) >>= fun q => callWith pos q.1 q.2 (backTo pos (starEach (e :: es) X.env))
        (backToKw pos (keywordEach [] X.env))) := by rfl) :
    PE X (.Call (.Attribute o m apos) (e :: es) [] pos) (tOff C0 sp E to ta) := by
  refine ⟨fun pins s σ H Q I h => PySem.W.methodCall_KW (pl := pl)
    (thn (he.run pins s σ H _ I h) fun u s1 ⟨y, H1, I1, ry, ey, q⟩ => ?_) ht⟩
  subst ey
  obtain rfl : u = Value.ref C0 := ry
  refine PySem.W.method_cls I1.kIn r.ga (PySem.W.cls_value I1.kIn r.rd hf rfl ?_)
  refine PySem.W.callWith_K (first := []) (h₀ := X.base) I1.ok.mod.kin kf
    (thn (ha.run pos pins _ σ H1 _ (I1.tok _) q) fun us s2 ⟨vs, H2, I2, rv, q2⟩ => ⟨I2.kIn, ?_⟩) hst hpl
  exact wpAny_call (run_fnR FR hr hx I2 rv q2)
end
end Ev
set_option Elab.async false
set_option linter.all false
set_option maxRecDepth 100000
set_option maxHeartbeats 4000000
/-! Errors as values, further: a field read off an error, isinstance of one, repr of data. -/
namespace Ev
open PySem PySem.Spec PyProof.Rows L2
/-! ### where an error and its dict stand -/
section
variable {P : Program} {w : World} {H : Hp} {h : Heap} {a C d : Addr} {fs : List (Str × V)}
theorem err_inst (hok : HOk P w H h) (ea : H a = some (exo a C (some d))) (ed : H d = some (exd d fs)) :
    ∃ (oe od : Obj) (mA : Str → Option Value), PySem.W.InstAt h a oe C (some od) ∧ (∀ y, PySem.W.lookIn y od = some (mA y)) ∧ ∀ f, RelO (fs.lookup f) (mA f) := by
  obtain ⟨t0, ho⟩ := exo_at hok ea
  obtain ⟨mA, hns, rel⟩ := exd_at hok ed
  obtain ⟨od, hd, hl⟩ := lookIn_ns hns
  exact ⟨_, od, mA, ⟨ho, rfl, rfl, hd⟩, hl, rel⟩
end
/-! ### e.f -/
def tErr (K : PySem.W.Frag) (ta : TE) (f : Str) : TE := fun σ H Q => ta σ H fun x H1 => ∃ (a C d : Addr) (fs : List (Str × V)) (v : V), x = .ref a ∧
  ExcC K C ∧ PySem.W.findIn K (.ref C) f = some none ∧ H1 a = some (exo a C (some d)) ∧ H1 d = some (exd d fs) ∧ fs.lookup f = some v ∧ Q v H1
section
variable {X : Cx} {e : Expr} {te : TE} {f : Str} {pos : Pos}
theorem pe_err (he : PE X e te) (hb : attributeBase e f X.env (eval e X.env) = eval e X.env := by rfl) : PE X (.Attribute e f pos) (tErr X.K te f) := by
  refine ⟨fun pins s σ H Q I h => attr_of hb (thn (he.run pins s σ H _ I h) fun u s1 z => ?_)⟩
  obtain ⟨x, H1, I1, rx, a, C, d, fs, v, ex, T, no, ea, ed, l, q⟩ := z
  subst ex
  obtain rfl : u = Value.ref a := rx
  obtain ⟨oe, od, mA, J, hl, rel⟩ := err_inst I1.hok ea ed
  obtain ⟨u, hu, ru⟩ := RelO.some_of (v := v) (o := mA f) (by rw [← l]; exact rel f)
  exact PySem.HandSPX.exc_get I1.kIn J T.hg T.hk T.hs (PySem.W.findObj_own T.hd no rfl (by rw [hl, hu])) (handed_of ru) ⟨v, H1, I1.tok _, ru, q⟩
end
/-! ### isinstance(e, C) -/
section
open PySem.W
variable {prog : Program} {w : World} {A : Around} {E : Value → Shared → Prop} {s : Shared} {K : Frag} {x D : Addr} {ox : Obj} {od : Option Obj}
theorem find_cls (c : ExcC K D) : findObj K D od "__class__" = some (.bind (.builtin "getset_descriptor.__get__") (.builtin "object.__class__")) := by
  obtain ⟨cd, hc, _⟩ := any_some c.hd
  have h1 := c.ha; have h2 := c.hn; have h3 := c.ht
  unfold findObj
  rw [hc, Option.bind_some, h1, Option.bind_some]
  simp [h2, h3]
theorem cls_read {Q : Option Value → Shared → Prop} (c : ExcC K D) (X : K.In s.heap) (I : PySem.W.InstAt s.heap x ox D od)
    (h : Q (some (.ref D)) { s with toks := s.toks + 1 }) : wpAny (model prog w) A (getAttr? (.ref x) "__class__") Q E s := by
  obtain ⟨hp, g, dr, tk, os⟩ := s
  have z0 := I.type (M := model prog w)
  have z1 := looks_findIn (M := model prog w) X c.hg
  have z2 := looks_findIn (M := model prog w) X c.hk
  have z3 := looks_find (M := model prog w) X I (find_cls c)
  have sb : Looks (model prog w) hp (isInstance (.ref x) (.type "BaseException")) true := z0.andThen (looks_subIn X c.hs)
  have n0 : (false && onTheHeap (Value.builtin "BaseException.__getattribute__")) = false := rfl
  have n2 : (Value.builtin "BaseException.__getattribute__" == Value.builtin "object.__getattribute__") = false := by decide +kernel
  have n1 : (onTheHeap (Value.ref D) && Value.builtin "BaseException.__getattribute__" == Value.builtin "object.__getattribute__") = false := by
    rw [n2]; rfl
  unfold getAttr? getAttrBy? getAttrBy
  refine wpAny_bind (wpAny_mkText (wpAny_bind (wpAny_attempt (wpAny_holding (wpAny_bind (z0.at (wpAny_bind (z1.at ?_))))))))
  show wpAny _ _ (if (onTheHeap (Value.ref D) && Value.builtin "BaseException.__getattribute__" == Value.builtin "object.__getattribute__") = true then _ else _) _ _ _
  rw [n1, if_neg Bool.false_ne_true]
  unfold getAttrByItsOwn hookBefore
  refine wpAny_bind ?_
  rw [if_pos (show onTheHeap (Value.ref D) = true from rfl)]
  refine z2.at (wpAny_bind (wpAny_attempt (wpAny_holding ?_)))
  unfold callGetattribute
  rw [n0, if_neg Bool.false_ne_true]
  unfold boundAndCalled
  rw [PySem.F.excAttr_ValueError.ga.bind (.ref x)]
  refine wpAny_bind (wpAny_pure ?_)
  show wpAny _ _ (call (.builtin "BaseException.__getattribute__") [.ref x, .str "__class__" tk]) _ _ _
  refine wpAny_call (codeAny_call_builtin PySem.F.excAttr_ValueError.ga.plain PySem.F.entry_bexc_ga
    (@check_slot (model prog w) _ _ ⟨hp, g, dr, tk + 1, os⟩ "BaseException.__getattribute__" "BaseException" "__getattribute__" (.ref x) [.str "__class__" tk] [] _
      (by decide +kernel) (by decide +kernel) sb (PySem.F.args_bexc_ga (.ref x) (.str "__class__" tk)) ?_))
  unfold Builtin.«object.__getattribute__»
  refine wpAny_bind (wpAny_of_eq (a := ((Value.ref x : Value), [Value.str "__class__" tk])) (by first | rfl | (simp only [slotArgs]; rfl)) ?_)
  refine wpAny_bind (wpAny_pure (wpAny_bind (z0.at (wpAny_bind (z3.at ?_)))))
  show wpAny _ _ (holding [Value.builtin "object.__class__"] (call (.builtin "getset_descriptor.__get__") [.builtin "object.__class__", .ref x, .ref D]) >>= ret) _ _ _
  refine wpAny_bind (wpAny_holding (wpAny_call (class_get (s := ⟨hp, g, dr, tk + 1, os⟩) (ox := ox) (od := od) X I c.hm (wpAny_pure ?_))))
  show wpAny _ _ (handedOut (.ref D)) _ _ _
  rw [handedOut_of (v := .ref D) rfl]
  first
    | exact wpAny_pure (wpAny_pure h)
    | exact wpAny_pure h
    | exact wpAny_pure (wpAny_bind (wpAny_pure (wpAny_pure h)))
theorem kit_err (c : ExcC K D) : KitX K (.ref x) (.ref D) (fun h => PySem.W.InstAt h x ox D od) := by
  have k : ∃ c' d' cd' sl', K.lookup D = some ⟨c', d', .cls cd', sl'⟩ := by
    obtain ⟨cd, hc, _⟩ := any_some c.hd
    unfold clsIn at hc
    split at hc
    · rename_i c' d' cd' sl' ho
      exact ⟨c', d', cd', sl', ho⟩
    · cases hc
  obtain ⟨c', d', cd', sl', ho⟩ := k
  refine ⟨fun _ _ _ I => I.type, fun _ _ X _ A' Q' E' s' kp q => ?_, fun h tp dd its n sl X ht => Bool.eq_false_iff.mpr fun q => ?_, fun X I q => cls_read c X I q⟩
  · unfold isType loadHead
    exact wpAny_bind (wpAny_loadPart (kp _ _ (X _ _ ho)) (wpAny_pure q))
  · have e : D = tp := Value.ref.inj (beq_iff_eq.mp q)
    subst e
    cases (X _ _ ho).symm.trans ht
end
/-- isinstance(e, c), e an error of the class at D -/
def rIsV (K : PySem.W.Frag) : List V → Hp → VK → Prop := fun xs H Q => ∃ (a D d : Addr) (fs : List (Str × V)) (c : V) (cv : Value) (b : Bool), xs = [.ref a, c] ∧ ExcC K D ∧
  H a = some (exo a D (some d)) ∧ H d = some (exd d fs) ∧ (∀ u, RelV c u → u = cv) ∧ PySem.W.kitOne K (.ref D) cv = some b ∧ Q (.bl b) H
theorem call_isV {X : Cx} : CallR X (.builtin "isinstance") (rIsV X.K) := by
  intro pins s σ H xs us Q I r h
  obtain ⟨a, D, d, fs, c, cv, b, rfl, T, ea, ed, hcv, e, q⟩ := h
  obtain ⟨oe, od, mA, J, hl, rel⟩ := err_inst I.hok ea ed
  cases r with
  | cons rx rr => cases rr with
    | cons rt rr =>
      cases rr
      cases rx
      have ec := hcv _ rt
      subst ec
      exact PySem.W.kia_one (kit_err T) I.kIn J e (fun z => nomatch z) fun tk => ⟨.bl b, H, I.kept (t' := tk) fun _ _ z => z, rfl, q⟩
/-- isinstance(e, (c1, c2, ..)) -/
def rIsW (K : PySem.W.Frag) : List V → Hp → VK → Prop := fun xs H Q => ∃ (a D d tp : Addr) (fs : List (Str × V)) (cs : List V) (cvs : List Value) (b : Bool), xs = [.ref a, .ref tp] ∧ ExcC K D ∧
  H a = some (exo a D (some d)) ∧ H d = some (exd d fs) ∧ SqT K H tp cs ∧ (∀ us, Vals cs us → us = cvs) ∧ PySem.W.kitAny K (.ref D) cvs = some b ∧ Q (.bl b) H
theorem call_isW {X : Cx} : CallR X (.builtin "isinstance") (rIsW X.K) := by
  intro pins s σ H xs us Q I r h
  obtain ⟨a, D, d, tp, fs, cs, cvs, b, rfl, T, ea, ed, ht, hcv, e, q⟩ := h
  obtain ⟨oe, od, mA, J, hl, rel⟩ := err_inst I.hok ea ed
  obtain ⟨its, rv, ⟨o, ho, hc, n, hd⟩, hz⟩ := I.tuple ht
  have ei := hcv _ rv
  subst ei
  obtain ⟨oc, odi, oda, osl⟩ := o
  dsimp only at hc hd
  subst hc hd
  cases r with
  | cons rx rr => cases rr with
    | cons rt rr =>
      cases rr
      cases rx
      cases rt
      exact PySem.W.kia_tup (kit_err T) I.kIn J ho e (fun z => nomatch z) fun tk => ⟨.bl b, H, I.kept (t' := tk) fun _ _ z => z, rfl, q⟩
end Ev
set_option Elab.async false
set_option linter.all false
set_option maxRecDepth 100000
set_option maxHeartbeats 4000000
/-! repr of data: None, bools, ints, texts, lists, tuples, dicts by text and int keys, one in another. -/
namespace Ev
open PySem PySem.Spec PyProof.Rows L2
def keyD : Key → PyData
  | .inl i => .int i
  | .inr x => .str x
mutual
inductive Dr (K : PySem.W.Frag) (H : Hp) : V → PyData → Prop
  | non : Dr K H .non .none
  | bl (b : Bool) : Dr K H (.bl b) (.bool b)
  | int (i : Int) : Dr K H (.int i) (.int i)
  | str (x : Str) : Dr K H (.str x) (.str x)
  | lst {a : Addr} {xs : List V} {ds : List PyData} : SqL K H a xs → DrAll K H xs ds → Dr K H (.ref a) (.list ds)
  | tup {a : Addr} {xs : List V} {ds : List PyData} : SqT K H a xs → DrAll K H xs ds → Dr K H (.ref a) (.tuple ds)
  | dct {a : Addr} {kvs : List (Key × V)} {ds : List PyData} : H a = some (.dK kvs) → DrAll K H (kvs.map (·.2)) ds →
      Dr K H (.ref a) (.dict ((kvs.map fun p => keyD p.1).zip ds))
inductive DrAll (K : PySem.W.Frag) (H : Hp) : List V → List PyData → Prop
  | nil : DrAll K H [] []
  | cons {v : V} {vs : List V} {d : PyData} {ds : List PyData} : Dr K H v d → DrAll K H vs ds → DrAll K H (v :: vs) (d :: ds)
end
theorem same_seqT {K : PySem.W.Frag} {H H' : Hp} {a : Addr} {xs : List V} (S : Same H H') (h : SqT K H a xs) : SqT K H' a xs := by
  rcases h with (h | ⟨o, h⟩) | h
  · exact .inl (.inl (S _ _ h))
  · exact .inl (.inr ⟨o, S _ _ h⟩)
  · exact .inr h
mutual
theorem Dr.same {K : PySem.W.Frag} {H H' : Hp} (S : Same H H') : ∀ {v : V} {d : PyData}, Dr K H v d → Dr K H' v d
  | _, _, .non => .non
  | _, _, .bl b => .bl b
  | _, _, .int i => .int i
  | _, _, .str x => .str x
  | _, _, .lst h r => .lst (S.seq h) (DrAll.same S r)
  | _, _, .tup h r => .tup (same_seqT S h) (DrAll.same S r)
  | _, _, .dct h r => .dct (S _ _ h) (DrAll.same S r)
theorem DrAll.same {K : PySem.W.Frag} {H H' : Hp} (S : Same H H') : ∀ {vs : List V} {ds : List PyData}, DrAll K H vs ds → DrAll K H' vs ds
  | _, _, .nil => .nil
  | _, _, .cons h r => .cons (Dr.same S h) (DrAll.same S r)
end
theorem DrAll.len {K : PySem.W.Frag} {H : Hp} : ∀ {vs : List V} {ds : List PyData}, DrAll K H vs ds → vs.length = ds.length
  | _, _, .nil => rfl
  | _, _, .cons _ r => congrArg Nat.succ r.len
/-- the written part knows the table of modules as a dict -/
def SysK (K : PySem.W.Frag) : Prop := ∃ o, K.lookup sysModules = some o ∧ o.cls = .type "dict"
theorem keys_read {P : Program} {w : World} {h : Heap} : ∀ {es : List DictEntry} {vs : List (Key × Value)}, PySem.Pairs (mixKind P w) es vs →
    ReadsAll h (es.map (·.key)) (vs.map fun p => keyD p.1) [] ∧ es.map (·.val) = vs.map (·.2)
  | _, _, .nil => ⟨.nil, rfl⟩
  | _, _, .cons (e := e) (kv := kv) (es := es) (kvs := kvs) h1 h2 r => by
    obtain ⟨a, b⟩ := keys_read (h := h) r
    refine ⟨?_, ?_⟩
    · rcases keyIs_shape (k := kv.1) (v := e.key) h1 with ⟨i, t, k1, k2⟩ | ⟨x, t, k1, k2⟩
      · have z : Reads h e.key (keyD kv.1) [] := by
          rw [k1, k2]; exact .int i t
        exact ReadsAll.cons z a
      · have z : Reads h e.key (keyD kv.1) [] := by
          rw [k1, k2]; exact .str x t
        exact ReadsAll.cons z a
    · show e.val :: es.map (·.val) = kv.2 :: kvs.map (·.2)
      rw [h2, b]
theorem kv_split : ∀ {kvs : List (Key × V)} {vs : List (Key × Value)}, KV kvs vs → (kvs.map fun p => keyD p.1) = (vs.map fun p => keyD p.1) ∧ Vals (kvs.map (·.2)) (vs.map (·.2))
  | _, _, .nil => ⟨rfl, .nil⟩
  | _, _, .cons (a := p) (b := q) h r => by
    obtain ⟨x, y⟩ := kv_split r
    refine ⟨?_, .cons h.2 y⟩
    show keyD p.1 :: _ = keyD q.1 :: _
    rw [h.1, x]
section
variable {X : Cx} {pins : List (Addr × Obj)} {σ : L2.St} {H : Hp} {s : Shared}
theorem not_sys {a : Addr} (I : Inv X pins σ H s) (hs : SysK X.K) {o : Obj} (ho : s.heap.get? a = some o) (hc : o.cls = .type "list") : sysModules ≠ a := fun e => by
  obtain ⟨o2, h2, c2⟩ := hs
  have z := I.kIn _ _ h2
  rw [e, ho] at z
  cases z
  rw [hc] at c2
  have c3 := Value.type.inj c2
  exact absurd c3 (by decide)
mutual
theorem Dr.reads (I : Inv X pins σ H s) (hs : SysK X.K) : ∀ {v : V} {d : PyData} {u : Value}, Dr X.K H v d → RelV v u → ∃ as, Reads s.heap u d as ∧ sysModules ∉ as
  | _, _, _, .non, r => by cases r; exact ⟨[], .none, by simp⟩
  | _, _, _, .bl b, r => by cases r; exact ⟨[], .bool b, by simp⟩
  | _, _, _, .int i, r => by obtain ⟨t, rfl⟩ := r; exact ⟨[], .int i t, by simp⟩
  | _, _, _, .str x, r => by obtain ⟨t, rfl⟩ := r; exact ⟨[], .str x t, by simp⟩
  | _, _, _, .lst h ha, r => by
    cases r
    obtain ⟨its, rv, ⟨o, n, ho, hc, _, hd⟩, _⟩ := I.list h
    obtain ⟨as, hr, hn⟩ := DrAll.reads I hs ha rv
    exact ⟨_, Reads.list ho hc hd hr, fun hm => (List.mem_cons.mp hm).elim (not_sys I hs ho hc) hn⟩
  | _, _, _, .tup h ha, r => by
    cases r
    obtain ⟨its, rv, ⟨o, ho, hc, n, hd⟩, _⟩ := I.tuple h
    obtain ⟨as, hr, hn⟩ := DrAll.reads I hs ha rv
    exact ⟨_, Reads.tuple ho hc hd hr, hn⟩
  | _, _, _, .dct (kvs := kvs) (ds := ds) h ha, r => by
    cases r
    obtain ⟨_, hy, vs, rel, o, es, ep, ho, hc, hd, _, pr, _⟩ := dk_of I.hok h
    obtain ⟨k1, k2⟩ := keys_read (h := s.heap) pr
    obtain ⟨e1, rv⟩ := kv_split rel
    obtain ⟨as, hr, hn⟩ := DrAll.reads I hs ha rv
    have hl : (kvs.map fun p => keyD p.1).length = ds.length := by
      rw [← ha.len, List.length_map, List.length_map]
    refine ⟨_, Reads.dict (as := []) (bs := as) ho hc.1 hd ?_ ?_, fun hm => ?_⟩
    · rw [List.map_fst_zip (Nat.le_of_eq hl), e1]; exact k1
    · rw [List.map_snd_zip (Nat.le_of_eq hl.symm), k2]; exact hr
    · rcases List.mem_cons.mp hm with q | q
      · rw [← q] at hy
        exact absurd hy (by simp)
      · exact hn (by simpa using q)
theorem DrAll.reads (I : Inv X pins σ H s) (hs : SysK X.K) : ∀ {vs : List V} {ds : List PyData} {us : List Value}, DrAll X.K H vs ds → Vals vs us → ∃ as, ReadsAll s.heap us ds as ∧ sysModules ∉ as
  | _, _, _, .nil, r => by cases r; exact ⟨[], .nil, by simp⟩
  | _, _, _, .cons h1 h2, r => by
    cases r with
    | cons r1 r2 =>
      obtain ⟨as, q1, n1⟩ := Dr.reads I hs h1 r1
      obtain ⟨bs, q2, n2⟩ := DrAll.reads I hs h2 r2
      exact ⟨_, .cons q1 q2, fun hm => (List.mem_append.mp hm).elim n1 n2⟩
end
end
/-- repr(x), x data -/
def rRepr (K : PySem.W.Frag) : List V → Hp → VK → Prop := fun xs H Q => ∃ (v : V) (d : PyData), xs = [v] ∧ Dr K H v d ∧ d.showable = true ∧ d.shown.length ≤ sizeLine ∧ d.depth ≤ 20 ∧ Q (.str d.shown) H
theorem call_repr {X : Cx} (hg : X.A.guards = some []) (hu : X.A.units + 64 < cLine) (hs : SysK X.K) : CallR X (.builtin "repr") (rRepr X.K) := by
  intro pins s σ H xs us Q I r h
  obtain ⟨v, d, rfl, hd, hsh, hz, hdp, q⟩ := h
  cases r with
  | cons r1 rr =>
    cases rr
    cases hd with
    | non =>
      cases r1
      exact PySem.P.repr_of_none ⟨.str _, H, I.tok _, ⟨_, rfl⟩, q⟩
    | bl b =>
      cases r1
      refine PySem.P.repr_of_bool ⟨.str _, H, I.tok _, ⟨_, rfl⟩, ?_⟩
      simpa only [PyData.shown] using q
    | int i =>
      obtain ⟨t, rfl⟩ := r1
      refine PySem.P.repr_of_int (by simpa [PyData.showable] using hsh) ⟨.str _, H, I.tok _, ⟨_, rfl⟩, ?_⟩
      simpa only [PyData.shown] using q
    | str x =>
      obtain ⟨t, rfl⟩ := r1
      refine PySem.P.repr_of_str ⟨.str _, H, I.tok _, ⟨_, rfl⟩, ?_⟩ (by simpa only [PyData.shown] using hz)
      simpa only [PyData.shown] using q
    | lst h1 h2 =>
      cases r1
      obtain ⟨as, rd, hn⟩ := Dr.reads I hs (.lst h1 h2) rfl
      exact repr_of_reads' rd hsh (fun _ => hn) hg (by omega) (fun _ _ e => e) (fun h' u tk hk => ⟨.str _, H, I.kept (t' := tk) hk, ⟨u, rfl⟩, q⟩) hz
    | tup h1 h2 =>
      cases r1
      obtain ⟨as, rd, hn⟩ := Dr.reads I hs (.tup h1 h2) rfl
      exact repr_of_reads' rd hsh (fun _ => hn) hg (by omega) (fun _ _ e => e) (fun h' u tk hk => ⟨.str _, H, I.kept (t' := tk) hk, ⟨u, rfl⟩, q⟩) hz
    | dct h1 h2 =>
      cases r1
      obtain ⟨as, rd, hn⟩ := Dr.reads I hs (.dct h1 h2) rfl
      exact repr_of_reads' rd hsh (fun _ => hn) hg (by omega) (fun _ _ e => e) (fun h' u tk hk => ⟨.str _, H, I.kept (t' := tk) hk, ⟨u, rfl⟩, q⟩) hz
end Ev
set_option Elab.async false
set_option linter.all false
set_option maxRecDepth 100000
set_option maxHeartbeats 4000000
/-! Defs whose bodies ask repr: a promise that holds where no repr is under way (FnG); the end of a law by such a promise; a Hook with one Bool more. -/
namespace Ev
open PySem PySem.Spec PyProof.Rows L2
def FnG (P : Program) (w : World) (K : PySem.W.Frag) (mg : Str → Option Value) (base : Heap) (CX : CXT) (k : Nat) (f : Addr) (sp : Sp) : Prop :=
  ∀ (A : Around) (outer : List Env) (s : Shared) (H : Hp) (us : List Value) (vs : List V) (Q : VK) (E : XK), A.guards = some [] → Room k A →
    Env0 P w K mg base A outer s H → Vals vs us → sp vs H Q E → codeAny (model P w) A (.call (.ref f) ⟨us, []⟩) (CR CX outer P w H s Q E) s
section
variable {P : Program} {w : World} {K : PySem.W.Frag} {mg : Str → Option Value} {base : Heap} {CX : CXT} {k : Nat} {f : Addr} {sp : Sp}
theorem FnG.of (F : FnR P w K mg base CX k f sp) : FnG P w K mg base CX k f sp := fun A outer s H us vs Q E _ => F A outer s H us vs Q E
theorem FnG.mono {j : Nat} (F : FnG P w K mg base CX j f sp) (h : j ≤ k) : FnG P w K mg base CX k f sp := fun A outer s H us vs Q E g hr => F A outer s H us vs Q E g (hr.mono h)
/-- a def, by its body, where no repr is under way -/
theorem okG {x qual : Str} {params : Arguments} {body : List Stmt} {scope : Scope} {fd : FuncData} {N ps : List Str}
    (F : FunD K x qual params body scope [] [] f fd) (S : FnScope N ps scope)
    (hb : ∀ (kV doc pm : Value) (an : Option Addr) (cdv ct : Value) (us : List Value), us.length = ps.length →
      bindArgs (PySem.W.fnOf x qual params body scope .none kV doc pm an cdv ct) ⟨us, []⟩ = pure (ps.zip us))
    (len : ∀ vs H Q E, sp vs H Q E → vs.length = ps.length)
    (hbody : ∀ (cdv : Value) (A : Around) (outer : List Env) (s : Shared) (H : Hp) (vs : List V) (Q : VK) (E : XK), A.guards = some [] →
      Room k (A.deeper (envOfC qual scope s.heap.objs.size f cdv)) → sp vs H Q E →
      ∃ t, PSs (cxOf CX P w K mg base N qual scope f cdv A outer s H E) body t ∧ t { nx := fun _ H' => Q .non H', rt := Q } (start N vs) H) :
    FnG P w K mg base CX (k + 1) f sp := by
  intro A outer s H us vs Q E hg hr e0 r hsp
  obtain ⟨oc, od, dV, kV, doc, pm, an, cdv, ct, osl, rfl, lk, hcd, hD, hK⟩ := F.ex
  have hl : us.length = ps.length := by rw [← r.length]; exact len _ _ _ _ hsp
  rcases hD with ⟨_, rfl⟩ | ⟨e, _⟩
  · refine StX.run_bnd (G := fun xs H2 => xs = vs ∧ H2 = H) lk hcd S hr e0 (fun A' Ex Q' h => ?_) fun s2 H2 xs ⟨ex, eH⟩ hr' => ?_
    · rw [hb kV doc pm an cdv ct us hl]
      exact wpAny_pure (h s H vs us e0 (Un.kept fun _ _ z => z) rfl (fun _ _ z => z) r (r.length.trans hl) ⟨rfl, rfl⟩)
    · subst ex eH
      exact hbody cdv A outer s2 _ _ Q E hg hr' hsp
  · exact absurd rfl e
end
section
variable {X : Cx} {CX : CXT} {k : Nat} {f : Addr} {sp : Sp} {E : XK} {x : Str} {p pos : Pos} {e : Expr} {es : List Expr} {t : TA}
theorem pe_callG (F : FnG X.prog X.w X.K X.mg X.base CX k f sp) (hgd : X.A.guards = some []) (hr : Room k X.A) (hg : Gl X x) (hm : X.mg x = some (.ref f))
    (hk : PySem.W.keepIn X.K (.ref f) = true) (hx : Passes CX X E) (ha : PA X (e :: es) t) (hdb : (x == ("__debug__" : Str)) = false := by decide)
    (he : starEach (e :: es) X.env = (false, eval e X.env) :: starEach es X.env := by rfl) (hpl : (backTo pos (starEach es X.env)).any (·.1) = false := by rfl) :
    PE X (.Call (.Name x p) (e :: es) [] pos) (tCall sp [] E t) := by
  refine ⟨fun pins s σ H Q I h => wpAny_Call_Name_kw (ld_glob I hg hm ?_ hdb)⟩
  refine PySem.W.callWith_K (h₀ := X.base) I.ok.mod.kin hk (thn (ha.run pos pins s σ H _ I h) fun us s1 ⟨vs, H1, I1, r, q⟩ => ⟨I1.kIn, wpAny_call ?_⟩) he hpl
  have q : sp (vs ++ []) H1 Q E := q
  rw [List.append_nil] at q
  refine codeAny_mono (F X.A X.stack s1 H1 us vs Q E hgd hr I1.env0 r q) fun r2 s' z => ?_
  cases r2 with
  | error er => exact hx pins σ _ s1 er s' I1 z
  | ok fl =>
    cases fl with
    | ret u => exact I1.after z
    | next => exact False.elim z
    | brk => exact False.elim z
    | cont => exact False.elim z
end
/-! ### the end of a law -/
section
variable {P : Program} {w : World} {K : PySem.W.Frag} {mg mb : Str → Option Value} {CX : CXT} {k : Nat} {fa a : Addr} {sp : Sp} {s1 : Shared} {vs : List Value} {ns : List Int}
abbrev LawEnd (s1 : Shared) : Result → Shared → Prop := fun r s' => r = .ok (.ret (.bool true)) ∧ OldK s1.heap s'.heap ∧ s'.os = s1.os ∧ AllBare s'.gens
theorem law_from {H : Hp} (KX : K.In s1.heap) (hns : s1.heap.Ns mainGlobals mg) (hb : s1.heap.Ns builtinsNs mb) (hbb : ∀ x : Str, x ≠ "__name__" → mb x = bootBuiltins x)
    (hlim : s1.heap.NoLimit) (hg : s1.gens = #[]) (ha : s1.heap.get? a = some { cls := .type "list", data := .seq vs.toArray }) (hr : Room k callerA)
    (F : ∀ base : Heap, K.In base → base.Ns mainGlobals mg → FnG P w K mg base CX k fa sp)
    (hsp : sp [.ref a] H (fun v _ => v = .bl true) fun _ _ _ => False) (hCX : ∀ e s', CX [] H s1 (fun _ _ _ => False) e s' → False)
    (hO : Only H) (hok : HOk P w H s1.heap) (hA : ∀ b, H b ≠ none → b = a) (hK : H a ≠ none → K.lookup a = none) :
    codeAny (model P w) callerA (.call (.ref fa) ⟨[.ref a], []⟩) (LawEnd s1) s1 := by
  have free : ∀ {b : Addr} {o : Obj} {es : Array DictEntry} {ep : Nat}, s1.heap.get? b = some o → o.data = .dict es ep → H b = none := fun {b o es ep} e d => by
    cases q : H b with
    | none => rfl
    | some u =>
      obtain rfl : b = a := hA b (by rw [q]; exact fun z => nomatch z)
      rw [ha] at e
      cases e
      exact nomatch (show Data.seq vs.toArray _ = Data.dict es ep from d)
  have nsk : ∀ {b : Addr} {m : Str → Option Value}, s1.heap.Ns b m → (hidT s1.heap H).Ns b m := fun ⟨o, es, ep, e, d, r⟩ => ⟨o, es, ep, hidT_get e (free e d), d, r⟩
  have kb : K.In (hidT s1.heap H) := fun b o e => hidT_get (KX b o e) (by
    cases q : H b with
    | none => rfl
    | some u =>
      obtain rfl : b = a := hA b (by rw [q]; exact fun z => nomatch z)
      rw [hK (by rw [q]; exact fun z => nomatch z)] at e
      cases e)
  obtain ⟨mc, l1, l2⟩ := hlim
  have e0 : Env0 P w K mg (hidT s1.heap H) callerA [] s1 H := {
    frames := rfl
    mod := ⟨kb, nsk hns, ⟨mb, nsk hb, hbb⟩, ⟨mc, nsk l1, l2⟩⟩
    bs := fun b o e => of_hidT e
    bsz := Nat.le_of_eq (hidT_size _ _)
    funs := trivial
    frf := fun b hm => absurd (show b ∈ ([] : List Addr) from hm) (by simp)
    hok := hok
    bare := .of_eq hg }
  refine codeAny_mono (F _ kb (nsk hns) callerA [] s1 H [.ref a] [.ref a] _ _ rfl hr e0 (.cons rfl .nil) hsp) fun r s' h => ?_
  have ends : ∀ {u : Value}, CE [] P w H s1 (fun v _ => v = .bl true) u s' → LawEnd s1 (.ok (.ret u)) s' := by
    intro u h
    obtain ⟨v, H', os, bare, un, ok2, rv, rfl⟩ := h
    obtain rfl : u = Value.bool true := rv
    refine ⟨rfl, OldK.of_keep fun b o e => ?_, os, bare⟩
    cases q : H b with
    | none => exact un.keep b o e q (by intro z; exact absurd (show b ∈ ([] : List Addr) from z) (by simp)) (by simp)
    | some u =>
      rcases hO b with z | ⟨ob, xs, z⟩
      · rw [q] at z
        cases z
      · obtain ⟨e1, _⟩ := hok b _ z
        obtain ⟨e2, _⟩ := ok2 b _ (un.frzs b ob _ z)
        rw [e] at e1
        cases e1
        exact e2
  cases r with
  | error er => exact (hCX er s' h).elim
  | ok fl =>
    cases fl with
    | ret u => exact ends h
    | next => exact False.elim h
    | brk => exact False.elim h
    | cont => exact False.elim h
theorem law_callG (KX : K.In s1.heap) (hns : s1.heap.Ns mainGlobals mg) (hb : s1.heap.Ns builtinsNs mb) (hbb : ∀ x : Str, x ≠ "__name__" → mb x = bootBuiltins x)
    (hlim : s1.heap.NoLimit) (hg : s1.gens = #[]) (ha : s1.heap.get? a = some { cls := .type "list", data := .seq vs.toArray }) (hi : IntsAre vs ns) (hl : ns.length ≤ sizeLine)
    (hr : Room k callerA) (F : ∀ base : Heap, K.In base → base.Ns mainGlobals mg → FnG P w K mg base CX k fa sp)
    (hsp : ∀ H : Hp, Only H → SqL K H a (ns.map V.int) → sp [.ref a] H (fun v _ => v = .bl true) fun _ _ _ => False)
    (hCX : ∀ H e s', CX [] H s1 (fun _ _ _ => False) e s' → False) : codeAny (model P w) callerA (.call (.ref fa) ⟨[.ref a], []⟩) (LawEnd s1) s1 := by
  have rv := vals_ints hi
  have lv := hi.length
  cases hk : K.lookup a with
  | some o =>
    have e := KX a o hk
    rw [ha] at e
    cases e
    have hO : Only (fun _ => none) := fun _ => .inl rfl
    exact law_from KX hns hb hbb hlim hg ha hr F (hsp _ hO (.inr ⟨_, vs.toArray, _, hk, rfl, rfl, rfl, by rw [List.size_toArray, lv]; exact hl, by simpa using rv⟩)) (hCX _) hO
      (fun b u z => nomatch (show (none : Option HO) = some u from z)) (fun b z => absurd rfl z) fun z => absurd rfl z
  | none =>
    let H : Hp := fun b => if b = a then some (.frz { cls := .type "list", data := .seq vs.toArray } (.lst (ns.map V.int))) else none
    have at1 : H a = some (.frz { cls := .type "list", data := .seq vs.toArray } (.lst (ns.map V.int))) := if_pos rfl
    have off : ∀ {b}, b ≠ a → H b = none := fun h => if_neg h
    have hO : Only H := fun b => by
      by_cases q : b = a
      · exact .inr ⟨_, _, q ▸ at1⟩
      · exact .inl (off q)
    refine law_from KX hns hb hbb hlim hg ha hr F (hsp H hO (.inl (.inr ⟨_, at1⟩))) (hCX H) hO (fun b u z => ?_) (fun b z => ?_) fun _ => hk
    · by_cases q : b = a
      · subst q
        rw [at1] at z
        cases z
        exact ⟨ha, by rw [List.length_map]; exact hl, vs, _, rv, ha⟩
      · rw [off q] at z
        cases z
    · by_cases q : b = a
      · exact q
      · exact absurd (off q) z
end
theorem walk_ofG {l : PySem.W.OpenLaw} {n k : Nat} {q : Program} {loose : List Str} {XP : (Str → Option Value) → Heap → Prop} {YP : World → Heap → Prop} {d : DefRec} {CX : CXT}
    (hn : l.most = some n) (hn2 : n ≤ sizeLine) (hdf : d.params.defaults = []) (hr : Room k callerA)
    (F : ∀ (w : World) (mg : Str → Option Value) (fa : Addr) (h : Heap), YP w h → h.Ns mainGlobals mg → mg d.name = some (.ref fa) →
      ∃ (K : PySem.W.Frag) (sp : Sp), K.In h ∧
        (∀ (H : Hp) (a : Addr) (ns : List Int), ns.length ≤ n → Only H → SqL K H a (ns.map V.int) → sp [.ref a] H (fun v _ => v = .bl true) fun _ _ _ => False) ∧
        ∀ base : Heap, K.In base → base.Ns mainGlobals mg → FnG l.prog w K mg base CX k fa sp)
    (hCX : ∀ (H : Hp) (s : Shared) (e : Value) (s' : Shared), CX [] H s (fun _ _ _ => False) e s' → False) :
    PySem.W.WalkO q loose XP YP l.row.toRowW d [] (fun f vs => PySem.call f vs) := by
  refine Att.attach_call hn hdf fun w s0 s1 mg mb fa o pm cd doc a vs ns G Y ho hd hcd hmg hobj hints hlen hg => ?_
  obtain ⟨K, sp, KX, hsp, hF⟩ := F w mg fa _ Y G.T.g hmg
  exact law_callG KX G.T.g G.T.b G.T.builtins G.T.nolimit hg hobj hints (Nat.le_trans hlen hn2) hr hF (fun H hO hS => hsp H a ns hlen hO hS) fun H e s' => hCX H s1 e s'
/-! ### a Hook: the facts of He, and a Bool of one's own; the table of modules is among what is known -/
def asE (g : Addr → Option Obj) (n : Nat) : List Addr := He.asD g n ++ [sysModules, cStatics]
def obsE (n : Nat) (fa : List He.Fa) (fn : List He.DefD) (ex : PySem.W.Frag → Bool) (g : Addr → Option Obj) : He.AlD × Bool :=
  (He.obsD fa fn (He.frG g (asE g n)), ex (He.frG g (asE g n)))
def hookE (n : Nat) (fa : List He.Fa) (fn : List He.DefD) (ex : PySem.W.Frag → Bool) : PySem.W.Hook where
  α := He.AlD × Bool
  obs := fun s => obsE n fa fn ex s.heap.get?
  val := fun _ => (He.valD fn, true)
  says := fun _ h => ∃ K : PySem.W.Frag, K.In h ∧ He.SaysD fa fn K ∧ ex K = true
  of := fun _ _ e => ⟨_, He.frG_in, congrArg (fun z : He.AlD × Bool => z.1) e, congrArg (fun z : He.AlD × Bool => z.2) e⟩
  keeps := fun _ _ _ ⟨K, hK, c⟩ k => ⟨K, PySem.W.Frag.In.keeps hK k, c⟩
theorem obsE_eq {n : Nat} {fa : List He.Fa} {fn : List He.DefD} {ex : PySem.W.Frag → Bool} {g : Addr → Option Obj} {s : Shared} (h : ∀ a, g a = s.heap.get? a) :
    obsE n fa fn ex g = (hookE n fa fn ex).obs s := by
  have e : g = s.heap.get? := funext h
  rw [e] <;> rfl
end Ev
set_option Elab.async false
set_option linter.all false
set_option maxRecDepth 100000
set_option maxHeartbeats 4000000
/-! What the written part says of a family of errors: PadError over ValueError, the others over it. -/
namespace Ev
open PySem PySem.Spec PyProof.Rows L2 PySem.W
def eqS (a b : Option (Option Value)) : Bool := decide (a = b)
def oexB (K : Frag) (C : Addr) : Bool :=
  (match K.lookup C with
    | some ⟨.type t, _, .cls cd, sl⟩ => decide (t = "type") && ((match cd.mro, sl.toList with
      | .ref C' :: bm, [_, _, _, _, some (.builtin n)  , _] => decide (C' = C) && (decide (n = "ValueError.__new__") && (!cd.hasDel && (cd.hasDict && PySem.HandSPX.refsVE bm)))
      | _, _ => false))
    | _ => false) &&
  (eqS (findIn K (.ref C) "__setattr__") (some (some (.builtin "object.__setattr__"))) && (decide (subIn K (.ref C) (.type "BaseException") = some true) &&
  (decide (typeIn K (.ref C) = some (.type "type")) && keepIn K (.ref C))))
theorem two {a b : Bool} (h : (a && b) = true) : a = true ∧ b = true := Bool.and_eq_true_iff.mp h
theorem oexB_ok {K : Frag} {C : Addr} (h : oexB K C = true) : OexC K C := by
  obtain ⟨h1, h⟩ := two h
  obtain ⟨h2, h⟩ := two h
  obtain ⟨h3, h⟩ := two h
  obtain ⟨h4, h5⟩ := two h
  refine ⟨?_, of_decide_eq_true h2, of_decide_eq_true h3, of_decide_eq_true h4, h5⟩
  split at h1
  · rename_i t dd cd sl lk
    obtain ⟨ht, h1⟩ := two h1
    split at h1
    · rename_i C' bm k0 k1 k2 k3 n k5 em es
      obtain ⟨z1, h1⟩ := two h1
      obtain ⟨z2, h1⟩ := two h1
      obtain ⟨z3, h1⟩ := two h1
      obtain ⟨z4, z5⟩ := two h1
      obtain ⟨nm, bs, mro, ns, qn, hdc, sn, sub, ab, col, del⟩ := cd
      dsimp only at em z3 z4
      have e1 : C' = C := of_decide_eq_true z1
      have e2 : n = "ValueError.__new__" := of_decide_eq_true z2
      have e3 : t = "type" := of_decide_eq_true ht
      have e4 : del = false := by simpa using z3
      have e5 : sl = #[k0, k1, k2, k3, some (.builtin n), k5] := by
        have := congrArg List.toArray es
        simpa using this
      subst e1 e2 e3 e4 e5 z4 em
      exact ⟨_, _, _, _, bm, _, _, _, _, _, _, _, _, _, _, lk, z5⟩
    · cases h1
  · cases h1
def excB (K : Frag) (D : Addr) : Bool :=
  eqS (findIn K (.ref D) "__getattribute__") (some (some (.builtin "BaseException.__getattribute__"))) && (eqS (findIn K (.ref D) "__getattr__") (some none) &&
  (decide (subIn K (.ref D) (.type "BaseException") = some true) && (hasDictIn K D && (eqS (findIn K (.ref D) "__class__") (some (some (.builtin "object.__class__"))) &&
  (eqS (specialIn K (.builtin "object.__class__") "__get__") (some (some (.builtin "getset_descriptor.__get__"))) && (decide (takesIn K (.builtin "object.__class__") = some true) &&
  decide (mroIn K D (.type "object") = some true)))))))
theorem excB_ok {K : Frag} {D : Addr} (h : excB K D = true) : ExcC K D := by
  obtain ⟨h1, h⟩ := two h
  obtain ⟨h2, h⟩ := two h
  obtain ⟨h3, h⟩ := two h
  obtain ⟨h4, h⟩ := two h
  obtain ⟨h5, h⟩ := two h
  obtain ⟨h6, h⟩ := two h
  obtain ⟨h7, h8⟩ := two h
  exact ⟨of_decide_eq_true h1, of_decide_eq_true h2, of_decide_eq_true h3, h4, of_decide_eq_true h5, of_decide_eq_true h6, of_decide_eq_true h7, of_decide_eq_true h8⟩
/-- one class with its fields -/
structure ErrT (K : Frag) (C fI : Addr) (fs : List Str) : Prop where
  ox : OexC K C
  ec : ExcC K C
  iC : findIn K (.ref C) "__init__" = some (some (.ref fI))
  tI : typeIn K (.ref fI) = some (.type "function")
  no : ∀ f ∈ fs, findIn K (.ref C) f = some none
def errB (K : Frag) (x : Str) (fs : List Str) : Bool := oexB K (He.ga K x) && (excB K (He.ga K x) && (eqS (findIn K (.ref (He.ga K x)) "__init__") (some (some (.ref (He.ma K (He.ga K x) "__init__")))) &&
  (decide (typeIn K (.ref (He.ma K (He.ga K x) "__init__")) = some (.type "function")) && (fs.all fun f => eqS (findIn K (.ref (He.ga K x)) f) (some none)))))
theorem errB_ok {K : Frag} {x : Str} {fs : List Str} (h : errB K x fs = true) : ErrT K (He.ga K x) (He.ma K (He.ga K x) "__init__") fs := by
  obtain ⟨h1, h⟩ := two h
  obtain ⟨h2, h⟩ := two h
  obtain ⟨h3, h⟩ := two h
  obtain ⟨h4, h5⟩ := two h
  exact ⟨oexB_ok h1, excB_ok h2, of_decide_eq_true h3, of_decide_eq_true h4, fun f hf => of_decide_eq_true (List.all_eq_true.mp h5 f hf)⟩
def sysB (K : Frag) : Bool := match K.lookup sysModules with
  | some ⟨.type t, _, _, _⟩ => decide (t = "dict")
  | _ => false
theorem sysB_ok {K : Frag} (h : sysB K = true) : SysK K := by
  unfold sysB at h
  split at h
  · rename_i t a b c e
    exact ⟨_, e, congrArg Value.type (of_decide_eq_true h)⟩
  · cases h
def offB (K : Frag) (C0 f0 : Addr) : Bool := readsIn K C0 (.type "type") && (eqS (specialIn K (.ref C0) "__getattribute__") (some (some (.builtin "type.__getattribute__"))) &&
  ((match findCls K (.ref C0) (.type "type") "__init__" with
    | some (.val (.ref f)) => decide (f = f0)
    | _ => false) && keepIn K (.ref f0)))
structure OffT (K : Frag) (C0 f0 : Addr) : Prop where
  rd : ClX.CRead K C0 (.type "type")
  at_ : findCls K (.ref C0) (.type "type") "__init__" = some (.val (.ref f0))
  kp : keepIn K (.ref f0) = true
theorem offB_ok {K : Frag} {C0 f0 : Addr} (h : offB K C0 f0 = true) : OffT K C0 f0 := by
  obtain ⟨h1, h⟩ := two h
  obtain ⟨h2, h⟩ := two h
  obtain ⟨h3, h4⟩ := two h
  refine ⟨⟨h1, of_decide_eq_true h2⟩, ?_, h4⟩
  split at h3
  · rename_i f e
    rw [e, of_decide_eq_true h3]
  · cases h3
/-- all of them -/
def errsB (es : List (Str × List Str)) (K : Frag) : Bool := sysB K && (offB K (He.ga K "PadError") (He.ma K (He.ga K "PadError") "__init__") && (errB K "PadError" ["told"] &&
  ((es.all fun e => errB K e.1 ("told" :: e.2)) && (decide (kitOne K (.ref (He.ga K "PadError")) (.type "ValueError") = some true) &&
  (es.all fun e => decide (kitOne K (.ref (He.ga K e.1)) (.ref (He.ga K "PadError")) = some true) && (decide (kitOne K (.ref (He.ga K e.1)) (.type "ValueError") = some true) &&
    (decide (kitAny K (.ref (He.ga K e.1)) [.type "KeyError", .type "IndexError", .type "LookupError"] = some false) &&
    (es.all fun d => decide (kitOne K (.ref (He.ga K e.1)) (.ref (He.ga K d.1)) = some (decide (e.1 = d.1)))))))))))
structure ErrsT (es : List (Str × List Str)) (K : Frag) : Prop where
  sys : SysK K
  off : OffT K (He.ga K "PadError") (He.ma K (He.ga K "PadError") "__init__")
  pad : ErrT K (He.ga K "PadError") (He.ma K (He.ga K "PadError") "__init__") ["told"]
  one : ∀ e ∈ es, ErrT K (He.ga K e.1) (He.ma K (He.ga K e.1) "__init__") ("told" :: e.2)
  padV : kitOne K (.ref (He.ga K "PadError")) (.type "ValueError") = some true
  under : ∀ e ∈ es, kitOne K (.ref (He.ga K e.1)) (.ref (He.ga K "PadError")) = some true
  val : ∀ e ∈ es, kitOne K (.ref (He.ga K e.1)) (.type "ValueError") = some true
  look : ∀ e ∈ es, kitAny K (.ref (He.ga K e.1)) [.type "KeyError", .type "IndexError", .type "LookupError"] = some false
  each : ∀ e ∈ es, ∀ d ∈ es, kitOne K (.ref (He.ga K e.1)) (.ref (He.ga K d.1)) = some (decide (e.1 = d.1))
theorem errsB_ok {es : List (Str × List Str)} {K : Frag} (h : errsB es K = true) : ErrsT es K := by
  obtain ⟨h1, h⟩ := two h
  obtain ⟨h2, h⟩ := two h
  obtain ⟨h3, h⟩ := two h
  obtain ⟨h4, h⟩ := two h
  obtain ⟨h5, h6⟩ := two h
  have h7 := fun e he => two (List.all_eq_true.mp h6 e he)
  have h8 := fun e he => two (h7 e he).2
  have h9 := fun e he => two (h8 e he).2
  exact ⟨sysB_ok h1, offB_ok h2, errB_ok h3, fun e he => errB_ok (List.all_eq_true.mp h4 e he), of_decide_eq_true h5, fun e he => of_decide_eq_true (h7 e he).1,
    fun e he => of_decide_eq_true (h8 e he).1, fun e he => of_decide_eq_true (h9 e he).1, fun e he d hd => of_decide_eq_true (List.all_eq_true.mp (h9 e he).2 d hd)⟩
end Ev
set_option Elab.async false
set_option linter.all false
set_option maxRecDepth 100000
set_option maxHeartbeats 4000000
/-! An own exception class with an __init__ of its own, called with keywords. -/
namespace PySem
namespace EvK
open PySem.W PySem.Calls PyProof.Rows PySem.HandSPX Builtin
section
variable {M : Model} {prog : Program} {w : World} {A : Around} {E : Value → Shared → Prop} {R : Result → Shared → Prop} {h : Heap} {g : Array GenState} {d : Drawn} {t : Nat} {os : OsState}
  {nm q : Str} {C N : Addr} {bs bm bmB : List Value} {hdct : Bool} {sn : List Str} {sub : List Value} {ab : Bool} {col : Option Bool} {dd : Option Addr} {k0 k1 k2 k3 k5 : Option Value} {B newId initId : String}
  {rest : List Value} {kw : List (Str × Value)}
/-- the class's record at C -/
abbrev Rec (h : Heap) (nm q : Str) (C N : Addr) (bs bm : List Value) (hdct : Bool) (sn : List Str) (sub : List Value) (ab : Bool) (col : Option Bool) (dd : Option Addr) (k0 k1 k2 k3 k5 : Option Value) (newId : String) : Prop :=
  h.get? C = some (excClassObj nm q C N bs bm hdct sn sub ab col dd k0 k1 k2 k3 k5 newId)
theorem kw_check (F : ExcBaseFacts B newId initId bmB) (hT : ∀ Y : String, bm.contains (.type Y) = bmB.contains (.type Y)) {Q : Unit → Shared → Prop}
    (hC : Rec h nm q C N bs bm hdct sn sub ab col dd k0 k1 k2 k3 k5 newId) (hq : Q () ⟨h, g, d, t, os⟩) :
    wpAny M A (checkBuiltinCall newId ⟨.ref C :: rest, kw⟩) Q E ⟨h, g, d, t, os⟩ := by
  have cB : (Value.ref C :: bm).contains (.type B) = true := by rw [List.contains_cons, hT, F.hasB, Bool.or_true]
  have st := F.noStar
  simp only [checkBuiltinCall, F.newKind, F.newSplit, F.newRow]
  repeat (first
    | refine wpAny_loadPart_at hC ?_
    | (refine wpAny_isSubtype_exc hC ?_; rw [cB])
    | refine wpAny_staticBase_exc hC ?_
    | refine wpAny_madeBy_exc hC ?_
    | simp only [bne_self_eq_false, Bool.false_eq_true, if_false]
    | wp_step)
  exact hq
theorem kw_new (F : ExcBaseFacts B newId initId bmB) (hT : ∀ Y : String, bm.contains (.type Y) = bmB.contains (.type Y))
    (hC : Rec h nm q C N bs bm hdct sn sub ab col dd k0 k1 k2 k3 k5 newId)
    (hq : R (.ok (.ret (.ref (h.objs.size + 1)))) ⟨(h.push { cls := .type "tuple", data := .seq rest.toArray }).push (excO C h.objs.size), g, d, t, os⟩) (hz : rest.length ≤ sizeLine) :
    codeAny (model prog w) A (.builtin newId ⟨.ref C :: rest, kw⟩) R ⟨h, g, d, t, os⟩ := by
  have en := F.ends
  have cB : (Value.ref C :: bm).contains (.type B) = true := by rw [List.contains_cons, hT, F.hasB, Bool.or_true]
  have cA : (Value.ref C :: bm).contains (.type "AttributeError") = false := by rw [List.contains_cons, hT, F.noAttr]; rfl
  have cN : (Value.ref C :: bm).contains (.type "NameError") = false := by rw [List.contains_cons, hT, F.noName]; rfl
  refine codeAny_builtinAt F.entry ?_
  unfold Builtin.«BaseException.__new__»
  refine wpAt_bind ?_
  show wpAt _ _ _ (stack >>= _) _ _ _
  refine wpAt_bind (wpAt_stack fun p below => wpAt_of_wpAny ?_)
  wp_walk
  refine wpAt_of_wpAny ?_
  rw [F.owner]
  repeat (first
    | with_reducible refine wpAny_madeHere_exc F.canon hC ?_
    | with_reducible refine wpAny_loadPart_at hC ?_
    | (with_reducible refine wpAny_isSubtype_exc hC ?_; first | rw [cB] | rw [cA] | rw [cN])
    | wp_step)
  show R _ _
  rw [Heap.size_push]
  exact hq
theorem kw_type_call (F : ExcBaseFacts B newId initId bmB) (hT : ∀ Y : String, bm.contains (.type Y) = bmB.contains (.type Y)) {fI : Addr} {Q : Fin → Shared → Prop}
    (hC : Rec h nm q C N bs bm hdct sn sub ab col dd k0 k1 k2 k3 k5 newId)
    (hi : Looks (model prog w) h (typeLookup (.ref C) "__init__") (some (.ref fI))) (hb : ∀ self, Looks (model prog w) h (bindSpecial (.ref fI) self) (.ref fI, [self])) (hz : rest.length ≤ sizeLine)
    (hq : codeAny (model prog w) A (.call (.ref fI) ⟨.ref (h.objs.size + 1) :: rest, kw⟩)
      (fun r s' => match r with | .ok (.ret v) => v = .none ∧ Q (.done (.ret (.ref (h.objs.size + 1)))) s' | .ok _ => False | .error e => E e s')
      ⟨(h.push (kdv_tup rest)).push (excO C h.objs.size), g, d, t, os⟩) :
    wpAny (model prog w) A (Builtin.«type.__call__» ⟨.ref C :: rest, kw⟩) Q E ⟨h, g, d, t, os⟩ := by
  repeat (first | with_reducible refine wpAny_loadPart_at hC ?_ | with_reducible refine wpAny_madeBy_exc hC ?_ | wp_step)
  refine codeAny_call_builtin_code (Code.quiet_builtin _ F.quiet) (kw_check F hT hC (kw_new F hT hC ?_ hz))
  show wpAny _ _ _ _ _ _
  have up : ∀ b o, h.get? b = some o → ((h.push (kdv_tup rest)).push (excO C h.objs.size)).get? b = some o :=
    fun b o e => Heap.get?_push_of_some _ (Heap.get?_push_of_some _ e)
  have hC1 := up _ _ hC
  have here : ((h.push (kdv_tup rest)).push (excO C h.objs.size)).get? (h.objs.size + 1) = some (excO C h.objs.size) := by heap_get
  have cC : (Value.ref C :: bm).contains (.ref C) = true := by simp
  have i1 := hi.keeps up
  have b1 := (hb (.ref (h.objs.size + 1))).keeps up
  unfold isInstance
  repeat (first | with_reducible refine wpAny_loadPart_at here ?_ | (with_reducible refine wpAny_isSubtype_exc hC1 ?_; rw [cC]) | wp_step)
  show wpAny _ _ (typeLookup (.ref C) _) _ _ _
  refine i1.at (wpAny_holding (wpAny_bind (b1.at (wpAny_bind (wpAny_call (codeAny_mono hq fun r s' z => ?_))))))
  cases r with
  | error e => exact z
  | ok fl =>
    cases fl with
    | ret v =>
      obtain ⟨rfl, z⟩ := z
      first
        | exact wpAny_pure (wpAny_pure z)
        | (wp_walk; exact z)
    | next => exact z.elim
    | brk => exact z.elim
    | cont => exact z.elim
theorem kw_call (F : ExcBaseFacts B newId initId bmB) (hT : ∀ Y : String, bm.contains (.type Y) = bmB.contains (.type Y)) {fI : Addr}
    (hC : Rec h nm q C N bs bm hdct sn sub ab col dd k0 k1 k2 k3 k5 newId)
    (hi : Looks (model prog w) h (typeLookup (.ref C) "__init__") (some (.ref fI))) (hb : ∀ self, Looks (model prog w) h (bindSpecial (.ref fI) self) (.ref fI, [self])) (hz : rest.length ≤ sizeLine)
    (hq : codeAny (model prog w) (A.under (.builtin "type.__call__" ⟨.ref C :: rest, kw⟩)) (.call (.ref fI) ⟨.ref (h.objs.size + 1) :: rest, kw⟩) (InitBack (h.objs.size + 1) R)
      ⟨(h.push (kdv_tup rest)).push (excO C h.objs.size), g, d, t, os⟩) :
    codeAny (model prog w) A (.call (.ref C) ⟨rest, kw⟩) R ⟨h, g, d, t, os⟩ := by
  have f1 := tc_lookup
  have f2 := tc_bind (.ref C)
  have hTy : (⟨h, g, d, t, os⟩ : Shared).TypeIs (.ref C) "type" := ⟨_, hC, rfl⟩
  have ty0 : Looks (model prog w) h (typeOf (.ref C)) (.type "type") := (Looks.ld hC).andThen .now
  have typ : Looks (model prog w) h (isInstance (.ref C) (.type "type")) true := ty0.andThen (Looks.of_pure tc_sub)
  refine codeAny_of_tree ?_
  show wpAny _ _ (callAny (.ref C) _) _ _ _
  repeat (any_goals (first | assumption | with_reducible refine wpAny_loadPart_at hC ?_ | wp_step))
  refine ⟨rfl, codeAny_call_builtin_at (Code.quiet_builtin _ (by decide +kernel)) entry_typeCall (check_slot tc_kind tc_split typ (tc_args _ _ _) (kw_type_call F hT hC hi hb hz ?_))⟩
  refine codeAny_mono hq fun r s' z => ?_
  cases r with
  | error e => exact z
  | ok fl => cases fl <;> exact z
end
end EvK
end PySem
set_option Elab.async false
set_option linter.all false
set_option maxRecDepth 100000
set_option maxHeartbeats 4000000
/-! Errors as the law makes them: by position, by keywords; what stands behind; a field read. -/
namespace Ev
open PySem PySem.Spec PyProof.Rows L2
section
variable {X : Cx} {pins : List (Addr × Obj)} {σ : L2.St} {H1 : Hp} {s : Shared} {C fI : Addr} {CX : CXT} {k : Nat} {sp : Sp} {E : XK} {Q : VK} {fd : FuncData} {ps ks : List Str} {g : List Value → List Value} {gV : List V → List V}
theorem run_mkK {ws : List Value} {zs : List V} (T : OexC X.K C)
    (iC : PySem.W.findIn X.K (.ref C) "__init__" = some (some (.ref fI)))
    (tI : PySem.W.typeIn X.K (.ref fI) = some (.type "function"))
    (FO : FnOk X.prog X.w X.K X.mg X.base CX k fI fd ps sp)
    (hb : ∀ (s : Shared) (a : Addr) (ws : List Value), ws.length = ks.length → BindsTo s fd ⟨[.ref a], ks.zip ws⟩ (ps.zip (.ref a :: g ws)))
    (hg : ∀ {zs : List V} {ws : List Value}, Vals zs ws → Vals (gV zs) (g ws)) (hr : Room (k + 1) X.A) (hx : Passes CX X E)
    (I1 : Inv X pins σ H1 s) (r1 : Vals zs ws) (hl : zs.length = ks.length)
    (q1 : ∀ a, H1 a = none → sp (.ref a :: gV zs) (upd H1 a (exo a C none)) (fun v H2 => v = .non ∧ Q (.ref a) H2) E) :
    wpAny (model X.prog X.w) X.A (call (.ref C) [] (ks.zip ws)) (EP X pins σ Q) X.xe s := by
  obtain ⟨x1, x2, x3, x4, x5, x6, x7, x8, x9, x10, x11, y0, y1, y2, y3, hC, hbm⟩ := T.cls
  obtain ⟨hp, g', dr, tk, os⟩ := s
  have hs1 : hp.objs.size ≤ hp.objs.size + 1 := Nat.le_succ _
  have hn : H1 (hp.objs.size + 1) = none := I1.hok.fresh hs1
  have hq := q1 (hp.objs.size + 1) hn
  have up : ∀ b o, hp.get? b = some o → ((hp.push (PySem.W.kdv_tup [])).push (PySem.HandSPX.excO C hp.objs.size)).get? b = some o :=
    fun b o e => Heap.get?_push_of_some _ (Heap.get?_push_of_some _ e)
  have here : ((hp.push (PySem.W.kdv_tup [])).push (PySem.HandSPX.excO C hp.objs.size)).get? (hp.objs.size + 1) = some (PySem.HandSPX.excO C hp.objs.size) := by heap_get
  have I2 : Inv X pins σ (upd H1 (hp.objs.size + 1) (exo (hp.objs.size + 1) C none))
      ⟨(hp.push (PySem.W.kdv_tup [])).push (PySem.HandSPX.excO C hp.objs.size), g', dr, tk, os⟩ :=
    I1.laid (t' := tk) (a := hp.objs.size + 1) (o := exo (hp.objs.size + 1) C none) (h' := (hp.push (PySem.W.kdv_tup [])).push (PySem.HandSPX.excO C hp.objs.size)) up hs1 (exo_ok here)
  have r2 : Vals (V.ref (hp.objs.size + 1) :: gV zs) (Value.ref (hp.objs.size + 1) :: g ws) := .cons rfl (hg r1)
  refine wpAny_call (PySem.EvK.kw_call PySem.F.excBase_ValueError (fun Y => PySem.HandSPX.refsVE_contains Y x5 hbm)
    (I1.kIn _ _ hC) (PySem.W.looks_findIn I1.kIn iC) (fun self => PySem.W.bind_fn I1.kIn self tI) (Nat.zero_le _)
    (codeAny_mono (FO.run _ X.stack _ _ ⟨[.ref (hp.objs.size + 1)], ks.zip ws⟩ _ _ _ E (hr.make C [] (ks.zip ws))
      (I2.env0.make C [] (ks.zip ws)) (hb _ _ ws (by rw [← r1.length]; exact hl)) r2 hq) fun r s' z => ?_))
  cases r with
  | error er => exact hx pins σ _ _ er s' I2 z
  | ok fl =>
    cases fl with
    | ret u =>
      obtain ⟨v, H', I3, rv, ev, q3⟩ := I2.after z
      subst ev
      exact ⟨rv, V.ref (hp.objs.size + 1), H', I3, rfl, q3⟩
    | next => exact False.elim z
    | brk => exact False.elim z
    | cont => exact False.elim z
end
/-- C(f = e, ..) as a value -/
def tMkK (C : Addr) (n : Nat) (sp : Sp) (gV : List V → List V) (E : XK) (tk : TA) : TE := fun σ H Q => tk σ H fun zs H1 => zs.length = n ∧
  ∀ a, H1 a = none → sp (.ref a :: gV zs) (upd H1 a (exo a C none)) (fun v H2 => v = .non ∧ Q (.ref a) H2) E
section
variable {X : Cx} {CX : CXT} {k : Nat} {C fI : Addr} {sp : Sp} {E : XK} {x : Str} {p pos : Pos} {kws : List Keyword} {tk : TA} {fd : FuncData} {ps ks : List Str} {g : List Value → List Value} {gV : List V → List V}
theorem pe_mkK (T : OexC X.K C) (iC : PySem.W.findIn X.K (.ref C) "__init__" = some (some (.ref fI)))
    (tI : PySem.W.typeIn X.K (.ref fI) = some (.type "function")) (FO : FnOk X.prog X.w X.K X.mg X.base CX k fI fd ps sp)
    (hb : ∀ (s : Shared) (a : Addr) (ws : List Value), ws.length = ks.length → BindsTo s fd ⟨[.ref a], ks.zip ws⟩ (ps.zip (.ref a :: g ws)))
    (hg : ∀ {zs : List V} {ws : List Value}, Vals zs ws → Vals (gV zs) (g ws))
    (hr : Room (k + 1) X.A) (hx : Passes CX X E) (hgl : Gl X x) (hm : X.mg x = some (.ref C)) (hkw : PK X kws tk)
    (hks : (backToKw pos (keywordEach kws X.env)).filterMap (·.1) = ks := by rfl)
    (hall : (backToKw pos (keywordEach kws X.env)).all (·.1.isSome) = true := by rfl)
    (hpl : ((backTo pos (starEach [] X.env)).any (·.1) || (backToKw pos (keywordEach kws X.env)).any (·.1.isNone)) = false := by rfl)
    (hdb : (x == ("__debug__" : Str)) = false := by decide) :
    PE X (.Call (.Name x p) [] kws pos) (tMkK C ks.length sp gV E tk) := by
  refine ⟨fun pins s σ H Q I h => wpAny_Call_Name_kw (ld_glob I hgl hm ?_ hdb)⟩
  refine PySem.W.callWith_KW0 (h₀ := X.base) I.ok.mod.kin T.kC hall (thn (hkw.run pos pins s σ H _ I h) fun ws s2 ⟨zs, H2, I2, rz, l2, q2⟩ => ⟨I2.kIn, ?_⟩) hpl
  rw [hks]
  exact run_mkK T iC tI FO hb hg hr hx I2 rz l2 q2
end
/-! ### what stands behind the making -/
theorem PE.imp {X : Cx} {e : Expr} {t t' : TE} (he : PE X e t) (h : ∀ σ H Q, t' σ H Q → t σ H Q) : PE X e t' := ⟨fun pins s σ H Q I z => he.run pins s σ H Q I (h σ H Q z)⟩
/-- an error of the class at C with these fields (the last one first) -/
def ErrAt (H : Hp) (e C : Addr) (fs : List (Str × V)) : Prop := ∃ d p, H e = some (exo e C (some d)) ∧ H d = some (exd d (fs ++ [(("told" : Str), V.ref p)]))
theorem ErrAt.same {H H' : Hp} {e C : Addr} {fs : List (Str × V)} (S : Same H H') : ErrAt H e C fs → ErrAt H' e C fs
  | ⟨d, p, h1, h2⟩ => ⟨d, p, S _ _ h1, S _ _ h2⟩
/-- the __init__ of such a class: the values under the names, behind all that the base keeps -/
def spIni (K : PySem.W.Frag) (C : Addr) (ns : List Str) : Sp := fun vs H Q _ => ∃ (a : Addr) (ys : List V), vs = .ref a :: ys ∧ ys.length = ns.length ∧ H a = some (exo a C none) ∧
  ∀ H', (∀ b o, b ≠ a → H b = some o → H' b = some o) → ErrAt H' a C (ns.zip ys).reverse → Q .non H'
theorem new_of {K : PySem.W.Frag} {C : Addr} {ns : List Str} {E : XK} {Q : VK} {ys : List V} {H1 : Hp} (hl : ys.length = ns.length) (q : ∀ e H', Same H1 H' → H1 e = none → ErrAt H' e C (ns.zip ys).reverse → Q (.ref e) H') (a : Addr) (ha : H1 a = none) :
    spIni K C ns (.ref a :: ys) (upd H1 a (exo a C none)) (fun v H2 => v = .non ∧ Q (.ref a) H2) E := by
  refine ⟨a, ys, rfl, hl, upd_same, fun H' k A => ⟨rfl, q a H' (fun b o e => ?_) ha A⟩⟩
  have n : b ≠ a := ne_of_none e ha
  exact k b o n (by rw [upd_ne n]; exact e)
def tNew1 (C : Addr) (f : Str) (i : Nat) : TE := fun σ H Q => ∃ v, σ[i]? = some (some v) ∧ ∀ e H', Same H H' → H e = none → ErrAt H' e C [(f, v)] → Q (.ref e) H'
def tNew2 (C : Addr) (f g : Str) (i j : Nat) : TE := fun σ H Q => ∃ v y, σ[i]? = some (some v) ∧ σ[j]? = some (some y) ∧ ∀ e H', Same H H' → H e = none → ErrAt H' e C [(g, y), (f, v)] → Q (.ref e) H'
def tNew0 (C : Addr) : TE := fun _ H Q => ∀ e H', Same H H' → H e = none → ErrAt H' e C [] → Q (.ref e) H'
section
variable {X : Cx} {C fI : Addr} {x f g : Str} {p pos p1 p2 q1 q2 : Pos} {k : Nat} {fs : List Str} {i j : Nat} {fd : FuncData} {ps : List Str} {a b : Expr}
theorem pe_new1 (T : ErrT X.K C fI fs) (FR : FnR X.prog X.w X.K X.mg X.base CX0 k fI (spIni X.K C [f])) (hr : Room (k + 1) X.A) (hg : Gl X x) (hm : X.mg x = some (.ref C)) (ha : PA X [a] (tCons (tVar i) tNil))
    (hdb : (x == ("__debug__" : Str)) = false := by decide)
    (he : starEach [a] X.env = (false, eval a X.env) :: starEach [] X.env := by rfl) : PE X (.Call (.Name x p) [a] [] pos) (tNew1 C f i) :=
  PE.imp (pe_mk (E := E0) T.ox T.iC T.tI FR hr pass0 hg hm ha hdb he) fun σ H Q ⟨v, h1, h2⟩ => ⟨v, h1, (by show 1 ≤ 1000; decide), fun a ha => new_of (ys := [v]) rfl h2 a ha⟩
theorem pe_new2 (T : ErrT X.K C fI fs) (FR : FnR X.prog X.w X.K X.mg X.base CX0 k fI (spIni X.K C [f, g])) (hr : Room (k + 1) X.A) (hg : Gl X x) (hm : X.mg x = some (.ref C)) (ha : PA X [a, b] (tCons (tVar i) (tCons (tVar j) tNil)))
    (hdb : (x == ("__debug__" : Str)) = false := by decide)
    (he : starEach [a, b] X.env = (false, eval a X.env) :: starEach [b] X.env := by rfl)
    (hpl : (backTo pos (starEach [b] X.env)).any (·.1) = false := by rfl) : PE X (.Call (.Name x p) [a, b] [] pos) (tNew2 C f g i j) :=
  PE.imp (pe_mk (E := E0) T.ox T.iC T.tI FR hr pass0 hg hm ha hdb he hpl) fun σ H Q ⟨v, y, h1, h2, h3⟩ => ⟨v, h1, y, h2, (by show 2 ≤ 1000; decide), fun a ha => new_of (ys := [v, y]) rfl h3 a ha⟩
theorem pe_new0 (T : ErrT X.K C fI fs) (FR : FnR X.prog X.w X.K X.mg X.base CX0 k fI (spIni X.K C [])) (hr : Room (k + 1) X.A) (hg : Gl X x) (hm : X.mg x = some (.ref C))
    (hdb : (x == ("__debug__" : Str)) = false := by decide) : PE X (.Call (.Name x p) [] [] pos) (tNew0 C) :=
  PE.imp (pe_mk0 (E := E0) T.ox T.iC T.tI FR hr pass0 hg hm hdb) fun σ H Q h => ⟨(by show 0 ≤ 1000; decide), fun a ha => new_of (ys := []) rfl (fun e H' S n A => h e H' S n A) a ha⟩
/-- C(f = e) -/
theorem pe_newK1 (T : ErrT X.K C fI fs) (FO : FnOk X.prog X.w X.K X.mg X.base CX0 k fI fd ps (spIni X.K C [f]))
    (hb : ∀ (s : Shared) (a : Addr) (ws : List Value), ws.length = [f].length → BindsTo s fd ⟨[.ref a], [f].zip ws⟩ (ps.zip (.ref a :: ws)))
    (hr : Room (k + 1) X.A) (hg : Gl X x) (hm : X.mg x = some (.ref C)) (ha : PE X a (tVar i))
    (hks : (backToKw pos (keywordEach [⟨some f, a, q1⟩] X.env)).filterMap (·.1) = [f] := by rfl)
    (hall : (backToKw pos (keywordEach [⟨some f, a, q1⟩] X.env)).all (·.1.isSome) = true := by rfl)
    (hpl : ((backTo pos (starEach [] X.env)).any (·.1) || (backToKw pos (keywordEach [⟨some f, a, q1⟩] X.env)).any (·.1.isNone)) = false := by rfl)
    (hdb : (x == ("__debug__" : Str)) = false := by decide) : PE X (.Call (.Name x p) [] [⟨some f, a, q1⟩] pos) (tNew1 C f i) :=
  PE.imp (pe_mkK (E := E0) (g := fun ws => ws) (gV := fun vs => vs) T.ox T.iC T.tI FO hb (fun r => r) hr pass0 hg hm (pk_cons ha pk_nil) hks hall hpl hdb)
    fun σ H Q ⟨v, h1, h2⟩ => ⟨v, h1, rfl, fun a ha => new_of (ys := [v]) rfl h2 a ha⟩
theorem vals_rev : ∀ {vs : List V} {us : List Value}, Vals vs us → Vals vs.reverse us.reverse
  | _, _, .nil => .nil
  | _, _, .cons (a := a) (b := b) h r => by
    rw [List.reverse_cons, List.reverse_cons]
    exact (vals_rev r).append (.cons h .nil)
/-- C(g = e, f = e'), the names the other way about -/
theorem pe_newK2 (T : ErrT X.K C fI fs) (FO : FnOk X.prog X.w X.K X.mg X.base CX0 k fI fd ps (spIni X.K C [f, g]))
    (hb : ∀ (s : Shared) (a : Addr) (ws : List Value), ws.length = [g, f].length → BindsTo s fd ⟨[.ref a], [g, f].zip ws⟩ (ps.zip (.ref a :: ws.reverse)))
    (hr : Room (k + 1) X.A) (hg : Gl X x) (hm : X.mg x = some (.ref C)) (ha : PE X a (tVar j)) (hb2 : PE X b (tVar i))
    (hks : (backToKw pos (keywordEach [⟨some g, a, q1⟩, ⟨some f, b, q2⟩] X.env)).filterMap (·.1) = [g, f] := by rfl)
    (hall : (backToKw pos (keywordEach [⟨some g, a, q1⟩, ⟨some f, b, q2⟩] X.env)).all (·.1.isSome) = true := by rfl)
    (hpl : ((backTo pos (starEach [] X.env)).any (·.1) || (backToKw pos (keywordEach [⟨some g, a, q1⟩, ⟨some f, b, q2⟩] X.env)).any (·.1.isNone)) = false := by rfl)
    (hdb : (x == ("__debug__" : Str)) = false := by decide) : PE X (.Call (.Name x p) [] [⟨some g, a, q1⟩, ⟨some f, b, q2⟩] pos) (tNew2 C f g i j) :=
  PE.imp (pe_mkK (E := E0) (g := fun ws => ws.reverse) (gV := fun vs => vs.reverse) T.ox T.iC T.tI FO hb (fun r => vals_rev r) hr pass0 hg hm (pk_cons ha (pk_cons hb2 pk_nil)) hks hall hpl hdb)
    fun σ H Q ⟨v, y, h1, h2, h3⟩ => ⟨y, h2, v, h1, rfl, fun a ha => new_of (ys := [v, y]) rfl h3 a ha⟩
/-- e.f of such an error -/
def tGet (C : Addr) (f : Str) (te : TE) : TE := fun σ H Q => te σ H fun x H1 => ∃ e fs v, x = .ref e ∧ ErrAt H1 e C fs ∧ fs.lookup f = some v ∧ Q v H1
theorem look_more {f : Str} {v : V} : ∀ {fs gs : List (Str × V)}, fs.lookup f = some v → (fs ++ gs).lookup f = some v
  | [], _, h => by cases h
  | (n, y) :: fs, gs, h => by
    show (match f == n with | true => some y | false => (fs ++ gs).lookup f) = some v
    have h2 : (match f == n with | true => some y | false => fs.lookup f) = some v := h
    cases q : (f == n) with
    | true =>
      rw [q] at h2
      exact h2
    | false =>
      rw [q] at h2
      exact look_more h2
/-- the field of an error that is made on the spot -/
def tG1 (C : Addr) (f : Str) (i : Nat) : TE := fun σ H Q => ∃ v, σ[i]? = some (some v) ∧ ∀ H', Same H H' → Q v H'
theorem pe_get1 (T : ErrT X.K C fI fs) (hf : f ∈ fs) (he : PE X a (tNew1 C f i)) (hb : attributeBase a f X.env (eval a X.env) = eval a X.env := by rfl) : PE X (.Attribute a f pos) (tG1 C f i) :=
  PE.imp (pe_err he hb) fun σ H Q ⟨v, h1, h2⟩ => ⟨v, h1, fun e H' S n ⟨d, q, a1, a2⟩ => ⟨e, C, d, _, v, rfl, T.ec, T.no f hf, a1, a2, look_more (by simp [List.lookup]), h2 H' S⟩⟩
/-- the field of an error that a slot holds -/
theorem pe_getv (T : ErrT X.K C fI fs) (hf : f ∈ fs) (he : PE X a (tVar i)) (hb : attributeBase a f X.env (eval a X.env) = eval a X.env := by rfl) :
    PE X (.Attribute a f pos) (fun σ H Q => ∃ e gs v, σ[i]? = some (some (.ref e)) ∧ ErrAt H e C gs ∧ gs.lookup f = some v ∧ Q v H) :=
  PE.imp (pe_err he hb) fun σ H Q ⟨e, gs, v, h1, ⟨d, q, a1, a2⟩, l, h2⟩ => ⟨_, h1, e, C, d, _, v, rfl, T.ec, T.no f hf, a1, a2, look_more l, h2⟩
end
end Ev
set_option Elab.async false
set_option linter.all false
set_option maxRecDepth 100000
set_option maxHeartbeats 4000000
/-! The base's own __init__ and the others', whatever the text: what is asked of the body. -/
namespace Ev
open PySem PySem.Spec PyProof.Rows L2
/-- PadError.__init__(self, *told) -/
def spPad (K : PySem.W.Frag) : Sp := fun vs H Q _ => ∃ (a C : Addr) (ws : List V), vs = .ref a :: ws ∧ OexC K C ∧ PySem.W.findIn K (.ref C) "told" = some none ∧ H a = some (exo a C none) ∧ ws.length ≤ 900 ∧
  ∀ p d, H p = none → H d = none → d ≠ p → d ≠ a → Q .non (upd (upd (upd H p (.tup ws)) d (exd d [(("told" : Str), .ref p)])) a (exo a C (some d)))
def spPadIn (K : PySem.W.Frag) : Sp := fun vs H Q _ => ∃ (a C p : Addr), vs = [.ref a, .ref p] ∧ OexC K C ∧ PySem.W.findIn K (.ref C) "told" = some none ∧ H a = some (exo a C none) ∧
  ∀ d, H d = none → d ≠ a → Q .non (upd (upd H d (exd d [(("told" : Str), .ref p)])) a (exo a C (some d)))
theorem pad_imp {K : PySem.W.Frag} (vs : List V) (H : Hp) (Q : VK) (E : XK) (h : spPad K vs H Q E) :
    ∃ ws rest, vs = ws ++ rest ∧ ws.length = (["self"] : List Str).length ∧ rest.length ≤ sizeLine ∧ ∀ p, H p = none → spPadIn K (ws ++ [V.ref p]) (upd H p (.tup rest)) Q E := by
  obtain ⟨a, C, ws, rfl, T, no, ha, hl, q⟩ := h
  refine ⟨[.ref a], ws, rfl, rfl, by rw [sizeLine_eq]; omega, fun p hp => ⟨a, C, p, rfl, T, no, ?_, fun d hd ne => ?_⟩⟩
  · rw [upd_ne (ne_of_none ha hp)]
    exact ha
  · have dp : d ≠ p := fun z => by
      rw [z, upd_same] at hd
      cases hd
    rw [upd_ne dp] at hd
    exact q p d hp hd dp ne
/-- behind the base's __init__: one field more -/
theorem ini1 {H : Hp} {a C p d : Addr} {ws : List V} {f : Str} {y : V} (ha : H a = some (exo a C none)) (hp : H p = none) (hd : H d = none) (dp : d ≠ p) (da : d ≠ a) :
    (∀ b o, b ≠ a → H b = some o → (upd (upd (upd (upd H p (.tup ws)) d (exd d [(("told" : Str), .ref p)])) a (exo a C (some d))) d (exd d [(f, y), (("told" : Str), .ref p)])) b = some o) ∧
    ErrAt (upd (upd (upd (upd H p (.tup ws)) d (exd d [(("told" : Str), .ref p)])) a (exo a C (some d))) d (exd d [(f, y), (("told" : Str), .ref p)])) a C [(f, y)] := by
  refine ⟨fun b o n e => ?_, d, p, ?_, upd_same⟩
  · rw [upd_ne (ne_of_none e hd), upd_ne n, upd_ne (ne_of_none e hd), upd_ne (ne_of_none e hp)]
    exact e
  · rw [upd_ne (Ne.symm da), upd_same]
theorem ini2 {H : Hp} {a C p d : Addr} {ws : List V} {f g : Str} {x y : V} (ha : H a = some (exo a C none)) (hp : H p = none) (hd : H d = none) (dp : d ≠ p) (da : d ≠ a) :
    (∀ b o, b ≠ a → H b = some o → (upd (upd (upd (upd (upd H p (.tup ws)) d (exd d [(("told" : Str), .ref p)])) a (exo a C (some d))) d (exd d [(f, x), (("told" : Str), .ref p)])) d (exd d [(g, y), (f, x), (("told" : Str), .ref p)])) b = some o) ∧
    ErrAt (upd (upd (upd (upd (upd H p (.tup ws)) d (exd d [(("told" : Str), .ref p)])) a (exo a C (some d))) d (exd d [(f, x), (("told" : Str), .ref p)])) d (exd d [(g, y), (f, x), (("told" : Str), .ref p)])) a C [(g, y), (f, x)] := by
  refine ⟨fun b o n e => ?_, d, p, ?_, upd_same⟩
  · rw [upd_ne (ne_of_none e hd), upd_ne (ne_of_none e hd), upd_ne n, upd_ne (ne_of_none e hd), upd_ne (ne_of_none e hp)]
    exact e
  · rw [upd_ne (Ne.symm da), upd_ne (Ne.symm da), upd_same]
theorem ini0 {H : Hp} {a C p d : Addr} {ws : List V} (ha : H a = some (exo a C none)) (hp : H p = none) (hd : H d = none) (dp : d ≠ p) (da : d ≠ a) :
    (∀ b o, b ≠ a → H b = some o → (upd (upd (upd H p (.tup ws)) d (exd d [(("told" : Str), .ref p)])) a (exo a C (some d))) b = some o) ∧
    ErrAt (upd (upd (upd H p (.tup ws)) d (exd d [(("told" : Str), .ref p)])) a (exo a C (some d))) a C [] := by
  refine ⟨fun b o n e => ?_, d, p, upd_same, ?_⟩
  · rw [upd_ne n, upd_ne (ne_of_none e hd), upd_ne (ne_of_none e hp)]
    exact e
  · rw [upd_ne da, upd_same]
    rfl
end Ev
set_option Elab.async false
set_option linter.all false
set_option maxRecDepth 100000
set_option maxHeartbeats 4000000
/-! A caught error that is kept under another name: known behind its clause too. -/
namespace Ev
open PySem PySem.Spec PyProof.Rows L2
/-- at a: an error that was caught, of the class cls, its dict at d -/
def exk (a : Addr) (cls : Value) (d : Option Addr) : HO := .ext fun h => ∃ (oe : Obj) (vs : Array Value), h.get? a = some oe ∧ Zc cls d oe ∧ oe.data = .fields vs
theorem exk_ok {P : Program} {w : World} {H : Hp} {h : Heap} {a : Addr} {cls : Value} {d : Option Addr} {oe : Obj} {vs : Array Value} (ha : h.get? a = some oe) (z : Zc cls d oe) (hd : oe.data = .fields vs) :
    ObjOk P w H h a (exk a cls d) :=
  ⟨⟨oe, vs, ha, z, hd⟩, ⟨oe, ha⟩, fun h1 h2 ⟨o1, v1, e1, e2, e3⟩ k => ⟨o1, v1, k _ e1, e2, e3⟩⟩
theorem exk_at {P : Program} {w : World} {H : Hp} {h : Heap} {a : Addr} {cls : Value} {d : Option Addr} (hok : HOk P w H h) (e : H a = some (exk a cls d)) :
    ∃ (oe : Obj) (vs : Array Value), h.get? a = some oe ∧ Zc cls d oe ∧ oe.data = .fields vs := by
  have z := hok a _ e
  exact z.1
section
variable {X : Cx} {pins : List (Addr × Obj)} {σ : L2.St} {H : Hp} {s : Shared} {a : Addr} {oe : Obj} {vs : Array Value} {cls : Value} {d : Option Addr}
/-- an object of our own time that is not known yet is known from now on -/
theorem track (I : Inv X pins σ H s) (ha : s.heap.get? a = some oe) (z : Zc cls d oe) (hd : oe.data = .fields vs) (na : H a = none) (n0 : X.s_0.heap.get? a = none) (nL : a ≠ X.env.locals)
    (np : ∀ p ∈ X.pn ++ pins, p.1 ≠ a) : Inv X pins σ (upd H a (exk a cls d)) s := by
  have ne : ∀ {b : Addr} {u : HO}, H b = some u → b ≠ a := fun {b u} q => ne_of_none q na
  have n1 : ∀ {b : Addr} {u : Obj}, X.s_0.heap.get? b = some u → b ≠ a := fun {b u} q e => by
    rw [e, n0] at q
    cases q
  refine ⟨I.ok, I.os, I.bare, ?_, I.loc, I.cell, ?_, fun x c e => ?_, fun p hp => ?_, fun b u q => ?_, I.len⟩
  · refine ⟨I.base.keep, I.base.slot, fun b u q n hx => ?_, I.base.there, fun b xs q => ?_, fun b u v q => ?_, fun b ps q => ?_⟩
    · rw [upd_ne (n1 q)]
      exact I.base.free b u q n hx
    · have q' := I.base.tups b xs q
      rw [upd_ne (ne q')]
      exact q'
    · have q' := I.base.frzs b u v q
      rw [upd_ne (ne q')]
      exact q'
    · obtain ⟨m, q'⟩ := I.base.tbls b ps q
      exact ⟨m, by rw [upd_ne (ne q')]; exact q'⟩
  · rw [upd_ne (Ne.symm nL)]
    exact I.free
  · have nc : c ≠ a := fun q => by
      obtain ⟨w, o, ho, hw⟩ := I.cell x c e
      rw [q, ha] at ho
      cases ho
      rw [hd] at hw
      cases hw
    rw [upd_ne nc]
    exact I.freeC x c e
  · obtain ⟨e1, e2, e3⟩ := I.pin p hp
    exact ⟨e1, by rw [upd_ne (np p hp)]; exact e2, e3⟩
  · by_cases hb : b = a
    · subst hb
      rw [upd_same] at q
      cases q
      exact exk_ok ha z hd
    · rw [upd_ne hb] at q
      exact (I.hok b u q).stay (fun _ _ _ r => r) (fun c r => by rw [upd_ne (ne r)]; exact r) (fun c xs r => by rw [upd_ne (ne r)]; exact r)
end
/-- as wAs; behind the suite, if it ends, the error is known -/
def wKeep (K : PySem.W.Frag) (n : Nat) (c : Value) (i : Nat) (ts : Addr → Value → Option Addr → TS) (Wout : WX) (D : Ends) : WX := fun cls d σ H => σ.length = n → ∃ b, PySem.W.exmOne K cls c = some b ∧
  (b = true → ∀ a, H a = none → ts a cls d { nx := fun σ' H' => D.nx (σ'.set i none) (upd H' a (exk a cls d)), rt := fun v H' => D.rt v H', bk := fun _ _ => False, ct := fun _ _ => False } (σ.set i (some (.ref a))) H) ∧
  (b = false → Wout cls d σ H)
section
variable {X : Cx} {x n : Str} {c : Value} {i : Nat} {body suite : List Stmt} {b₀ : Stmt} {np pos pos' : Pos} {tb : WX → TS} {ts : Addr → Value → Option Addr → TS} {Wout : WX}
theorem ps_try_keep (hs : X.stack = X.env :: X.outer) (hf : X.env.frame = some X.env.locals) (hex : X.ex = []) (hN : X.N.Nodup) (hi : X.N[i]? = some n) (hln : X.env.kindOf n = some .local)
    (hc : Names X x c) (tk : Takes X Wout)
    (hb : ∀ (W : WX) (pn : List (Addr × Obj)) (xe : Value → Shared → Prop), Takes (X.tr pn xe) W → PassesOwn (model X.prog X.w) X.A X.env xe → PSs (X.tr pn xe) body (tb W))
    (hsu : ∀ (a : Addr) (oe : Obj) (cls : Value) (d : Option Addr) (pn : List (Addr × Obj)), PSs (X.suite a ((a, oe) :: pn)) (b₀ :: suite) (ts a cls d)) :
    PS X (.Try body [.ExceptHandler (some (.Name x np)) (some n) (b₀ :: suite) pos'] [] [] pos) (fun D σ H => tb (wKeep X.K X.N.length c i ts Wout D) D σ H) := by
  constructor
  intro pins s σ H D I h
  have ok := I.ok
  have frm : X.A.frames = some (X.env :: X.outer) := ok.frames.trans (congrArg some hs)
  apply wpAny_Try_except
  have run := (hb (wKeep X.K X.N.length c i ts Wout D) (X.pn ++ pins) (fun e s1 => wpAny (model X.prog X.w) X.A (noteFrame e X.env)
    (fun _ s2 => wpAny (model X.prog X.w) X.A (setFlight e none) (fun _ s3 => wpAny (model X.prog X.w) X.A (handleBy e X.env [.ExceptHandler (some (.Name x np)) (some n) (b₀ :: suite) pos']) (SP X pins D) X.xe s3) X.xe s2) X.xe s1)
    (fun u s' y => ?_) PassesOwn.looking).run [] s σ H D (I.toTry _) h
  · refine wpAny_mono run (fun f s1 z => ?_) fun _ _ z => z
    cases f with
    | next => obtain ⟨σ', H', J, q⟩ := z; exact wpAny_execs_nil ⟨σ', H', J.ofTry ok, q⟩
    | ret u => obtain ⟨v, σ', H', J, r, q⟩ := z; exact ⟨v, σ', H', J.ofTry ok, r, q⟩
    | brk => obtain ⟨σ', H', J, q⟩ := z; exact ⟨σ', H', J.ofTry ok, q⟩
    | cont => obtain ⟨σ', H', J, q⟩ := z; exact ⟨σ', H', J.ofTry ok, q⟩
  · obtain ⟨a, B, sI, pins', σ', H', cls, d, rfl, J', nb, up, sky, na, os, ag, wk⟩ := y
    obtain ⟨b, hb1, yes, no⟩ := wk J'.len
    have J : Inv X pins σ' H' sI := J'.ofTry ok
    have sk : Sky B (X.env :: X.outer) a (Zc cls d) X.env.locals s'.heap := hs ▸ sky
    show wpAny (model X.prog X.w) X.A (noteFrame (.ref a) X.env) _ _ _
    refine Sky.land Zc.steady frm hf sk fun g1 l1 u1 => ?_
    have nBa : B.get? a = none := l1.2.1
    have J1 : Inv X pins σ' H' { s' with heap := g1 } := J.landed nb l1.1 (up.trans u1) os ag
    obtain ⟨o1, v1, a1, z1, d1⟩ := l1.there
    have off : ∀ {g : Heap} {o : Obj} {vs : Array Value}, g.FunFrames B (X.env :: X.outer) → g.get? a = some o → o.data = .fields vs → a ∉ frs (X.env :: X.outer) := by
      intro g o vs ff e dd hm
      obtain ⟨_, o', e', hnf⟩ := ff.mem hm
      rw [e] at e'
      cases e'
      exact hnf _ dd
    have nfr := off l1.2.2.1 a1 d1
    have nL : a ≠ X.env.locals := fun q => nfr (List.mem_filterMap.mpr ⟨X.env, List.mem_cons_self, by rw [q]; exact hf⟩)
    have nF : a ∉ X.fs := fun q => by
      obtain ⟨e, he, w⟩ := List.mem_filterMap.mp q
      exact nfr (List.mem_filterMap.mpr ⟨e, List.mem_cons_of_mem _ he, w⟩)
    -- what the ground has is not a
    have ground : ∀ {b : Addr} {o : Obj}, sI.heap.get? b = some o → b ∉ frs X.stack → b ≠ a := fun {b o} e hb q => by
      have w := nb b o e hb
      rw [q, nBa] at w
      cases w
    have n0 : X.s_0.heap.get? a = none := by
      cases e : X.s_0.heap.get? a with
      | none => rfl
      | some o =>
        obtain ⟨o', e'⟩ := J.base.there a o e (by rw [hex]; intro q; cases q)
        exact absurd rfl (ground e' (fun q => nfr (hs ▸ q)))
    have np' : ∀ p ∈ X.pn ++ pins, p.1 ≠ a := fun p hp => by
      obtain ⟨e1, e2, e3, e4, e5⟩ := J.pin p hp
      exact ground e1 fun q => (List.mem_cons.mp (J.stkSub _ q)).elim e3 e4
    have S1 := J1.suite a1 d1 na nL nF
    refine wpAny_handleBy_cons (codeAny_handlers_test ?_) (by intro q; cases q)
    have LT : PySem.W.Looks (model X.prog X.w) g1 (typeOf (.ref a)) cls := fun A Q E s k q => wpAny_typeOf_ref (k _ _ a1) (by rw [z1.1]; exact q)
    have LM := PySem.W.exm_one (M := model X.prog X.w) (J1.kIn) LT hb1
    have test : ∀ {Q : Value → Shared → Prop} {E : Value → Shared → Prop}, Q c { s' with heap := g1 } → wpAny (model X.prog X.w) (X.A.mark (some (.ref a))) (eval (.Name x np) X.env) Q E { s' with heap := g1 } := by
      intro Q E q
      obtain ⟨hg, hdb, hm | ⟨hm, hv, hn⟩⟩ := hc
      · exact ld_glob (X := X.suite a ((a, o1) :: (X.pn ++ pins))) S1 hg hm q hdb
      · exact ld_blt (X := X.suite a ((a, o1) :: (X.pn ++ pins))) S1 hg hm hv q hn hdb
    refine test (LM.here ?_)
    cases b with
    | true =>
      refine codeAny_handlers_suite_as (HandSPX.lands_againZ l1 fun g2 l2 u2 => ?_)
      have J2 : Inv X pins σ' H' { s' with heap := g2 } := J.landed nb l2.1 ((up.trans u1).trans u2) os ag
      obtain ⟨o2, v2, a2, z2, d2⟩ := l2.there
      refine store_ok (X := X.suite a ((a, o2) :: (X.pn ++ pins))) (v := .ref a) (J2.suite a2 d2 na nL nF) hN hi (.inl hln) rfl (fun s3 S3 => ?_) (.inr hln)
      refine wpAny_mono ((hsu a o2 cls d (X.pn ++ pins)).run [] s3 _ H' _ S3 (yes rfl a na)) (fun f s4 z => ?_) (fun _ _ q => False.elim q)
      cases f with
      | next =>
        obtain ⟨σ4, H4, S4, q4⟩ := z
        obtain ⟨e1, e2, _⟩ := S4.pin (a, o2) (List.mem_append_left _ List.mem_cons_self)
        have T4 := track (S4.unsuite ok) e1 z2 d2 e2 n0 nL np'
        exact gone_ok T4 hN hi hln fun s7 J7 => ⟨_, _, J7, q4⟩
      | ret u =>
        obtain ⟨v4, σ4, H4, S4, r4, q4⟩ := z
        exact gone_ok (S4.unsuite ok) hN hi hln fun s7 J7 => ⟨_, _, _, J7, r4, q4⟩
      | brk => obtain ⟨_, _, _, q⟩ := z; exact False.elim q
      | cont => obtain ⟨_, _, _, q⟩ := z; exact False.elim q
    | false =>
      show wpAny _ X.A (handleBy (.ref a) X.env []) _ _ _
      refine wpAny_handleBy_nil ?_
      obtain ⟨_, _, _, oe, vs, T, oT, ts', he, hz, hd, h1, _⟩ := id l1
      unfold PySem.passOn
      refine wpAny_bind (wpAny_field he hd h1 ?_)
      have nn : ¬ ((Value.ref T == Value.none) = true) := by simp
      rw [if_neg nn]
      have fin : wpAny (model X.prog X.w) X.A (setFlight (.ref a) X.env.frame) (fun _ s4 => wpAny (model X.prog X.w) X.A (throw (.ref a) : Sem Flow) (SP X pins D) X.xe s4) X.xe { s' with heap := g1 } := by
        rw [hf]
        exact HandSPX.setFlight_upZ l1 fun g5 l5 u5 => wpAny_throw (tk _ _ ⟨a, B, sI, pins, σ', H', cls, d, rfl, J, nb, (up.trans u1).trans u5, .inr (.inr (by rw [hs]; exact l5)), na, os, ag, no rfl⟩)
      first
        | exact wpAny_bind (wpAny_pure (wpAny_bind fin))
        | exact wpAny_bind fin
end
/-! ### such an error's class and fields -/
theorem exk_inst {P : Program} {w : World} {H : Hp} {h : Heap} {a C dd : Addr} {fs : List (Str × V)} (hok : HOk P w H h) (ea : H a = some (exk a (.ref C) (some dd))) (ed : H dd = some (.xd fs)) :
    ∃ (oe od : Obj) (mA : Str → Option Value), PySem.W.InstAt h a oe C (some od) ∧ (∀ y, PySem.W.lookIn y od = some (mA y)) ∧ ∀ f, RelO (fs.lookup f) (mA f) := by
  obtain ⟨oe, vs, ho, z, hv⟩ := exk_at hok ea
  have hx : ObjOk P w H h dd (.xd fs) := hok dd _ ed
  obtain ⟨mA, hns, rel⟩ := hx
  obtain ⟨od, hd, hl⟩ := lookIn_ns hns
  exact ⟨oe, od, mA, ⟨ho, z.1, by unfold PySem.W.notCls; rw [hv] <;> rfl, by rw [z.2]; exact hd⟩, hl, rel⟩
def tKept (K : PySem.W.Frag) (ta : TE) (f : Str) : TE := fun σ H Q => ta σ H fun x H1 => ∃ (a C dd : Addr) (fs : List (Str × V)) (v : V), x = .ref a ∧
  ExcC K C ∧ PySem.W.findIn K (.ref C) f = some none ∧ H1 a = some (exk a (.ref C) (some dd)) ∧ H1 dd = some (.xd fs) ∧ fs.lookup f = some v ∧ Q v H1
theorem pe_kept {X : Cx} {e : Expr} {te : TE} {f : Str} {pos : Pos} (he : PE X e te) (hb : attributeBase e f X.env (eval e X.env) = eval e X.env := by rfl) : PE X (.Attribute e f pos) (tKept X.K te f) := by
  refine ⟨fun pins s σ H Q I h => attr_of hb (thn (he.run pins s σ H _ I h) fun u s1 z => ?_)⟩
  obtain ⟨x, H1, I1, rx, a, C, dd, fs, v, ex, T, no, ea, ed, l, q⟩ := z
  subst ex
  obtain rfl : u = Value.ref a := rx
  obtain ⟨oe, od, mA, J, hl, rel⟩ := exk_inst I1.hok ea ed
  obtain ⟨u, hu, ru⟩ := RelO.some_of (v := v) (o := mA f) (by rw [← l]; exact rel f)
  exact PySem.HandSPX.exc_get I1.kIn J T.hg T.hk T.hs (PySem.W.findObj_own T.hd no rfl (by rw [hl, hu])) (handed_of ru) ⟨v, H1, I1.tok _, ru, q⟩
def rIsK (K : PySem.W.Frag) : List V → Hp → VK → Prop := fun xs H Q => ∃ (a D dd : Addr) (fs : List (Str × V)) (c : V) (cv : Value) (b : Bool), xs = [.ref a, c] ∧ ExcC K D ∧
  H a = some (exk a (.ref D) (some dd)) ∧ H dd = some (.xd fs) ∧ (∀ u, RelV c u → u = cv) ∧ PySem.W.kitOne K (.ref D) cv = some b ∧ Q (.bl b) H
theorem call_isK {X : Cx} : CallR X (.builtin "isinstance") (rIsK X.K) := by
  intro pins s σ H xs us Q I r h
  obtain ⟨a, D, dd, fs, c, cv, b, rfl, T, ea, ed, hcv, e, q⟩ := h
  obtain ⟨oe, od, mA, J, hl, rel⟩ := exk_inst I.hok ea ed
  obtain ⟨u1, u2, rfl, r1, r2⟩ : ∃ u1 u2, us = [u1, u2] ∧ RelV (.ref a) u1 ∧ RelV c u2 := by
    cases r with
    | cons rx rr => cases rr with
      | cons rt rr => cases rr; exact ⟨_, _, rfl, rx, rt⟩
  obtain rfl : u1 = Value.ref a := r1
  obtain rfl := hcv _ r2
  exact PySem.W.kia_one (kit_err T) I.kIn J e (fun z => nomatch z) fun tk => ⟨.bl b, H, I.kept (t' := tk) fun _ _ z => z, rfl, q⟩
end Ev
set_option Elab.async false
set_option linter.all false
set_option maxRecDepth 100000
set_option maxHeartbeats 4000000
/-! The end of a law whose defs make lambdas and ask repr: tables of code objects are known at its entry; the Hook that leaves them out. -/
namespace Ev
open PySem PySem.Spec PyProof.Rows L2 LamX
abbrev emptyT : Obj := { cls := .none, data := .fields #[] }
/-- what may be known at the law's entry -/
def OnlyT (T : List (Addr × Addr)) (H : Hp) : Prop := ∀ b, H b = none ∨ (∃ p ∈ T, p.2 = b ∧ H b = some (.tbl #[])) ∨ ∃ o xs, H b = some (.frz o (.lst xs))
section
variable {P : Program} {w : World} {K : PySem.W.Frag} {mg mb : Str → Option Value} {CX : CXT} {k : Nat} {fa a : Addr} {sp : Sp} {s1 : Shared} {vs : List Value} {ns : List Int} {T : List (Addr × Addr)}
structure TabsIn (K : PySem.W.Frag) (h : Heap) (T : List (Addr × Addr)) : Prop where
  at_ : ∀ p ∈ T, h.get? p.2 = some emptyT
  out : ∀ p ∈ T, K.lookup p.2 = none
  hd : ∀ p ∈ T, PySem.W.CodeHd h p.1 p.2
abbrev BMain (mg : Str → Option Value) (h : Heap) : Prop := ∃ (bm : Addr) (ob : Obj), mg "__builtins__" = some (.ref bm) ∧ bm ≠ builtinsNs ∧ h.get? bm = some ob ∧ ob.cls = .type "module" ∧ ob.dict = some builtinsNs ∧ ob.data = .plain
theorem law_fromT {H : Hp} (KX : K.In s1.heap) (hns : s1.heap.Ns mainGlobals mg) (hb : s1.heap.Ns builtinsNs mb) (hbb : ∀ x : Str, x ≠ "__name__" → mb x = bootBuiltins x)
    (hlim : s1.heap.NoLimit) (hg : s1.gens = #[]) (ha : s1.heap.get? a = some { cls := .type "list", data := .seq vs.toArray }) (hr : Room k callerA) (TI : TabsIn K s1.heap T) (hbm : BMain mg s1.heap)
    (F : ∀ base : Heap, K.In base → base.Ns mainGlobals mg → (∀ p ∈ T, TabB base mg p.1 p.2) → FnG P w K mg base CX k fa sp)
    (hsp : sp [.ref a] H (fun v _ => v = .bl true) fun _ _ _ => False) (hCX : ∀ e s', CX [] H s1 (fun _ _ _ => False) e s' → False)
    (hO : OnlyT T H) (hok : HOk P w H s1.heap) (hA : ∀ b, H b ≠ none → b = a ∨ ∃ p ∈ T, p.2 = b) (hK : H a ≠ none → K.lookup a = none) :
    codeAny (model P w) callerA (.call (.ref fa) ⟨[.ref a], []⟩) (LawEnd s1) s1 := by
  -- an object that is neither a sequence nor an empty table is not tracked
  have free : ∀ {b : Addr} {o : Obj}, s1.heap.get? b = some o → (∀ us n, o.data ≠ .seq us n) → o.data ≠ .fields #[] → H b = none := fun {b o} e d1 d2 => by
    cases q : H b with
    | none => rfl
    | some u =>
      rcases hA b (by rw [q]; exact fun z => nomatch z) with z | ⟨p, hp, z⟩
      · rw [z, ha] at e
        cases e
        exact absurd rfl (d1 _ _)
      · rw [← z, TI.at_ p hp] at e
        cases e
        exact absurd rfl d2
  have dict : ∀ {b : Addr} {o : Obj} {es : Array DictEntry} {ep : Nat}, s1.heap.get? b = some o → o.data = .dict es ep → H b = none := fun {b o es ep} e d =>
    free e (fun us n z => by rw [d] at z; cases z) (fun z => by rw [d] at z; cases z)
  have nsk : ∀ {b : Addr} {m : Str → Option Value}, s1.heap.Ns b m → (hidT s1.heap H).Ns b m := fun ⟨o, es, ep, e, d, r⟩ => ⟨o, es, ep, hidT_get e (dict e d), d, r⟩
  have kb : K.In (hidT s1.heap H) := fun b o e => hidT_get (KX b o e) (by
    cases q : H b with
    | none => rfl
    | some u =>
      rcases hA b (by rw [q]; exact fun z => nomatch z) with z | ⟨p, hp, z⟩
      · subst z
        rw [hK (by rw [q]; exact fun z => nomatch z)] at e
        cases e
      · rw [← z, TI.out p hp] at e
        cases e)
  obtain ⟨mc, l1, l2⟩ := hlim
  have e0 : Env0 P w K mg (hidT s1.heap H) callerA [] s1 H := {
    frames := rfl
    mod := ⟨kb, nsk hns, ⟨mb, nsk hb, hbb⟩, ⟨mc, nsk l1, l2⟩⟩
    bs := fun b o e => of_hidT e
    bsz := Nat.le_of_eq (hidT_size _ _)
    funs := trivial
    frf := fun b hm => absurd (show b ∈ ([] : List Addr) from hm) (by simp)
    hok := hok
    bare := .of_eq hg }
  have TB : ∀ p ∈ T, TabB (hidT s1.heap H) mg p.1 p.2 := fun p hp => by
    have hT := TI.at_ p hp
    have notG : mainGlobals ≠ p.2 := fun z => by
      obtain ⟨o, es, ep, e, d, _⟩ := hns
      rw [z, hT] at e
      cases e
      cases d
    obtain ⟨o, us, file, tf, fl, tg, iF, tx, tt, c1, c2, c3, c4, c5⟩ := TI.hd p hp
    obtain ⟨bm, ob, b1, b2, b3, b4, b5, b6⟩ := hbm
    have nG : bm ≠ mainGlobals := fun z => by
      obtain ⟨o, es, ep, e, d, _⟩ := hns
      rw [z, e] at b3
      cases b3
      rw [d] at b6
      cases b6
    have nP : bm ≠ p.2 := fun z => by
      rw [z, hT] at b3
      cases b3
      cases b6
    refine ⟨⟨o, us, file, tf, fl, tg, iF, tx, tt, hidT_get c1 (free c1 (fun w n z => ?_) (fun z => ?_)), c2, c3, c4, c5⟩, ⟨bm, ob, b1, b2, nG, nP, hidT_get b3 (free b3 (fun w n z => ?_) (fun z => ?_)), b4, b5, b6⟩, notG⟩
    · rw [c3] at z; cases z
    · rw [c3] at z
      cases z
      simp at c4
    · rw [b6] at z; cases z
    · rw [b6] at z; cases z
  refine codeAny_mono (F _ kb (nsk hns) TB callerA [] s1 H [.ref a] [.ref a] _ _ rfl hr e0 (.cons rfl .nil) hsp) fun r s' h => ?_
  have ends : ∀ {u : Value}, CE [] P w H s1 (fun v _ => v = .bl true) u s' → LawEnd s1 (.ok (.ret u)) s' := by
    intro u h
    obtain ⟨v, H', os, bare, un, ok2, rv, rfl⟩ := h
    obtain rfl : u = Value.bool true := rv
    have old : ∀ b o, s1.heap.get? b = some o → s'.heap.get? b = some o ∨ ∃ p ∈ T, p.2 = b ∧ ∃ more : Array Value, s'.heap.get? b = some { cls := .none, data := .fields more } := fun b o e => by
      rcases hO b with z | ⟨p, hp, z1, z2⟩ | ⟨ob, xs, z⟩
      · exact .inl (un.keep b o e z (by intro y; exact absurd (show b ∈ ([] : List Addr) from y) (by simp)) (by simp))
      · obtain ⟨more, y⟩ := un.tbls b #[] z2
        exact .inr ⟨p, hp, z1, _, ok2 b _ y⟩
      · obtain ⟨e1, _⟩ := hok b _ z
        obtain ⟨e2, _⟩ := ok2 b _ (un.frzs b ob _ z)
        rw [e] at e1
        cases e1
        exact .inl e2
    refine ⟨rfl, ⟨fun b o e => ?_, fun b o e => ?_⟩, os, bare⟩
    · rcases old b o e with z | ⟨p, hp, z1, more, z2⟩
      · exact .inl z
      · have hT := TI.at_ p hp
        rw [z1] at hT
        rw [hT] at e
        cases e
        refine .inr (.inl ⟨?_, rfl, #[], more, rfl, by rw [Array.empty_append]; exact z2⟩)
        rw [← z1]
        exact ((TI.hd p hp).tab (TI.at_ p hp)).isCodeTable
    · rcases old b o e with z | ⟨p, hp, z1, more, z2⟩
      · exact ⟨o, z⟩
      · exact ⟨_, z2⟩
  cases r with
  | error er => exact (hCX er s' h).elim
  | ok fl =>
    cases fl with
    | ret u => exact ends h
    | next => exact False.elim h
    | brk => exact False.elim h
    | cont => exact False.elim h
theorem law_callT (KX : K.In s1.heap) (hns : s1.heap.Ns mainGlobals mg) (hb : s1.heap.Ns builtinsNs mb) (hbb : ∀ x : Str, x ≠ "__name__" → mb x = bootBuiltins x)
    (hlim : s1.heap.NoLimit) (hg : s1.gens = #[]) (ha : s1.heap.get? a = some { cls := .type "list", data := .seq vs.toArray }) (hi : IntsAre vs ns) (hl : ns.length ≤ sizeLine)
    (hr : Room k callerA) (TI : TabsIn K s1.heap T) (hbm : BMain mg s1.heap)
    (F : ∀ base : Heap, K.In base → base.Ns mainGlobals mg → (∀ p ∈ T, TabB base mg p.1 p.2) → FnG P w K mg base CX k fa sp)
    (hsp : ∀ H : Hp, OnlyT T H → (∀ p ∈ T, H p.2 = some (.tbl #[])) → SqL K H a (ns.map V.int) → sp [.ref a] H (fun v _ => v = .bl true) fun _ _ _ => False)
    (hCX : ∀ H e s', CX [] H s1 (fun _ _ _ => False) e s' → False) : codeAny (model P w) callerA (.call (.ref fa) ⟨[.ref a], []⟩) (LawEnd s1) s1 := by
  have rv := vals_ints hi
  have lv := hi.length
  have notT : ∀ p ∈ T, p.2 ≠ a := fun p hp z => by
    have e := TI.at_ p hp
    rw [z, ha] at e
    have y : Data.seq vs.toArray _ = Data.fields #[] := congrArg Obj.data (Option.some.inj e)
    cases y
  let T2 : List Addr := T.map (·.2)
  have mT : ∀ p ∈ T, p.2 ∈ T2 := fun p hp => List.mem_map.mpr ⟨p, hp, rfl⟩
  have unT : ∀ b ∈ T2, ∃ p ∈ T, p.2 = b := fun b hb => List.mem_map.mp hb
  have naT : a ∉ T2 := fun z => by
    obtain ⟨p, hp, e⟩ := unT a z
    exact notT p hp e
  cases hk : K.lookup a with
  | some o =>
    have e := KX a o hk
    rw [ha] at e
    cases e
    let H : Hp := fun b => if b ∈ T2 then some (.tbl #[]) else none
    have hin : ∀ {b}, b ∈ T2 → H b = some (.tbl #[]) := fun h => if_pos h
    have hout : ∀ {b}, b ∉ T2 → H b = none := fun h => if_neg h
    have hO : OnlyT T H := fun b => by
      by_cases q : b ∈ T2
      · obtain ⟨p, hp, e⟩ := unT b q
        exact .inr (.inl ⟨p, hp, e, hin q⟩)
      · exact .inl (hout q)
    refine law_fromT KX hns hb hbb hlim hg ha hr TI hbm F (hsp H hO (fun p hp => hin (mT p hp)) (.inr ⟨_, vs.toArray, _, hk, rfl, rfl, rfl, by rw [List.size_toArray, lv]; exact hl, by simpa using rv⟩)) (hCX H) hO
      (fun b u z => ?_) (fun b z => ?_) fun z => absurd (hout naT) z
    · by_cases q : b ∈ T2
      · rw [hin q] at z
        cases z
        obtain ⟨p, hp, e⟩ := unT b q
        rw [← e]
        exact TI.at_ p hp
      · rw [hout q] at z
        cases z
    · by_cases q : b ∈ T2
      · exact .inr (unT b q)
      · exact absurd (hout q) z
  | none =>
    let H : Hp := fun b => if b = a then some (.frz { cls := .type "list", data := .seq vs.toArray } (.lst (ns.map V.int))) else if b ∈ T2 then some (.tbl #[]) else none
    have at1 : H a = some (.frz { cls := .type "list", data := .seq vs.toArray } (.lst (ns.map V.int))) := if_pos rfl
    have hin : ∀ {b}, b ∈ T2 → H b = some (.tbl #[]) := fun {b} h => (if_neg (fun z : b = a => naT (z ▸ h))).trans (if_pos h)
    have hout : ∀ {b}, b ≠ a → b ∉ T2 → H b = none := fun h1 h2 => (if_neg h1).trans (if_neg h2)
    have hO : OnlyT T H := fun b => by
      by_cases q : b ∈ T2
      · obtain ⟨p, hp, e⟩ := unT b q
        exact .inr (.inl ⟨p, hp, e, hin q⟩)
      · by_cases q1 : b = a
        · exact .inr (.inr ⟨_, _, q1 ▸ at1⟩)
        · exact .inl (hout q1 q)
    refine law_fromT KX hns hb hbb hlim hg ha hr TI hbm F (hsp H hO (fun p hp => hin (mT p hp)) (.inl (.inr ⟨_, at1⟩))) (hCX H) hO (fun b u z => ?_) (fun b z => ?_) fun _ => hk
    · by_cases q1 : b = a
      · subst q1
        rw [at1] at z
        cases z
        exact ⟨ha, by rw [List.length_map]; exact hl, vs, _, rv, ha⟩
      · by_cases q : b ∈ T2
        · rw [hin q] at z
          cases z
          obtain ⟨p, hp, e⟩ := unT b q
          rw [← e]
          exact TI.at_ p hp
        · rw [hout q1 q] at z
          cases z
    · by_cases q1 : b = a
      · exact .inl q1
      · by_cases q : b ∈ T2
        · exact .inr (unT b q)
        · exact absurd (hout q1 q) z
end
theorem walk_ofT {l : PySem.W.OpenLaw} {n k : Nat} {q : Program} {loose : List Str} {XP : (Str → Option Value) → Heap → Prop} {YP : World → Heap → Prop} {d : DefRec} {CX : CXT}
    (hn : l.most = some n) (hn2 : n ≤ sizeLine) (hdf : d.params.defaults = []) (hr : Room k callerA)
    (F : ∀ (w : World) (mg : Str → Option Value) (fa : Addr) (h : Heap), YP w h → h.Ns mainGlobals mg → mg d.name = some (.ref fa) →
      ∃ (K : PySem.W.Frag) (T : List (Addr × Addr)) (sp : Sp), K.In h ∧ TabsIn K h T ∧
        (∀ (H : Hp) (a : Addr) (ns : List Int), ns.length ≤ n → OnlyT T H → (∀ p ∈ T, H p.2 = some (.tbl #[])) → SqL K H a (ns.map V.int) → sp [.ref a] H (fun v _ => v = .bl true) fun _ _ _ => False) ∧
        ∀ base : Heap, K.In base → base.Ns mainGlobals mg → (∀ p ∈ T, TabB base mg p.1 p.2) → FnG l.prog w K mg base CX k fa sp)
    (hCX : ∀ (H : Hp) (s : Shared) (e : Value) (s' : Shared), CX [] H s (fun _ _ _ => False) e s' → False) :
    PySem.W.WalkO q loose XP YP l.row.toRowW d [] (fun f vs => PySem.call f vs) := by
  refine Att.attach_call hn hdf fun w s0 s1 mg mb fa o pm cd doc a vs ns G Y ho hd hcd hmg hobj hints hlen hg => ?_
  obtain ⟨K, T, sp, KX, TI, hsp, hF⟩ := F w mg fa _ Y G.T.g hmg
  exact law_callT KX G.T.g G.T.b G.T.builtins G.T.nolimit hg hobj hints (Nat.le_trans hlen hn2) hr TI G.T.bmain hF (fun H hO hT hS => hsp H a ns hlen hO hT hS) fun H e s' => hCX H s1 e s'
/-! ### the Hook -/
structure SaysY (fa : List He.Fa) (fn : List He.DefD) (tf : List He.Defn) (ex : PySem.W.Frag → Bool) (h : Heap) (K : PySem.W.Frag) : Prop where
  d : He.SaysD fa fn K
  more : ex K = true
  hd : ∀ p ∈ tf, PySem.W.codeHdIn K (He.cT K p).1 (He.cT K p).2 = true
  tab : ∀ p ∈ tf, K.lookup (He.cT K p).2 = none ∧ h.get? (He.cT K p).2 = some emptyT
abbrev fry (n : Nat) (g : Addr → Option Obj) : PySem.W.Frag := He.frT g (asE g n)
def obsY (n : Nat) (fa : List He.Fa) (fn : List He.DefD) (tf : List He.Defn) (ex : PySem.W.Frag → Bool) (g : Addr → Option Obj) : He.AlD × Bool :=
  (He.obsD fa fn (fry n g), ex (fry n g) && He.tabsB g tf (fry n g))
theorem saysY_of {n : Nat} {fa : List He.Fa} {fn : List He.DefD} {tf : List He.Defn} {ex : PySem.W.Frag → Bool} {h : Heap} (e : obsY n fa fn tf ex h.get? = (He.valD fn, true)) : SaysY fa fn tf ex h (fry n h.get?) := by
  obtain ⟨e1, e2⟩ := Prod.mk.inj e
  obtain ⟨h1, h2⟩ := Bool.and_eq_true_iff.mp e2
  have h3 := fun p hp => Bool.and_eq_true_iff.mp (List.all_eq_true.mp h2 p hp)
  refine ⟨e1, h1, fun p hp => (h3 p hp).1, fun p hp => ?_⟩
  have h4 := (h3 p hp).2
  cases q : h.get? (He.cT (fry n h.get?) p).2 with
  | none =>
    rw [q] at h4
    cases h4
  | some o =>
    rw [q] at h4
    exact ⟨He.frT_none q h4, by rw [He.emptyTab_eq h4]⟩
def hookY (n : Nat) (fa : List He.Fa) (fn : List He.DefD) (tf : List He.Defn) (ex : PySem.W.Frag → Bool) : PySem.W.Hook where
  α := He.AlD × Bool
  obs := fun s => obsY n fa fn tf ex s.heap.get?
  val := fun _ => (He.valD fn, true)
  says := fun _ h => ∃ K : PySem.W.Frag, K.In h ∧ SaysY fa fn tf ex h K
  of := fun _ _ e => ⟨_, He.frT_in, saysY_of e⟩
  keeps := fun _ _ _ ⟨K, hK, c⟩ k => ⟨K, PySem.W.Frag.In.keeps hK k, ⟨c.d, c.more, c.hd, fun p hp => ⟨(c.tab p hp).1, k _ _ (c.tab p hp).2⟩⟩⟩
theorem obsY_eq {n : Nat} {fa : List He.Fa} {fn : List He.DefD} {tf : List He.Defn} {ex : PySem.W.Frag → Bool} {g : Addr → Option Obj} {s : Shared} (h : ∀ a, g a = s.heap.get? a) :
    obsY n fa fn tf ex g = (hookY n fa fn tf ex).obs s := by
  have e : g = s.heap.get? := funext h
  rw [e] <;> rfl
theorem SaysY.tabs {fa : List He.Fa} {fn : List He.DefD} {tf : List He.Defn} {ex : PySem.W.Frag → Bool} {h : Heap} {K : PySem.W.Frag} (c : SaysY fa fn tf ex h K) (KX : K.In h) : TabsIn K h (tf.map (He.cT K)) where
  at_ := fun p hp => by
    obtain ⟨q, hq, rfl⟩ := List.mem_map.mp hp
    exact (c.tab q hq).2
  out := fun p hp => by
    obtain ⟨q, hq, rfl⟩ := List.mem_map.mp hp
    exact (c.tab q hq).1
  hd := fun p hp => by
    obtain ⟨q, hq, rfl⟩ := List.mem_map.mp hp
    exact PySem.W.codeHd_of_K KX (c.hd q hq)
end Ev
set_option Elab.async false
set_option linter.all false
set_option maxRecDepth 100000
set_option maxHeartbeats 4000000
/-! What the written part says of the parts' classes. -/
namespace Ev
open PySem PySem.Spec PyProof.Rows L2 PySem.W
/-- the class's own name, in its slot -/
def nameIn (K : Frag) (C : Addr) (x : Str) : Bool := match K.lookup C with
  | some ⟨_, _, _, sl⟩ => (match sl.toList with
    | [_, _, some (Value.str y _), _, _, _] => decide (y = x)
    | _ => false)
  | none => false
def getN (C : Addr) : Option CFound := some (.get (.builtin "getset_descriptor.__get__") (.builtin "type.__name__") (.ref C) (.type "type"))
def isN (C : Addr) : Option CFound → Bool
  | some (.get (.builtin g) (.builtin n) (.ref c) (.type t)) => decide (g = "getset_descriptor.__get__") && (decide (n = "type.__name__") && (decide (c = C) && decide (t = "type")))
  | _ => false
theorem isN_ok {C : Addr} {r : Option CFound} (h : isN C r = true) : r = getN C := by
  unfold isN at h
  split at h
  · obtain ⟨h1, h⟩ := two h
    obtain ⟨h2, h⟩ := two h
    obtain ⟨h3, h4⟩ := two h
    rw [of_decide_eq_true h1, of_decide_eq_true h2, of_decide_eq_true h3, of_decide_eq_true h4] <;> rfl
  · cases h
def partNames : List Str := ["Kind", "Use", "Byte"]
def flatTypes : List String := ["str", "int", "bool", "NoneType", "tuple"]
/-- one class over Part -/
structure PartC (K : Frag) (x : Str) : Prop where
  nm : nameIn K (He.ga K x) x = true
  gn : findCls K (.ref (He.ga K x)) (.type "type") "__name__" = getN (He.ga K x)
  rd : readsIn K (He.ga K x) (.type "type") = true
  ca : findIn K (.ref (He.ga K x)) "__class__" = some (some (.builtin "object.__class__"))
  cm : mroIn K (He.ga K x) (.type "object") = some true
  eq : findIn K (.ref (He.ga K x)) "__eq__" = some (some (.ref (He.ma K (He.ga K "Part") "__eq__")))
  ne : findIn K (.ref (He.ga K x)) "__ne__" = some (some (.builtin "object.__ne__"))
  kp : kitOne K (.ref (He.ga K x)) (.ref (He.ga K "Part")) = some true
  nf : ∀ y ∈ partNames, notFirst K (He.ga K x) (.ref (He.ga K y)) = true
  ft : ∀ t ∈ flatTypes, notFirst K (He.ga K x) (.type t) = true
def partB (K : Frag) (x : Str) : Bool := nameIn K (He.ga K x) x && (isN (He.ga K x) (findCls K (.ref (He.ga K x)) (.type "type") "__name__") && (readsIn K (He.ga K x) (.type "type") &&
  (eqS (findIn K (.ref (He.ga K x)) "__class__") (some (some (.builtin "object.__class__"))) && (decide (mroIn K (He.ga K x) (.type "object") = some true) &&
  (eqS (findIn K (.ref (He.ga K x)) "__eq__") (some (some (.ref (He.ma K (He.ga K "Part") "__eq__")))) && (eqS (findIn K (.ref (He.ga K x)) "__ne__") (some (some (.builtin "object.__ne__"))) &&
  (decide (kitOne K (.ref (He.ga K x)) (.ref (He.ga K "Part")) = some true) && ((partNames.all fun y => notFirst K (He.ga K x) (.ref (He.ga K y))) &&
  (flatTypes.all fun t => notFirst K (He.ga K x) (.type t))))))))))
theorem partB_ok {K : Frag} {x : Str} (h : partB K x = true) : PartC K x := by
  obtain ⟨h1, h⟩ := two h
  obtain ⟨h2, h⟩ := two h
  obtain ⟨h3, h⟩ := two h
  obtain ⟨h4, h⟩ := two h
  obtain ⟨h5, h⟩ := two h
  obtain ⟨h6, h⟩ := two h
  obtain ⟨h7, h⟩ := two h
  obtain ⟨h8, h⟩ := two h
  obtain ⟨h9, h10⟩ := two h
  exact ⟨h1, isN_ok h2, h3, of_decide_eq_true h4, of_decide_eq_true h5, of_decide_eq_true h6, of_decide_eq_true h7, of_decide_eq_true h8, fun y hy => List.all_eq_true.mp h9 y hy, fun t ht => List.all_eq_true.mp h10 t ht⟩
def barred : List Str := ["byte", "size", "align", "place", "end", "packed", "and", "or", "not", "yes", "no", "for", "nogap", "notail", "leaf"]
/-- an empty tuple among what is written -/
def nilT (K : Frag) (a : Addr) : Bool := match K.lookup a with
  | some ⟨.type c, _, .seq its _, _⟩ => decide (c = "tuple") && its.isEmpty
  | _ => false
abbrev dfT (i : Nat) (K : Frag) : Addr := He.dflAt ("Part", some "__init__") i K
def isDepth : Option CFound → Bool
  | some (.val (.int i _)) => decide (i = 4)
  | _ => false
structure PartsT (K : Frag) : Prop where
  one : ∀ x ∈ partNames, PartC K x
  off : OffT K (He.ga K "Part") (He.ma K (He.ga K "Part") "__init__")
  depth : ∃ t, findCls K (.ref (He.ga K "Part")) (.type "type") "DEPTH" = some (.val (.int 4 t))
  eqF : isFn K (.ref (He.ma K (He.ga K "Part") "__eq__")) = true
  cn : specialIn K (.builtin "object.__class__") "__get__" = some (some (.builtin "getset_descriptor.__get__"))
  ct : takesIn K (.builtin "object.__class__") = some true
  flat : ∀ t ∈ flatTypes, kitOne K (.type t) (.ref (He.ga K "Part")) = some false
  bar : He.tupB K "BARRED" (barred.map He.Dv.str) = true
  nil : ∀ i < 2, nilT K (dfT i K) = true
def partsB (K : Frag) : Bool := (partNames.all fun x => partB K x) && (offB K (He.ga K "Part") (He.ma K (He.ga K "Part") "__init__") && (isDepth (findCls K (.ref (He.ga K "Part")) (.type "type") "DEPTH") &&
  (isFn K (.ref (He.ma K (He.ga K "Part") "__eq__")) && (eqS (specialIn K (.builtin "object.__class__") "__get__") (some (some (.builtin "getset_descriptor.__get__"))) &&
  (decide (takesIn K (.builtin "object.__class__") = some true) && ((flatTypes.all fun t => decide (kitOne K (.type t) (.ref (He.ga K "Part")) = some false)) &&
  (He.tupB K "BARRED" (barred.map He.Dv.str) && (nilT K (dfT 0 K) && nilT K (dfT 1 K)))))))))
theorem partsB_ok {K : Frag} (h : partsB K = true) : PartsT K := by
  obtain ⟨h1, h⟩ := two h
  obtain ⟨h2, h⟩ := two h
  obtain ⟨h3, h⟩ := two h
  obtain ⟨h4, h⟩ := two h
  obtain ⟨h5, h⟩ := two h
  obtain ⟨h6, h⟩ := two h
  obtain ⟨h7, h⟩ := two h
  obtain ⟨h8, h⟩ := two h
  obtain ⟨h9, h10⟩ := two h
  refine ⟨fun x hx => partB_ok (List.all_eq_true.mp h1 x hx), offB_ok h2, ?_, h4, of_decide_eq_true h5, of_decide_eq_true h6, fun t ht => of_decide_eq_true (List.all_eq_true.mp h7 t ht), h8, fun i hi => ?_⟩
  · unfold isDepth at h3
    split at h3
    · rename_i i t e
      exact ⟨t, by rw [e, of_decide_eq_true h3]⟩
    · cases h3
  · match i, hi with
    | 0, _ => exact h9
    | 1, _ => exact h10
theorem nilT_ok {K : Frag} {a : Addr} (h : nilT K a = true) (H : Hp) : SqT K H a [] := by
  unfold nilT at h
  split at h
  · rename_i c dd its n sl e
    obtain ⟨h1, h2⟩ := two h
    exact .inr ⟨_, its, n, e, congrArg Value.type (of_decide_eq_true h1), rfl, (by rw [Array.isEmpty_iff.mp h2]; decide), (by rw [Array.isEmpty_iff.mp h2]; exact .nil)⟩
  · cases h
end Ev
set_option Elab.async false
set_option linter.all false
set_option maxRecDepth 100000
set_option maxHeartbeats 0
/-! The head of k01: what the top leaves. -/
namespace H1
open PySem PySem.Spec PyProof.Rows L2
def top (i : Nat) : Stmt := PySem.Challenge.pw_anypads_k01_kinds_bytes_and_uses_made.main.body.getD i (.Pass ⟨0, 0, 0, 0⟩)
def mkD (x : Str) (i : Nat) : He.DefD := ⟨(x, some "__init__"), "__init__", x ++ ".__init__", defArgs (inClass (top i) 0), defBody (inClass (top i) 0), defScope (inClass (top i) 0), [], []⟩
def meD (x m : Str) (i j : Nat) (dfl : List He.Dv) : He.DefD := ⟨(x, some m), m, x ++ "." ++ m, defArgs (inClass (top i) j), defBody (inClass (top i) j), defScope (inClass (top i) j), dfl, []⟩
def fnD (x : Str) (i : Nat) : He.DefD := ⟨(x, none), x, x, defArgs (top i), defBody (top i), defScope (top i), [], []⟩
def errs : List (Str × List Str) := [("BadName", ["name"]), ("BadTimes", ["value"]), ("BadParts", ["at"]), ("NoPath", ["path", "at"]), ("TooLarge", ["what", "most"])]
def fn : List He.DefD := [mkD "PadError" 2, mkD "BadName" 3, mkD "BadTimes" 4, mkD "BadParts" 5, mkD "NoPath" 6, mkD "TooLarge" 7, meD "Part" "__init__" 16 1 [.adr (He.dflAt ("Part", some "__init__") 0), .adr (He.dflAt ("Part", some "__init__") 1)], meD "Part" "__eq__" 16 2 [], meD "Kind" "__init__" 17 0 [.int 1], meD "Kind" "__str__" 17 1 [], meD "Byte" "__init__" 18 0 [], meD "Byte" "__str__" 18 1 [], meD "Use" "__init__" 19 0 [], meD "Use" "__str__" 19 1 [], fnD "is_name" 12, fnD "is_whole" 13, fnD "_law_pen" 32, fnD "_law_draw" 33, fnD "_law_pick" 34, fnD "_law_word" 35, fnD "_law_is_name" 36, fnD "_law_heard" 37, fnD "_law_right" 38, fnD "_law_equal_right" 39, fnD "law" 40]
def fa : List He.Fa := [.glo "PadError", .glo "BadName", .glo "BadTimes", .glo "BadParts", .glo "NoPath", .glo "TooLarge", .glo "Part", .glo "Kind", .glo "Byte", .glo "Use", .glo "BARRED", .glo "is_name", .glo "is_whole", .glo "_law_pen", .glo "_law_draw", .glo "_law_pick", .glo "_law_word", .glo "_law_is_name", .glo "_law_heard", .glo "_law_right", .glo "_law_equal_right", .glo "law", .free "int", .free "len", .free "abs", .free "range", .free "list", .free "repr", .free "isinstance", .free "str", .free "max", .free "all", .free "bool", .int "MOST_TIMES" 8, .int "LONGEST" 8, .str "LETTERS" "abcdefghijklmnopqrstuvwxyz", .cls "Kind", .mkr "Kind", .meth "Kind" "__str__", .noat "Kind" "traits", .noat "Kind" "inside", .noat "Kind" "depth", .noat "Kind" "name", .noat "Kind" "times", .cls "Byte", .mkr "Byte", .meth "Byte" "__str__", .noat "Byte" "traits", .noat "Byte" "inside", .noat "Byte" "depth", .cls "Use", .mkr "Use", .meth "Use" "__str__", .noat "Use" "traits", .noat "Use" "inside", .noat "Use" "depth", .noat "Use" "name", .exm "BadName" "PadError" true, .exm "BadTimes" "PadError" true]
def tf : List He.Defn := [("_law_right", none)]
abbrev ex (K : PySem.W.Frag) : Bool := Ev.errsB errs K && Ev.partsB K
abbrev R : PySem.W.OpenRow := PySem.W.OpenLaw.row PySem.Challenge.rw_anypads_k01_kinds_bytes_and_uses_made
abbrev hk : PySem.W.Hook := Ev.hookY 5 fa fn tf ex
def ob (s : PySem.W.SharedT) : He.AlD × Bool := Ev.obsY 5 fa fn tf ex (HandSHeadRun.getT s)
theorem ob_eq (s : PySem.W.SharedT) : ob s = hk.obs s.abs := Ev.obsY_eq (HandSHeadRun.getT_eq s)
def loose : List Str := [("PadError" : Str), ("BadName" : Str), ("BadTimes" : Str), ("BadParts" : Str), ("NoPath" : Str), ("TooLarge" : Str), ("LETTERS" : Str), ("LONGEST" : Str), ("BARRED" : Str), ("is_name" : Str), ("is_whole" : Str), ("MOST_TIMES" : Str), ("Part" : Str), ("Kind" : Str), ("Byte" : Str), ("Use" : Str), ("Group" : Str), ("Spread" : Str), ("Row" : Str), ("Record" : Str), ("Overlay" : Str), ("is_part" : Str), ("checked_pairs" : Str), ("is_pair" : Str), ("stepped" : Str), ("led" : Str), ("bottoms" : Str), ("_wall" : Str), ("_law_pen" : Str), ("_law_draw" : Str), ("_law_pick" : Str), ("_law_word" : Str), ("_law_is_name" : Str), ("_law_heard" : Str), ("_law_right" : Str), ("_law_equal_right" : Str)]
theorem run (w : World) : HandSHeadRun.RunEq R (PySem.W.view R.prog [40]) hk ob 8000 loose w := by
  intro os
  kernel_rfl
end H1
set_option Elab.async false
set_option linter.all false
set_option maxRecDepth 100000
set_option maxHeartbeats 4000000
/-! Rules: max of nothing by default=, an instance's class and its name, == and != by an own __eq__. -/
namespace Ev
open PySem PySem.Spec PyProof.Rows L2
/-! ### max(xs, default=d), xs empty -/
def rMaxD0 (K : PySem.W.Frag) : List V → List V → Hp → VK → Prop := fun xs zs H Q => ∃ (a : Addr) (d : V), xs = [.ref a] ∧ zs = [d] ∧ SqL K H a [] ∧ Q d H
theorem cr_maxD0 {X : Cx} (hc : X.calm = true) (hu : X.A.units + 1 < cLine) : CallRK X (.builtin "max") [Str.ofString "default"] (rMaxD0 X.K) := by
  intro pins s σ H xs zs us ws Q I r rz h
  obtain ⟨a, d, rfl, rfl, hs, q⟩ := h
  obtain ⟨its, rv, hl, _⟩ := I.list hs
  cases rv
  rw [Vals.ref1 r]
  obtain ⟨w1, rfl, e1⟩ := vals1 rz
  refine PySem.W.max_list_default (I.ok.hd hc) hl.isList (xs := []) (as := []) .nil (by simp [PySem.W.AlikeAll]) hu (fun _ h' tk k => ⟨d, H, I.kept (t' := tk) k, e1, q⟩) (fun y ys i v h' tk bs e => ?_)
  cases e
/-! ### o.__class__ -/
structure ClsC (K : PySem.W.Frag) (C : Addr) : Prop where
  cl : Cls K C
  ca : PySem.W.findIn K (.ref C) "__class__" = some (some (.builtin "object.__class__"))
  cn : PySem.W.specialIn K (.builtin "object.__class__") "__get__" = some (some (.builtin "getset_descriptor.__get__"))
  ct : PySem.W.takesIn K (.builtin "object.__class__") = some true
  cm : PySem.W.mroIn K C (.type "object") = some true
def tClsOf (K : PySem.W.Frag) (ta : TE) : TE := fun σ H Q => ta σ H fun x H1 => ∃ (a C dx : Addr) (fs : List (Str × V)), x = .ref a ∧ H1 a = some (.ins C dx fs) ∧ ClsC K C ∧ Q (.ref C) H1
theorem pe_clsOf {X : Cx} {e : Expr} {te : TE} {pos : Pos} (he : PE X e te) (hb : attributeBase e "__class__" X.env (eval e X.env) = eval e X.env := by rfl) : PE X (.Attribute e "__class__" pos) (tClsOf X.K te) := by
  refine ⟨fun pins s σ H Q I h => attr_of hb (thn (he.run pins s σ H _ I h) fun u s1 z => ?_)⟩
  obtain ⟨x, H1, I1, rx, a, C, dx, fs, ex, ea, T, q⟩ := z
  subst ex
  obtain rfl : u = Value.ref a := rx
  obtain ⟨mA, O, _⟩ := ins_get I1.hok ea
  obtain ⟨od, J, _⟩ := O.look
  obtain ⟨m, F⟩ := I1.fr
  exact PySem.W.get_class F I1.ok.mod.kin J (T.cl.get _) T.cl.hd T.ca T.cn T.ct T.cm ⟨.ref C, H1, I1.tok _, rfl, q⟩
/-! ### C.__name__ -/
section
open PySem.W PySem.Builtin PySem.Builtin.ObjectAttr PySem.Builtin.Getset_descriptor
variable {prog : Program} {w : World} {A : Around} {E : Value → Shared → Prop} {s : Shared} {K : Frag} {R : Result → Shared → Prop} {C : Addr} {o : Obj} {v : Value}
theorem dga_own (d tp : Value) (C : Addr) : descrGetArgs ⟨[d, .ref C, tp], []⟩ = pure (d, some (.ref C), given tp) := by kernel_rfl
theorem own_name {tp : Value} (X : K.In s.heap) (ht : typeIn K (.ref C) = some (.type "type")) (ho : s.heap.get? C = some o) (hv : o.slots[2]? = some (some v)) (h : R (.ok (.ret v)) s) :
    codeAny (model prog w) A (.call (.builtin "getset_descriptor.__get__") ⟨[.builtin "type.__name__", .ref C, tp], []⟩) R s := by
  obtain ⟨hh, g, dr, t, os⟩ := s
  have L0 : Looks (model prog w) hh (typeOf (.ref C)) (.type "type") := looks_typeIn X ht
  have L1 : Looks (model prog w) hh (isSubtype (.type "type") (.type "type")) true := Looks.of_pure (by rw [isSubtype_type]; kernel_rfl)
  refine codeAny_call_builtin KF.slot_gs.plain KF.entry_gs (KF.slot_gs.check _ _ _ _ _ _ _ _ ktyn_type (KF.args_gs _ _ _) ?_)
  unfold Builtin.«getset_descriptor.__get__» descrGet
  rw [dga_own]
  refine wpAny_bind (wpAny_pure ?_)
  unfold descrGetter descrCheckInstance descrNameAndClass isInstance
  simp only [ktyn_owner]
  repeat lk
  refine ⟨Code.quiet_builtin _ (by decide +kernel), codeAny_builtin ktyn_entry ?_⟩
  unfold Builtin.«type.__name__» Builtin.keptObject slotAt
  dsimp only
  refine wpAny_bind (wpAny_bind (wpAny_loadPart_at ho ?_))
  refine wpAny_pure ?_
  rw [hv]
  exact wpAny_pure h
end
def tNameOf (K : PySem.W.Frag) (ta : TE) : TE := fun σ H Q => ta σ H fun x H1 => ∃ (C : Addr) (y : Str), x = .ref C ∧ nameIn K C y = true ∧ PySem.W.findCls K (.ref C) (.type "type") "__name__" = getN C ∧
  PySem.W.readsIn K C (.type "type") = true ∧ PySem.W.typeIn K (.ref C) = some (.type "type") ∧ Q (.str y) H1
theorem pe_nameOf {X : Cx} {e : Expr} {te : TE} {pos : Pos} (he : PE X e te) (hb : attributeBase e "__name__" X.env (eval e X.env) = eval e X.env := by rfl) : PE X (.Attribute e "__name__" pos) (tNameOf X.K te) := by
  refine ⟨fun pins s σ H Q I h => attr_of hb (thn (he.run pins s σ H _ I h) fun u s1 z => ?_)⟩
  obtain ⟨x, H1, I1, rx, C, y, ex, hn, hf, hr, ht, q⟩ := z
  subst ex
  obtain rfl : u = Value.ref C := rx
  unfold nameIn at hn
  split at hn
  · rename_i oc od dt sl lk
    split at hn
    · rename_i k0 k1 z t k3 k4 k5 es
      have e : z = y := of_decide_eq_true hn
      subst e
      have hv : sl[2]? = some (some (Value.str z t)) := by
        have e2 : sl = #[k0, k1, some (Value.str z t), k3, k4, k5] := by
          have := congrArg List.toArray es
          simpa using this
        rw [e2]
        rfl
      refine PySem.W.cls_bind I1.kIn hr hf (wpAny_call (own_name (s := { s1 with toks := s1.toks + 1 }) I1.kIn ht (I1.kIn _ _ lk) hv ?_))
      exact PySem.W.handed_on rfl ⟨.str z, H1, I1.tok _, ⟨t, rfl⟩, q⟩
    · cases hn
  · cases hn
/-! ### x == y, x != y, x an instance with its own __eq__ -/
section
variable {X : Cx} {CX : CXT} {pins : List (Addr × Obj)} {σ : L2.St} {H : Hp} {s : Shared} {C g : Addr} {n : Nat} {sp : Sp} {E : XK}
def rOwnE (K : PySem.W.Frag) (C : Addr) (sp : Sp) (E : XK) : R2 := fun x y H Q => ∃ (a dx : Addr) (fs : List (Str × V)) (t : Value), x = .ref a ∧ H a = some (.ins C dx fs) ∧ TyX K H y t ∧ PySem.W.notFirst K C t = true ∧ sp [x, y] H Q E
theorem op_ownE (hs : PySem.W.findIn X.K (.ref C) "__eq__" = some (some (.ref g))) (hf : PySem.W.isFn X.K (.ref g) = true) (F : FnR X.prog X.w X.K X.mg X.base CX n g sp)
    (hr : Room n X.A) (hx : Passes CX X E) : OpR X (compareOp .Eq) (rOwnE X.K C sp E) := by
  intro pins s σ H x y v u Q I rx ry h
  obtain ⟨a, dx, fs, t, rfl, ha, ty, hn, q⟩ := h
  cases (show v = Value.ref a from rx)
  obtain ⟨mA, O, _⟩ := ins_get I.hok ha
  obtain ⟨od, J, _⟩ := O.look
  obtain ⟨P, Z, p, _⟩ := kit_of I ry ty
  obtain ⟨m, hF⟩ := I.fr
  show wpAny _ _ (richCompare .Eq (.ref a) u) _ _ _
  refine PySem.W.cmp_K (op := .Eq) (tb := t) hr.units0 hF I.ok.mod.kin J (Z.ty _ _ I.kIn p) hn hs hf ?_
  refine thn (wpAny_call (run_fnR (us := [.ref a, u]) (vs := [.ref a, y]) F hr hx I (.cons rfl (.cons ry .nil)) q)) (fun w s' z => ?_)
  obtain ⟨z', H', I', rz, qz⟩ := z
  exact SlX.cmpback rz ⟨z', H', I', rz, qz⟩
end
end Ev
namespace Ev
open PySem PySem.Spec PyProof.Rows L2
/-! ### x != y by an own __eq__: object.__ne__ asks it -/
section
variable {M : Model} {prog : Program} {w : World} {A : Around} {E : Value → Shared → Prop} {s : Shared} {K : PySem.W.Frag} {x C : Addr} {ox : Obj} {od : Option Obj}
theorem ifBound_ne {args : List Value} {Q : Option Value → Shared → Prop} (X : K.In s.heap) (I : PySem.W.InstAt s.heap x ox C od) (hs : PySem.W.findIn K (.ref C) "__ne__" = some (some (.builtin "object.__ne__")))
    (h : wpAny M A (call (.builtin "object.__ne__") (.ref x :: args)) (fun v => Q (some v)) E s) : wpAny M A (callSpecialIfBound? (.ref x) "__ne__" args) Q E s := by
  simp only [callSpecialIfBound?, bindSpecialIfBound?]
  apply wpAny_holding
  refine wpAny_bind (wpAny_bind (wpAny_bind (I.type.here ((PySem.W.looks_findIn X hs).here ?_))))
  apply wpAny_bind
  apply wpAny_askSetting
  apply wpAny_ite
  have last : wpAny M A (call (.builtin "object.__ne__") ([.ref x] ++ args) >>= fun v => pure (some v)) Q E s := wpAny_bind (thn h (fun v s' z => wpAny_pure z))
  split
  · exact wpAny_bind (wpAny_of_eq (F.cmp_object.ne.bind _) (wpAny_pure (by exact last)))
  · exact wpAny_tryCatch (wpAny_bind (wpAny_of_eq (F.cmp_object.ne.bind _) (wpAny_pure (by exact last))))
theorem entry_ne {b : Value} {f : Addr} {Q : Fin → Shared → Prop} (hu : A.units < cLine) (X : K.In s.heap) (I : PySem.W.InstAt s.heap x ox C od) (hs : PySem.W.findIn K (.ref C) "__eq__" = some (some (.ref f))) (hf : PySem.W.isFn K (.ref f) = true)
    (h : wpAny M A (call (.ref f) [.ref x, b]) (fun v s' => ∃ k, v = .bool k ∧ Q (.done (.ret (.bool (!k)))) s') E s) : wpAny M A (Builtin.«object.__ne__» ⟨[.ref x, b], []⟩) Q E s := by
  unfold Builtin.«object.__ne__»
  refine wpAny_bind (wpAny_of_eq (a := ((Value.ref x : Value), [b])) (by first | rfl | (simp only [Builtin.ObjectAttr.slotArgs]; rfl)) ?_)
  refine wpAny_bind (wpAny_cRoomFor hu ?_)
  refine wpAny_bind (PySem.W.ifBound_K X I hs hf (thn h (fun v s' z => ?_)))
  obtain ⟨k, rfl, q⟩ := z
  exact wpAny_bind (wpAny_truthy_bool (wpAny_pure q))
end
end Ev
namespace Ev
open PySem PySem.Spec PyProof.Rows L2
section
variable {prog : Program} {w : World} {A : Around} {E : Value → Shared → Prop} {s : Shared} {K : PySem.W.Frag} {x C f : Addr} {ox : Obj} {od : Option Obj} {b tb : Value}
theorem rc_ne {Q : Value → Shared → Prop} (hu : A.units < cLine) (hu1 : A.in1.units < cLine) (X : K.In s.heap) (I : PySem.W.InstAt s.heap x ox C od) (hb : PySem.W.Looks (model prog w) s.heap (typeOf b) tb) (hn : PySem.W.notFirst K C tb = true)
    (hm : PySem.W.mroIn K C (.type "object") = some true) (hne : PySem.W.findIn K (.ref C) "__ne__" = some (some (.builtin "object.__ne__"))) (hs : PySem.W.findIn K (.ref C) "__eq__" = some (some (.ref f))) (hf : PySem.W.isFn K (.ref f) = true)
    (h : wpAny (model prog w) A.in1 (call (.ref f) [.ref x, b]) (fun v s' => ∃ k, v = .bool k ∧ Q (.bool (!k)) s') E s) : wpAny (model prog w) A (richCompare .NotEq (.ref x) b) Q E s := by
  have one : wpAny (model prog w) A (tryCompare (.ref x) "__ne__" b) (fun r s' => ∃ k, r = some (.bool k) ∧ Q (.bool k) s') E s := by
    unfold tryCompare
    refine wpAny_bind (ifBound_ne X I hne (wpAny_call (codeAny_call_builtin F.cmp_object.ne.plain F.cmpEntry_ne
      (PySem.W.check_slot F.cmpKind_ne F.cmpSplit_ne (I.type.andThen (PySem.W.looks_mroIn X hm)) (F.cmpArgs_ne _ _) (entry_ne hu1 X I hs hf (thn h (fun v s' z => ?_)))))))
    obtain ⟨k, rfl, q⟩ := z
    exact ⟨k, rfl, wpAny_pure ⟨!k, rfl, q⟩⟩
  unfold richCompare
  simp only [oneThing_ref]
  refine wpAny_holding (wpAny_bind (wpAny_cRoomFor hu ?_))
  refine wpAny_bind (I.type.here (wpAny_bind (hb.here ?_)))
  split
  · rename_i q
    have e : PySem.W.subIn K tb (.ref C) = some false := by
      rcases Bool.or_eq_true_iff.mp hn with e | e
      · rw [beq_iff_eq.mp e] at q; simp at q
      · exact beq_iff_eq.mp e
    refine wpAny_bind ((PySem.W.looks_subIn X e).here ?_)
    simp only [Bool.false_eq_true, if_false]
    refine wpAny_bind (thn one (fun r s' z => ?_))
    obtain ⟨k, rfl, q⟩ := z
    exact wpAny_pure q
  · refine wpAny_bind (wpAny_pure ?_)
    simp only [Bool.false_eq_true, if_false]
    refine wpAny_bind (thn one (fun r s' z => ?_))
    obtain ⟨k, rfl, q⟩ := z
    exact wpAny_pure q
end
section
variable {X : Cx} {CX : CXT} {pins : List (Addr × Obj)} {σ : L2.St} {H : Hp} {s : Shared} {C g : Addr} {n : Nat} {sp : Sp} {E : XK}
def rOwnNe (K : PySem.W.Frag) (C : Addr) (sp : Sp) (E : XK) : R2 := fun x y H Q => ∃ (a dx : Addr) (fs : List (Str × V)) (t : Value), x = .ref a ∧ H a = some (.ins C dx fs) ∧ TyX K H y t ∧ PySem.W.notFirst K C t = true ∧
  sp [x, y] H (fun v H' => ∃ k, v = .bl k ∧ Q (.bl (!k)) H') E
theorem op_ownNe (hm : PySem.W.mroIn X.K C (.type "object") = some true) (hne : PySem.W.findIn X.K (.ref C) "__ne__" = some (some (.builtin "object.__ne__"))) (hs : PySem.W.findIn X.K (.ref C) "__eq__" = some (some (.ref g)))
    (hf : PySem.W.isFn X.K (.ref g) = true) (F : FnR X.prog X.w X.K X.mg X.base CX n g sp) (hr : Room (n + 1) X.A) (hx : Passes CX X E) : OpR X (compareOp .NotEq) (rOwnNe X.K C sp E) := by
  intro pins s σ H x y v u Q I rx ry h
  obtain ⟨a, dx, fs, t, rfl, ha, ty, hn, q⟩ := h
  cases (show v = Value.ref a from rx)
  obtain ⟨mA, O, _⟩ := ins_get I.hok ha
  obtain ⟨od, J, _⟩ := O.look
  obtain ⟨P, Z, p, _⟩ := kit_of I ry ty
  have hr1 : Room n X.A.in1 := Room.in1 hr
  show wpAny _ _ (richCompare .NotEq (.ref a) u) _ _ _
  refine rc_ne (tb := t) hr.units0 hr1.units0 I.kIn J (Z.ty _ _ I.kIn p) hn hm hne hs hf ?_
  refine thn (wpAny_call (SlX.run_at (us := [.ref a, u]) (ws := [.ref a, y]) F hr1 I.env0.in1 hx I (.cons rfl (.cons ry .nil)) q)) (fun w s' z => ?_)
  obtain ⟨z', H', I', rz, k, ez, qz⟩ := z
  subst ez
  obtain rfl : w = Value.bool k := rz
  exact ⟨k, rfl, .bl (!k), H', I', rfl, qz⟩
end
end Ev
set_option Elab.async false
set_option linter.all false
set_option maxRecDepth 100000
set_option maxHeartbeats 4000000
/-! The pen of a law: what it is, what a draw leaves. -/
namespace Ev
open PySem PySem.Spec PyProof.Rows L2
def Ints (xs : List V) : Prop := ∀ x ∈ xs, ∃ i : Int, x = .int i
theorem ints_map (ns : List Int) : Ints (ns.map V.int) := fun x h => by
  obtain ⟨i, _, e⟩ := List.mem_map.mp h
  exact ⟨i, e.symm⟩
theorem ints_cut {xs : List V} (h : Ints xs) (lo hi : Option Int) : Ints (cutV xs lo hi) := fun x m => h x (List.mem_of_mem_drop (List.mem_of_mem_take m))
theorem ints_dp {K : PySem.W.Frag} {H : Hp} : ∀ {xs : List V}, Ints xs → ∃ ds, DpAll K H xs ds ∧ SeqAt.shaped (.list ds) = true
  | [], _ => ⟨[], .nil, rfl⟩
  | x :: xs, h => by
    obtain ⟨i, rfl⟩ := h x (by simp)
    obtain ⟨ds, a, b⟩ := ints_dp (K := K) (H := H) (xs := xs) fun y m => h y (List.mem_cons_of_mem _ m)
    refine ⟨.int i :: ds, .cons (.int i) a, ?_⟩
    first
      | exact b
      | (simp [SeqAt.shaped, SeqAt.shapedAll] at b ⊢; exact b)
/-- the pen at p: its cells, how many draws at most, what is left of a great cell -/
def PenAt (H : Hp) (p : Addr) (n : Nat) : Prop := ∃ (c : Addr) (cells : List V) (t l : Int), H p = some (.lst [.ref c, .int t, .int l]) ∧ H c = some (.lst cells) ∧ Ints cells ∧ cells.length ≤ 63 ∧ c ≠ p ∧ 0 ≤ t ∧ t ≤ n
theorem PenAt.same {H H' : Hp} {p : Addr} {n : Nat} (S : Same H H') : PenAt H p n → PenAt H' p n
  | ⟨c, cells, t, l, h1, h2, r⟩ => ⟨c, cells, t, l, S _ _ h1, S _ _ h2, r⟩
/-- all but the object at p stands as it stood -/
def But (p : Addr) (H H' : Hp) : Prop := ∀ b o, b ≠ p → H b = some o → H' b = some o
theorem But.of {p : Addr} {H H' : Hp} (S : Same H H') : But p H H' := fun b o _ => S b o
theorem But.tr {p : Addr} {H H1 H2 : Hp} (a : But p H H1) (b : But p H1 H2) : But p H H2 := fun c o n e => b c o n (a c o n e)
theorem But.del {p : Addr} {H H' : Hp} (a : But p H H') : Same (del H p) (del H' p) := fun b o e => by
  by_cases n : b = p
  · rw [n, del_same] at e
    cases e
  · rw [del_ne n] at e ⊢
    exact a b o n e
theorem same_del {p : Addr} {H H' : Hp} (S : Same H H') : Same (del H p) (del H' p) := (But.of S).del
theorem del_same' {p : Addr} {H : Hp} : Same (del H p) H := fun b o e => by
  by_cases n : b = p
  · rw [n, del_same] at e
    cases e
  · rwa [del_ne n] at e
/-- the pen has a law's draw: between 0 and the number -/
def spDraw : Sp := fun vs H Q _ => ∃ (p : Addr) (m : Int) (n : Nat), vs = [.ref p, .int m] ∧ 0 < m ∧ m < 1073741824 ∧ PenAt H p n ∧ n ≤ 1000 ∧
  ∀ (z : Int) (H' : Hp), 0 ≤ z → z < m → PenAt H' p (n + 1) → But p H H' → Q (.int z) H'
/-- one of some things -/
def spPick (K : PySem.W.Frag) : Sp := fun vs H Q _ => ∃ (p l : Addr) (xs : List V) (n : Nat), vs = [.ref p, .ref l] ∧ H l = some (.lst xs) ∧ l ≠ p ∧ 0 < xs.length ∧ xs.length ≤ 100000 ∧ PenAt H p n ∧ n ≤ 1000 ∧
  ∀ (x : V) (H' : Hp), x ∈ xs → PenAt H' p (n + 1) → But p H H' → Q x H'
def spPen (K : PySem.W.Frag) : Sp := fun vs H Q _ => ∃ (a : Addr) (ns : List Int), vs = [.ref a] ∧ SqL K H a (ns.map V.int) ∧ ns.length ≤ 63 ∧ ∀ (p : Addr) (H' : Hp), Same H H' → PenAt H' p 0 → H p = none → Q (.ref p) H'
/-! ### the bounds of a draw's numbers -/
theorem fmod_in {a m : Int} (h : 0 < m) : 0 ≤ a % m ∧ a % m < m := ⟨Int.emod_nonneg _ (by omega), Int.emod_lt_of_pos _ h⟩
theorem small5 {x t A B : Int} (h0 : 0 ≤ x) (h1 : x < 2147483648) (t0 : 0 ≤ t) (t1 : t ≤ 1000) (a0 : 0 ≤ A) (a1 : A ≤ 1000000) (b0 : 0 ≤ B) (b1 : B ≤ 1000000) : (x + A * t + B).natAbs < 2 ^ 64 := by
  have h2 : A * t ≤ 1000000 * 1000 := Int.mul_le_mul a1 t1 t0 (by omega)
  have h3 : 0 ≤ A * t := Int.mul_nonneg a0 t0
  omega
theorem small3 {x t A B D : Int} (h0 : 0 ≤ x) (h1 : x < 2147483648) (t0 : 0 ≤ t) (t1 : t ≤ 1000) (a0 : 0 ≤ A) (a1 : A ≤ 1000000) (b0 : 0 ≤ B) (b1 : B ≤ 1000000) (d0 : 0 ≤ D) (d1 : D ≤ 1000000) :
    (x * (2 * t + A) + B * t * t + D).natAbs < 2 ^ 64 := by
  have h2 : x * (2 * t + A) ≤ 2147483648 * 1002000 := Int.mul_le_mul (by omega) (by omega) (by omega) (by omega)
  have h3 : 0 ≤ x * (2 * t + A) := Int.mul_nonneg h0 (by omega)
  have h4 : B * t ≤ 1000000 * 1000 := Int.mul_le_mul b1 t1 t0 (by omega)
  have h5 : 0 ≤ B * t := Int.mul_nonneg b0 t0
  have h6 : B * t * t ≤ 1000000000 * 1000 := Int.mul_le_mul (by omega) t1 t0 (by omega)
  have h7 : 0 ≤ B * t * t := Int.mul_nonneg h5 t0
  omega
theorem in64 {B t : Int} (b0 : 0 ≤ B) (b1 : B ≤ 1000000) (t0 : 0 ≤ t) (t1 : t ≤ 1000) : -(2 ^ 64) < B * t ∧ B * t < 2 ^ 64 := by
  have h2 : B * t ≤ 1000000 * 1000 := Int.mul_le_mul b1 t1 t0 (by omega)
  have h3 : 0 ≤ B * t := Int.mul_nonneg b0 t0
  omega
theorem ixN_in {n : Nat} {i : Int} (h0 : 0 ≤ i) (h1 : i < n) : ixN n i = some i.toNat := by
  unfold ixN
  rw [if_pos h0, if_pos h1]
theorem atI_in {α : Type} {xs : List α} {i : Int} (h0 : 0 ≤ i) (h1 : i < xs.length) : ∃ x, atI xs i = some x ∧ x ∈ xs := by
  obtain ⟨j, rfl⟩ := Int.eq_ofNat_of_zero_le h0
  have hj : j < xs.length := by omega
  exact ⟨xs[j], atI_nat (List.getElem?_eq_getElem hj), List.getElem_mem hj⟩
end Ev
set_option Elab.async false
set_option linter.all false
set_option maxRecDepth 100000
set_option maxHeartbeats 4000000
/-! The program's defs that k01 reaches. -/
namespace Ev
open PySem PySem.Spec PyProof.Rows L2
/-- what may be asked whether it is a whole number, a text -/
inductive Any (K : PySem.W.Frag) (H : Hp) : V → Prop where
  | int (i : Int) : Any K H (.int i)
  | bl (b : Bool) : Any K H (.bl b)
  | str (s : Str) : s.length ≤ sizeLine → Any K H (.str s)
  | non : Any K H .non
  | tup {a : Addr} {xs : List V} : H a = some (.tup xs) → Any K H (.ref a)
  | lst {a : Addr} {xs : List V} : H a = some (.lst xs) → Any K H (.ref a)
  | dic {a : Addr} {kvs : List (Key × V)} : H a = some (.dK kvs) → Any K H (.ref a)
theorem Any.same {K : PySem.W.Frag} {H H' : Hp} {v : V} (S : Same H H') (h : Any K H v) : Any K H' v := by
  cases h with
  | int i => exact .int i
  | bl b => exact .bl b
  | str s z => exact .str s z
  | non => exact .non
  | tup e => exact .tup (S _ _ e)
  | lst e => exact .lst (S _ _ e)
  | dic e => exact .dic (S _ _ e)
def tyN : V → PyData → String
  | .int _, _ => "int"
  | .bl _, _ => "bool"
  | .str _, _ => "str"
  | .non, _ => "NoneType"
  | _, .tuple _ => "tuple"
  | _, .list _ => "list"
  | _, _ => "dict"
/-- a value's built-in type -/
theorem Any.ty {K : PySem.W.Frag} {H : Hp} {v : V} (h : Any K H v) : ∃ n : String, TyX K H v (.type n) ∧ n ∈ (["int", "bool", "str", "NoneType", "tuple", "list", "dict"] : List String) ∧ (n = "int" ↔ ∃ i, v = .int i) ∧ (n = "bool" ↔ ∃ b, v = .bl b) ∧ (n = "str" ↔ ∃ s, v = .str s) := by
  cases h with
  | int i => exact ⟨"int", .base (.int i), by decide, by simp, by simp, by simp⟩
  | bl b => exact ⟨"bool", .base (.bl b), by decide, by simp, by simp, by simp⟩
  | str s z => exact ⟨"str", .base (.str s), by decide, by simp, by simp, by simp⟩
  | non => exact ⟨"NoneType", .base .non, by decide, by simp, by simp, by simp⟩
  | tup e => exact ⟨"tuple", .base (.tup e), by decide, by simp, by simp, by simp⟩
  | lst e => exact ⟨"list", .base (.lst e), by decide, by simp, by simp, by simp⟩
  | dic e => exact ⟨"dict", .base (.dK e), by decide, by simp, by simp, by simp⟩
def wholeB (v : V) (lo hi : Int) : Bool := match v with
  | .int i => decide (lo ≤ i) && decide (i ≤ hi)
  | _ => false
def letters : Str := "abcdefghijklmnopqrstuvwxyz"
def nameB (v : V) : Bool := match v with
  | .str s => !decide (s ∈ barred) && (decide (1 ≤ s.length) && (decide (s.length ≤ 8) && s.cps.toList.all fun c => decide (c ∈ letters.cps.toList)))
  | _ => false
def spWhole (K : PySem.W.Frag) : Sp := fun vs H Q _ => ∃ (v : V) (lo hi : Int), vs = [v, .int lo, .int hi] ∧ Any K H v ∧ Q (.bl (wholeB v lo hi)) H
def spName (K : PySem.W.Frag) : Sp := fun vs H Q _ => ∃ (v : V), vs = [v] ∧ Any K H v ∧ ∀ H', Same H H' → Q (.bl (nameB v)) H'
theorem isi_int {n : String} (h : n ∈ (["int", "bool", "str", "NoneType", "tuple", "list", "dict"] : List String)) : kitB n "int" = some (decide (n = "int" ∨ n = "bool")) := by
  simp only [List.mem_cons, List.not_mem_nil, or_false] at h
  rcases h with rfl | rfl | rfl | rfl | rfl | rfl | rfl <;> decide +kernel
theorem isi_bool {n : String} (h : n ∈ (["int", "bool", "str", "NoneType", "tuple", "list", "dict"] : List String)) : kitB n "bool" = some (decide (n = "bool")) := by
  simp only [List.mem_cons, List.not_mem_nil, or_false] at h
  rcases h with rfl | rfl | rfl | rfl | rfl | rfl | rfl <;> decide +kernel
theorem isi_str {n : String} (h : n ∈ (["int", "bool", "str", "NoneType", "tuple", "list", "dict"] : List String)) : kitB n "str" = some (decide (n = "str")) := by
  simp only [List.mem_cons, List.not_mem_nil, or_false] at h
  rcases h with rfl | rfl | rfl | rfl | rfl | rfl | rfl <;> decide +kernel
end Ev
namespace H1
open PySem PySem.Spec PyProof.Rows L2 Ev
abbrev FnL (K : PySem.W.Frag) (x : Str) (i : Nat) (f : Addr) (fd : FuncData) : Prop := FunD K x x (defArgs (top i)) (defBody (top i)) (defScope (top i)) [] [] f fd
abbrev sM (i j : Nat) : Stmt := inClass (top i) j
abbrev FnM (K : PySem.W.Frag) (x m : Str) (i j : Nat) (dfl : List V) (f : Addr) (fd : FuncData) : Prop := FunD K m (x ++ "." ++ m) (defArgs (sM i j)) (defBody (sM i j)) (defScope (sM i j)) dfl [] f fd
section
variable {P : Program} {w : World} {K : PySem.W.Frag} {mg : Str → Option Value} {base : Heap} {f f0 C0 : Addr} {fd : FuncData}
theorem sc13 : FnScope ["value", "least", "most"] ["value", "least", "most"] (defScope (top 13)) := ⟨rfl, rfl, rfl, by decide +kernel, rfl, by decide +kernel, by decide +kernel⟩
theorem ok_whole (F : FnL K "is_whole" 13 f fd) (tIsi : mg "isinstance" = none) (tInt : mg "int" = none) (tBool : mg "bool" = none) : FnOk P w K mg base CX0 1 f fd ["value", "least", "most"] (spWhole K) := by
  refine F.ok sc13 (fun vs H Q E h => ?_) (fun cdv A outer s H vs Q E hr h => ?_)
  · obtain ⟨v, lo, hi, rfl, _⟩ := h
    rfl
  · obtain ⟨v, lo, hi, rfl, an, q⟩ := h
    refine ⟨_, PSs.nox (pss_one (ps_ret (pe_and (pe_callB call_isi (by rfl) tIsi (by decide +kernel) (pa_cons (pv 0) (pa_cons (pe_bltn (v := .ty "int") (by rfl) tInt (by decide +kernel) rfl) pa_nil)))
      (pe_and (pe_not (pe_callB call_isi (by rfl) tIsi (by decide +kernel) (pa_cons (pv 0) (pa_cons (pe_bltn (v := .ty "bool") (by rfl) tBool (by decide +kernel) rfl) pa_nil))))
      (pe_one (pe_chain op_le op_le (pv 1) (pv 0) (pv 2))))))), ?_⟩
    cases an with
    | int i =>
      refine ⟨_, rfl, _, .ty "int", .type "int", .type "int", true, rfl, .ty "int", .base (.int i), kit_ty (by decide +kernel), true, rfl, iteT ?_⟩
      refine ⟨_, rfl, _, .ty "bool", .type "int", .type "bool", false, rfl, .ty "bool", .base (.int i), kit_ty (by decide +kernel), false, rfl, true, rfl, iteT ?_⟩
      refine ⟨_, rfl, _, rfl, _, _, rfl, rfl, _, rfl, ?_⟩
      refine ite2 (fun h1 => ?_) (fun h1 => ?_)
      · refine ⟨_, rfl, _, _, rfl, rfl, ?_⟩
        have h1' := of_decide_eq_true h1
        have e : wholeB (.int i) lo hi = decide (i ≤ hi) := by simp [wholeB, h1']
        rw [e] at q
        exact q
      · have h1' : ¬ lo ≤ i := fun z => h1 (decide_eq_true z)
        have e : wholeB (.int i) lo hi = false := by simp [wholeB, h1']
        rw [e] at q
        exact q
    | bl b =>
      refine ⟨_, rfl, _, .ty "int", .type "bool", .type "int", true, rfl, .ty "int", .base (.bl b), kit_ty (by decide +kernel), true, rfl, iteT ?_⟩
      refine ⟨_, rfl, _, .ty "bool", .type "bool", .type "bool", true, rfl, .ty "bool", .base (.bl b), kit_ty (by decide +kernel), true, rfl, false, rfl, iteF ?_⟩
      exact q
    | str t z => exact ⟨_, rfl, _, .ty "int", .type "str", .type "int", false, rfl, .ty "int", .base (.str t), kit_ty (by decide +kernel), false, rfl, iteF q⟩
    | non => exact ⟨_, rfl, _, .ty "int", .type "NoneType", .type "int", false, rfl, .ty "int", .base .non, kit_ty (by decide +kernel), false, rfl, iteF q⟩
    | tup e => exact ⟨_, rfl, _, .ty "int", .type "tuple", .type "int", false, rfl, .ty "int", .base (.tup e), kit_ty (by decide +kernel), false, rfl, iteF q⟩
    | lst e => exact ⟨_, rfl, _, .ty "int", .type "list", .type "int", false, rfl, .ty "int", .base (.lst e), kit_ty (by decide +kernel), false, rfl, iteF q⟩
    | dic e => exact ⟨_, rfl, _, .ty "int", .type "dict", .type "int", false, rfl, .ty "int", .base (.dK e), kit_ty (by decide +kernel), false, rfl, iteF q⟩
theorem sc12 : FnScope ["value", "letter"] ["value"] (defScope (top 12)) := ⟨rfl, rfl, rfl, by decide +kernel, rfl, by decide +kernel, by decide +kernel⟩
theorem ok_name (F : FnL K "is_name" 12 f fd) (tIsi : mg "isinstance" = none) (tStr : mg "str" = none) (tLen : mg "len" = none) (tAll : mg "all" = none) (gBar : mg "BARRED" = some (.ref (He.ga K "BARRED"))) (hBar : He.tupB K "BARRED" (barred.map He.Dv.str) = true)
    (gLong : ∃ t, mg "LONGEST" = some (.int 8 t)) (gLet : ∃ t, mg "LETTERS" = some (.str letters t)) : FnOk P w K mg base CX0 1 f fd ["value"] (spName K) := by
  obtain ⟨t1, gLong⟩ := gLong
  obtain ⟨t2, gLet⟩ := gLet
  refine F.ok sc12 (fun vs H Q E h => ?_) (fun cdv A outer s H vs Q E hr h => ?_)
  · obtain ⟨v, rfl, _⟩ := h
    rfl
  · obtain ⟨v, rfl, an, q⟩ := h
    refine ⟨_, PSs.nox (pss_cons (ps_if (PW.pt (pw_or (pt_not (pt_val (pe_callB call_isi (by rfl) tIsi (by decide +kernel) (pa_cons (pv 0) (pa_cons (pe_bltn (v := .ty "str") (by rfl) tStr (by decide +kernel) rfl) pa_nil)))))
        (pw_or1 (pt_cmpR op_in_seq (pv 0) (pe_glob (v := .ref (He.ga K "BARRED")) (by rfl) gBar rfl) (by rfl))))) (pss_one (ps_ret pe_bl)) pss_nil)
      (pss_one (ps_ret (pe_and (pe_chain op_le op_le pe_int (pe_callB call_len_str (by rfl) tLen PySem.boot_len (pa_cons (pv 0) pa_nil)) (pe_glob (v := .int 8) (by rfl) gLong ⟨_, rfl⟩))
        (pe_one (pe_callB (cr_all rfl) (by rfl) tAll (by decide +kernel) (pa_cons
          (pe_lc (own := [("letter", 1)]) (g := gName 1) (tt := tYes) rfl sc12.nd (pi_str (pv 0)) (blkOk_by (N := ["value", "letter"]) (sc := defScope (top 12)) (by decide +kernel))
            (fun _ _ _ _ _ => pg_name (i := 1) sc12.nd rfl (Or.inl rfl)) (fun _ _ _ _ _ => pts_nil) (fun _ _ _ _ _ => pe_cmpR op_in_sign (pv 1) (pe_glob (v := .str letters) (by rfl) gLet ⟨_, rfl⟩) rfl)) pa_nil))))))), ?_⟩
    cases an with
    | int i => exact ⟨_, rfl, _, .ty "str", .type "int", .type "str", false, rfl, .ty "str", .base (.int i), kit_ty (by decide +kernel), false, rfl, iteT (q _ fun _ _ z => z)⟩
    | bl b => exact ⟨_, rfl, _, .ty "str", .type "bool", .type "str", false, rfl, .ty "str", .base (.bl b), kit_ty (by decide +kernel), false, rfl, iteT (q _ fun _ _ z => z)⟩
    | non => exact ⟨_, rfl, _, .ty "str", .type "NoneType", .type "str", false, rfl, .ty "str", .base .non, kit_ty (by decide +kernel), false, rfl, iteT (q _ fun _ _ z => z)⟩
    | tup e => exact ⟨_, rfl, _, .ty "str", .type "tuple", .type "str", false, rfl, .ty "str", .base (.tup e), kit_ty (by decide +kernel), false, rfl, iteT (q _ fun _ _ z => z)⟩
    | lst e => exact ⟨_, rfl, _, .ty "str", .type "list", .type "str", false, rfl, .ty "str", .base (.lst e), kit_ty (by decide +kernel), false, rfl, iteT (q _ fun _ _ z => z)⟩
    | dic e => exact ⟨_, rfl, _, .ty "str", .type "dict", .type "str", false, rfl, .ty "str", .base (.dK e), kit_ty (by decide +kernel), false, rfl, iteT (q _ fun _ _ z => z)⟩
    | str s hz =>
      refine ⟨_, rfl, _, .ty "str", .type "str", .type "str", true, rfl, .ty "str", .base (.str s), kit_ty (by decide +kernel), true, rfl, iteF ?_⟩
      have inB : inV (.str s) ((barred.map He.Dv.str).map (He.Dv.v K)) = decide (s ∈ barred) := by
        have e1 : (barred.map He.Dv.str).map (He.Dv.v K) = barred.map V.str := by rw [List.map_map]; rfl
        rw [e1]
        unfold inV
        rw [List.any_map]
        have e2 : ∀ l : List Str, (l.any ((fun y => eqV y (V.str s)) ∘ V.str)) = decide (s ∈ l) := by
          intro l
          induction l with
          | nil => simp
          | cons a l ih =>
            rw [List.any_cons, ih]
            have e3 : ((fun y => eqV y (V.str s)) ∘ V.str) a = decide (a = s) := by
              show (a == s) = decide (a = s)
              rfl
            rw [e3]
            by_cases h : a = s
            · simp [h]
            · have h' : ¬ s = a := fun z => h z.symm
              simp [h, h']
        exact e2 barred
      refine ⟨_, rfl, He.ga K "BARRED", _, rfl, .inr (He.tupB_ok hBar H), rfl, (by rfl), _, rfl, ?_⟩
      rw [if_neg Bool.false_ne_true, inB]
      refine ite2 (fun h1 => ?_) (fun h1 => ?_)
      · have e : nameB (.str s) = false := by simp [nameB, of_decide_eq_true h1]
        have q' := q H fun _ _ z => z
        rw [e] at q'
        exact q'
      · have h1' : ¬ s ∈ barred := fun z => h1 (decide_eq_true z)
        have nb : nameB (.str s) = (decide (1 ≤ s.length) && (decide (s.length ≤ 8) && s.cps.toList.all fun c => decide (c ∈ letters.cps.toList))) := by simp [nameB, h1']
        refine ⟨_, rfl, _, rfl, hz, _, _, rfl, rfl, _, rfl, ?_⟩
        refine ite2 (fun h2 => ?_) (fun h2 => ?_)
        · have h2' : 1 ≤ s.length := by have := of_decide_eq_true h2; omega
          refine ⟨_, _, rfl, rfl, _, rfl, ?_⟩
          refine ite2 (fun h3 => ?_) (fun h3 => ?_)
          · have h3' : s.length ≤ 8 := by have := of_decide_eq_true h3; omega
            have e : nameB (.str s) = s.cps.toList.all fun c => decide (c ∈ letters.cps.toList) := by rw [nb, decide_eq_true h2', decide_eq_true h3', Bool.true_and, Bool.true_and]
            rw [e] at q
            refine ⟨_, rfl, s, rfl, fun D hD => lc_it walk_str (fun i H' => Same H H' ∧ H' D = some (.lst ((s.cps.toList.take i).map fun c => V.bl (decide (c ∈ letters.cps.toList))))) ?_ (fun _ _ _ _ => trivial) ?_ ?_⟩
            · exact ⟨fun b o z => by rw [upd_ne (ne_of_none z hD)]; exact z, upd_same⟩
            · rintro i x H1 H2 hi ⟨S1, e1⟩ ⟨rfl, c, hc, rfl⟩
              refine ⟨rfl, ?_⟩
              dsimp only [tYes]
              rw [if_pos rfl]
              have hlen : s.cps.toList.length ≤ 8 := by rw [Array.length_toList]; exact h3'
              refine ⟨_, rfl, c, letters, rfl, rfl, _, e1, by rw [List.length_map, List.length_take, sizeLine_eq]; omega, fun b o z => ?_, ?_⟩
              · rw [upd_ne (ne_of_none z hD)]; exact S1 _ _ z
              · rw [upd_same]
                have hc2 : s.cps.toList[i]? = some c := by rw [← Array.getElem?_toList] at hc; exact hc
                obtain ⟨hi2, he⟩ := List.getElem?_eq_some_iff.mp hc2
                rw [List.take_succ, hc2, List.map_append]
                rfl
            · rintro H' ⟨S1, e1⟩
              refine ⟨D, s.cps.toList.map fun c => decide (c ∈ letters.cps.toList), rfl, SqL.of ?_, ?_⟩
              · rw [e1, List.map_map, List.take_of_length_le (by rw [Array.length_toList]; exact Nat.le_refl _)]
                rfl
              · rw [List.all_map]
                exact q H' S1
          · have h3' : ¬ s.length ≤ 8 := fun z => h3 (decide_eq_true (by omega))
            have e : nameB (.str s) = false := by rw [nb]; simp [h3']
            have q' := q H fun _ _ z => z
            rw [e] at q'
            exact q'
        · have h2' : ¬ 1 ≤ s.length := fun z => h2 (decide_eq_true (by omega))
          have e : nameB (.str s) = false := by rw [nb]; simp [h2']
          have q' := q H fun _ _ z => z
          rw [e] at q'
          exact ⟨_, rfl, iteF q'⟩
end
end H1
set_option Elab.async false
set_option linter.all false
set_option maxRecDepth 100000
set_option maxHeartbeats 4000000
namespace Ev
open PySem PySem.Spec PyProof.Rows L2
/-- the __init__ of an error, its dict told to be new -/
def spIniD (K : PySem.W.Frag) (C : Addr) (ns : List Str) : Sp := fun vs H Q _ => ∃ (a : Addr) (ys : List V), vs = .ref a :: ys ∧ ys.length = ns.length ∧ H a = some (exo a C none) ∧
  ∀ (H' : Hp) (d p : Addr), d ≠ a → H d = none → (∀ b o, b ≠ a → H b = some o → H' b = some o) → H' a = some (exo a C (some d)) → H' d = some (exd d ((ns.zip ys).reverse ++ [(("told" : Str), V.ref p)])) → Q .non H'
/-- an error of the class at C flies, made of these fields -/
def Flies (K : PySem.W.Frag) (x f : Str) (y : V) (H : Hp) (E : XK) : Prop := ∀ (d p : Addr) (H' : Hp), H d = none → Same H H' → H' d = some (.xd [(f, y), (("told" : Str), V.ref p)]) → E (.ref (He.ga K x)) (some d) H'
theorem flies_of {K : PySem.W.Frag} {x f : Str} {y : V} {H1 : Hp} {E : XK} (h : Flies K x f y H1 E) (a : Addr) (ha : H1 a = none) :
    spIniD K (He.ga K x) [f] (.ref a :: ([y] ++ [])) (upd H1 a (exo a (He.ga K x) none))
      (fun v H2 => v = .non ∧ ∃ (d : Addr) (fs : List (Str × V)), H2 a = some (exo a (He.ga K x) (some d)) ∧ H2 d = some (exd d fs) ∧ H1 d = none ∧ E (.ref (He.ga K x)) (some d) (upd (del H2 a) d (.xd fs))) (fun _ _ _ => False) := by
  refine ⟨a, [y], rfl, rfl, upd_same, fun H' d p da hd k e1 e2 => ⟨rfl, d, _, e1, e2, ?_, ?_⟩⟩
  · rw [upd_ne da] at hd; exact hd
  · rw [upd_ne da] at hd
    refine h d p _ hd (fun b o z => ?_) upd_same
    have nb : b ≠ a := ne_of_none z ha
    rw [upd_ne (ne_of_none z hd), del_ne nb]
    exact k b o nb (by rw [upd_ne nb]; exact z)
/-- what Part.__init__ leaves -/
def PartF (nl : Addr) (t : V) : List (Str × V) := [(("traits" : Str), t), (("inside" : Str), V.ref nl), (("depth" : Str), V.int 0)]
def spPart (K : PySem.W.Frag) : Sp := fun vs H Q _ => ∃ (a C dx nl : Addr) (t : V), vs = [.ref a, t, .ref nl] ∧ H a = some (.ins C dx []) ∧ Cls K C ∧ NoAttr K C "traits" ∧ NoAttr K C "inside" ∧ NoAttr K C "depth" ∧
  (∀ H', SqT K H' nl []) ∧ ∀ H', But a H H' → H' a = some (.ins C dx (PartF nl t)) → Q .non H'
end Ev
namespace H1
open PySem PySem.Spec PyProof.Rows L2 Ev
abbrev FnI (K : PySem.W.Frag) (x : Str) (i : Nat) (f : Addr) (fd : FuncData) : Prop := FunD K "__init__" (x ++ ".__init__") (defArgs (inClass (top i) 0)) (defBody (inClass (top i) 0)) (defScope (inClass (top i) 0)) [] [] f fd
section
variable {P : Program} {w : World} {K : PySem.W.Frag} {mg : Str → Option Value} {base : Heap} {f C f0 C0 : Addr} {fd : FuncData}
theorem sc2 : FnScope ["self", "told"] ((["self"] : List Str) ++ (["told"] : List Str)) (defScope (inClass (top 2) 0)) := ⟨rfl, rfl, rfl, by decide +kernel, rfl, by decide +kernel, by decide +kernel⟩
theorem ok_pad (F : FnI K "PadError" 2 f fd) : FnR P w K mg base CX0 1 f (spPad K) := by
  obtain ⟨oc, od, dV, kV, doc, pm, an, cdv, ct, osl, rfl, lk, hcd, hD, hK⟩ := F.ex
  rcases hD with ⟨_, rfl⟩ | ⟨e, _⟩
  · refine FnR.imp (StX.fn_star (ps := ["self"]) (pv := "told") (N := ["self", "told"]) (CX := CX0) (k := 0) (sp := spPadIn K) lk hcd sc2 StX.cxUp_none
      (fun us rest hl => match us, rest, hl with | [_], [], _ => rfl | [_], _ :: _, _ => rfl) (fun A outer s H vs Q E hr h => ?_)) pad_imp
    obtain ⟨a, C, p, rfl, T, no, ha, q⟩ := h
    refine ⟨_, PSs.nox (pss_one (ps_ost (pv 0) (pv 1))), ?_⟩
    exact ⟨_, rfl, _, rfl, a, C, rfl, T, no, .inl ⟨ha, fun dx hn ne => q dx hn ne⟩⟩
  · exact absurd rfl e
theorem sc3 : FnScope ["self", "name"] ["self", "name"] (defScope (inClass (top 3) 0)) := ⟨rfl, rfl, rfl, by decide +kernel, rfl, by decide +kernel, by decide +kernel⟩
theorem ok_bname (F : FnI K "BadName" 3 f fd) (gP : mg "PadError" = some (.ref C0)) (O : OffT K C0 f0) (GP : FnR P w K mg base CX0 1 f0 (spPad K)) (T : ErrT K C f ["told", "name"]) :
    FnOk P w K mg base CX0 2 f fd ["self", "name"] (spIniD K C ["name"]) := by
  refine F.ok sc3 (fun vs H Q E h => ?_) (fun cdv A outer s H vs Q E hr h => ?_)
  · obtain ⟨a, ys, rfl, hl, _⟩ := h
    show ys.length + 1 = 2
    rw [hl]; rfl
  · obtain ⟨a, ys, rfl, hl, ha, q⟩ := h
    obtain ⟨y0, rfl⟩ : ∃ y, ys = [y] := match ys, hl with | [y], _ => ⟨y, rfl⟩
    refine ⟨_, PSs.nox (pss_cons (ps_expr (pe_off (E := E0) (pe_glob (v := .ref C0) rfl gP rfl) O.rd O.at_ GP hr O.kp pass0 (pa_cons (pv 0) (pa_cons (pv 1) pa_nil))))
      (pss_one (ps_ost (pv 0) (pv 1)))), ?_⟩
    refine ⟨rfl, _, rfl, _, rfl, a, C, [y0], rfl, T.ox, T.no _ (by simp), ha, (by show 1 ≤ 900; decide), fun p d hp hd dp da => ?_⟩
    refine ⟨_, rfl, _, rfl, a, C, rfl, T.ox, T.no _ (by simp), .inr ⟨d, [(("told" : Str), .ref p)], upd_same, by rw [upd_ne da, upd_same], (by show 1 ≤ 900; decide), ?_⟩⟩
    exact q _ d p da hd (ini1 ha hp hd dp da).1 (by rw [upd_ne (Ne.symm da), upd_same]) upd_same
theorem sc4 : FnScope ["self", "value"] ["self", "value"] (defScope (inClass (top 4) 0)) := ⟨rfl, rfl, rfl, by decide +kernel, rfl, by decide +kernel, by decide +kernel⟩
theorem ok_btimes (F : FnI K "BadTimes" 4 f fd) (gP : mg "PadError" = some (.ref C0)) (O : OffT K C0 f0) (GP : FnR P w K mg base CX0 1 f0 (spPad K)) (T : ErrT K C f ["told", "value"]) :
    FnOk P w K mg base CX0 2 f fd ["self", "value"] (spIniD K C ["value"]) := by
  refine F.ok sc4 (fun vs H Q E h => ?_) (fun cdv A outer s H vs Q E hr h => ?_)
  · obtain ⟨a, ys, rfl, hl, _⟩ := h
    show ys.length + 1 = 2
    rw [hl]; rfl
  · obtain ⟨a, ys, rfl, hl, ha, q⟩ := h
    obtain ⟨y0, rfl⟩ : ∃ y, ys = [y] := match ys, hl with | [y], _ => ⟨y, rfl⟩
    refine ⟨_, PSs.nox (pss_cons (ps_expr (pe_off (E := E0) (pe_glob (v := .ref C0) rfl gP rfl) O.rd O.at_ GP hr O.kp pass0 (pa_cons (pv 0) (pa_cons (pv 1) pa_nil))))
      (pss_one (ps_ost (pv 0) (pv 1)))), ?_⟩
    refine ⟨rfl, _, rfl, _, rfl, a, C, [y0], rfl, T.ox, T.no _ (by simp), ha, (by show 1 ≤ 900; decide), fun p d hp hd dp da => ?_⟩
    refine ⟨_, rfl, _, rfl, a, C, rfl, T.ox, T.no _ (by simp), .inr ⟨d, [(("told" : Str), .ref p)], upd_same, by rw [upd_ne da, upd_same], (by show 1 ≤ 900; decide), ?_⟩⟩
    exact q _ d p da hd (ini1 ha hp hd dp da).1 (by rw [upd_ne (Ne.symm da), upd_same]) upd_same
abbrev dflP (K : PySem.W.Frag) : List V := [.ref (dfT 0 K), .ref (dfT 1 K)]
abbrev NP : List Str := ["self", "traits", "inside", "depth", "step", "part"]
theorem scP : FnScope NP ["self", "traits", "inside"] (defScope (sM 16 1)) := ⟨rfl, rfl, rfl, by decide +kernel, rfl, by decide +kernel, by decide +kernel⟩
theorem ok_part (F : FnM K "Part" "__init__" 16 1 (dflP K) f fd) (tMax : mg "max" = none) (tInt : mg "int" = none) (gPart : mg "Part" = some (.ref (He.ga K "Part"))) (PT : PartsT K) :
    FnOk P w K mg base CX0 1 f fd ["self", "traits", "inside"] (spPart K) := by
  refine F.ok scP (fun vs H Q E h => ?_) (fun cdv A outer s H vs Q E hr h => ?_)
  · obtain ⟨a, C, dx, nl, t, rfl, _⟩ := h
    rfl
  · obtain ⟨a, C, dx, nl, t, rfl, ha, cl, n1, n2, n3, hn, q⟩ := h
    obtain ⟨td, hd⟩ := PT.depth
    refine ⟨_, PSs.nox (pss_cons (ps_set (i := 3) scP.nd rfl (Or.inl rfl) (pe_callBK (cr_maxD0 rfl (Nat.lt_of_le_of_lt (Nat.add_le_add_left (by decide) _) hr.units)) (by rfl) tMax (by decide +kernel)
        (pa_cons (pe_lc (own := [("step", 4), ("part", 5)]) (g := gTup K 2 (gCons (gName 4) (gCons (gName 5) gNil))) (tt := tYes) rfl scP.nd (pi_tup (pv 2)) (blkOk_by (N := NP) (sc := defScope (sM 16 1)) (by decide +kernel))
          (fun _ _ _ _ _ => pg_tup rfl (pgs_cons (pg_name (i := 4) scP.nd rfl (Or.inl rfl)) (pgs_cons (pg_name (i := 5) scP.nd rfl (Or.inl rfl)) pgs_nil))) (fun _ _ _ _ _ => pts_nil)
          (fun _ _ _ _ _ => pe_op op_add (pe_callTy call_int1 (by rfl) tInt (by decide +kernel) (pa_cons (show PE _ _ (tFld K (tVar 5) "depth") from pe_fld (pv 5) (by rfl)) pa_nil)) pe_int)) pa_nil) (pk_cons pe_int pk_nil)))
      (pss_cons (ps_if (pt_cmpR op_gt (pv 3) (ClX.pe_cval (pe_glob (v := .ref (He.ga K "Part")) (by rfl) gPart rfl)) (nomark _)) (pss_one ps_never) pss_nil)
      (pss_cons (ps_fld (pv 0) (pv 1) rfl) (pss_cons (ps_fld (pv 0) (pv 2) rfl) (pss_one (ps_fld (pv 0) (pv 3) rfl)))))), ?_⟩
    refine ⟨_, rfl, nl, rfl, ⟨[], hn _⟩, fun D hD => ?_⟩
    refine lc_tup (K := K) (a := nl) (xs := []) (fun _ H' => H' = upd H D (.lst [])) rfl (fun _ H' _ _ => hn H') (fun i x H' hx => by cases hx) ?_
    rintro H' rfl
    refine ⟨D, .int 0, rfl, rfl, SqL.of upd_same, ?_⟩
    refine ⟨_, rfl, He.ga K "Part", .type "type", .int 4, .int 4 td, rfl, PT.off.rd, ⟨hd, ⟨td, rfl⟩⟩, _, _, rfl, rfl, _, rfl, ?_⟩
    refine iteF ?_
    have aD : a ≠ D := ne_of_none ha hD
    have e0 : (upd H D (.lst [])) a = some (.ins C dx []) := by rw [upd_ne aD]; exact ha
    refine ⟨_, rfl, _, rfl, a, C, dx, [], rfl, e0, cl, n1, (by decide), ?_⟩
    refine ⟨_, rfl, _, rfl, a, C, dx, _, rfl, upd_same, cl, n2, (by show 1 < 1000; decide), ?_⟩
    refine ⟨_, rfl, _, rfl, a, C, dx, _, rfl, upd_same, cl, n3, (by show 2 < 1000; decide), ?_⟩
    refine q _ (fun b o nb e => ?_) (by rw [upd_same]; rfl)
    rw [upd_ne nb, upd_ne nb, upd_ne nb, upd_ne (ne_of_none e hD)]
    exact e
end
end H1
set_option Elab.async false
set_option linter.all false
set_option maxRecDepth 100000
set_option maxHeartbeats 4000000
namespace Ev
open PySem PySem.Spec PyProof.Rows L2
/-- what the written part says of a class of parts -/
structure PClsT (K : PySem.W.Frag) (x : Str) (fs : List Str) : Prop where
  cl : Cls K (He.ga K x)
  mkr : Mk K (He.ga K x) (He.ma K (He.ga K x) "__init__")
  st : Meth K (He.ga K x) "__str__" (He.ma K (He.ga K x) "__str__")
  no : ∀ f ∈ fs, NoAttr K (He.ga K x) f
abbrev kindFs : List Str := ["traits", "inside", "depth", "name", "times"]
abbrev useFs : List Str := ["traits", "inside", "depth", "name"]
abbrev byteFs : List Str := ["traits", "inside", "depth"]
def KindF (K : PySem.W.Frag) (tr : Addr) (nm tm : V) : List (Str × V) := PartF (dfT 1 K) (.ref tr) ++ [(("name" : Str), nm), (("times" : Str), tm)]
def UseF (K : PySem.W.Frag) (tr : Addr) (nm : V) : List (Str × V) := PartF (dfT 1 K) (.ref tr) ++ [(("name" : Str), nm)]
def ByteF (K : PySem.W.Frag) : List (Str × V) := PartF (dfT 1 K) (.ref (dfT 0 K))
/-- a kind stands at x -/
def KindAt (K : PySem.W.Frag) (H : Hp) (x : Addr) (nm tm : V) : Prop := ∃ dx tr, H x = some (.ins (He.ga K "Kind") dx (KindF K tr nm tm)) ∧ H tr = some (.tup [nm, tm])
def UseAt (K : PySem.W.Frag) (H : Hp) (x : Addr) (nm : V) : Prop := ∃ dx tr, H x = some (.ins (He.ga K "Use") dx (UseF K tr nm)) ∧ H tr = some (.tup [nm])
def ByteAt (K : PySem.W.Frag) (H : Hp) (x : Addr) : Prop := ∃ dx, H x = some (.ins (He.ga K "Byte") dx (ByteF K))
theorem KindAt.same {K : PySem.W.Frag} {H H' : Hp} {x : Addr} {nm tm : V} (S : Same H H') : KindAt K H x nm tm → KindAt K H' x nm tm
  | ⟨dx, tr, h1, h2⟩ => ⟨dx, tr, S _ _ h1, S _ _ h2⟩
theorem UseAt.same {K : PySem.W.Frag} {H H' : Hp} {x : Addr} {nm : V} (S : Same H H') : UseAt K H x nm → UseAt K H' x nm
  | ⟨dx, tr, h1, h2⟩ => ⟨dx, tr, S _ _ h1, S _ _ h2⟩
theorem ByteAt.same {K : PySem.W.Frag} {H H' : Hp} {x : Addr} (S : Same H H') : ByteAt K H x → ByteAt K H' x
  | ⟨dx, h1⟩ => ⟨dx, S _ _ h1⟩
def spKind (K : PySem.W.Frag) : Sp := fun vs H Q E => ∃ (x dx : Addr) (nm tm : V), vs = [.ref x, nm, tm] ∧ H x = some (.ins (He.ga K "Kind") dx []) ∧ Any K H nm ∧ Any K H tm ∧
  (nameB nm = false → Flies K "BadName" "name" nm H E) ∧ (nameB nm = true → wholeB tm 1 8 = false → Flies K "BadTimes" "value" tm H E) ∧
  (nameB nm = true → wholeB tm 1 8 = true → ∀ H', But x H H' → KindAt K H' x nm tm → Q .non H')
def spUse (K : PySem.W.Frag) : Sp := fun vs H Q E => ∃ (x dx : Addr) (nm : V), vs = [.ref x, nm] ∧ H x = some (.ins (He.ga K "Use") dx []) ∧ Any K H nm ∧
  (nameB nm = false → Flies K "BadName" "name" nm H E) ∧ (nameB nm = true → ∀ H', But x H H' → UseAt K H' x nm → Q .non H')
def spByte (K : PySem.W.Frag) : Sp := fun vs H Q _ => ∃ (x dx : Addr), vs = [.ref x] ∧ H x = some (.ins (He.ga K "Byte") dx []) ∧ ∀ H', But x H H' → ByteAt K H' x → Q .non H'
theorem Flies.same {K : PySem.W.Frag} {x f : Str} {y : V} {H H' : Hp} {E : XK} (S : Same H H') (n : ∀ d, H' d = none → H d = none) (h : Flies K x f y H E) : Flies K x f y H' E := fun d p H2 hd S2 e => h d p H2 (n d hd) (fun b o z => S2 _ _ (S _ _ z)) e
theorem same_none {H H' : Hp} (S : Same H H') (d : Addr) (h : H' d = none) : H d = none := by
  cases e : H d with
  | none => rfl
  | some o =>
    rw [S _ _ e] at h
    cases h
end Ev
namespace H1
open PySem PySem.Spec PyProof.Rows L2 Ev
/-- what the defs of the parts lean on -/
structure PTxt (P : Program) (w : World) (K : PySem.W.Frag) (mg : Str → Option Value) (base : Heap) (fN fW : Addr) (dN dW dBN dBT : FuncData) : Prop where
  gN : mg "is_name" = some (.ref fN)
  FN : FnL K "is_name" 12 fN dN
  GN : FnOk P w K mg base CX0 1 fN dN ["value"] (spName K)
  gW : mg "is_whole" = some (.ref fW)
  FW : FnL K "is_whole" 13 fW dW
  GW : FnOk P w K mg base CX0 1 fW dW ["value", "least", "most"] (spWhole K)
  gMost : ∃ t, mg "MOST_TIMES" = some (.int 8 t)
  gBN : mg "BadName" = some (.ref (He.ga K "BadName"))
  TBN : ErrT K (He.ga K "BadName") (He.ma K (He.ga K "BadName") "__init__") ["told", "name"]
  FBN : FnI K "BadName" 3 (He.ma K (He.ga K "BadName") "__init__") dBN
  GBN : FnOk P w K mg base CX0 2 (He.ma K (He.ga K "BadName") "__init__") dBN ["self", "name"] (spIniD K (He.ga K "BadName") ["name"])
  gBT : mg "BadTimes" = some (.ref (He.ga K "BadTimes"))
  TBT : ErrT K (He.ga K "BadTimes") (He.ma K (He.ga K "BadTimes") "__init__") ["told", "value"]
  FBT : FnI K "BadTimes" 4 (He.ma K (He.ga K "BadTimes") "__init__") dBT
  GBT : FnOk P w K mg base CX0 2 (He.ma K (He.ga K "BadTimes") "__init__") dBT ["self", "value"] (spIniD K (He.ga K "BadTimes") ["value"])
  gPart : mg "Part" = some (.ref (He.ga K "Part"))
  PT : PartsT K
  GP2 : FnR P w K mg base CX0 1 (He.ma K (He.ga K "Part") "__init__") (fun vs => spPart K (vs ++ [.ref (dfT 1 K)]))
  GP1 : FnR P w K mg base CX0 1 (He.ma K (He.ga K "Part") "__init__") (fun vs => spPart K (vs ++ [.ref (dfT 0 K), .ref (dfT 1 K)]))
section
variable {P : Program} {w : World} {K : PySem.W.Frag} {mg : Str → Option Value} {base : Heap} {f fN fW : Addr} {fd dN dW dBN dBT : FuncData}
theorem b12 {fN : Addr} {dN : FuncData} (F : FnL K "is_name" 12 fN dN) : Binds K dN ["value"] [] := FunD.bindsN F fun _ _ _ _ _ _ us hl => match us, hl with | [_], _ => rfl
theorem b13 {fN : Addr} {dN : FuncData} (F : FnL K "is_whole" 13 fN dN) : Binds K dN ["value", "least", "most"] [] := FunD.bindsN F fun _ _ _ _ _ _ us hl => match us, hl with | [_, _, _], _ => rfl
theorem b3 {fN : Addr} {dN : FuncData} (F : FnI K "BadName" 3 fN dN) : Binds K dN ["self", "name"] [] := FunD.bindsN F fun _ _ _ _ _ _ us hl => match us, hl with | [_, _], _ => rfl
theorem b4 {fN : Addr} {dN : FuncData} (F : FnI K "BadTimes" 4 fN dN) : Binds K dN ["self", "value"] [] := FunD.bindsN F fun _ _ _ _ _ _ us hl => match us, hl with | [_, _], _ => rfl
abbrev dflK : List V := [.int 1]
theorem scK : FnScope ["self", "name", "times"] ["self", "name", "times"] (defScope (sM 17 0)) := ⟨rfl, rfl, rfl, by decide +kernel, rfl, by decide +kernel, by decide +kernel⟩
theorem ok_kind (F : FnM K "Kind" "__init__" 17 0 dflK f fd) (T : PTxt P w K mg base fN fW dN dW dBN dBT) (C : PClsT K "Kind" kindFs) :
    FnOk P w K mg base (L2.CX P w) 4 f fd ["self", "name", "times"] (spKind K) := by
  obtain ⟨tM, gM⟩ := T.gMost
  refine F.ok scK (fun vs H Q E h => ?_) (fun cdv A outer s H vs Q E hr h => ?_)
  · obtain ⟨x, dx, nm, tm, rfl, _⟩ := h
    rfl
  · obtain ⟨x, dx, nm, tm, rfl, hx, an, at_, q1, q2, q3⟩ := h
    refine ⟨_, pss_cons (ps_if (pt_not (pt_val (pe_call (E := E0) T.GN (hr.mono (by decide)) (by rfl) T.gN T.FN.kp (b12 T.FN) .nil pass0 (pa_cons (pv 1) pa_nil))))
        (pss_one (ps_raise rfl (takes_of rfl rfl rfl rfl) (pmk_oex T.TBN.ox T.TBN.iC T.TBN.tI T.GBN hr (b3 T.FBN) .nil pass0 (by rfl) T.gBN (pa_cons (pv 1) pa_nil)))) pss_nil)
      (pss_cons (ps_if (pt_not (pt_val (pe_call (E := E0) T.GW (hr.mono (by decide)) (by rfl) T.gW T.FW.kp (b13 T.FW) .nil pass0 (pa_cons (pv 2) (pa_cons pe_int (pa_cons (pe_glob (v := .int 8) (by rfl) gM ⟨_, rfl⟩) pa_nil))))))
        (pss_one (ps_raise rfl (takes_of rfl rfl rfl rfl) (pmk_oex T.TBT.ox T.TBT.iC T.TBT.tI T.GBT hr (b4 T.FBT) .nil pass0 (by rfl) T.gBT (pa_cons (pv 2) pa_nil)))) pss_nil)
      (pss_cons (ps_expr (pe_off (E := E0) (pe_glob (v := .ref (He.ga K "Part")) (by rfl) T.gPart rfl) T.PT.off.rd T.PT.off.at_ T.GP2 (hr.mono (by decide)) T.PT.off.kp pass0
          (pa_cons (pv 0) (pa_cons (pe_tup (pa_cons (pv 1) (pa_cons (pv 2) pa_nil))) pa_nil))))
      (pss_cons (ps_fld (pv 0) (pv 1) rfl) (pss_one (ps_fld (pv 0) (pv 2) rfl))))), ?_⟩
    refine ⟨_, rfl, nm, rfl, an, fun H1 S1 => ⟨_, rfl, ?_⟩⟩
    have n1 := same_none S1
    refine ite2 (fun h1 => ?_) (fun h1 => ?_)
    · have e1 : nameB nm = false := by simpa using h1
      exact ⟨_, rfl, (by show 1 ≤ 1000; decide), fun a ha => flies_of ((q1 e1).same S1 n1) a ha⟩
    · have e1 : nameB nm = true := by simpa using h1
      refine ⟨_, rfl, tm, 1, 8, rfl, at_.same S1, ⟨_, rfl, ?_⟩⟩
      refine ite2 (fun h2 => ?_) (fun h2 => ?_)
      · have e2 : wholeB tm 1 8 = false := by simpa using h2
        exact ⟨_, rfl, (by show 1 ≤ 1000; decide), fun a ha => flies_of ((q2 e1 e2).same S1 n1) a ha⟩
      · have e2 : wholeB tm 1 8 = true := by simpa using h2
        have hx1 := S1 _ _ hx
        refine ⟨rfl, _, rfl, _, rfl, _, rfl, (by show 2 ≤ sizeLine; decide), fun tr htr => ?_⟩
        have xt : x ≠ tr := ne_of_none hx1 htr
        refine ⟨x, _, dx, dfT 1 K, .ref tr, rfl, (by rw [upd_ne xt]; exact hx1), C.cl, C.no _ (by decide), C.no _ (by decide), C.no _ (by decide), fun H' => nilT_ok (T.PT.nil 1 (by decide)) H', fun H2 B2 e => ?_⟩
        refine ⟨_, rfl, _, rfl, x, _, dx, _, rfl, e, C.cl, C.no _ (by decide), (by show 3 < 1000; decide), ?_⟩
        refine ⟨_, rfl, _, rfl, x, _, dx, _, rfl, upd_same, C.cl, C.no _ (by decide), (by show 4 < 1000; decide), ?_⟩
        refine q3 e1 e2 _ (fun b o nb z => ?_) ⟨dx, tr, by rw [upd_same]; rfl, ?_⟩
        · have z1 := S1 _ _ z
          rw [upd_ne nb, upd_ne nb]
          exact B2 b o nb (by rw [upd_ne (ne_of_none z1 htr)]; exact z1)
        · rw [upd_ne (Ne.symm xt), upd_ne (Ne.symm xt)]
          exact B2 _ _ (Ne.symm xt) upd_same
theorem scU : FnScope ["self", "name"] ["self", "name"] (defScope (sM 19 0)) := ⟨rfl, rfl, rfl, by decide +kernel, rfl, by decide +kernel, by decide +kernel⟩
theorem ok_use (F : FnM K "Use" "__init__" 19 0 [] f fd) (T : PTxt P w K mg base fN fW dN dW dBN dBT) (C : PClsT K "Use" useFs) :
    FnOk P w K mg base (L2.CX P w) 4 f fd ["self", "name"] (spUse K) := by
  refine F.ok scU (fun vs H Q E h => ?_) (fun cdv A outer s H vs Q E hr h => ?_)
  · obtain ⟨x, dx, nm, rfl, _⟩ := h
    rfl
  · obtain ⟨x, dx, nm, rfl, hx, an, q1, q3⟩ := h
    refine ⟨_, pss_cons (ps_if (pt_not (pt_val (pe_call (E := E0) T.GN (hr.mono (by decide)) (by rfl) T.gN T.FN.kp (b12 T.FN) .nil pass0 (pa_cons (pv 1) pa_nil))))
        (pss_one (ps_raise rfl (takes_of rfl rfl rfl rfl) (pmk_oex T.TBN.ox T.TBN.iC T.TBN.tI T.GBN hr (b3 T.FBN) .nil pass0 (by rfl) T.gBN (pa_cons (pv 1) pa_nil)))) pss_nil)
      (pss_cons (ps_expr (pe_off (E := E0) (pe_glob (v := .ref (He.ga K "Part")) (by rfl) T.gPart rfl) T.PT.off.rd T.PT.off.at_ T.GP2 (hr.mono (by decide)) T.PT.off.kp pass0
          (pa_cons (pv 0) (pa_cons (pe_tup (pa_cons (pv 1) pa_nil)) pa_nil))))
      (pss_one (ps_fld (pv 0) (pv 1) rfl))), ?_⟩
    refine ⟨_, rfl, nm, rfl, an, fun H1 S1 => ⟨_, rfl, ?_⟩⟩
    have n1 := same_none S1
    refine ite2 (fun h1 => ?_) (fun h1 => ?_)
    · have e1 : nameB nm = false := by simpa using h1
      exact ⟨_, rfl, (by show 1 ≤ 1000; decide), fun a ha => flies_of ((q1 e1).same S1 n1) a ha⟩
    · have e1 : nameB nm = true := by simpa using h1
      have hx1 := S1 _ _ hx
      refine ⟨rfl, _, rfl, _, rfl, (by show 1 ≤ sizeLine; decide), fun tr htr => ?_⟩
      have xt : x ≠ tr := ne_of_none hx1 htr
      refine ⟨x, _, dx, dfT 1 K, .ref tr, rfl, (by rw [upd_ne xt]; exact hx1), C.cl, C.no _ (by decide), C.no _ (by decide), C.no _ (by decide), fun H' => nilT_ok (T.PT.nil 1 (by decide)) H', fun H2 B2 e => ?_⟩
      refine ⟨_, rfl, _, rfl, x, _, dx, _, rfl, e, C.cl, C.no _ (by decide), (by show 3 < 1000; decide), ?_⟩
      refine q3 e1 _ (fun b o nb z => ?_) ⟨dx, tr, by rw [upd_same]; rfl, ?_⟩
      · have z1 := S1 _ _ z
        rw [upd_ne nb]
        exact B2 b o nb (by rw [upd_ne (ne_of_none z1 htr)]; exact z1)
      · rw [upd_ne (Ne.symm xt)]
        exact B2 _ _ (Ne.symm xt) upd_same
theorem scB : FnScope ["self"] ["self"] (defScope (sM 18 0)) := ⟨rfl, rfl, rfl, by decide +kernel, rfl, by decide +kernel, by decide +kernel⟩
theorem ok_byte (F : FnM K "Byte" "__init__" 18 0 [] f fd) (T : PTxt P w K mg base fN fW dN dW dBN dBT) (C : PClsT K "Byte" byteFs) :
    FnOk P w K mg base CX0 2 f fd ["self"] (spByte K) := by
  refine F.ok scB (fun vs H Q E h => ?_) (fun cdv A outer s H vs Q E hr h => ?_)
  · obtain ⟨x, dx, rfl, _⟩ := h
    rfl
  · obtain ⟨x, dx, rfl, hx, q⟩ := h
    refine ⟨_, PSs.nox (pss_one (ps_expr (pe_off (E := E0) (pe_glob (v := .ref (He.ga K "Part")) (by rfl) T.gPart rfl) T.PT.off.rd T.PT.off.at_ T.GP1 hr T.PT.off.kp pass0 (pa_cons (pv 0) pa_nil)))), ?_⟩
    exact ⟨rfl, _, rfl, x, _, dx, dfT 1 K, .ref (dfT 0 K), rfl, hx, C.cl, C.no _ (by decide), C.no _ (by decide), C.no _ (by decide), fun H' => nilT_ok (T.PT.nil 1 (by decide)) H', fun H2 B2 e => q H2 B2 ⟨dx, e⟩⟩
/-! ### str -/
def spStrK (K : PySem.W.Frag) : Sp := fun vs H Q _ => ∃ (x : Addr) (s : Str) (tm : V), vs = [.ref x] ∧ KindAt K H x (.str s) tm ∧ s.length ≤ sizeLine ∧ Q (.str s) H
def spStrU (K : PySem.W.Frag) : Sp := fun vs H Q _ => ∃ (x : Addr) (s : Str), vs = [.ref x] ∧ UseAt K H x (.str s) ∧ s.length + 1 ≤ sizeLine ∧ Q (.str ("@" ++ s)) H
def spStrB (K : PySem.W.Frag) : Sp := fun vs H Q _ => ∃ (x : Addr), vs = [.ref x] ∧ Q (.str "byte") H
theorem scS1 : FnScope ["self"] ["self"] (defScope (sM 17 1)) := ⟨rfl, rfl, rfl, by decide +kernel, rfl, by decide +kernel, by decide +kernel⟩
theorem scS2 : FnScope ["self"] ["self"] (defScope (sM 18 1)) := ⟨rfl, rfl, rfl, by decide +kernel, rfl, by decide +kernel, by decide +kernel⟩
theorem scS3 : FnScope ["self"] ["self"] (defScope (sM 19 1)) := ⟨rfl, rfl, rfl, by decide +kernel, rfl, by decide +kernel, by decide +kernel⟩
theorem ok_strB (F : FnM K "Byte" "__str__" 18 1 [] f fd) : FnOk P w K mg base CX0 1 f fd ["self"] (spStrB K) := by
  refine F.ok scS2 (fun vs H Q E h => ?_) (fun cdv A outer s H vs Q E hr h => ?_)
  · obtain ⟨x, rfl, _⟩ := h
    rfl
  · obtain ⟨x, rfl, q⟩ := h
    exact ⟨_, PSs.nox (pss_one (ps_ret pe_str)), q⟩
theorem ok_strK (F : FnM K "Kind" "__str__" 17 1 [] f fd) (C : PClsT K "Kind" kindFs) : FnOk P w K mg base CX0 1 f fd ["self"] (spStrK K) := by
  refine F.ok scS1 (fun vs H Q E h => ?_) (fun cdv A outer s H vs Q E hr h => ?_)
  · obtain ⟨x, t, tm, rfl, _⟩ := h
    rfl
  · obtain ⟨x, t, tm, rfl, ⟨dx, tr, e1, e2⟩, hz, q⟩ := h
    refine ⟨_, PSs.nox (pss_one (ps_ret (pe_joined1 (pe_fmt (pe_fld (pv 0) (by rfl)))))), ?_⟩
    exact ⟨_, rfl, x, _, dx, _, _, rfl, e1, C.cl, C.no _ (by decide), rfl, .inl ⟨t, rfl, hz, q⟩⟩
theorem ok_strU (F : FnM K "Use" "__str__" 19 1 [] f fd) (C : PClsT K "Use" useFs) : FnOk P w K mg base CX0 1 f fd ["self"] (spStrU K) := by
  refine F.ok scS3 (fun vs H Q E h => ?_) (fun cdv A outer s H vs Q E hr h => ?_)
  · obtain ⟨x, t, rfl, _⟩ := h
    rfl
  · obtain ⟨x, t, rfl, ⟨dx, tr, e1, e2⟩, hz, q⟩ := h
    refine ⟨_, PSs.nox (pss_one (ps_ret (pe_joined (PJ.cons pe_str (PJ.cons (pe_fmt (pe_fld (pv 0) (by rfl))) PJ.nil))))), ?_⟩
    have e0 : (Str.empty ++ ("@" : Str)) = "@" := by decide +kernel
    have e3 : (("@" : Str) ++ t).length ≤ sizeLine := by
      show (("@" : Str).cps ++ t.cps).size ≤ sizeLine
      rw [Array.size_append]
      have : ("@" : Str).cps.size = 1 := by decide +kernel
      have h2 : t.cps.size + 1 ≤ sizeLine := hz
      omega
    refine ⟨"@", rfl, (by rw [e0, sizeLine_eq]; decide +kernel), _, rfl, x, _, dx, _, _, rfl, e1, C.cl, C.no _ (by decide), rfl, .inl ⟨t, rfl, Nat.le_trans (Nat.le_succ _) hz, t, rfl, ?_, ?_⟩⟩
    · rw [e0]; exact e3
    · show Q (.str (Str.empty ++ ("@" : Str) ++ t)) H
      rw [e0]
      exact q
end
end H1
set_option Elab.async false
set_option linter.all false
set_option maxRecDepth 100000
set_option maxHeartbeats 4000000
namespace Ev
open PySem PySem.Spec PyProof.Rows L2
/-- a part of the class cn, its traits d -/
inductive PtAt (K : PySem.W.Frag) (H : Hp) : Addr → Str → PyData → Prop where
  | kind {x : Addr} {s : Str} {t : Int} : PyData.strOk s = true → KindAt K H x (.str s) (.int t) → PtAt K H x "Kind" (.tuple [.str s, .int t])
  | use {x : Addr} {s : Str} : PyData.strOk s = true → UseAt K H x (.str s) → PtAt K H x "Use" (.tuple [.str s])
  | byte {x : Addr} : ByteAt K H x → PtAt K H x "Byte" (.tuple [])
theorem PtAt.same {K : PySem.W.Frag} {H H' : Hp} {x : Addr} {cn : Str} {d : PyData} (S : Same H H') (h : PtAt K H x cn d) : PtAt K H' x cn d := by
  cases h with
  | kind ok a => exact .kind ok (a.same S)
  | use ok a => exact .use ok (a.same S)
  | byte a => exact .byte (a.same S)
/-- what the classes of parts are -/
structure PClss (K : PySem.W.Frag) : Prop where
  kind : PClsT K "Kind" kindFs
  use : PClsT K "Use" useFs
  byte : PClsT K "Byte" byteFs
  PT : PartsT K
structure PtIs (K : PySem.W.Frag) (H : Hp) (x : Addr) (cn : Str) (d : PyData) (C dx : Addr) (fs : List (Str × V)) (tv : V) : Prop where
  at_ : H x = some (.ins C dx fs)
  cC : C = He.ga K cn
  mem : cn ∈ partNames
  cl : Cls K C
  nt : NoAttr K C "traits"
  tr : fs.lookup ("traits" : Str) = some tv
  dp : Dp K H tv d
  sh : SeqAt.shaped d = true
theorem PtAt.is {K : PySem.W.Frag} {H : Hp} {x : Addr} {cn : Str} {d : PyData} (T : PClss K) (h : PtAt K H x cn d) : ∃ C dx fs tv, PtIs K H x cn d C dx fs tv := by
  cases h with
  | @kind s t ok a =>
    obtain ⟨dx, tr, e1, e2⟩ := a
    exact ⟨_, dx, _, .ref tr, e1, rfl, by decide, T.kind.cl, T.kind.no _ (by decide), rfl, .tup (SqT.of e2) (.cons (.str _) (.cons (.int _) .nil)), by simp [SeqAt.shaped, PyData.canLay0, PyData.canLayAll0, PyData.depth, PyData.depthAll, *]⟩
  | @use s ok a =>
    obtain ⟨dx, tr, e1, e2⟩ := a
    exact ⟨_, dx, _, .ref tr, e1, rfl, by decide, T.use.cl, T.use.no _ (by decide), rfl, .tup (SqT.of e2) (.cons (.str _) .nil), by simp [SeqAt.shaped, PyData.canLay0, PyData.canLayAll0, PyData.depth, PyData.depthAll, *]⟩
  | byte a =>
    obtain ⟨dx, e1⟩ := a
    exact ⟨_, dx, _, .ref (dfT 0 K), e1, rfl, by decide, T.byte.cl, T.byte.no _ (by decide), rfl, .tup (nilT_ok (T.PT.nil 0 (by decide)) H) .nil, by simp [SeqAt.shaped, PyData.canLay0, PyData.canLayAll0, PyData.depth, PyData.depthAll, *]⟩
theorem PtIs.ty {K : PySem.W.Frag} {H : Hp} {x : Addr} {cn : Str} {d : PyData} {C dx : Addr} {fs : List (Str × V)} {tv : V} (T : PClss K) (h : PtIs K H x cn d C dx fs tv) : TyX K H (.ref x) (.ref C) := by
  have o := T.PT.one cn h.mem
  have e := h.cC
  subst e
  exact .base (.ins h.at_ h.cl o.ca T.PT.cn T.PT.ct o.cm)
theorem PtIs.clsC {K : PySem.W.Frag} {H : Hp} {x : Addr} {cn : Str} {d : PyData} {C dx : Addr} {fs : List (Str × V)} {tv : V} (T : PClss K) (h : PtIs K H x cn d C dx fs tv) : ClsC K C := by
  have o := T.PT.one cn h.mem
  have e := h.cC
  subst e
  exact ⟨h.cl, o.ca, T.PT.cn, T.PT.ct, o.cm⟩
theorem reads_type {K : PySem.W.Frag} {C : Addr} {mc : Value} (h : PySem.W.readsIn K C mc = true) : PySem.W.typeIn K (.ref C) = some mc := by
  simp only [PySem.W.readsIn, Bool.and_eq_true, beq_iff_eq] at h
  exact h.1.1.1.2
/-- what another thing is: a part, or a value of a built-in type -/
inductive Other (K : PySem.W.Frag) (H : Hp) (cn : Str) (d : PyData) : V → Bool → Prop where
  | part {z : Addr} {cn' : Str} {d' : PyData} : PtAt K H z cn' d' → Other K H cn d (.ref z) (decide (cn = cn') && (if cn = cn' then PyData.eqv d d' else false))
  | flat {y : V} {n : String} : TyX K H y (.type n) → n ∈ flatTypes → Other K H cn d y false
theorem Other.same {K : PySem.W.Frag} {H H' : Hp} {cn : Str} {d : PyData} {y : V} {b : Bool} (k : ∀ n : String, TyX K H y (.type n) → TyX K H' y (.type n)) (S : Same H H') (h : Other K H cn d y b) : Other K H' cn d y b := by
  cases h with
  | part p => exact .part (p.same S)
  | flat t m => exact .flat (k _ t) m
def spEq (K : PySem.W.Frag) : Sp := fun vs H Q _ => ∃ (x : Addr) (y : V) (cn : Str) (d : PyData) (b : Bool), vs = [.ref x, y] ∧ PtAt K H x cn d ∧ Other K H cn d y b ∧ Q (.bl b) H
end Ev
namespace H1
open PySem PySem.Spec PyProof.Rows L2 Ev
section
variable {P : Program} {w : World} {K : PySem.W.Frag} {mg : Str → Option Value} {base : Heap} {f : Addr} {fd : FuncData}
theorem scE : FnScope ["self", "other"] ["self", "other"] (defScope (sM 16 2)) := ⟨rfl, rfl, rfl, by decide +kernel, rfl, by decide +kernel, by decide +kernel⟩
theorem ok_eq (F : FnM K "Part" "__eq__" 16 2 [] f fd) (T : PClss K) (tIsi : mg "isinstance" = none) (gPart : mg "Part" = some (.ref (He.ga K "Part"))) : FnOk P w K mg base CX0 1 f fd ["self", "other"] (spEq K) := by
  refine F.ok scE (fun vs H Q E h => ?_) (fun cdv A outer s H vs Q E hr h => ?_)
  · obtain ⟨x, y, cn, d, b, rfl, _⟩ := h
    rfl
  · obtain ⟨x, y, cn, d, b, rfl, hx, ho, q⟩ := h
    refine ⟨_, PSs.nox (pss_cons (ps_if (pt_not (pt_val (pe_callB call_isi (by rfl) tIsi (by decide +kernel) (pa_cons (pv 1) (pa_cons (pe_glob (v := .ref (He.ga K "Part")) (by rfl) gPart rfl) pa_nil))))) (pss_one (ps_ret pe_bl)) pss_nil)
      (pss_one (ps_ret (pe_and (pe_cmpR op_eq (pe_nameOf (pe_clsOf (pv 0))) (pe_nameOf (pe_clsOf (pv 1))) (nomark _))
        (pe_one (pe_cmpR (op_eqD hr.units) (pe_fld (pv 0) (by rfl)) (pe_fld (pv 1) (by rfl)) (nomark _))))))), ?_⟩
    obtain ⟨C, dx, fs, tv, I⟩ := hx.is T
    have o1 := T.PT.one cn I.mem
    cases ho with
    | flat ty hn =>
      rename_i n
      exact ⟨_, rfl, _, .ref (He.ga K "Part"), .type n, .ref (He.ga K "Part"), false, rfl, .own _, ty, T.PT.flat n hn, _, rfl, iteT q⟩
    | @part z cn' d' hz =>
      obtain ⟨C', dx', fs', tv', I'⟩ := hz.is T
      have o2 := T.PT.one cn' I'.mem
      have kp : PySem.W.kitOne K (.ref C') (.ref (He.ga K "Part")) = some true := by rw [I'.cC]; exact o2.kp
      refine ⟨_, rfl, _, .ref (He.ga K "Part"), .ref C', .ref (He.ga K "Part"), true, rfl, .own _, I'.ty T, kp, _, rfl, iteF ?_⟩
      refine ⟨_, rfl, x, C, dx, fs, rfl, I.at_, I.clsC T, C, cn, rfl, by rw [I.cC]; exact o1.nm, by rw [I.cC]; exact o1.gn, by rw [I.cC]; exact o1.rd, reads_type (by rw [I.cC]; exact o1.rd), ?_⟩
      refine ⟨_, rfl, z, C', dx', fs', rfl, I'.at_, I'.clsC T, C', cn', rfl, by rw [I'.cC]; exact o2.nm, by rw [I'.cC]; exact o2.gn, by rw [I'.cC]; exact o2.rd, reads_type (by rw [I'.cC]; exact o2.rd), ?_⟩
      refine ⟨rfl, _, rfl, ?_⟩
      refine ite2 (fun h1 => ?_) (fun h1 => ?_)
      · have e : cn = cn' := by have := of_decide_eq_true h1; injection this
        rw [if_pos e, decide_eq_true e, Bool.true_and] at q
        exact ⟨_, rfl, x, C, dx, fs, tv, rfl, I.at_, I.cl, I.nt, I.tr, _, rfl, z, C', dx', fs', tv', rfl, I'.at_, I'.cl, I'.nt, I'.tr, d, d', I.dp, I'.dp, I.sh, I'.sh, q⟩
      · have e : ¬ cn = cn' := fun z => h1 (by rw [z]; exact decide_eq_true rfl)
        rw [if_neg e, decide_eq_false e, Bool.false_and] at q
        exact q
end
end H1
set_option Elab.async false
set_option linter.all false
set_option maxRecDepth 100000
set_option maxHeartbeats 4000000
namespace Ev
open PySem PySem.Spec PyProof.Rows L2
/-- the pen at p, its cells at c -/
def PenC (H : Hp) (p c : Addr) (n : Nat) : Prop := ∃ (cells : List V) (t l : Int), H p = some (.lst [.ref c, .int t, .int l]) ∧ H c = some (.lst cells) ∧ Ints cells ∧ cells.length ≤ 63 ∧ c ≠ p ∧ 0 ≤ t ∧ t ≤ n
theorem PenC.at_ {H : Hp} {p c : Addr} {n : Nat} (h : PenC H p c n) : PenAt H p n := ⟨c, h⟩
def spDrawC : Sp := fun vs H Q _ => ∃ (p c : Addr) (m : Int) (n : Nat), vs = [.ref p, .int m] ∧ 0 < m ∧ m < 1073741824 ∧ PenC H p c n ∧ n ≤ 1000 ∧
  ∀ (z : Int) (H' : Hp), 0 ≤ z → z < m → PenC H' p c (n + 1) → But p H H' → Q (.int z) H'
theorem fn_imp {P : Program} {w : World} {K : PySem.W.Frag} {mg : Str → Option Value} {base : Heap} {CX : CXT} {k : Nat} {f : Addr} {fd : FuncData} {ps : List Str} {sp sp' : Sp} (F : FnOk P w K mg base CX k f fd ps sp)
    (h : ∀ vs H Q E, sp' vs H Q E → sp vs H Q E) : FnOk P w K mg base CX k f fd ps sp' :=
  { len := fun vs H Q E q => F.len vs H Q E (h _ _ _ _ q), run := fun A outer s H args us vs Q E hr e0 hb r q => F.run A outer s H args us vs Q E hr e0 hb r (h _ _ _ _ q) }
def Small (d : PyData) : Prop := d.showable = true ∧ d.shown.length ≤ 1000 ∧ d.depth ≤ 8
def ItemOk (K : PySem.W.Frag) (H : Hp) (p : Addr) (x : V) : Prop := ∃ d, Dr K (del H p) x d ∧ Small d
theorem ItemOk.but {K : PySem.W.Frag} {H H' : Hp} {p : Addr} {x : V} (k : But p H H') : ItemOk K H p x → ItemOk K H' p x
  | ⟨d, h, s⟩ => ⟨d, h.same k.del, s⟩
theorem small_int {z : Int} (h0 : 0 ≤ z) (h1 : z < 10 ^ 6) : Small (.int z) := by
  refine ⟨?_, ?_, ?_⟩
  · show decide (z.natAbs.log2 < 1920) = true
    refine decide_eq_true ?_
    have h2 : z.natAbs < 2 ^ 20 := by omega
    by_cases n0 : z.natAbs = 0
    · rw [n0]; decide
    · exact Nat.lt_trans ((Nat.log2_lt n0).mpr h2) (by decide)
  · show (Str.ofString (toString z)).length ≤ 1000
    exact Nat.le_trans (toString_length_le h0 (by decide) h1) (by decide)
  · simp [PyData.depth]
/-- a new object beside the pen -/
theorem new_at {H H' : Hp} {p x : Addr} {o o' : HO} (hp : H p = some o') (hx : H x = none) (e : upd H x o = H') : Same H H' ∧ (del H' p) x = some o ∧ H' x = some o ∧ H' p = some o' ∧ x ≠ p := by
  have n : x ≠ p := Ne.symm (ne_of_none hp hx)
  subst e
  refine ⟨fun b q z => ?_, ?_, upd_same, ?_, n⟩
  · rw [upd_ne (ne_of_none z hx)]; exact z
  · rw [del_ne n]; exact upd_same
  · rw [upd_ne (Ne.symm n)]; exact hp
theorem PenAt.ex {H : Hp} {p : Addr} {n : Nat} : PenAt H p n → ∃ o, H p = some o
  | ⟨_, _, _, _, h, _⟩ => ⟨_, h⟩
/-- a drawn value of any kind -/
def spVal (K : PySem.W.Frag) : Sp := fun vs H Q _ => ∃ (p : Addr) (n : Nat), vs = [.ref p] ∧ PenAt H p n ∧ n + 2 ≤ 1000 ∧
  ∀ (v : V) (H' : Hp), ItemOk K H' p v → PenAt H' p (n + 2) → But p H H' → Q v H'
end Ev
namespace H1
open PySem PySem.Spec PyProof.Rows L2 Ev
section
variable {P : Program} {w : World} {K : PySem.W.Frag} {mg : Str → Option Value} {base : Heap} {f fD fP : Addr} {fd fdD fdP : FuncData}
theorem sc32 : FnScope ["_law_script"] ["_law_script"] (defScope (top 32)) := ⟨rfl, rfl, rfl, by decide +kernel, rfl, by decide +kernel, by decide +kernel⟩
theorem ok_pen (F : FnL K "_law_pen" 32 f fd) (tList : mg "list" = none) : FnOk P w K mg base CX0 1 f fd ["_law_script"] (spPen K) := by
  refine F.ok sc32 (fun vs H Q E h => ?_) (fun cdv A outer s H vs Q E hr h => ?_)
  · obtain ⟨a, ns, rfl, _⟩ := h
    rfl
  · obtain ⟨a, ns, rfl, hS, hl, q⟩ := h
    refine ⟨_, PSs.nox (pss_one (ps_ret (pe_lst (pa_cons (pe_callTy call_list_of (by rfl) tList (by decide +kernel) (pa_cons (pe_slice sl_list (pv 0) po_none (po_some pe_int)) pa_nil))
      (pa_cons pe_int (pa_cons pe_int pa_nil)))))), ?_⟩
    refine ⟨_, rfl, 63, rfl, a, _, rfl, hS, fun r hr1 => ?_⟩
    refine ⟨r, _, rfl, .inl (SqL.of upd_same), fun c hc => ?_⟩
    refine ⟨(by show 3 ≤ sizeLine; decide), fun p hp => ?_⟩
    have cr : c ≠ r := fun z => by rw [z, upd_same] at hc; cases hc
    have pc : p ≠ c := fun z => by rw [z, upd_same] at hp; cases hp
    have hp2 := hp
    rw [upd_ne pc] at hp
    have pr : p ≠ r := fun z => by rw [z, upd_same] at hp; cases hp
    rw [upd_ne pr] at hp
    have hc2 := hc
    rw [upd_ne cr] at hc2
    refine q p _ (fun b o e => ?_) ⟨c, cutV (ns.map V.int) none (some 63), 0, 0, upd_same, ?_, ints_cut (ints_map ns) _ _, ?_, Ne.symm pc, by omega, by omega⟩ hp
    · rw [upd_ne (ne_of_none e hp), upd_ne (ne_of_none e hc2), upd_ne (ne_of_none e hr1)]
      exact e
    · rw [upd_ne (Ne.symm pc), upd_same]
    · exact Nat.le_trans (cutV_length _ _ _) (by rw [List.length_map]; exact hl)
theorem sc33 : FnScope ["_law_pen_here", "_law_many", "_law_digit", "_law_at", "_law_cell", "_law_great", "_law_mixed"] ["_law_pen_here", "_law_many"] (defScope (top 33)) :=
  ⟨rfl, rfl, rfl, by decide +kernel, rfl, by decide +kernel, by decide +kernel⟩
theorem ok_drawC (F : FnL K "_law_draw" 33 f fd) (tInt : mg "int" = none) (tLen : mg "len" = none) (tAbs : mg "abs" = none) : FnOk P w K mg base CX0 1 f fd ["_law_pen_here", "_law_many"] spDrawC := by
  refine F.ok sc33 (fun vs H Q E h => ?_) (fun cdv A outer s H vs Q E hr h => ?_)
  · obtain ⟨p, c, m, n, rfl, _⟩ := h
    rfl
  · obtain ⟨p, c, m, n, rfl, m0, m1, ⟨cells, t, l, hp, hc, hi, hl, cp, t0, t1⟩, hn, q⟩ := h
    refine ⟨_, PSs.nox (pss_cons (ps_if (pt_cmpR op_gt (pe_ix ix_list (pv 0) pe_int (fun _ _ => rfl)) pe_int (nomark _))
        (pss_cons (ps_set (i := 2) sc33.nd rfl (Or.inl rfl) (pe_op op_mod (pe_callTy call_int1 (by rfl) tInt (by decide +kernel) (pa_cons (pe_ix ix_list (pv 0) pe_int (fun _ _ => rfl)) pa_nil)) (pv 1)))
        (pss_cons (ps_asg (pe_op op_fdivN (pe_callTy call_int1 (by rfl) tInt (by decide +kernel) (pa_cons (pe_ix ix_list (pv 0) pe_int (fun _ _ => rfl)) pa_nil)) (pv 1)) (pg_sub (pv 0) pe_int set_list))
        (pss_one (ps_ret (pv 2))))) pss_nil)
      (pss_cons (ps_set (i := 3) sc33.nd rfl (Or.inl rfl) (pe_ix ix_list (pv 0) pe_int (fun _ _ => rfl)))
      (pss_cons (ps_asg (pe_op op_add (pv 3) pe_int) (pg_sub (pv 0) pe_int set_list))
      (pss_cons (ps_set (i := 4) sc33.nd rfl (Or.inl rfl) (pe_op op_add (pe_op op_mul pe_int (pv 3)) pe_int))
      (pss_cons (ps_if (pt_cmpR (op_neD hr.units) (pe_ix ix_list (pv 0) pe_int (fun _ _ => rfl)) (pe_lst pa_nil) (nomark _))
        (pss_one (ps_set (i := 4) sc33.nd rfl (Or.inl rfl) (pe_ix ix_list (pe_ix ix_list (pv 0) pe_int (fun _ _ => rfl))
          (pe_op op_mod (pe_callTy call_int1 (by rfl) tInt (by decide +kernel) (pa_cons (pv 3) pa_nil)) (pe_callB call_len_seq (by rfl) tLen PySem.boot_len (pa_cons (pe_ix ix_list (pv 0) pe_int (fun _ _ => rfl)) pa_nil))) (fun _ _ => rfl)))) pss_nil)
      (pss_cons (ps_if (PW.pt (pw_and (pt_cmpR op_lt (pv 3) (pe_callB call_len_seq (by rfl) tLen PySem.boot_len (pa_cons (pe_ix ix_list (pv 0) pe_int (fun _ _ => rfl)) pa_nil)) (nomark _))
          (pw_and1 (pt_cmpR op_ge (pe_callB call_abs (by rfl) tAbs (by decide +kernel) (pa_cons (pv 4) pa_nil)) (pe_op op_pow pe_int pe_int) (nomark _)))))
        (pss_cons (ps_set (i := 5) sc33.nd rfl (Or.inl rfl) (pe_op op_add (pe_op op_mul pe_int (pe_op op_sub (pe_callB call_abs (by rfl) tAbs (by decide +kernel) (pa_cons (pv 4) pa_nil)) (pe_op op_pow pe_int pe_int)))
          (pe_callTy call_int1 (by rfl) tInt (by decide +kernel) (pa_cons (pe_cmpR op_lt (pv 4) pe_int (nomark _)) pa_nil))))
        (pss_cons (ps_asg (pe_op op_fdivN (pe_callTy call_int1 (by rfl) tInt (by decide +kernel) (pa_cons (pv 5) pa_nil)) (pv 1)) (pg_sub (pv 0) pe_int set_list))
        (pss_one (ps_ret (pe_op op_mod (pe_callTy call_int1 (by rfl) tInt (by decide +kernel) (pa_cons (pv 5) pa_nil)) (pv 1)))))) pss_nil)
      (pss_cons (ps_set (i := 6) sc33.nd rfl (Or.inl rfl) (pe_op op_mod (pe_callTy call_int1 (by rfl) tInt (by decide +kernel) (pa_cons
        (pe_op op_pow (pe_op op_add (pe_op op_add (pe_op op_mod (pe_callTy call_int1 (by rfl) tInt (by decide +kernel) (pa_cons (pv 4) pa_nil)) pe_int) (pe_op op_mul pe_int (pv 3))) pe_int) pe_int) pa_nil)) pe_int))
      (pss_cons (ps_set (i := 6) sc33.nd rfl (Or.inl rfl) (pe_op op_mod (pe_callTy call_int1 (by rfl) tInt (by decide +kernel) (pa_cons
        (pe_op op_pow (pe_op op_add (pe_op op_add (pe_op op_mul (pv 6) (pe_op op_add (pe_op op_mul pe_int (pv 3)) pe_int)) (pe_op op_mul (pe_op op_mul pe_int (pv 3)) (pv 3))) pe_int) pe_int) pa_nil)) pe_int))
      (pss_one (ps_ret (pe_op op_mod (pe_callTy call_int1 (by rfl) tInt (by decide +kernel) (pa_cons (pe_op op_fdiv (pv 6) pe_int) pa_nil)) (pv 1)))))))))))), ?_⟩
    have m2 : m ≠ 0 := by omega
    have m3 : m ≠ 0 ∧ m.natAbs < 1073741824 := ⟨m2, by omega⟩
    have i0 : ∀ {x y z : V}, atI [x, y, z] 0 = some x := fun {x y z} => atI_nat (j := 0) rfl
    have i1 : ∀ {x y z : V}, atI [x, y, z] 1 = some y := fun {x y z} => atI_nat (j := 1) rfl
    have i2 : ∀ {x y z : V}, atI [x, y, z] 2 = some z := fun {x y z} => atI_nat (j := 2) rfl
    -- if pen[2] > 0
    refine ⟨_, rfl, p, _, 2, _, rfl, rfl, SqL.of hp, i2, _, _, rfl, rfl, _, rfl, ?_⟩
    refine ite2 (fun _ => ?_) (fun _ => ?_)
    · refine ⟨_, rfl, p, _, 2, _, rfl, rfl, SqL.of hp, i2, .inl ⟨_, rfl, _, rfl, _, _, rfl, rfl, m0, ?_⟩⟩
      refine ⟨_, rfl, p, _, 2, _, rfl, rfl, SqL.of hp, i2, .inl ⟨_, rfl, _, rfl, _, _, rfl, rfl, m3, ?_⟩⟩
      refine ⟨_, rfl, p, _, 2, 2, rfl, rfl, hp, rfl, ?_⟩
      refine ⟨_, rfl, ?_⟩
      refine q _ _ (fmod_in m0).1 (fmod_in m0).2 ⟨cells, t, _, upd_same, ?_, hi, hl, cp, t0, by omega⟩ fun b o nb e => ?_
      · rw [upd_ne cp]; exact hc
      · rw [upd_ne nb]; exact e
    · -- taken = pen[1]; pen[1] = taken + 1
      refine ⟨_, rfl, p, _, 1, _, rfl, rfl, SqL.of hp, i1, ?_⟩
      refine ⟨_, rfl, _, _, rfl, rfl, _, rfl, p, _, 1, 1, rfl, rfl, hp, rfl, ?_⟩
      generalize hH : upd H p (HO.lst ([V.ref c, V.int t, V.int l].set 1 (V.int (t + 1)))) = H1
      have hp1 : H1 p = some (.lst [.ref c, .int (t + 1), .int l]) := by rw [← hH]; exact upd_same
      have hc1 : H1 c = some (.lst cells) := by rw [← hH, upd_ne cp]; exact hc
      have k1 : But p H H1 := fun b o nb e => by rw [← hH, upd_ne nb]; exact e
      -- cell = .. * taken + ..
      refine ⟨_, rfl, _, _, rfl, rfl, .inl ⟨by decide, by decide⟩, _, _, rfl, rfl, ?_⟩
      -- if pen[0] != []
      obtain ⟨ds, dd, ds2⟩ := ints_dp (K := K) (H := H1) hi
      refine ⟨_, rfl, p, _, 0, _, rfl, rfl, SqL.of hp1, i0, (by show 0 ≤ sizeLine; decide), fun r hr1 => ?_⟩
      generalize hH2 : upd H1 r (HO.lst []) = H2
      have S2 : Same H1 H2 := fun b o e => by rw [← hH2, upd_ne (ne_of_none e hr1)]; exact e
      have hr2 : H2 r = some (.lst []) := by rw [← hH2]; exact upd_same
      have hp2 := S2 _ _ hp1
      have hc2 := S2 _ _ hc1
      have k2 : But p H H2 := k1.tr (But.of S2)
      have w2 : ∀ z, PenC (upd H2 p (.lst [.ref c, .int (t + 1), .int z])) p c (n + 1) := fun z => ⟨cells, _, z, upd_same, by rw [upd_ne cp]; exact hc2, hi, hl, cp, by omega, by omega⟩
      have w3 : PenC H2 p c (n + 1) := ⟨cells, _, l, hp2, hc2, hi, hl, cp, by omega, by omega⟩
      obtain ⟨ds', dd', ds3⟩ := ints_dp (K := K) (H := H2) hi
      refine ⟨.list ds', .list [], .lst (SqL.of hc2) dd', .lst (SqL.of hr2) .nil, ds3, rfl, _, rfl, ?_⟩
      have full : cells = [] → (!PyData.eqv (.list ds') (.list [])) = false := fun e => by
        subst e
        cases dd'
        rfl
      have t9 : t ≤ 1000 := by omega
      refine ite2 (fun hne => ?z1) (fun _ => ?z2)
      case' z1 =>
        have n0 : 0 < (cells.length : Int) := by
          cases cells with
          | nil =>
            rw [full rfl] at hne
            cases hne
          | cons _ _ => simp
        obtain ⟨x, hx, hm⟩ := atI_in (xs := cells) (i := t % (cells.length : Int)) (fmod_in n0).1 (fmod_in n0).2
        obtain ⟨cell, rfl⟩ := hi x hm
        refine ⟨_, rfl, p, _, 0, _, rfl, rfl, SqL.of hp2, i0, _, rfl, .inl ⟨_, rfl, _, rfl, p, _, 0, _, rfl, rfl, SqL.of hp2, i0, c, _, rfl, .inl (SqL.of hc2), _, _, rfl, rfl, n0, c, _, _, _, rfl, rfl, SqL.of hc2, hx, ?_⟩⟩
      all_goals
        refine ⟨_, rfl, _, rfl, p, _, 0, _, rfl, rfl, SqL.of hp2, i0, c, _, rfl, .inl (SqL.of hc2), _, _, rfl, rfl, _, rfl, ?_⟩
        refine ite2 (fun _ => ?x1) (fun _ => ?x2)
        case x1 =>
          refine ⟨_, rfl, _, rfl, _, _, rfl, rfl, ⟨by decide, by decide, by decide⟩, _, _, rfl, rfl, _, rfl, ?_⟩
          refine ite2 (fun _ => ?y1) (fun _ => ?y2)
          case y1 =>
            refine ⟨_, rfl, _, rfl, _, _, rfl, rfl, ⟨by decide, by decide, by decide⟩, _, _, rfl, rfl, _, _, rfl, rfl, .inl ⟨by decide, by decide⟩, _, rfl, _, _, rfl, rfl, .inr ⟨_, rfl, _, _, rfl, rfl, ?_⟩⟩
            refine ⟨_, rfl, .inl ⟨_, rfl, _, rfl, _, _, rfl, rfl, m3, _, rfl, p, _, 2, 2, rfl, rfl, hp2, rfl, ?_⟩⟩
            refine ⟨_, rfl, .inl ⟨_, rfl, _, rfl, _, _, rfl, rfl, m0, ?_⟩⟩
            exact q _ _ (fmod_in m0).1 (fmod_in m0).2 (w2 _) (k2.tr fun b o nb e => by rw [upd_ne nb]; exact e)
          case y2 =>
            refine ⟨_, rfl, .inl ⟨_, rfl, _, _, rfl, rfl, (by show (0 : Int) < 2147483563; decide), _, rfl, _, _, rfl, rfl, .inl ⟨by decide, by decide⟩, _, _, rfl, rfl, _, _, rfl, rfl, _, _, rfl, rfl, ⟨by decide, by decide, small5 (fmod_in (by decide)).1 (Int.lt_of_lt_of_le (fmod_in (by decide)).2 (by decide)) t0 t9 (by decide) (by decide) (by decide) (by decide)⟩,
              .inl ⟨_, rfl, _, _, rfl, rfl, (by show (0 : Int) < 2147483629; decide), ?_⟩⟩⟩
            refine ⟨_, rfl, _, rfl, _, _, rfl, rfl, .inl ⟨by decide, by decide⟩, _, _, rfl, rfl, _, _, rfl, rfl, .inl ⟨Int.lt_of_lt_of_le (by decide) (fmod_in (by decide)).1, Int.lt_trans (fmod_in (by decide)).2 (by decide)⟩,
              _, rfl, _, _, rfl, rfl, .inl ⟨by decide, by decide⟩, _, rfl, _, _, rfl, rfl, .inl (in64 (by decide) (by decide) t0 t9), _, _, rfl, rfl, _, _, rfl, rfl, _, _, rfl, rfl,
              ⟨by decide, by decide, small3 (fmod_in (by decide)).1 (Int.lt_of_lt_of_le (fmod_in (by decide)).2 (by decide)) t0 t9 (by decide) (by decide) (by decide) (by decide) (by decide) (by decide)⟩,
              .inl ⟨_, rfl, _, _, rfl, rfl, (by show (0 : Int) < 2147483587; decide), ?_⟩⟩
            refine ⟨_, rfl, _, _, rfl, rfl, ⟨by decide, by decide⟩, .inl ⟨_, rfl, _, rfl, _, _, rfl, rfl, m0, ?_⟩⟩
            exact q _ _ (fmod_in m0).1 (fmod_in m0).2 w3 k2
        case x2 =>
          refine ⟨_, rfl, .inl ⟨_, rfl, _, _, rfl, rfl, (by show (0 : Int) < 2147483563; decide), _, rfl, _, _, rfl, rfl, .inl ⟨by decide, by decide⟩, _, _, rfl, rfl, _, _, rfl, rfl, _, _, rfl, rfl, ⟨by decide, by decide, small5 (fmod_in (by decide)).1 (Int.lt_of_lt_of_le (fmod_in (by decide)).2 (by decide)) t0 t9 (by decide) (by decide) (by decide) (by decide)⟩,
            .inl ⟨_, rfl, _, _, rfl, rfl, (by show (0 : Int) < 2147483629; decide), ?_⟩⟩⟩
          refine ⟨_, rfl, _, rfl, _, _, rfl, rfl, .inl ⟨by decide, by decide⟩, _, _, rfl, rfl, _, _, rfl, rfl, .inl ⟨Int.lt_of_lt_of_le (by decide) (fmod_in (by decide)).1, Int.lt_trans (fmod_in (by decide)).2 (by decide)⟩,
            _, rfl, _, _, rfl, rfl, .inl ⟨by decide, by decide⟩, _, rfl, _, _, rfl, rfl, .inl (in64 (by decide) (by decide) t0 t9), _, _, rfl, rfl, _, _, rfl, rfl, _, _, rfl, rfl,
            ⟨by decide, by decide, small3 (fmod_in (by decide)).1 (Int.lt_of_lt_of_le (fmod_in (by decide)).2 (by decide)) t0 t9 (by decide) (by decide) (by decide) (by decide) (by decide) (by decide)⟩,
            .inl ⟨_, rfl, _, _, rfl, rfl, (by show (0 : Int) < 2147483587; decide), ?_⟩⟩
          refine ⟨_, rfl, _, _, rfl, rfl, ⟨by decide, by decide⟩, .inl ⟨_, rfl, _, rfl, _, _, rfl, rfl, m0, ?_⟩⟩
          exact q _ _ (fmod_in m0).1 (fmod_in m0).2 w3 k2
theorem ok_draw (F : FnL K "_law_draw" 33 f fd) (tInt : mg "int" = none) (tLen : mg "len" = none) (tAbs : mg "abs" = none) : FnOk P w K mg base CX0 1 f fd ["_law_pen_here", "_law_many"] spDraw :=
  fn_imp (ok_drawC F tInt tLen tAbs) fun vs H Q E ⟨p, m, n, e, m0, m1, ⟨c, pen⟩, hn, q⟩ => ⟨p, c, m, n, e, m0, m1, pen, hn, fun z H' z0 z1 pn k => q z H' z0 z1 pn.at_ k⟩
theorem sc34 : FnScope ["_law_pen_here", "_law_some"] ["_law_pen_here", "_law_some"] (defScope (top 34)) := ⟨rfl, rfl, rfl, by decide +kernel, rfl, by decide +kernel, by decide +kernel⟩
theorem b33 (FD : FnL K "_law_draw" 33 fD fdD) : Binds K fdD ["_law_pen_here", "_law_many"] [] := FunD.bindsN FD fun _ _ _ _ _ _ us hl => match us, hl with | [_, _], _ => rfl
theorem b34 (FP : FnL K "_law_pick" 34 fP fdP) : Binds K fdP ["_law_pen_here", "_law_some"] [] := FunD.bindsN FP fun _ _ _ _ _ _ us hl => match us, hl with | [_, _], _ => rfl
theorem ok_pick (F : FnL K "_law_pick" 34 f fd) (tLen : mg "len" = none) (gD : mg "_law_draw" = some (.ref fD)) (FD : FnL K "_law_draw" 33 fD fdD)
    (GD : FnOk P w K mg base CX0 1 fD fdD ["_law_pen_here", "_law_many"] spDraw) : FnOk P w K mg base CX0 2 f fd ["_law_pen_here", "_law_some"] (spPick K) := by
  refine F.ok sc34 (fun vs H Q E h => ?_) (fun cdv A outer s H vs Q E hr h => ?_)
  · obtain ⟨p, l, xs, n, rfl, _⟩ := h
    rfl
  · obtain ⟨p, l, xs, n, rfl, hl, lp, x0, x1, pen, hn, q⟩ := h
    refine ⟨_, PSs.nox (pss_one (ps_ret (pe_ix ix_list (pv 1) (pe_call (E := E0) GD hr (by rfl) gD FD.kp (b33 FD) .nil pass0 (pa_cons (pv 0) (pa_cons
      (pe_callB call_len_seq (by rfl) tLen PySem.boot_len (pa_cons (pv 1) pa_nil)) pa_nil))) (fun _ _ => rfl)))), ?_⟩
    refine ⟨_, rfl, _, rfl, _, rfl, l, _, rfl, .inl (SqL.of hl), p, _, n, rfl, by omega, by omega, pen, hn, fun z H' z0 z1 pen' k => ?_⟩
    obtain ⟨x, hx, hm⟩ := atI_in (xs := xs) z0 z1
    exact ⟨l, xs, z, x, rfl, rfl, SqL.of (k l _ lp hl), hx, q x H' hm pen' k⟩
end
end H1
set_option Elab.async false
set_option linter.all false
set_option maxRecDepth 100000
set_option maxHeartbeats 4000000
namespace Ev
open PySem PySem.Spec PyProof.Rows L2
/-! ### str(x), x data -/
def strD : PyData → Str
  | .str x => x
  | d => d.shown
def rStrD (K : PySem.W.Frag) : List V → Hp → VK → Prop := fun xs H Q => ∃ (v : V) (d : PyData), xs = [v] ∧ Dr K H v d ∧ d.showable = true ∧ d.shown.length ≤ sizeLine ∧ d.depth ≤ 20 ∧ Q (.str (strD d)) H
theorem call_strD {X : Cx} (hg : X.A.guards = some []) (hu : X.A.units + 64 < cLine) (hs : SysK X.K) : CallR X (.type "str") (rStrD X.K) := by
  intro pins s σ H xs us Q I r h
  obtain ⟨v, d, rfl, hd, hsh, hz, hdp, q⟩ := h
  obtain ⟨u, rfl, r1⟩ := r.one
  cases hd with
  | non =>
    cases r1
    exact PySem.P.str_of_none ⟨.str _, H, I.tok _, ⟨_, rfl⟩, q⟩
  | bl b =>
    cases r1
    refine PySem.P.str_of_bool ⟨.str _, H, I.tok _, ⟨_, rfl⟩, ?_⟩
    simpa only [strD, PyData.shown] using q
  | int i =>
    obtain ⟨t, rfl⟩ := r1
    refine PySem.P.str_of_int (by simpa [PyData.showable] using hsh) ⟨.str _, H, I.tok _, ⟨_, rfl⟩, ?_⟩
    simpa only [strD, PyData.shown] using q
  | str x =>
    obtain ⟨t, rfl⟩ := r1
    exact PySem.P.str_of_str ⟨.str _, H, I, ⟨_, rfl⟩, q⟩
  | lst h1 h2 =>
    cases r1
    obtain ⟨as, rd, hn⟩ := Dr.reads I hs (.lst h1 h2) rfl
    exact str_of_reads rd hsh (fun _ => hn) hg (by omega) (fun _ _ e => e) (fun h' u tk hk => ⟨.str _, H, I.kept (t' := tk) hk, ⟨u, rfl⟩, q⟩) hz
  | tup h1 h2 =>
    cases r1
    obtain ⟨as, rd, hn⟩ := Dr.reads I hs (.tup h1 h2) rfl
    exact str_of_reads rd hsh (fun _ => hn) hg (by omega) (fun _ _ e => e) (fun h' u tk hk => ⟨.str _, H, I.kept (t' := tk) hk, ⟨u, rfl⟩, q⟩) hz
  | dct h1 h2 =>
    cases r1
    obtain ⟨as, rd, hn⟩ := Dr.reads I hs (.dct h1 h2) rfl
    exact str_of_reads rd hsh (fun _ => hn) hg (by omega) (fun _ _ e => e) (fun h' u tk hk => ⟨.str _, H, I.kept (t' := tk) hk, ⟨u, rfl⟩, q⟩) hz
/-! ### short texts -/
def TxtOk (s : Str) : Prop := s.length ≤ 40 ∧ ∀ c ∈ s.cps.toList, c < 1114112
theorem TxtOk.small {s : Str} (h : TxtOk s) : Small (.str s) := by
  refine ⟨rfl, ?_, ?_⟩
  · show (reprText s).length ≤ 1000
    exact Nat.le_trans (PySem.StrLaws.reprText_len s fun c hc => Nat.lt_trans (h.2 c hc) (by decide)) (by have := h.1; omega)
  · simp [PyData.depth]
theorem TxtOk.app {a b : Str} (ha : TxtOk a) (hb : TxtOk b) (hl : a.length + b.length ≤ 40) : TxtOk (a ++ b) := by
  have e : (a ++ b).cps = a.cps ++ b.cps := rfl
  refine ⟨?_, fun c hc => ?_⟩
  · show (a ++ b).cps.size ≤ 40
    rw [e, Array.size_append]
    exact hl
  · rw [e, Array.toList_append] at hc
    exact (List.mem_append.mp hc).elim (ha.2 c) (hb.2 c)
theorem TxtOk.cut {a : Str} (ha : TxtOk a) (lo hi : Option Int) : TxtOk (cutS a lo hi) := by
  refine ⟨Nat.le_trans (cutS_length a lo hi) ha.1, fun c hc => ha.2 c ?_⟩
  have hc2 : c ∈ (a.cps.toList.drop (HT.sIx a.length 0 lo)).take (HT.sIx a.length a.length hi - HT.sIx a.length 0 lo) := by simpa [cutS] using hc
  exact List.mem_of_mem_drop (List.mem_of_mem_take hc2)
/-- made of letters alone -/
def Lets (s : Str) : Prop := ∀ c ∈ s.cps.toList, c ∈ letters.cps.toList
theorem lets_lt : ∀ c ∈ letters.cps.toList, c < 1114112 := by decide +kernel
theorem lets_up : ∀ c ∈ letters.cps.toList, ∀ d ∈ Unicode.upperOf c, d < 1114112 := by decide +kernel
theorem placed_mem {x : Str} {f : Nat → Nat → List Nat} {d : Nat} (h : d ∈ (placed x f).toList) : ∃ i c, c ∈ x.cps.toList ∧ d ∈ f i c := by
  unfold placed at h
  have h2 : d ∈ (x.cps.mapIdx fun i c => (f i c).toArray).flatten := Array.mem_toList_iff.mp h
  obtain ⟨ys, hy, hd⟩ := Array.mem_flatten.mp h2
  obtain ⟨i, hi, e⟩ := Array.mem_mapIdx.mp hy
  refine ⟨i, x.cps[i], Array.mem_toList_iff.mpr (Array.getElem_mem hi), ?_⟩
  rw [← e] at hd
  simpa using hd
theorem TxtOk.upper {s : Str} (h : Lets s) (hl : s.length ≤ 13) : TxtOk (Txt.upper s) := by
  refine ⟨Nat.le_trans (PyProof.Rows.len_upper s) (by omega), fun d hd => ?_⟩
  obtain ⟨i, c, hc, hd2⟩ := placed_mem hd
  exact lets_up c (h c hc) d hd2
theorem TxtOk.lets {s : Str} (h : Lets s) (hl : s.length ≤ 40) : TxtOk s := ⟨hl, fun c hc => lets_lt c (h c hc)⟩
theorem foldl_app (cs : List Str) : ∀ acc : Array Nat, ((cs.foldl (fun acc p => acc ++ ("" : Str).cps ++ p.cps) acc).toList = acc.toList ++ cs.flatMap fun p => p.cps.toList) := by
  induction cs with
  | nil => intro acc; simp
  | cons a cs ih =>
    intro acc
    have e0 : ("" : Str).cps = #[] := by decide +kernel
    rw [List.foldl_cons, ih, e0]
    simp
theorem join_toList (ys : List Str) : (Txt.join "" ys).cps.toList = ys.flatMap fun p => p.cps.toList := by
  show ((ys.drop 1).foldl (fun acc p => acc ++ ("" : Str).cps ++ p.cps) (ys.headD Str.empty).cps).toList = _
  rw [foldl_app]
  cases ys with
  | nil => rfl
  | cons a r => simp
/-- one sign each, letters -/
def Signs (ys : List Str) : Prop := ∀ y ∈ ys, ∃ c, y = ⟨#[c]⟩ ∧ c ∈ letters.cps.toList
theorem signs_len {ys : List Str} (h : Signs ys) : (ys.map (·.length)).sum = ys.length := by
  induction ys with
  | nil => rfl
  | cons a r ih =>
    obtain ⟨c, rfl, _⟩ := h a (by simp)
    have := ih fun y hy => h y (List.mem_cons_of_mem _ hy)
    simp only [List.map_cons, List.sum_cons, List.length_cons, this]
    show 1 + r.length = r.length + 1
    omega
theorem join_lets {ys : List Str} (h : Signs ys) : Lets (Txt.join "" ys) ∧ (Txt.join "" ys).length = ys.length := by
  refine ⟨fun c hc => ?_, ?_⟩
  · rw [join_toList] at hc
    obtain ⟨y, hy, hc2⟩ := List.mem_flatMap.mp hc
    obtain ⟨d, rfl, hd⟩ := h y hy
    have : c = d := by simpa using hc2
    rw [this]; exact hd
  · have e : (Txt.join "" ys).length = (Txt.join "" ys).cps.toList.length := by rw [Array.length_toList]; rfl
    rw [e, join_toList, List.length_flatMap]
    have e2 : (ys.map fun p => p.cps.toList.length) = ys.map (·.length) := by
      congr 1
    rw [e2]
    exact signs_len h
end Ev
set_option Elab.async false
set_option linter.all false
set_option maxRecDepth 100000
set_option maxHeartbeats 4000000
namespace Ev
open PySem PySem.Spec PyProof.Rows L2
def spPickS : Sp := fun vs H Q _ => ∃ (p a : Addr) (z : Str) (n : Nat), vs = [.ref p, .str z] ∧ 0 < z.length ∧ z.length ≤ 100000 ∧ PenC H p a n ∧ n ≤ 1000 ∧
  ∀ (c : Nat) (H' : Hp), c ∈ z.cps.toList → PenC H' p a (n + 1) → But p H H' → Q (.str ⟨#[c]⟩) H'
/-- a value that may be a name, beside the pen -/
def WordIt (K : PySem.W.Frag) (H : Hp) (p : Addr) (v : V) : Prop := ∃ d, Dr K (del H p) v d ∧ Small d ∧ Any K (del H p) v ∧ ∀ s, v = .str s → TxtOk s
theorem del_same {H H' : Hp} {p : Addr} (k : But p H H') : Same (del H p) (del H' p) := k.del
theorem WordIt.but {K : PySem.W.Frag} {H H' : Hp} {p : Addr} {v : V} (k : But p H H') : WordIt K H p v → WordIt K H' p v
  | ⟨d, h1, h2, h3, h4⟩ => ⟨d, h1.same k.del, h2, h3.same k.del, h4⟩
theorem TxtOk.line {s : Str} (h : TxtOk s) : s.length ≤ sizeLine := by rw [sizeLine_eq]; have := h.1; omega
theorem WordIt.str {K : PySem.W.Frag} {H : Hp} {p : Addr} {s : Str} (h : TxtOk s) : WordIt K H p (.str s) := ⟨.str s, .str s, h.small, .str s h.line, fun t e => by cases e; exact h⟩
theorem WordIt.non {K : PySem.W.Frag} {H : Hp} {p : Addr} : WordIt K H p .non := ⟨.none, .non, ⟨by decide, by decide, by decide⟩, .non, fun t e => by cases e⟩
theorem WordIt.bl {K : PySem.W.Frag} {H : Hp} {p : Addr} (b : Bool) : WordIt K H p (.bl b) := ⟨.bool b, .bl b, by cases b <;> exact ⟨by decide, by decide, by decide⟩, .bl b, fun t e => by cases e⟩
theorem WordIt.int {K : PySem.W.Frag} {H : Hp} {p : Addr} {i : Int} (h0 : 0 ≤ i) (h1 : i < 10 ^ 6) : WordIt K H p (.int i) := ⟨.int i, .int i, small_int h0 h1, .int i, fun t e => by cases e⟩
theorem small_tup1 {d : PyData} (h : d.showable = true) (h2 : d.shown.length ≤ 900) (h3 : d.depth ≤ 7) : Small (.tuple [d]) := by
  refine ⟨by simp [PyData.showable, PyData.showableAll, h], ?_, by simp [PyData.depth, PyData.depthAll]; omega⟩
  have e2 : (("(" : String) : Str).length = 1 := rfl
  have e3 : ((",)" : String) : Str).length = 2 := rfl
  show ((("(" : String) : Str) ++ d.shown ++ ((",)" : String) : Str)).length ≤ 1000
  rw [strLen_append, strLen_append, e2, e3]
  omega
theorem small_lst1 {d : PyData} (h : d.showable = true) (h2 : d.shown.length ≤ 900) (h3 : d.depth ≤ 7) : Small (.list [d]) := by
  refine ⟨by simp [PyData.showable, PyData.showableAll, h], ?_, by simp [PyData.depth, PyData.depthAll]; omega⟩
  have e2 : (("[" : String) : Str).length = 1 := rfl
  have e3 : (("]" : String) : Str).length = 1 := rfl
  have e1 : ((", " : String) : Str).length = 2 := rfl
  have e5 : (("" : String) : Str).length = 0 := rfl
  simp only [PyData.shown, PyData.shownAll, listText, textFrom, strLen_append, e1, e2, e3, e5]
  simp
  omega
end Ev
namespace H1
open PySem PySem.Spec PyProof.Rows L2 Ev
section
variable {P : Program} {w : World} {K : PySem.W.Frag} {mg : Str → Option Value} {base : Heap} {f fD fP : Addr} {fd fdD fdP : FuncData}
theorem ok_pickS (F : FnL K "_law_pick" 34 f fd) (tLen : mg "len" = none) (gD : mg "_law_draw" = some (.ref fD)) (FD : FnL K "_law_draw" 33 fD fdD)
    (GD : FnOk P w K mg base CX0 1 fD fdD ["_law_pen_here", "_law_many"] spDrawC) : FnOk P w K mg base CX0 2 f fd ["_law_pen_here", "_law_some"] spPickS := by
  refine F.ok sc34 (fun vs H Q E h => ?_) (fun cdv A outer s H vs Q E hr h => ?_)
  · obtain ⟨p, a, z, n, rfl, _⟩ := h
    rfl
  · obtain ⟨p, a, z, n, rfl, x0, x1, pen, hn, q⟩ := h
    refine ⟨_, PSs.nox (pss_one (ps_ret (pe_ix ix_str (pv 1) (pe_call (E := E0) GD hr (by rfl) gD FD.kp (b33 FD) .nil pass0 (pa_cons (pv 0) (pa_cons
      (pe_callB call_len_str (by rfl) tLen PySem.boot_len (pa_cons (pv 1) pa_nil)) pa_nil))) (fun _ _ => rfl)))), ?_⟩
    have zl : z.length ≤ sizeLine := by rw [sizeLine_eq]; omega
    refine ⟨_, rfl, _, rfl, _, rfl, z, rfl, zl, p, a, _, n, rfl, by omega, by omega, pen, hn, fun i H' z0 z1 pen' k => ?_⟩
    obtain ⟨x, hx, hm⟩ := atI_in (xs := z.cps.toList) z0 (by rw [Array.length_toList]; exact z1)
    exact ⟨z, i, x, rfl, rfl, zl, hx, q x H' hm pen' k⟩
abbrev NW : List Str := ["_law_pen_here", "_law_letters", "_law_word_here", "_law_barred", "_law_near", "_law_some", "_law_k"]
theorem sc35 : FnScope NW ["_law_pen_here"] (defScope (top 35)) := ⟨rfl, rfl, rfl, by decide +kernel, rfl, by decide +kernel, by decide +kernel⟩
def nears : List Str := ["byte", "size", "align", "place", "end", "packed", "and", "or", "not", "yes", "no", "for", "nogap", "notail", "leaf"]
theorem nears_ok : ∀ s ∈ nears, s.length ≤ 6 ∧ ∀ c ∈ s.cps.toList, c < 1114112 := by decide +kernel
def spWord (K : PySem.W.Frag) : Sp := fun vs H Q _ => ∃ (p : Addr) (n : Nat), vs = [.ref p] ∧ PenAt H p n ∧ n + 12 ≤ 1000 ∧
  ∀ (v : V) (H' : Hp) (m : Nat), m ≤ n + 12 → WordIt K H' p v → PenAt H' p m → But p H H' → Q v H'
theorem ok_word (F : FnL K "_law_word" 35 f fd) (tRng : mg "range" = none) (gD : mg "_law_draw" = some (.ref fD)) (FD : FnL K "_law_draw" 33 fD fdD)
    (GD : FnOk P w K mg base CX0 1 fD fdD ["_law_pen_here", "_law_many"] spDrawC) (gP : mg "_law_pick" = some (.ref fP)) (FP : FnL K "_law_pick" 34 fP fdP)
    (GP : FnOk P w K mg base CX0 2 fP fdP ["_law_pen_here", "_law_some"] (spPick K)) (GS : FnOk P w K mg base CX0 2 fP fdP ["_law_pen_here", "_law_some"] spPickS) :
    FnOk P w K mg base CX0 3 f fd ["_law_pen_here"] (spWord K) := by
  refine F.ok sc35 (fun vs H Q E h => ?_) (fun cdv A outer s H vs Q E hr h => ?_)
  · obtain ⟨p, n, rfl, _⟩ := h
    rfl
  · obtain ⟨p, n, rfl, pen, hn, q⟩ := h
    refine ⟨_, PSs.nox (pss_cons (ps_set (i := 1) sc35.nd rfl (Or.inr rfl) pe_str)
      (pss_cons (ps_set (i := 2) sc35.nd rfl (Or.inl rfl) (pe_join pe_str (pe_lc (own := [("_law_k", 6)]) (g := gName 6) (tt := tYes) rfl sc35.nd
          (pi_range1 rfl tRng (pa_cons (pe_op op_add pe_int (pe_call (E := E0) GD (hr.mono (by decide)) (by rfl) gD FD.kp (b33 FD) .nil pass0 (pa_cons (pv 0) (pa_cons pe_int pa_nil)))) pa_nil))
          (blkOk_by (N := NW) (sc := defScope (top 35)) (by decide +kernel)) (fun _ _ _ _ _ => pg_name (i := 6) sc35.nd rfl (Or.inl rfl)) (fun _ _ _ _ _ => pts_nil)
          (fun _ _ _ _ _ => pe_call (E := E0) GS hr (by rfl) gP FP.kp (b34 FP) .nil pass0 (pa_cons (pv 0) (pa_cons (pv 1) pa_nil))))))
      (pss_cons (ps_set (i := 3) sc35.nd rfl (Or.inl rfl) (pe_lst (pa_cons pe_str (pa_cons pe_str (pa_cons pe_str (pa_cons pe_str (pa_cons pe_str (pa_cons pe_str (pa_cons pe_str (pa_cons pe_str (pa_cons pe_str (pa_cons pe_str (pa_cons pe_str (pa_cons pe_str (pa_cons pe_str pa_nil)))))))))))))))
      (pss_cons (ps_set (i := 4) sc35.nd rfl (Or.inl rfl) (pe_call (E := E0) GP hr (by rfl) gP FP.kp (b34 FP) .nil pass0 (pa_cons (pv 0) (pa_cons (pe_op op_cat (pv 3) (pe_lst (pa_cons pe_str (pa_cons pe_str pa_nil)))) pa_nil))))
      (pss_cons (ps_set (i := 5) sc35.nd rfl (Or.inl rfl) (pe_lst (pa_cons (pv 2) (pa_cons (pv 2) (pa_cons (pv 2) (pa_cons (pe_slice sl_str (pv 2) po_none (po_some pe_int)) (pa_cons (pv 4) (pa_cons (pe_op op_add_str (pv 4) pe_str)
          (pa_cons (pe_slice sl_str (pv 4) (po_some pe_int) po_none) (pa_cons (pe_op op_add_str (pv 2) pe_str) (pa_cons (pe_upper (pv 2)) (pa_cons (pe_op op_add_str (pv 2) pe_str) (pa_cons (pe_op op_add_str pe_str (pv 2)) pa_nil)))))))))))))
      (pss_one (ps_ret (pe_call (E := E0) GP hr (by rfl) gP FP.kp (b34 FP) .nil pass0 (pa_cons (pv 0) (pa_cons (pe_op op_cat (pv 5) (pe_lst (pa_cons pe_str (pa_cons pe_str (pa_cons pe_non (pa_cons pe_bl (pa_cons pe_int
          (pa_cons (pe_tup (pa_cons (pv 2) pa_nil)) (pa_cons (pe_lst (pa_cons (pv 2) pa_nil)) (pa_cons pe_dnewK (pa_cons pe_str (pa_cons pe_str pa_nil)))))))))))) pa_nil)))))))))), ?_⟩
    -- range(1 + draw(pen, 9))
    obtain ⟨a, pen0⟩ := pen
    refine ⟨⟨_, rfl⟩, _, rfl, p, a, _, n, rfl, (by decide), (by decide), pen0, by omega, fun z H1 z0 z1 pen1 k1 => ?_⟩
    refine ⟨_, _, rfl, rfl, _, rfl, (by omega), (by omega), fun D hD => ?_⟩
    have pD : p ≠ D := by
      obtain ⟨_, _, _, e, _⟩ := pen1
      exact ne_of_none e hD
    have aD : a ≠ D := by
      obtain ⟨_, _, _, _, e, _⟩ := pen1
      exact ne_of_none e hD
    have penD : ∀ {H' : Hp} {m : Nat} {o : HO}, PenC H' p a m → PenC (upd H' D o) p a m := fun ⟨cells, t, l, a1, a2, r⟩ => ⟨cells, t, l, by rw [upd_ne pD]; exact a1, by rw [upd_ne aD]; exact a2, r⟩
    refine lc_range (lo := 0) (n := (1 + z).toNat) (fun j H' => But p H H' ∧ PenC H' p a (n + 1 + j) ∧ ∃ ys : List Str, H' D = some (.lst (ys.map V.str)) ∧ Signs ys ∧ ys.length = j) ?_ ?_ ?_
    · exact ⟨k1.tr (But.of fun b o e => by rw [upd_ne (ne_of_none e hD)]; exact e), penD pen1, [], upd_same, (fun y hy => absurd hy (by simp)), rfl⟩
    · rintro j H2 hj ⟨k2, pen2, ys, e2, sg, le⟩
      have hj9 : j < 9 := by omega
      refine ⟨rfl, ?_⟩
      dsimp only [tYes]
      rw [if_pos rfl]
      refine ⟨_, rfl, _, rfl, p, a, letters, _, rfl, (by decide +kernel), (by decide +kernel), pen2, by omega, fun c H3 hc pen3 k3 => ?_⟩
      refine ⟨_, k3 _ _ (Ne.symm pD) e2, by rw [List.length_map, sizeLine_eq]; omega, ?_⟩
      refine ⟨fun b o nb e => ?_, penD pen3, ys ++ [⟨#[c]⟩], by rw [upd_same, List.map_append]; rfl, fun y hy => ?_, by rw [List.length_append, le]; rfl⟩
      · have nD : b ≠ D := fun z' => by
          have e1 := k1 b o nb e
          rw [z', hD] at e1
          cases e1
        rw [upd_ne nD]
        exact k3 b o nb (k2 b o nb e)
      · rcases List.mem_append.mp hy with hy | hy
        · exact sg y hy
        · have : y = ⟨#[c]⟩ := by simpa using hy
          exact ⟨c, this, hc⟩
    · rintro H2 ⟨k2, pen2, ys, e2, sg, le⟩
      have lw : (1 + z).toNat ≤ 9 := by omega
      refine ⟨_, D, ys, rfl, rfl, .inl (SqL.of e2), by rw [signs_len sg]; have e0 : ("" : Str).length = 0 := rfl; rw [e0]; omega, ?_⟩
      obtain ⟨jl, jn⟩ := join_lets sg
      generalize Txt.join "" ys = wd at *
      have wn : wd.length ≤ 9 := by omega
      have wok : TxtOk wd := .lets jl (by omega)
      have wl := wok.line
      have pen3 : PenAt H2 p (n + 1 + (1 + z).toNat) := pen2.at_
      have kA : But p H H2 := k2
      clear k2 pen2 e2 sg
      -- barred, near
      refine ⟨(by show 13 ≤ sizeLine; decide), fun l1 hl1 => ?_⟩
      obtain ⟨o2, p2⟩ := pen3.ex
      generalize e3 : upd H2 l1 _ = H3 at *
      obtain ⟨s3, _, h3, p3, l1p⟩ := new_at p2 hl1 e3
      refine ⟨_, rfl, _, rfl, (by show 2 ≤ sizeLine; decide), fun l2 hl2 => ?_⟩
      generalize e4 : upd H3 l2 _ = H4 at *
      obtain ⟨s4, _, h4, p4, l2p⟩ := new_at p3 hl2 e4
      refine ⟨l1, l2, _, _, rfl, rfl, s4 _ _ h3, h4, (by show 13 + 2 ≤ sizeLine; decide), fun l3 hl3 => ?_⟩
      generalize e5 : upd H4 l3 _ = H5 at *
      obtain ⟨s5, _, h5, p5, l3p⟩ := new_at p4 hl3 e5
      have s25 : Same H2 H5 := fun b o e => s5 _ _ (s4 _ _ (s3 _ _ e))
      refine ⟨p, l3, _, _, rfl, h5, l3p, (by decide), (by decide), pen3.same s25, by omega, fun x H6 hx pen6 k6 => ?_⟩
      have kB : But p H H6 := kA.tr ((But.of s25).tr k6)
      obtain ⟨nr, rfl, hnr⟩ : ∃ nr : Str, x = .str nr ∧ nr ∈ nears := by
        have e : x ∈ nears.map V.str := hx
        obtain ⟨nr, h1, h2⟩ := List.mem_map.mp e
        exact ⟨nr, h2.symm, h1⟩
      obtain ⟨n6, nc⟩ := nears_ok nr hnr
      have nok : TxtOk nr := ⟨by omega, nc⟩
      have nl := nok.line
      have okc : ∀ t : Str, t.length ≤ 1 → (∀ c ∈ t.cps.toList, c < 1114112) → TxtOk t := fun t h1 h2 => ⟨by omega, h2⟩
      have oks : TxtOk "s" := okc _ (by decide +kernel) (by decide +kernel)
      have ok1 : TxtOk "1" := okc _ (by decide +kernel) (by decide +kernel)
      have okb : TxtOk " " := okc _ (by decide +kernel) (by decide +kernel)
      have oku : TxtOk "_" := okc _ (by decide +kernel) (by decide +kernel)
      have one : ∀ {t : Str}, t = "s" ∨ t = "1" ∨ t = " " ∨ t = "_" → t.length = 1 := fun {t} h => by rcases h with rfl | rfl | rfl | rfl <;> decide +kernel
      have f1 : TxtOk (nr ++ "s") := nok.app oks (by rw [one (.inl rfl)]; omega)
      have f2 : TxtOk (wd ++ "1") := wok.app ok1 (by rw [one (.inr (.inl rfl))]; omega)
      have f3 : TxtOk (wd ++ " ") := wok.app okb (by rw [one (.inr (.inr (.inl rfl)))]; omega)
      have f4 : TxtOk ("_" ++ wd) := oku.app wok (by rw [one (.inr (.inr (.inr rfl)))]; omega)
      have f5 : TxtOk (Txt.upper wd) := .upper jl (by omega)
      have g1 : nr.length + ("s" : Str).length ≤ sizeLine := by rw [one (.inl rfl), sizeLine_eq]; omega
      have g2 : wd.length + ("1" : Str).length ≤ sizeLine := by rw [one (.inr (.inl rfl)), sizeLine_eq]; omega
      have g3 : wd.length + (" " : Str).length ≤ sizeLine := by rw [one (.inr (.inr (.inl rfl))), sizeLine_eq]; omega
      have g4 : ("_" : Str).length + wd.length ≤ sizeLine := by rw [one (.inr (.inr (.inr rfl))), sizeLine_eq]; omega
      refine ⟨_, rfl, _, rfl, _, rfl, _, rfl, 8, rfl, wd, rfl, wl, _, rfl, _, rfl, _, _, rfl, rfl, g1, _, rfl, 1, rfl, nr, rfl, nl, _, rfl, _, _, rfl, rfl, g2, _, rfl, ⟨_, rfl⟩, wd, rfl, rfl, (by omega), _, rfl, _, _, rfl, rfl, g3, _, rfl, _, _, rfl, rfl, g4, ?_⟩
      refine ⟨(by show 11 ≤ sizeLine; decide), fun l4 hl4 => ?_⟩
      obtain ⟨o6, p6⟩ := pen6.ex
      generalize e7 : upd H6 l4 _ = H7 at *
      obtain ⟨s7, _, h7, p7, l4p⟩ := new_at p6 hl4 e7
      -- return pick(pen, some + [..])
      refine ⟨_, rfl, _, rfl, _, rfl, (by show 1 ≤ sizeLine; decide), fun t1 ht1 => ?_⟩
      generalize e8 : upd H7 t1 _ = H8 at *
      obtain ⟨s8, a8, _, p8, _⟩ := new_at p7 ht1 e8
      refine ⟨_, rfl, (by show 1 ≤ sizeLine; decide), fun l5 hl5 => ?_⟩
      generalize e9 : upd H8 l5 _ = H9 at *
      obtain ⟨s9, a9, _, p9, _⟩ := new_at p8 hl5 e9
      intro d1 hd1
      generalize e10 : upd H9 d1 _ = H10 at *
      obtain ⟨s10, a10, _, p10, _⟩ := new_at p9 hd1 e10
      refine ⟨(by show 10 ≤ sizeLine; decide), fun l6 hl6 => ?_⟩
      generalize e11 : upd H10 l6 _ = H11 at *
      obtain ⟨s11, _, h11, p11, _⟩ := new_at p10 hl6 e11
      have s7' : Same H7 H11 := fun b o e => s11 _ _ (s10 _ _ (s9 _ _ (s8 _ _ e)))
      refine ⟨l4, l6, _, _, rfl, rfl, s7' _ _ h7, h11, (by show 11 + 10 ≤ sizeLine; decide), fun l7 hl7 => ?_⟩
      generalize e12 : upd H11 l7 _ = H12 at *
      obtain ⟨s12, _, h12, p12, l7p⟩ := new_at p11 hl7 e12
      have s6' : Same H6 H12 := fun b o e => s12 _ _ (s7' _ _ (s7 _ _ e))
      refine ⟨p, l7, _, _, rfl, h12, l7p, (by show 0 < 21; decide), (by show 21 ≤ 100000; decide), pen6.same s6', by omega, fun x H13 hx pen13 k13 => ?_⟩
      refine q x H13 _ (by omega) ?_ pen13 (kB.tr ((But.of s6').tr k13))
      have d8 : del H13 p t1 = some (.tup [.str wd]) := k13.del _ _ (same_del s12 _ _ (same_del s11 _ _ (same_del s10 _ _ (same_del s9 _ _ a8))))
      have d9 : del H13 p l5 = some (.lst [.str wd]) := k13.del _ _ (same_del s12 _ _ (same_del s11 _ _ (same_del s10 _ _ a9)))
      have d10 : del H13 p d1 = some (.dK []) := k13.del _ _ (same_del s12 _ _ (same_del s11 _ _ a10))
      have sh : (PyData.str wd).shown.length ≤ 900 := Nat.le_trans (PySem.StrLaws.reprText_len wd fun c hc => Nat.lt_trans (wok.2 c hc) (by decide)) (by omega)
      have hx2 : x ∈ ([.str wd, .str wd, .str wd, .str (cutS wd none (some 8)), .str nr, .str (nr ++ "s"), .str (cutS nr (some 1) none), .str (wd ++ "1"), .str (Txt.upper wd), .str (wd ++ " "), .str ("_" ++ wd)] ++
          [.str "", .str " ", .non, .bl true, .int 7, .ref t1, .ref l5, .ref d1, .str "a.b", .str "leafs"] : List V) := hx
      simp only [List.cons_append, List.nil_append, List.mem_cons, List.not_mem_nil, or_false] at hx2
      rcases hx2 with rfl | rfl | rfl | rfl | rfl | rfl | rfl | rfl | rfl | rfl | rfl | rfl | rfl | rfl | rfl | rfl | rfl | rfl | rfl | rfl | rfl
      · exact .str wok
      · exact .str wok
      · exact .str wok
      · exact .str (wok.cut _ _)
      · exact .str nok
      · exact .str f1
      · exact .str (nok.cut _ _)
      · exact .str f2
      · exact .str f5
      · exact .str f3
      · exact .str f4
      · exact .str ⟨by decide +kernel, by decide +kernel⟩
      · exact .str okb
      · exact .non
      · exact .bl true
      · exact .int (by decide) (by decide)
      · exact ⟨_, .tup (SqT.of d8) (.cons (.str wd) .nil), small_tup1 rfl sh (by simp [PyData.depth]), .tup d8, fun t e => by cases e⟩
      · exact ⟨_, .lst (SqL.of d9) (.cons (.str wd) .nil), small_lst1 rfl sh (by simp [PyData.depth]), .lst d9, fun t e => by cases e⟩
      · exact ⟨_, .dct d10 .nil, ⟨by decide, by decide, by decide⟩, .dic d10, fun t e => by cases e⟩
      · exact .str ⟨by decide +kernel, by decide +kernel⟩
      · exact .str ⟨by decide +kernel, by decide +kernel⟩
end
end H1
set_option Elab.async false
set_option linter.all false
set_option maxRecDepth 100000
set_option maxHeartbeats 4000000
namespace Ev
open PySem PySem.Spec PyProof.Rows L2
theorem letters_iff (c : Nat) : c ∈ letters.cps.toList ↔ 97 ≤ c ∧ c ≤ 122 := by
  have e : letters.cps.toList = List.range' 97 26 := by decide +kernel
  rw [e, List.mem_range'_1]
  omega
theorem lt1 (a b : Nat) : ([a] < [b]) ↔ a < b := by
  simp [List.cons_lt_cons_iff]
def spNameL (K : PySem.W.Frag) : Sp := fun vs H Q _ => ∃ (v : V), vs = [v] ∧ Any K H v ∧ (∀ s, v = .str s → TxtOk s) ∧ ∀ H', Same H H' → Q (.bl (nameB v)) H'
theorem dp_signs {K : PySem.W.Frag} {H : Hp} : ∀ cs : List Nat, (∀ c ∈ cs, c < 1114112) → ∃ ds, DpAll K H (cs.map fun c => V.str ⟨#[c]⟩) ds ∧ SeqAt.shaped (.list ds) = true ∧ ds.isEmpty = cs.isEmpty
  | [], _ => ⟨[], .nil, rfl, rfl⟩
  | c :: cs, h => by
    obtain ⟨ds, a, b, _⟩ := dp_signs (K := K) (H := H) cs fun d hd => h d (List.mem_cons_of_mem _ hd)
    refine ⟨.str ⟨#[c]⟩ :: ds, .cons (.str _) a, ?_, rfl⟩
    have hc := h c (by simp)
    simp [SeqAt.shaped, PyData.canLay0, PyData.canLayAll0, PyData.depth, PyData.depthAll, PyData.strOk, hc] at b ⊢
    exact b
theorem eqv_nil (ds : List PyData) : PyData.eqv (.list ds) (.list []) = ds.isEmpty := by
  cases ds <;> rfl
theorem inV_strs (s : Str) (l : List Str) : inV (.str s) (l.map V.str) = decide (s ∈ l) := by
  unfold inV
  rw [List.any_map]
  induction l with
  | nil => simp
  | cons a l ih =>
    rw [List.any_cons, ih]
    have e3 : ((fun y => eqV y (V.str s)) ∘ V.str) a = decide (a = s) := by
      show (a == s) = decide (a = s)
      rfl
    rw [e3]
    by_cases h : a = s
    · simp [h]
    · have h' : ¬ s = a := fun z => h z.symm
      simp [h, h']
def barText : Str := "byte size align place end packed and or not yes no for nogap notail leaf"
theorem bar_split : Txt.split barText " " = barred := by decide +kernel
end Ev
namespace H1
open PySem PySem.Spec PyProof.Rows L2 Ev
section
variable {P : Program} {w : World} {K : PySem.W.Frag} {mg : Str → Option Value} {base : Heap} {f fD fP : Addr} {fd fdD fdP : FuncData}
abbrev NI : List Str := ["_law_thing", "_law_sign", "_law_barred"]
theorem sc36 : FnScope NI ["_law_thing"] (defScope (top 36)) := ⟨rfl, rfl, rfl, by decide +kernel, rfl, by decide +kernel, by decide +kernel⟩
theorem ok_isname (F : FnL K "_law_is_name" 36 f fd) (tIsi : mg "isinstance" = none) (tStr : mg "str" = none) (tLen : mg "len" = none) : FnOk P w K mg base CX0 1 f fd ["_law_thing"] (spNameL K) := by
  refine F.ok sc36 (fun vs H Q E h => ?_) (fun cdv A outer s H vs Q E hr h => ?_)
  · obtain ⟨v, rfl, _⟩ := h
    rfl
  · obtain ⟨v, rfl, an, tx, q⟩ := h
    refine ⟨_, PSs.nox (pss_cons (ps_if (PW.pt (pw_or (pt_not (pt_val (pe_callB call_isi (by rfl) tIsi (by decide +kernel) (pa_cons (pv 0) (pa_cons (pe_bltn (v := .ty "str") (by rfl) tStr (by decide +kernel) rfl) pa_nil)))))
        (pw_or (pt_cmpR op_eq (pv 0) pe_str (nomark _)) (pw_or1 (pt_cmpR op_gt (pe_callB call_len_str (by rfl) tLen PySem.boot_len (pa_cons (pv 0) pa_nil)) pe_int (nomark _)))))) (pss_one (ps_ret pe_bl)) pss_nil)
      (pss_cons (ps_if (pt_cmpR (op_neD hr.units) (pe_lc (own := [("_law_sign", 1)]) (g := gName 1) rfl sc36.nd (pi_str (pv 0)) (blkOk_by (N := NI) (sc := defScope (top 36)) (by decide +kernel))
          (fun _ _ _ _ _ => pg_name (i := 1) sc36.nd rfl (Or.inl rfl)) (fun _ _ _ _ _ => pts_one (pt_not (pt_chain op_le_str op_le_str pe_str (pv 1) pe_str))) (fun _ _ _ _ _ => pv 1)) (pe_lst pa_nil) (nomark _)) (pss_one (ps_ret pe_bl)) pss_nil)
      (pss_cons (ps_set (i := 2) sc36.nd rfl (Or.inl rfl) pe_str)
      (pss_one (ps_ret (pe_cmpR op_notIn_seq (pv 0) (pe_split (pv 2) pe_str) (by rfl))))))), ?_⟩
    cases an with
    | int i => exact ⟨_, rfl, _, .ty "str", .type "int", .type "str", false, rfl, .ty "str", .base (.int i), kit_ty (by decide +kernel), false, rfl, iteT (q _ fun _ _ z => z)⟩
    | bl b => exact ⟨_, rfl, _, .ty "str", .type "bool", .type "str", false, rfl, .ty "str", .base (.bl b), kit_ty (by decide +kernel), false, rfl, iteT (q _ fun _ _ z => z)⟩
    | non => exact ⟨_, rfl, _, .ty "str", .type "NoneType", .type "str", false, rfl, .ty "str", .base .non, kit_ty (by decide +kernel), false, rfl, iteT (q _ fun _ _ z => z)⟩
    | tup e => exact ⟨_, rfl, _, .ty "str", .type "tuple", .type "str", false, rfl, .ty "str", .base (.tup e), kit_ty (by decide +kernel), false, rfl, iteT (q _ fun _ _ z => z)⟩
    | lst e => exact ⟨_, rfl, _, .ty "str", .type "list", .type "str", false, rfl, .ty "str", .base (.lst e), kit_ty (by decide +kernel), false, rfl, iteT (q _ fun _ _ z => z)⟩
    | dic e => exact ⟨_, rfl, _, .ty "str", .type "dict", .type "str", false, rfl, .ty "str", .base (.dK e), kit_ty (by decide +kernel), false, rfl, iteT (q _ fun _ _ z => z)⟩
    | str s hz =>
      obtain ⟨t40, tc⟩ := tx s rfl
      have nb : nameB (.str s) = (!decide (s ∈ barred) && (decide (1 ≤ s.length) && (decide (s.length ≤ 8) && s.cps.toList.all fun c => decide (c ∈ letters.cps.toList)))) := rfl
      have no : ∀ {H'}, Same H H' → nameB (.str s) = false → Q (.bl false) H' := fun {H'} S e => by
        have q' := q H' S
        rw [e] at q'
        exact q'
      refine ⟨_, rfl, _, .ty "str", .type "str", .type "str", true, rfl, .ty "str", .base (.str s), kit_ty (by decide +kernel), true, rfl, iteF ?_⟩
      refine ⟨_, rfl, rfl, _, rfl, ?_⟩
      refine ite2 (fun h1 => ?_) (fun h1 => ?_)
      · have e : s = "" := by have := of_decide_eq_true h1; injection this
        refine iteT (no (fun _ _ z => z) ?_)
        rw [nb, e]
        decide +kernel
      · refine ⟨_, rfl, s, rfl, hz, _, _, rfl, rfl, _, rfl, ?_⟩
        refine ite2 (fun h2 => ?_) (fun h2 => ?_)
        · have h2' : ¬ s.length ≤ 8 := by have := of_decide_eq_true h2; omega
          exact no (fun _ _ z => z) (by rw [nb]; simp [h2'])
        have h2' : s.length ≤ 8 := by
          have : ¬ ((s.length : Int) > 8) := fun z => h2 (decide_eq_true z)
          omega
        have h1' : 1 ≤ s.length := by
          refine Nat.pos_of_ne_zero fun z => h1 ?_
          have e0 : s = "" := by
            obtain ⟨cps⟩ := s
            have : cps = #[] := Array.size_eq_zero_iff.mp z
            rw [this]
            decide +kernel
          rw [e0]
          exact decide_eq_true rfl
        have nb2 : nameB (.str s) = (!decide (s ∈ barred) && s.cps.toList.all fun c => decide (c ∈ letters.cps.toList)) := by rw [nb, decide_eq_true h1', decide_eq_true h2', Bool.true_and, Bool.true_and]
        let bad : Nat → Bool := fun c => !decide (c ∈ letters.cps.toList)
        refine ⟨_, rfl, s, rfl, fun D hD => lc_it walk_str (fun i H' => Same H H' ∧ H' D = some (.lst (((s.cps.toList.take i).filter bad).map fun c => V.str ⟨#[c]⟩))) ?_ (fun _ _ _ _ => trivial) ?_ ?_⟩
        · exact ⟨fun b o z => by rw [upd_ne (ne_of_none z hD)]; exact z, upd_same⟩
        · rintro i x H1 H2 hi ⟨S1, e1⟩ ⟨rfl, c, hc, rfl⟩
          have hc2 : s.cps.toList[i]? = some c := by rw [← Array.getElem?_toList] at hc; exact hc
          have tk : s.cps.toList.take (i + 1) = s.cps.toList.take i ++ [c] := by
            rw [List.take_succ, hc2]
            rfl
          have lt : (((s.cps.toList.take i).filter bad).map fun c => V.str ⟨#[c]⟩).length < sizeLine := by
            have h3 : s.cps.toList.length ≤ 8 := by rw [Array.length_toList]; exact h2'
            have h4 := List.length_filter_le bad (s.cps.toList.take i)
            rw [List.length_take] at h4
            rw [List.length_map, sizeLine_eq]
            omega
          have ea : ("a" : Str).cps.toList = [97] := by decide +kernel
          have ez : ("z" : Str).cps.toList = [122] := by decide +kernel
          have keep : ∀ {b : Bool}, b = bad c → (if b = true then tVar 1 [some (V.str s), some (V.str ⟨#[c]⟩), none] H2 (fun y H4 => ∃ acc, H4 D = some (.lst acc) ∧ acc.length < sizeLine ∧
              (Same H (upd H4 D (.lst (acc ++ [y]))) ∧ (upd H4 D (.lst (acc ++ [y]))) D = some (.lst (((s.cps.toList.take (i + 1)).filter bad).map fun c => V.str ⟨#[c]⟩))))
              else Same H H2 ∧ H2 D = some (.lst (((s.cps.toList.take (i + 1)).filter bad).map fun c => V.str ⟨#[c]⟩))) := by
            intro b hb
            subst hb
            by_cases h : bad c = true
            · rw [if_pos h]
              refine ⟨_, rfl, _, e1, lt, fun b o z => by rw [upd_ne (ne_of_none z hD)]; exact S1 _ _ z, ?_⟩
              rw [upd_same, tk, List.filter_append, List.map_append, List.filter_cons_of_pos h]
              rfl
            · rw [if_neg h]
              refine ⟨S1, ?_⟩
              rw [tk, List.filter_append, List.filter_cons_of_neg h, List.filter_nil, List.append_nil]
              exact e1
          refine ⟨rfl, _, rfl, _, _, rfl, rfl, _, rfl, ?_⟩
          refine ite2 (fun h3 => ?_) (fun h3 => ?_)
          · refine ⟨_, _, rfl, rfl, _, rfl, keep ?_⟩
            have h4 : ¬ c < 97 := fun z => by
              have h5 : (!decide ((⟨#[c]⟩ : Str).cps.toList < ("a" : Str).cps.toList)) = true := h3
              rw [ea] at h5
              have h6 : ([c] < [97]) := (lt1 c 97).mpr z
              rw [decide_eq_true (show (⟨#[c]⟩ : Str).cps.toList < [97] from h6)] at h5
              cases h5
            show (!(!decide (("z" : Str).cps.toList < (⟨#[c]⟩ : Str).cps.toList))) = (!decide (c ∈ letters.cps.toList))
            rw [ez, Bool.not_not]
            by_cases h : 122 < c
            · have h6 : ([122] < [c]) := (lt1 122 c).mpr h
              have h7 : ¬ c ∈ letters.cps.toList := fun z => by have := (letters_iff c).mp z; omega
              rw [decide_eq_true (show [122] < (⟨#[c]⟩ : Str).cps.toList from h6), decide_eq_false h7]
              rfl
            · have h6 : ¬ ([122] < [c]) := fun z => h ((lt1 122 c).mp z)
              have h7 : c ∈ letters.cps.toList := (letters_iff c).mpr ⟨by omega, by omega⟩
              rw [decide_eq_false (show ¬ [122] < (⟨#[c]⟩ : Str).cps.toList from h6), decide_eq_true h7]
              rfl
          · refine ⟨_, rfl, keep ?_⟩
            have h4 : c < 97 := by
              refine Classical.byContradiction fun z => h3 ?_
              have h6 : ¬ ([c] < [97]) := fun y => z ((lt1 c 97).mp y)
              show (!decide ((⟨#[c]⟩ : Str).cps.toList < ("a" : Str).cps.toList)) = true
              rw [ea, decide_eq_false (show ¬ (⟨#[c]⟩ : Str).cps.toList < [97] from h6)]
              rfl
            have h7 : ¬ c ∈ letters.cps.toList := fun z => by have := (letters_iff c).mp z; omega
            show (!false) = (!decide (c ∈ letters.cps.toList))
            rw [decide_eq_false h7]
        · rintro H' ⟨S1, e1⟩
          have full : s.cps.toList.take s.cps.size = s.cps.toList := List.take_of_length_le (by rw [Array.length_toList]; exact Nat.le_refl _)
          rw [full] at e1
          refine ⟨(by show 0 ≤ sizeLine; decide), fun L hL => ?_⟩
          have DL : D ≠ L := ne_of_none e1 hL
          obtain ⟨ds, dd, ds1, ds2⟩ := dp_signs (K := K) (H := upd H' L (.lst [])) (s.cps.toList.filter bad) fun c hc => tc c ((List.mem_filter.mp hc).1)
          refine ⟨_, .list [], .lst (SqL.of (by rw [upd_ne DL]; exact e1)) dd, .lst (SqL.of upd_same) .nil, ds1, rfl, _, rfl, ?_⟩
          rw [eqv_nil, ds2]
          have S2 : Same H (upd H' L (.lst [])) := fun b o z => by
            have z1 := S1 _ _ z
            rw [upd_ne (ne_of_none z1 hL)]
            exact z1
          have allE : (s.cps.toList.all fun c => decide (c ∈ letters.cps.toList)) = (s.cps.toList.filter bad).isEmpty := by
            induction s.cps.toList with
            | nil => rfl
            | cons c l ih =>
              by_cases h : c ∈ letters.cps.toList
              · have hb : ¬ bad c = true := by
                  show ¬ (!decide (c ∈ letters.cps.toList)) = true
                  rw [decide_eq_true h]
                  decide
                rw [List.all_cons, decide_eq_true h, Bool.true_and, List.filter_cons_of_neg hb, ih]
              · have hb : bad c = true := by
                  show (!decide (c ∈ letters.cps.toList)) = true
                  rw [decide_eq_false h]
                  rfl
                rw [List.all_cons, decide_eq_false h, Bool.false_and, List.filter_cons_of_pos hb]
                rfl
          rw [allE] at nb2
          cases hE : (s.cps.toList.filter bad).isEmpty with
          | false => exact iteT (no S2 (by rw [nb2, hE, Bool.and_false]))
          | true =>
            refine iteF ?_
            refine ⟨_, rfl, _, rfl, ⟨_, rfl⟩, barText, " ", rfl, rfl, (by decide +kernel), (by decide +kernel), fun p hp => ?_⟩
            have hs : Txt.split barText " " = barred := bar_split
            have S3 : ∀ {o : HO}, Same H (upd (upd H' L (.lst [])) p o) := fun {o} b u z => by
              have z1 := S2 _ _ z
              rw [upd_ne (ne_of_none z1 hp)]
              exact z1
            refine ⟨p, _, rfl, .inl (SqL.of upd_same), rfl, ?_, ?_⟩
            · rw [hs]
              decide +kernel
            · rw [hs, inV_strs, if_pos rfl]
              have q' := q _ (S3 (o := .lst (barred.map V.str)))
              rw [nb2, hE, Bool.and_true] at q'
              exact q'
end
end H1
set_option Elab.async false
set_option linter.all false
set_option maxRecDepth 100000
set_option maxHeartbeats 4000000
namespace Ev
open PySem PySem.Spec PyProof.Rows L2 LamX
/-! ### str(x), x an instance with its own __str__ -/
section
variable {X : Cx} {CX : CXT} {C g : Addr} {n : Nat} {sp : Sp} {E : XK}
def rStrOwn (C : Addr) (sp : Sp) (E : XK) : List V → Hp → VK → Prop := fun xs H Q => ∃ (a dx : Addr) (fs : List (Str × V)), xs = [V.ref a] ∧ H a = some (.ins C dx fs) ∧ sp [.ref a] H (fun z H' => ∃ i, z = .str i ∧ Q z H') E
theorem call_strOwn (hs : PySem.W.findIn X.K (.ref C) "__str__" = some (some (.ref g))) (hf : PySem.W.isFn X.K (.ref g) = true) (F : FnR X.prog X.w X.K X.mg X.base CX n g sp) (hr : Room (n + 2) X.A) (hx : Passes CX X E) :
    CallR X (.type "str") (rStrOwn C sp E) := by
  intro pins s σ H xs us Q I r h
  obtain ⟨a, dx, fs, rfl, ha, q⟩ := h
  obtain ⟨u, rfl, ru⟩ := r.one
  cases (show u = Value.ref a from ru)
  obtain ⟨mA, O, _⟩ := ins_get I.hok ha
  obtain ⟨od, J, _⟩ := O.look
  have hr2 : Room n X.A.in1.in1 := (show Room (n + 1) X.A.in1 from Room.in1 hr).in1
  refine PySem.W.kso_call hr2.units0 I.kIn J hs hf (thn (wpAny_call (SlX.run_at (us := [.ref a]) (ws := [.ref a]) F hr2 I.env0.in1.in1 hx I (.cons rfl .nil) q)) (fun w s' z => ?_))
  obtain ⟨z', H', I', rz, i, ei, qz⟩ := z
  subst ei
  obtain ⟨t, e⟩ := (show ∃ t, w = Value.str i t from rz)
  cases e
  exact ⟨.str i, H', I', ⟨t, rfl⟩, qz⟩
end
end Ev
set_option Elab.async false
set_option linter.all false
set_option maxRecDepth 100000
set_option maxHeartbeats 4000000
namespace Ev
open PySem PySem.Spec PyProof.Rows L2 LamX
/-- what was made, and its text -/
def Found (K : PySem.W.Frag) (H : Hp) (o : Addr) (s : Str) : Prop :=
  (∃ tm, KindAt K H o (.str s) tm ∧ s.length ≤ sizeLine) ∨ ∃ s0, UseAt K H o (.str s0) ∧ s0.length + 1 ≤ sizeLine ∧ s = "@" ++ s0
/-- what an error is heard as -/
def Heard (K : PySem.W.Frag) (Q : VK) : XK := fun cls d H' => ∃ (x tag f : Str) (y : V) (p dd : Addr), ((x = "BadName" ∧ tag = "name" ∧ f = "name") ∨ (x = "BadTimes" ∧ tag = "times" ∧ f = "value")) ∧
  cls = .ref (He.ga K x) ∧ d = some dd ∧ H' dd = some (.xd [(f, y), (("told" : Str), V.ref p)]) ∧ ∀ t H2, H' t = none → Same H' H2 → H2 t = some (.tup [.str tag, y]) → Q (.ref t) H2
def THeard (K : PySem.W.Frag) : (XK → Hp → VK → Prop) → Hp → VK → Prop := fun tl H Q => ∀ (H1 : Hp) (R : VK), Same H H1 →
  (∀ (o : Addr) (s : Str) (H' : Hp), Found K H' o s → (∀ t H2, H' t = none → Same H' H2 → H2 t = some (.lst [.str s, .int 0]) → Q (.ref t) H2) → R (.ref o) H') → tl (Heard K Q) H1 R
end Ev
namespace H1
open PySem PySem.Spec PyProof.Rows L2 Ev LamX
structure HTxt (P : Program) (w : World) (K : PySem.W.Frag) (mg : Str → Option Value) (base : Heap) : Prop where
  gPad : mg "PadError" = some (.ref (He.ga K "PadError"))
  gBN : mg "BadName" = some (.ref (He.ga K "BadName"))
  gBT : mg "BadTimes" = some (.ref (He.ga K "BadTimes"))
  tIsi : mg "isinstance" = none
  tStr : mg "str" = none
  er : ErrsT errs K
  exN : PySem.W.exmOne K (.ref (He.ga K "BadName")) (.ref (He.ga K "PadError")) = some true
  exT : PySem.W.exmOne K (.ref (He.ga K "BadTimes")) (.ref (He.ga K "PadError")) = some true
  cl : PClss K
  sK : FnR P w K mg base CX0 1 (He.ma K (He.ga K "Kind") "__str__") (spStrK K)
  sU : FnR P w K mg base CX0 1 (He.ma K (He.ga K "Use") "__str__") (spStrU K)
abbrev NH : List Str := ["_law_deed", "_law_caught", "_law_found", "error"]
theorem sc37 : FnScope NH ["_law_deed"] (defScope (top 37)) := ⟨rfl, rfl, rfl, by decide +kernel, rfl, by decide +kernel, by decide +kernel⟩
theorem heard_gives {X : Cx} {g : Addr} {cdg : Value} {q : Str} (T : HTxt X.prog X.w X.K X.mg X.base) (hr : Room 4 X.A) : GivesTo X NH "_law_heard" (defScope (top 37)) g cdg (defBody (top 37)) "_law_deed" q (THeard X.K) := by
  intro f c' s H Q tl act hc h
  have hr3 : Room 3 (X.A.deeper (envOfC "_law_heard" (defScope (top 37)) s.heap.objs.size g cdg)) := hr.deeper _
  refine ⟨_, pss_cons (ps_asg (pe_tup (pa_cons pe_non (pa_cons pe_non pa_nil))) (pg_tup rfl (pgs_cons (pg_name (i := 1) sc37.nd rfl (Or.inl rfl)) (pgs_cons (pg_name (i := 2) sc37.nd rfl (Or.inl rfl)) pgs_nil))))
    (pss_cons (ps_try_keep (X := (cxOf C8.CX0 X.prog X.w X.K X.mg X.base NH "_law_heard" (defScope (top 37)) g cdg X.A X.stack s H C8.E0).nox) (c := .ref (He.ga X.K "PadError")) (i := 3)
      (tb := fun W D σ H => ∃ Ech : XK, (∀ cls d σ' H', Ech cls d H' → W cls d σ' H') ∧ σ[0]? = some (some (.ref f)) ∧ H c' = some (CodeO c' q) ∧ tl Ech H fun v H' => D.nx (σ.set 2 (some v)) H')
      rfl rfl rfl sc37.nd rfl rfl ⟨rfl, by decide, .inl T.gPad⟩ LamX.takes0 (fun W pn xe tk _ => ?_)
      (fun a oe cls d pn => pss_one (ps_set (i := 1) sc37.nd rfl (Or.inl rfl) (pv 3))))
    (pss_cons (ps_if (pt_cmpR op_isN (pv 1) pe_non (nomark _)) (pss_one (ps_ret (pe_lst (pa_cons (pe_callTy ((call_strOwn (X := (cxOf C8.CX0 X.prog X.w X.K X.mg X.base NH "_law_heard" (defScope (top 37)) g cdg X.A X.stack s H C8.E0).nox) (E := E0) T.cl.kind.st.at_ T.cl.kind.st.fn T.sK hr3 pass0).or (call_strOwn (X := (cxOf C8.CX0 X.prog X.w X.K X.mg X.base NH "_law_heard" (defScope (top 37)) g cdg X.A X.stack s H C8.E0).nox) (E := E0) T.cl.use.st.at_ T.cl.use.st.fn T.sU hr3 pass0)) (by rfl) T.tStr (by decide +kernel) (pa_cons (pv 2) pa_nil))
        (pa_cons (pe_fld (pv 2) (by rfl)) pa_nil))))) pss_nil)
    (pss_cons (ps_if (pt_val (pe_callB call_isK (by rfl) T.tIsi (by decide +kernel) (pa_cons (pv 1) (pa_cons (pe_glob (v := .ref (He.ga X.K "BadName")) (by rfl) T.gBN rfl) pa_nil)))) (pss_one (ps_ret (pe_tup (pa_cons pe_str (pa_cons (pe_kept (pv 1)) pa_nil))))) pss_nil)
    (pss_cons (ps_if (pt_val (pe_callB call_isK (by rfl) T.tIsi (by decide +kernel) (pa_cons (pv 1) (pa_cons (pe_glob (v := .ref (He.ga X.K "BadTimes")) (by rfl) T.gBT rfl) pa_nil)))) (pss_one (ps_ret (pe_tup (pa_cons pe_str (pa_cons (pe_kept (pv 1)) pa_nil))))) pss_nil)
    (pss_one (ps_ret (pe_tup (pa_cons pe_str pa_nil)))))))), ?_⟩
  · refine ⟨fun pins s' σ H' D I h' => ?_⟩
    obtain ⟨Ech, hW, h1, h2, h3⟩ := h'
    exact (pss_one (ps_set (i := 2) sc37.nd rfl (Or.inl rfl) (act W pn xe Ech _ _ tk hW))).run pins s' σ H' D I ⟨h1, h2, h3⟩
  · refine ⟨(by show 2 ≤ sizeLine; decide), fun t0 ht0 => ⟨t0, _, rfl, SqT.of upd_same, rfl, _, _, rfl, _, _, rfl, rfl, ?_⟩⟩
    generalize e1 : upd H t0 _ = H1 at *
    have S1 : Same H H1 := fun b o z => by rw [← e1, upd_ne (ne_of_none z ht0)]; exact z
    have no : ∀ {x f : Str} {y : V} {p dd a : Addr} {H' : Hp}, (x, f) ∈ ([("BadName", "name"), ("BadTimes", "value")] : List (Str × Str)) → H' a = none → H' dd = some (.xd [(f, y), (("told" : Str), V.ref p)]) →
        (upd H' a (exk a (.ref (He.ga X.K x)) (some dd))) dd = some (.xd [(f, y), (("told" : Str), V.ref p)]) := fun {x f y p dd a H'} _ na hd => by rw [upd_ne (ne_of_none hd na)]; exact hd
    refine ⟨Heard X.K Q, fun cls d σ' H' hh hl => ?_, rfl, S1 _ _ hc, ?_⟩
    · obtain ⟨a0, a1, a2, a3, rfl⟩ : ∃ a0 a1 a2 a3, σ' = [a0, a1, a2, a3] := match σ', hl with | [a0, a1, a2, a3], _ => ⟨a0, a1, a2, a3, rfl⟩
      obtain ⟨x, tag, f1, y, p, dd, hx, rfl, rfl, hd, q⟩ := hh
      refine ⟨true, ?_, fun _ a na => ?_, fun z => by cases z⟩
      · rcases hx with ⟨rfl, _, _⟩ | ⟨rfl, _, _⟩
        · exact T.exN
        · exact T.exT
      · refine ⟨_, rfl, ?_⟩
        have da : dd ≠ a := ne_of_none hd na
        let H2 : Hp := upd H' a (exk a (.ref (He.ga X.K x)) (some dd))
        have S2 : Same H' H2 := fun b o z => by
          show upd H' a _ b = some o
          rw [upd_ne (ne_of_none z na)]
          exact z
        have ha2 : H2 a = some (exk a (.ref (He.ga X.K x)) (some dd)) := upd_same
        have hd2 := S2 _ _ hd
        refine ⟨_, rfl, rfl, _, rfl, ?_⟩
        refine ite2 (fun z => by have := of_decide_eq_true z; cases this) (fun _ => ?_)
        have mN : (("BadName" : Str), ([("name" : Str)] : List Str)) ∈ errs := by simp [errs]
        have mT : (("BadTimes" : Str), ([("value" : Str)] : List Str)) ∈ errs := by simp [errs]
        have fin : ∀ {t : Addr} {H3 : Hp} {o : HO}, H2 t = none → Same H' (upd H2 t o) := fun {t H3 o} ht b u z => by
          have z1 := S2 _ _ z
          rw [upd_ne (ne_of_none z1 ht)]
          exact z1
        rcases hx with ⟨rfl, rfl, rfl⟩ | ⟨rfl, rfl, rfl⟩
        · have er := T.er.one _ mN
          refine ⟨_, rfl, a, _, dd, _, .ref (He.ga X.K "BadName"), .ref (He.ga X.K "BadName"), true, rfl, er.ec, ha2, hd2, fun u z => z, T.er.each _ mN _ mN, _, rfl, iteT ?_⟩
          exact ⟨_, rfl, a, _, dd, _, y, rfl, er.ec, er.no _ (by simp), ha2, hd2, rfl, (by show 2 ≤ sizeLine; decide), fun t ht => q t _ (same_none S2 t ht) (fin (H3 := H2) ht) upd_same⟩
        · have er := T.er.one _ mT
          refine ⟨_, rfl, a, _, dd, _, .ref (He.ga X.K "BadName"), .ref (He.ga X.K "BadName"), false, rfl, er.ec, ha2, hd2, fun u z => z, T.er.each _ mT _ mN, _, rfl, iteF ?_⟩
          refine ⟨_, rfl, a, _, dd, _, .ref (He.ga X.K "BadTimes"), .ref (He.ga X.K "BadTimes"), true, rfl, er.ec, ha2, hd2, fun u z => z, T.er.each _ mT _ mT, _, rfl, iteT ?_⟩
          exact ⟨_, rfl, a, _, dd, _, y, rfl, er.ec, er.no _ (by simp), ha2, hd2, rfl, (by show 2 ≤ sizeLine; decide), fun t ht => q t _ (same_none S2 t ht) (fin (H3 := H2) ht) upd_same⟩
    · refine h H1 _ S1 fun o s2 H' hf hq => ?_
      refine ⟨_, rfl, rfl, _, rfl, iteT ?_⟩
      rcases hf with ⟨tm, hk, hz⟩ | ⟨s0, hu, hz, rfl⟩
      · obtain ⟨dx, tr, e2, e3⟩ := id hk
        refine ⟨_, rfl, .inl ⟨o, dx, _, rfl, e2, ⟨o, s2, tm, rfl, hk, hz, s2, rfl, ?_⟩⟩⟩
        refine ⟨_, rfl, o, _, dx, _, .int 0, rfl, e2, T.cl.kind.cl, T.cl.kind.no _ (by decide), rfl, (by show 2 ≤ sizeLine; decide), fun t ht => hq t _ ht (fun b u z => ?_) upd_same⟩
        rw [upd_ne (ne_of_none z ht)]; exact z
      · obtain ⟨dx, tr, e2, e3⟩ := id hu
        refine ⟨_, rfl, .inr ⟨o, dx, _, rfl, e2, ⟨o, s0, rfl, hu, hz, _, rfl, ?_⟩⟩⟩
        refine ⟨_, rfl, o, _, dx, _, .int 0, rfl, e2, T.cl.use.cl, T.cl.use.no _ (by decide), rfl, (by show 2 ≤ sizeLine; decide), fun t ht => hq t _ ht (fun b u z => ?_) upd_same⟩
        rw [upd_ne (ne_of_none z ht)]; exact z
end H1
set_option Elab.async false
set_option linter.all false
set_option maxRecDepth 100000
set_option maxHeartbeats 4000000
namespace Ev
open PySem PySem.Spec PyProof.Rows L2 LamX
section
variable {P : Program} {w : World} {K : PySem.W.Frag} {mg : Str → Option Value} {base : Heap} {CX : CXT} {k : Nat} {sp : Sp}
/-- okG, the code object told -/
theorem okGc {x qual : Str} {p : Str × Option Str} {params : Arguments} {body : List Stmt} {scope : Scope} {fd : FuncData} {N ps : List Str}
    (F : FunD K x qual params body scope [] [] (He.fAd K p) fd) (S : FnScope N ps scope)
    (hb : ∀ (kV doc pm : Value) (an : Option Addr) (cdv ct : Value) (us : List Value), us.length = ps.length →
      bindArgs (PySem.W.fnOf x qual params body scope .none kV doc pm an cdv ct) ⟨us, []⟩ = pure (ps.zip us))
    (len : ∀ vs H Q E, sp vs H Q E → vs.length = ps.length)
    (hbody : ∀ (A : Around) (outer : List Env) (s : Shared) (H : Hp) (vs : List V) (Q : VK) (E : XK), A.guards = some [] →
      Room k (A.deeper (envOfC qual scope s.heap.objs.size (He.fAd K p) (.ref (He.codeOf K p)))) → sp vs H Q E →
      ∃ t, PSs (cxOf CX P w K mg base N qual scope (He.fAd K p) (.ref (He.codeOf K p)) A outer s H E) body t ∧ t { nx := fun _ H' => Q .non H', rt := Q } (start N vs) H) :
    FnG P w K mg base CX (k + 1) (He.fAd K p) sp := by
  intro A outer s H us vs Q E hg hr e0 r hsp
  obtain ⟨oc, od, dV, kV, doc, pm, an, cdv, ct, osl, rfl, lk, hcd, hD, hK⟩ := F.ex
  obtain ⟨c, rfl⟩ := He.codeIn_ref hcd
  have ec : He.codeOf K p = c := He.codeOf_eq lk rfl
  have hl : us.length = ps.length := by rw [← r.length]; exact len _ _ _ _ hsp
  rcases hD with ⟨_, rfl⟩ | ⟨e, _⟩
  · refine StX.run_bnd (G := fun xs H2 => xs = vs ∧ H2 = H) lk hcd S hr e0 (fun A' Ex Q' h => ?_) fun s2 H2 xs ⟨ex, eH⟩ hr' => ?_
    · rw [hb kV doc pm an (.ref c) ct us hl]
      exact wpAny_pure (h s H vs us e0 (Un.kept fun _ _ z => z) rfl (fun _ _ z => z) r (r.length.trans hl) ⟨rfl, rfl⟩)
    · subst ex eH
      subst ec
      exact hbody A outer s2 _ _ Q E hg hr' hsp
  · exact absurd rfl e
end
/-! ### what stays where tables grow -/
section
variable {K : PySem.W.Frag} {H H' : Hp}
theorem ext_of {H H' : Hp} (S : Same H H') : ExtN H H' := ExtN.of S
theorem rd_ext {a : Addr} {u : HO} (S : ExtN H H') (hu : ∀ ps, u ≠ .tbl ps) (h : Rd H a u) : Rd H' a u := by
  rcases h with h | ⟨o, h⟩
  · exact .inl (S _ _ h hu)
  · exact .inr ⟨o, S _ _ h fun ps z => by cases z⟩
theorem sql_ext {a : Addr} {xs : List V} (S : ExtN H H') (h : SqL K H a xs) : SqL K H' a xs := by
  rcases h with h | h
  · exact .inl (rd_ext S (fun ps z => by cases z) h)
  · exact .inr h
theorem sqt_ext {a : Addr} {xs : List V} (S : ExtN H H') (h : SqT K H a xs) : SqT K H' a xs := by
  rcases h with h | h
  · exact .inl (rd_ext S (fun ps z => by cases z) h)
  · exact .inr h
mutual
theorem Dr.ext (S : ExtN H H') : ∀ {v : V} {d : PyData}, Dr K H v d → Dr K H' v d
  | _, _, .non => .non
  | _, _, .bl b => .bl b
  | _, _, .int i => .int i
  | _, _, .str x => .str x
  | _, _, .lst h1 h2 => .lst (sql_ext S h1) (h2.ext S)
  | _, _, .tup h1 h2 => .tup (sqt_ext S h1) (h2.ext S)
  | _, _, .dct h1 h2 => .dct (S _ _ h1 fun ps z => by cases z) (h2.ext S)
theorem DrAll.ext (S : ExtN H H') : ∀ {vs : List V} {ds : List PyData}, DrAll K H vs ds → DrAll K H' vs ds
  | _, _, .nil => .nil
  | _, _, .cons a b => .cons (a.ext S) (b.ext S)
end
theorem Any.ext {v : V} (S : ExtN H H') (h : Any K H v) : Any K H' v := by
  cases h with
  | int i => exact .int i
  | bl b => exact .bl b
  | str s z => exact .str s z
  | non => exact .non
  | tup e => exact .tup (S _ _ e fun ps z => by cases z)
  | lst e => exact .lst (S _ _ e fun ps z => by cases z)
  | dic e => exact .dic (S _ _ e fun ps z => by cases z)
theorem PenAt.ext {p : Addr} {n : Nat} (S : ExtN H H') : PenAt H p n → PenAt H' p n
  | ⟨c, cells, t, l, h1, h2, r⟩ => ⟨c, cells, t, l, S _ _ h1 (fun ps z => by cases z), S _ _ h2 (fun ps z => by cases z), r⟩
theorem tabs_but {T : List (Addr × Str)} {p : Addr} {xs : List V} (hp : H p = some (.lst xs)) (k : But p H H') (t : Tabs T H) : Tabs T H' := fun q hq => by
  obtain ⟨ps, h1, h2, h3⟩ := t q hq
  refine ⟨ps, k _ _ (fun z => ?_) h1, h2, fun pos cv hc => ?_⟩
  · rw [z, hp] at h1
    cases h1
  · obtain ⟨c, e1, e2⟩ := h3 pos cv hc
    refine ⟨c, e1, k _ _ (fun z => ?_) e2⟩
    rw [z, hp] at e2
    have y := Option.some.inj e2
    unfold CodeO at y
    cases y
end
/-! ### what is heard of a kind, a use -/
def kindDue (w m : V) (dw dm : PyData) : PyData := if nameB w = true then (if wholeB m 1 8 = true then .list [dw, .int 0] else .tuple [.str "times", dm]) else .tuple [.str "name", dw]
def useDue (w : V) (dw : PyData) : PyData := if nameB w = true then .list [.str ("@" ++ strD dw), .int 0] else .tuple [.str "name", dw]
theorem name_is {K : PySem.W.Frag} {H : Hp} {w : V} {dw : PyData} (h : nameB w = true) (d : Dr K H w dw) : ∃ s, w = .str s ∧ dw = .str s ∧ s.length ≤ 8 := by
  cases w with
  | str s =>
    cases d
    refine ⟨s, rfl, rfl, ?_⟩
    simp only [nameB, Bool.and_eq_true, decide_eq_true_eq] at h
    exact h.2.2.1
  | _ => cases h
section
variable {K : PySem.W.Frag} {H1 H2 : Hp} {Q R : VK} {w m : V} {dw dm : PyData}
theorem same_make {H : Hp} {x dx : Addr} {o o' : HO} (hx : H x = none) (hd : H dx = none) : Same H (upd (upd H dx o) x o') := fun b u z => by
  rw [upd_ne (ne_of_none z hx), upd_ne (ne_of_none z hd)]
  exact z
theorem del_dr {G G' : Hp} {L : Addr} (S : Same G G') : Same (del G L) (del G' L) := same_del S
theorem kindHeard {L : Addr} {xs : List V} (hL : H1 L = some (.lst xs)) (aw : Any K (del H1 L) w) (am : Any K (del H1 L) m) (Dw : Dr K (del H1 L) w dw) (Dm : Dr K (del H1 L) m dm)
    (q : ∀ v H', Same H1 H' → Dr K (del H' L) v (kindDue w m dw dm) → Q v H') (S : Same H1 H2)
    (hR : ∀ (o : Addr) (s : Str) (H' : Hp), Found K H' o s → (∀ t H3, H' t = none → Same H' H3 → H3 t = some (.lst [.str s, .int 0]) → Q (.ref t) H3) → R (.ref o) H') (x dx : Addr) (hx : H2 x = none) (hd : H2 dx = none) (ne : dx ≠ x) :
    spKind K [.ref x, w, m] (upd (upd H2 dx (.own x)) x (.ins (He.ga K "Kind") dx [])) (fun v H3 => v = .non ∧ R (.ref x) H3) (Heard K Q) := by
  have S2 : Same H1 (upd (upd H2 dx (.own x)) x (.ins (He.ga K "Kind") dx [])) := fun b u z => same_make hx hd _ _ (S _ _ z)
  have nL : ∀ {t : Addr} {H' : Hp}, Same H1 H' → H' t = none → t ≠ L := fun {t H'} S' ht z => by
    rw [z, S' _ _ hL] at ht
    cases ht
  refine ⟨x, dx, w, m, rfl, upd_same, (aw.same del_same').same S2, (am.same del_same').same S2, fun hn => fun d p H' hd' S' e => ?_, fun hn hm => fun d p H' hd' S' e => ?_, fun hn hm H' B hk => ⟨rfl, ?_⟩⟩
  · refine ⟨"BadName", "name", "name", w, p, d, .inl ⟨rfl, rfl, rfl⟩, rfl, rfl, e, fun t H3 nt S3 e3 => ?_⟩
    have S0 : Same H1 H' := fun b u z => S' _ _ (S2 _ _ z)
    have S4 : Same H1 H3 := fun b u z => S3 _ _ (S0 _ _ z)
    refine q _ _ S4 ?_
    unfold kindDue
    rw [hn, if_neg Bool.false_ne_true]
    exact .tup (SqT.of (by rw [del_ne (nL S0 nt)]; exact e3)) (.cons (.str _) (.cons (Dw.same (del_dr S4)) .nil))
  · refine ⟨"BadTimes", "times", "value", m, p, d, .inr ⟨rfl, rfl, rfl⟩, rfl, rfl, e, fun t H3 nt S3 e3 => ?_⟩
    have S0 : Same H1 H' := fun b u z => S' _ _ (S2 _ _ z)
    have S4 : Same H1 H3 := fun b u z => S3 _ _ (S0 _ _ z)
    refine q _ _ S4 ?_
    unfold kindDue
    rw [hn, hm, if_pos rfl, if_neg Bool.false_ne_true]
    exact .tup (SqT.of (by rw [del_ne (nL S0 nt)]; exact e3)) (.cons (.str _) (.cons (Dm.same (del_dr S4)) .nil))
  · obtain ⟨s, rfl, rfl, hl⟩ := name_is hn Dw
    refine hR x s H' (.inl ⟨m, hk, by rw [sizeLine_eq]; omega⟩) fun t H3 nt S3 e3 => ?_
    have S0 : Same H1 H' := fun b u z => B _ _ (ne_of_none (S _ _ z) hx) (S2 _ _ z)
    have S4 : Same H1 H3 := fun b u z => S3 _ _ (S0 _ _ z)
    refine q _ _ S4 ?_
    unfold kindDue
    rw [hn, hm, if_pos rfl, if_pos rfl]
    exact .lst (SqL.of (by rw [del_ne (nL S0 nt)]; exact e3)) (.cons (.str _) (.cons (.int _) .nil))
theorem useHeard {L : Addr} {xs : List V} (hL : H1 L = some (.lst xs)) (aw : Any K (del H1 L) w) (Dw : Dr K (del H1 L) w dw) (q : ∀ v H', Same H1 H' → Dr K (del H' L) v (useDue w dw) → Q v H') (S : Same H1 H2)
    (hR : ∀ (o : Addr) (s : Str) (H' : Hp), Found K H' o s → (∀ t H3, H' t = none → Same H' H3 → H3 t = some (.lst [.str s, .int 0]) → Q (.ref t) H3) → R (.ref o) H') (x dx : Addr) (hx : H2 x = none) (hd : H2 dx = none) (ne : dx ≠ x) :
    spUse K [.ref x, w] (upd (upd H2 dx (.own x)) x (.ins (He.ga K "Use") dx [])) (fun v H3 => v = .non ∧ R (.ref x) H3) (Heard K Q) := by
  have S2 : Same H1 (upd (upd H2 dx (.own x)) x (.ins (He.ga K "Use") dx [])) := fun b u z => same_make hx hd _ _ (S _ _ z)
  have nL : ∀ {t : Addr} {H' : Hp}, Same H1 H' → H' t = none → t ≠ L := fun {t H'} S' ht z => by
    rw [z, S' _ _ hL] at ht
    cases ht
  refine ⟨x, dx, w, rfl, upd_same, (aw.same del_same').same S2, fun hn => fun d p H' hd' S' e => ?_, fun hn H' B hk => ⟨rfl, ?_⟩⟩
  · refine ⟨"BadName", "name", "name", w, p, d, .inl ⟨rfl, rfl, rfl⟩, rfl, rfl, e, fun t H3 nt S3 e3 => ?_⟩
    have S0 : Same H1 H' := fun b u z => S' _ _ (S2 _ _ z)
    have S4 : Same H1 H3 := fun b u z => S3 _ _ (S0 _ _ z)
    refine q _ _ S4 ?_
    unfold useDue
    rw [hn, if_neg Bool.false_ne_true]
    exact .tup (SqT.of (by rw [del_ne (nL S0 nt)]; exact e3)) (.cons (.str _) (.cons (Dw.same (del_dr S4)) .nil))
  · obtain ⟨s, rfl, rfl, hl⟩ := name_is hn Dw
    refine hR x _ H' (.inr ⟨s, hk, by rw [sizeLine_eq]; omega, rfl⟩) fun t H3 nt S3 e3 => ?_
    have S0 : Same H1 H' := fun b u z => B _ _ (ne_of_none (S _ _ z) hx) (S2 _ _ z)
    have S4 : Same H1 H3 := fun b u z => S3 _ _ (S0 _ _ z)
    refine q _ _ S4 ?_
    unfold useDue
    rw [hn, if_pos rfl]
    exact .lst (SqL.of (by rw [del_ne (nL S0 nt)]; exact e3)) (.cons (.str _) (.cons (.int _) .nil))
/-! ### what is known beside the list at L -/
structure Fx (K : PySem.W.Frag) (T : List (Addr × Str)) (G : Hp) (p : Addr) (n : Nat) (w m due : V) (dw dm : PyData) (D : PyData) : Prop where
  aw : Any K G w
  am : Any K G m
  Dw : Dr K G w dw
  Dm : Dr K G m dm
  Dd : Dr K G due D
  pen : PenAt G p n
  tabs : Tabs T G
theorem ext_del {H H' : Hp} {L : Addr} (S : ExtN H H') : ExtN (del H L) (del H' L) := fun b o e n => by
  have nb : b ≠ L := fun z => by rw [z, L2.del_same] at e; cases e
  rw [del_ne nb] at e ⊢
  exact S b o e n
theorem tabs_del {T : List (Addr × Str)} {H : Hp} {L : Addr} {xs : List V} (hL : H L = some (.lst xs)) (t : Tabs T H) : Tabs T (del H L) := fun q hq => by
  obtain ⟨ps, h1, h2, h3⟩ := t q hq
  refine ⟨ps, by rw [del_ne (fun z => by rw [z, hL] at h1; cases h1)]; exact h1, h2, fun pos cv hc => ?_⟩
  obtain ⟨c, e1, e2⟩ := h3 pos cv hc
  have nc : c ≠ L := fun z => by
    rw [z, hL] at e2
    have y := Option.some.inj e2
    unfold CodeO at y
    cases y
  exact ⟨c, e1, by rw [del_ne nc]; exact e2⟩
theorem Fx.step {T : List (Addr × Str)} {H H' : Hp} {L p : Addr} {n : Nat} {due : V} {D : PyData} {xs ys : List V} (f : Fx K T (del H L) p n w m due dw dm D) (S : ExtN (del H L) (del H' L)) (t : Tabs T (del H' L)) : Fx K T (del H' L) p n w m due dw dm D :=
  ⟨f.aw.ext S, f.am.ext S, f.Dw.ext S, f.Dm.ext S, f.Dd.ext S, f.pen.ext S, t⟩
end
end Ev
set_option Elab.async false
set_option linter.all false
set_option maxRecDepth 100000
set_option maxHeartbeats 4000000
namespace Ev
open PySem PySem.Spec PyProof.Rows L2 LamX
theorem textFrom_le : ∀ (ts : List Str) (k : Nat) (acc : Str), (textFrom k acc ts).length ≤ acc.length + (ts.map fun t => t.length + 2).sum
  | [], _, acc => by simp [textFrom]
  | t :: ts, k, acc => by
    have ih := textFrom_le ts (k + 1) (acc ++ (if k > 0 then ", " else "" : String) ++ t)
    have e : (acc ++ ((if k > 0 then ", " else "" : String) : Str) ++ t).length ≤ acc.length + (t.length + 2) := by
      rw [strLen_append, strLen_append]
      have e1 : ((", " : String) : Str).length = 2 := rfl
      have e5 : (("" : String) : Str).length = 0 := rfl
      by_cases h : k > 0
      · rw [if_pos h, e1]; omega
      · rw [if_neg h, e5]; omega
    simp only [textFrom, List.map_cons, List.sum_cons]
    omega
def Good (d : PyData) : Prop := d.showable = true ∧ d.shown.length ≤ sizeLine ∧ d.depth ≤ 20
def ElOk (d : PyData) : Prop := d.showable = true ∧ d.shown.length ≤ 3000 ∧ d.depth ≤ 15
theorem Small.el {d : PyData} (h : Small d) : ElOk d := ⟨h.1, by have := h.2.1; omega, by have := h.2.2; omega⟩
theorem all_el : ∀ {ds : List PyData}, (∀ d ∈ ds, ElOk d) → PyData.showableAll ds = true ∧ ((PyData.shownAll ds).map fun t => t.length + 2).sum ≤ 3002 * ds.length ∧ PyData.depthAll ds ≤ 15
  | [], _ => ⟨rfl, by simp [PyData.shownAll], by simp [PyData.depthAll]⟩
  | d :: ds, h => by
    obtain ⟨a1, a2, a3⟩ := all_el fun x hx => h x (List.mem_cons_of_mem _ hx)
    obtain ⟨b1, b2, b3⟩ := h d (by simp)
    refine ⟨by simp [PyData.showableAll, a1, b1], ?_, ?_⟩
    · simp only [PyData.shownAll, List.map_cons, List.sum_cons, List.length_cons]
      omega
    · simp only [PyData.depthAll]
      omega
theorem good_list {ds : List PyData} (h : ∀ d ∈ ds, ElOk d) (hl : ds.length ≤ 100) : Good (.list ds) := by
  obtain ⟨a1, a2, a3⟩ := all_el h
  refine ⟨by simp only [PyData.showable]; exact a1, ?_, by simp only [PyData.depth]; omega⟩
  have e2 : (("[" : String) : Str).length = 1 := rfl
  have e3 : (("]" : String) : Str).length = 1 := rfl
  have z := textFrom_le (PyData.shownAll ds) 0 "["
  rw [e2] at z
  simp only [PyData.shown, listText, strLen_append, e3]
  rw [sizeLine_eq]
  omega
theorem el_pair {d e : PyData} (h : Small d) (h2 : Small e) : ElOk (.list [d, e]) ∧ ElOk (.tuple [d, e]) := by
  obtain ⟨a1, a2, a3⟩ := h
  obtain ⟨b1, b2, b3⟩ := h2
  have e1 : ((", " : String) : Str).length = 2 := rfl
  have e2 : (("[" : String) : Str).length = 1 := rfl
  have e3 : (("]" : String) : Str).length = 1 := rfl
  have e4 : (("" : String) : Str).length = 0 := rfl
  have e5 : (("(" : String) : Str).length = 1 := rfl
  have e6 : ((")" : String) : Str).length = 1 := rfl
  refine ⟨⟨by simp [PyData.showable, PyData.showableAll, a1, b1], ?_, by simp only [PyData.depth, PyData.depthAll]; omega⟩, by simp [PyData.showable, PyData.showableAll, a1, b1], ?_, by simp only [PyData.depth, PyData.depthAll]; omega⟩
  · simp only [PyData.shown, PyData.shownAll, listText, textFrom, strLen_append, e1, e2, e3, e4, Nat.lt_irrefl, if_false, Nat.zero_lt_succ, if_true, gt_iff_lt]
    omega
  · show ((("(" : String) : Str) ++ (d.shown ++ ((", " : String) : Str) ++ e.shown) ++ ((")" : String) : Str)).length ≤ 3000
    rw [strLen_append, strLen_append, strLen_append, strLen_append, e5, e6, e1]
    omega
theorem small_zero : Small (.int 0) := small_int (by decide) (by decide)
theorem small_tag (t : Str) (h : t = "name" ∨ t = "times") : Small (.str t) := by
  rcases h with rfl | rfl
  · exact TxtOk.small ⟨by decide +kernel, by decide +kernel⟩
  · exact TxtOk.small ⟨by decide +kernel, by decide +kernel⟩
theorem kindDue_el {K : PySem.W.Frag} {H : Hp} {w m : V} {dw dm : PyData} (h1 : Small dw) (h2 : Small dm) : ElOk (kindDue w m dw dm) := by
  unfold kindDue
  split
  · split
    · exact (el_pair h1 small_zero).1
    · exact (el_pair (small_tag _ (.inr rfl)) h2).2
  · exact (el_pair (small_tag _ (.inl rfl)) h1).2
theorem useDue_el {K : PySem.W.Frag} {H : Hp} {w : V} {dw : PyData} (h1 : Small dw) (d : Dr K H w dw) : ElOk (useDue w dw) := by
  unfold useDue
  split
  · rename_i hn
    obtain ⟨s, rfl, rfl, hl⟩ := name_is hn d
    simp only [nameB, Bool.and_eq_true, List.all_eq_true, decide_eq_true_eq] at hn
    have ok : TxtOk (("@" : Str) ++ s) := TxtOk.app (a := "@") ⟨by decide +kernel, by decide +kernel⟩ ⟨by omega, fun c hc => lets_lt c (hn.2.2.2 c hc)⟩ (by
      have e : (("@" : Str)).length = 1 := by decide +kernel
      rw [e]; omega)
    exact (el_pair ok.small small_zero).1
  · exact (el_pair (small_tag _ (.inl rfl)) h1).2
end Ev
set_option Elab.async false
set_option linter.all false
set_option maxRecDepth 100000
set_option maxHeartbeats 4000000
namespace H1
open PySem PySem.Spec PyProof.Rows L2 Ev LamX
abbrev pR : Str × Option Str := ("_law_right", none)
abbrev qL : Str := (envOfC "_law_right" (defScope (top 38)) 0 0 .none).qual ++ "<lambda>"
abbrev TR (K : PySem.W.Frag) : List (Addr × Str) := [((He.cT K pR).2, qL)]
abbrev sigH (g : Addr) (fd : FuncData) (K : PySem.W.Frag) : Prop := FnL K "_law_heard" 37 g fd
structure RTxt (P : Program) (w : World) (K : PySem.W.Frag) (mg : Str → Option Value) (base : Heap) (fWd fPk fDr fIs fH fKi fUi : Addr) (dWd dPk dDr dIs dH dKi dUi : FuncData) : Prop where
  gWd : mg "_law_word" = some (.ref fWd)
  FWd : FnL K "_law_word" 35 fWd dWd
  GWd : FnOk P w K mg base CX0 3 fWd dWd ["_law_pen_here"] (spWord K)
  gPk : mg "_law_pick" = some (.ref fPk)
  FPk : FnL K "_law_pick" 34 fPk dPk
  GPk : FnOk P w K mg base CX0 2 fPk dPk ["_law_pen_here", "_law_some"] (spPick K)
  gDr : mg "_law_draw" = some (.ref fDr)
  FDr : FnL K "_law_draw" 33 fDr dDr
  GDr : FnOk P w K mg base CX0 1 fDr dDr ["_law_pen_here", "_law_many"] spDraw
  gIs : mg "_law_is_name" = some (.ref fIs)
  FIs : FnL K "_law_is_name" 36 fIs dIs
  GIs : FnOk P w K mg base CX0 1 fIs dIs ["_law_thing"] (spNameL K)
  gH : mg "_law_heard" = some (.ref fH)
  FH : FnL K "_law_heard" 37 fH dH
  tIsi : mg "isinstance" = none
  tInt : mg "int" = none
  tBool : mg "bool" = none
  tStr : mg "str" = none
  tRep : mg "repr" = none
  ht : HTxt P w K mg base
  gK : mg "Kind" = some (.ref (He.ga K "Kind"))
  FK : FnM K "Kind" "__init__" 17 0 dflK (He.ma K (He.ga K "Kind") "__init__") dKi
  GK : FnOk P w K mg base (L2.CX P w) 4 (He.ma K (He.ga K "Kind") "__init__") dKi ["self", "name", "times"] (spKind K)
  gU : mg "Use" = some (.ref (He.ga K "Use"))
  FU : FnM K "Use" "__init__" 19 0 [] (He.ma K (He.ga K "Use") "__init__") dUi
  GU : FnOk P w K mg base (L2.CX P w) 4 (He.ma K (He.ga K "Use") "__init__") dUi ["self", "name"] (spUse K)
abbrev NR : List Str := ["_law_pen_here", "_law_word_here", "_law_many", "_law_is_times", "_law_due", "_law_heard_here"]
theorem sc38 : FnScope NR ["_law_pen_here"] (defScope (top 38)) := ⟨rfl, rfl, rfl, by decide +kernel, rfl, by decide +kernel, by decide +kernel⟩
def spRight (K : PySem.W.Frag) : Sp := fun vs H Q _ => ∃ (p : Addr) (n : Nat), vs = [.ref p] ∧ PenAt H p n ∧ n + 20 ≤ 1000 ∧ Tabs (TR K) H ∧ ∀ (H' : Hp) (m : Nat), m ≤ n + 14 → PenAt H' p m → Tabs (TR K) H' → Q (.bl true) H'
section
variable {P : Program} {w : World} {K : PySem.W.Frag} {mg : Str → Option Value} {base : Heap} {fWd fPk fDr fIs fH fKi fUi : Addr} {fd dWd dPk dDr dIs dH dKi dUi : FuncData}
theorem b35 {f : Addr} {d : FuncData} (F : FnL K "_law_word" 35 f d) : Binds K d ["_law_pen_here"] [] := FunD.bindsN F fun _ _ _ _ _ _ us hl => match us, hl with | [_], _ => rfl
theorem b36 {f : Addr} {d : FuncData} (F : FnL K "_law_is_name" 36 f d) : Binds K d ["_law_thing"] [] := FunD.bindsN F fun _ _ _ _ _ _ us hl => match us, hl with | [_], _ => rfl
theorem bK3 {f : Addr} {d : FuncData} (F : FnM K "Kind" "__init__" 17 0 dflK f d) : Binds K d ["self", "name", "times"] [] := by
  obtain ⟨ds, v, b⟩ := FunD.binds1 F (ps := ["self", "name", "times"]) 3 1 (by simp) (by decide) (fun T kV doc pm an cdv ct us its h1 h2 => match us, h1, its, h2 with | [_, _, _], _, [_], _ => ⟨_, rfl, rfl⟩)
  cases v
  exact b
theorem bK2 {f : Addr} {d : FuncData} (F : FnM K "Kind" "__init__" 17 0 dflK f d) : ∃ ds, Vals [.int 1] ds ∧ Binds K d ["self", "name", "times"] ds :=
  FunD.binds1 F (ps := ["self", "name", "times"]) 2 0 (by simp) (by decide) (fun T kV doc pm an cdv ct us its h1 h2 => match us, h1, its, h2 with | [_, _], _, [_], _ => ⟨_, rfl, rfl⟩)
theorem bKk {f : Addr} {d : FuncData} (F : FnM K "Kind" "__init__" 17 0 dflK f d) : ∃ g, KBn K d ["self", "name", "times"] 1 ["times", "name"] g (fun vs zs => vs ++ zs.reverse) := by
  obtain ⟨its, b⟩ := FunD.kbindsD F (ps := ["self", "name", "times"]) 1 ["times", "name"] (fun us _ ws => us ++ ws.reverse) (by simp)
    (fun r1 _ r3 => r1.append r3.reverse) (fun T kV doc pm an cdv ct us its ws h1 h2 h3 => match us, h1, its, h2, ws, h3 with | [_], _, [_], _, [_, _], _ => ⟨_, rfl, rfl⟩)
  exact ⟨_, b⟩
theorem bU1 {f : Addr} {d : FuncData} (F : FnM K "Use" "__init__" 19 0 [] f d) : Binds K d ["self", "name"] [] := FunD.bindsN F fun _ _ _ _ _ _ us hl => match us, hl with | [_, _], _ => rfl
theorem bUk {f : Addr} {d : FuncData} (F : FnM K "Use" "__init__" 19 0 [] f d) : KBn K d ["self", "name"] 1 ["name"] (fun us ws => us ++ ws) (fun vs zs => vs ++ zs) := by
  obtain ⟨oc, od, dV, kV, doc, pm, an, cdv, ct, osl, rfl, lk, hcd, hD, hK⟩ := F.ex
  rcases hD with ⟨_, rfl⟩ | ⟨e, _⟩
  · refine ⟨fun s us ws X l1 l2 => ?_, fun r1 r2 => r1.append r2⟩
    match us, l1, ws, l2 with
    | [_], _, [_], _ => exact BindsTo.of_eq rfl
  · exact absurd rfl e
abbrev cR (P : Program) (w : World) (K : PySem.W.Frag) (mg : Str → Option Value) (base : Heap) (A : Around) (outer : List Env) (s : Shared) (H : Hp) (E : XK) : Cx :=
  (cxOf CX0 P w K mg base NR "_law_right" (defScope (top 38)) (He.fAd K pR) (.ref (He.codeOf K pR)) A outer s H E).nox
theorem lamR {A : Around} {outer : List Env} {s : Shared} {H : Hp} {E0' : XK} {params : Arguments} {body : Expr} {scope : Scope} {t : XK → TE} {p lpos pos : Pos}
    (T : RTxt P w K mg base fWd fPk fDr fIs fH fKi fUi dWd dPk dDr dIs dH dKi dUi) (TB : TabB base mg (He.cT K pR).1 (He.cT K pR).2) (hr : Room 7 (cR P w K mg base A outer s H E0').A)
    (L : LamS (defScope (top 38)) scope) (hdef : defaultsOf params (cR P w K mg base A outer s H E0').env = ([], []))
    (hbind : ∀ (q : Str) (cl : List (Str × Addr)) (pm cv ctv : Value), bindArgs (PySem.W.kla_fn "<lambda>" q params body scope cl pm cv ctv) ⟨[], []⟩ = pure [])
    (hbody : ∀ (A' : Around) (outer' : List Env) (s' : Shared) (H' : Hp) (E : XK) (f c' : Addr), Room 5 (A'.deeper (lamEnv (cR P w K mg base A outer s H E0') scope s'.heap.objs.size f c')) →
      PE (lamCx (cR P w K mg base A outer s H E0') A' outer' s' H' E scope f c') body (t E)) :
    PE (cR P w K mg base A outer s H E0') (.Call (.Name "_law_heard" p) [.Lambda params body scope lpos] [] pos) (tLam (TR K) (THeard K) t) := by
  have hb := FunD.bindsN T.FH (ps := ["_law_deed"]) fun _ _ _ _ _ _ us hl => match us, hl with | [_], _ => rfl
  obtain ⟨oc, od, dV, kV, doc, pm, an, cdv, ct, osl, rfl, lk, hcd, hD, hK⟩ := T.FH.ex
  exact pe_lamcall (X := cR P w K mg base A outer s H E0') (T := TR K) (TT := THeard K) (c := (He.cT K pR).1) (P := (He.cT K pR).2) (by rfl) T.gH T.FH.kp lk hcd hb sc37 rfl (by first | exact .inl rfl | exact .inr (.inl rfl))
    (heard_gives (X := cR P w K mg base A outer s H E0') T.ht (hr.mono (by decide))) TB rfl (List.mem_singleton.mpr rfl) (fun q hq _ => by rw [List.mem_singleton.mp hq]; rfl) hr L hdef hbind hbody
end
end H1
set_option Elab.async false
set_option linter.all false
set_option maxRecDepth 100000
set_option maxHeartbeats 4000000
namespace Ev
open PySem PySem.Spec PyProof.Rows L2 LamX
theorem psimp {X : Cx} {st : Stmt} {t t' : TS} (hs : PS X st t) (h : ∀ D σ H, t' D σ H → t D σ H) : PS X st t' := ⟨fun pins s σ H D I z => hs.run pins s σ H D I (h D σ H z)⟩
def tWhole (K : PySem.W.Frag) (i : Nat) : TE := fun σ H Q => ∃ v, σ[i]? = some (some v) ∧ Any K H v ∧ Q (.bl (wholeB v 1 8)) H
def firstD (b : Bool) (dw dm : PyData) : PyData := if b = true then .list [dw, .int 0] else .tuple [.str "times", dm]
def tDue (K : PySem.W.Frag) : TE := fun σ H Q => ∃ (w m : V) (b : Bool) (dw dm : PyData), σ[1]? = some (some w) ∧ σ[2]? = some (some m) ∧ σ[3]? = some (some (.bl b)) ∧ Dr K H w dw ∧ Small dw ∧ Dr K H m dm ∧ (∀ s, w = .str s → TxtOk s) ∧
  ∀ L H', Same H H' → Dr K H' (.ref L) (.list [firstD b dw dm, firstD b dw dm, .list [dw, .int 0], .list [.str ("@" ++ strD dw), .int 0], .list [.str ("@" ++ strD dw), .int 0]]) → Q (.ref L) H'
def tFirst (K : PySem.W.Frag) : TE := fun σ H Q => ∃ (w m : V) (b : Bool) (dw dm : PyData), σ[1]? = some (some w) ∧ σ[2]? = some (some m) ∧ σ[3]? = some (some (.bl b)) ∧ Dr K H w dw ∧ Dr K H m dm ∧
  ∀ v H', Same H H' → Dr K H' v (firstD b dw dm) → Q v H'
theorem strD_len {K : PySem.W.Frag} {H : Hp} {w : V} {dw : PyData} (d : Dr K H w dw) (s : Small dw) (t : ∀ s, w = .str s → TxtOk s) : (strD dw).length ≤ 1000 := by
  cases d with
  | str x => have := (t x rfl).1; show x.length ≤ 1000; omega
  | non => exact s.2.1
  | bl b => exact s.2.1
  | int i => exact s.2.1
  | lst h1 h2 => exact s.2.1
  | tup h1 h2 => exact s.2.1
  | dct h1 h2 => exact s.2.1
theorem same_upd {H : Hp} {x : Addr} {o : HO} (hx : H x = none) : Same H (upd H x o) := fun b u z => by rw [upd_ne (ne_of_none z hx)]; exact z
def rightD (w m : V) (dw dm : PyData) : PyData := .list [kindDue w m dw dm, kindDue w m dw dm, kindDue w (.int 1) dw (.int 1), useDue w dw, useDue w dw]
def tNamed (K : PySem.W.Frag) : TS := fun D σ H => ∃ (p : V) (w m b : V) (L0 : Addr) (dw dm : PyData), σ = [some p, some w, some m, some b, some (.ref L0), none] ∧ Any K H w ∧ (∀ s, w = .str s → TxtOk s) ∧ Dr K H w dw ∧
  Dr K H (.ref L0) (.list [firstD (wholeB m 1 8) dw dm, firstD (wholeB m 1 8) dw dm, .list [dw, .int 0], .list [.str ("@" ++ strD dw), .int 0], .list [.str ("@" ++ strD dw), .int 0]]) ∧
  ∀ L' H', Same H H' → Dr K H' (.ref L') (rightD w m dw dm) → D.nx [some p, some w, some m, some b, some (.ref L'), none] H'
theorem rightD_yes {w m : V} {dw dm : PyData} (h : nameB w = true) : rightD w m dw dm = .list [firstD (wholeB m 1 8) dw dm, firstD (wholeB m 1 8) dw dm, .list [dw, .int 0], .list [.str ("@" ++ strD dw), .int 0], .list [.str ("@" ++ strD dw), .int 0]] := by
  have e : wholeB (.int 1) 1 8 = true := by decide
  unfold rightD kindDue useDue firstD
  rw [h, e]
  rfl
theorem rightD_no {w m : V} {dw dm : PyData} (h : nameB w = false) : rightD w m dw dm = .list [.tuple [.str "name", dw], .tuple [.str "name", dw], .tuple [.str "name", dw], .tuple [.str "name", dw], .tuple [.str "name", dw]] := by
  unfold rightD kindDue useDue
  rw [h]
  rfl
theorem DrAll.app {K : PySem.W.Frag} {H : Hp} : ∀ {vs ws : List V} {ds es : List PyData}, DrAll K H vs ds → DrAll K H ws es → DrAll K H (vs ++ ws) (ds ++ es)
  | _, _, _, _, .nil, b => b
  | _, _, _, _, .cons a r, b => .cons a (DrAll.app r b)
theorem del_upd {H : Hp} {L : Addr} {o : HO} : del (upd H L o) L = del H L := by
  funext b
  by_cases h : b = L
  · rw [h, L2.del_same, L2.del_same]
  · rw [del_ne h, del_ne h, upd_ne h]
theorem Fx.next {K : PySem.W.Frag} {T : List (Addr × Str)} {H H1 H2 : Hp} {L p : Addr} {n : Nat} {w m due v : V} {dw dm D d : PyData} {vs : List V} {ds : List PyData} (h : H L = some (.lst vs)) (f : Fx K T (del H L) p n w m due dw dm D) (V' : DrAll K (del H L) vs ds)
    (x : ExtN H H1) (t : Tabs T H1) (S : Same H1 H2) (Dv : Dr K (del H2 L) v d) :
    H2 L = some (.lst vs) ∧ (upd H2 L (.lst (vs ++ [v]))) L = some (.lst (vs ++ [v])) ∧ Fx K T (del (upd H2 L (.lst (vs ++ [v]))) L) p n w m due dw dm D ∧ DrAll K (del (upd H2 L (.lst (vs ++ [v]))) L) (vs ++ [v]) (ds ++ [d]) := by
  have x2 : ExtN H H2 := x.trans (ext_of S)
  have h2 : H2 L = some (.lst vs) := x2 _ _ h fun ps z => by cases z
  have t2 : Tabs T H2 := t.ext S
  refine ⟨h2, upd_same, ?_, ?_⟩
  · rw [del_upd]
    exact f.step (xs := vs) (ys := vs) (ext_del x2) (tabs_del h2 t2)
  · rw [del_upd]
    exact DrAll.app (V'.ext (ext_del x2)) (.cons Dv .nil)
end Ev
namespace H1
open PySem PySem.Spec PyProof.Rows L2 Ev LamX
section
variable {P : Program} {w : World} {K : PySem.W.Frag} {mg : Str → Option Value} {base : Heap} {fWd fPk fDr fIs fH fKi fUi : Addr} {fd dWd dPk dDr dIs dH dKi dUi : FuncData}
theorem ok_right (F : FnL K "_law_right" 38 (He.fAd K pR) fd) (T : RTxt P w K mg base fWd fPk fDr fIs fH fKi fUi dWd dPk dDr dIs dH dKi dUi) (TB : TabB base mg (He.cT K pR).1 (He.cT K pR).2) :
    FnG P w K mg base CX0 8 (He.fAd K pR) (spRight K) := by
  have hbK3 := bK3 T.FK
  obtain ⟨ds2, v2, hbK2⟩ := bK2 T.FK
  obtain ⟨gk, hbKk⟩ := bKk T.FK
  have hbU := bU1 T.FU
  have hbUk := bUk T.FU
  refine okGc F sc38 (fun _ _ _ _ _ _ us hl => match us, hl with | [_], _ => rfl) (fun vs H Q E h => ?_) (fun A outer s H vs Q E hg hr h => ?_)
  · obtain ⟨p, n, rfl, _⟩ := h
    rfl
  · obtain ⟨p, n, rfl, pen, hn, hT, q⟩ := h
    have hgd : (A.deeper (envOfC "_law_right" (defScope (top 38)) s.heap.objs.size (He.fAd K pR) (.ref (He.codeOf K pR)))).guards = some [] := hg
    have rp : CallR (cR P w K mg base A outer s H E) (.builtin "repr") (rRepr K) := call_repr hgd hr.units T.ht.er.sys
    have st : CallR (cR P w K mg base A outer s H E) (.type "str") (rStrD K) := call_strD hgd hr.units T.ht.er.sys
    have hr3 : Room 3 (cR P w K mg base A outer s H E).A := hr.mono (by decide)
    have hr2 : Room 2 (cR P w K mg base A outer s H E).A := hr.mono (by decide)
    have hr1 : Room 1 (cR P w K mg base A outer s H E).A := hr.mono (by decide)
    refine ⟨_, PSs.nox (pss_cons (ps_set (i := 1) sc38.nd rfl (Or.inr rfl) (pe_call (E := E0) T.GWd hr3 (by rfl) T.gWd T.FWd.kp (b35 T.FWd) .nil pass0 (pa_cons (pv 0) pa_nil)))
      (pss_cons (ps_set (i := 2) sc38.nd rfl (Or.inr rfl) (pe_call (E := E0) T.GPk hr2 (by rfl) T.gPk T.FPk.kp (b34 T.FPk) .nil pass0 (pa_cons (pv 0) (pa_cons (pe_lst
          (pa_cons pe_int (pa_cons pe_int (pa_cons pe_int (pa_cons (pe_op op_add pe_int (pe_call (E := E0) T.GDr hr1 (by rfl) T.gDr T.FDr.kp (b33 T.FDr) .nil pass0 (pa_cons (pv 0) (pa_cons pe_int pa_nil))))
          (pa_cons pe_int (pa_cons pe_int (pa_cons (pe_un un_neg pe_int) (pa_cons pe_bl (pa_cons pe_non (pa_cons pe_str (pa_cons (pe_tup (pa_cons pe_int pa_nil)) (pa_cons (pe_op op_pow pe_int pe_int) pa_nil))))))))))))) pa_nil))))
      (pss_cons (ps_set (i := 3) sc38.nd rfl (Or.inl rfl) (PE.imp (t' := tWhole K 2) (pe_and (pe_callB call_isi (by rfl) T.tIsi (by decide +kernel) (pa_cons (pv 2) (pa_cons (pe_bltn (v := .ty "int") (by rfl) T.tInt (by decide +kernel) rfl) pa_nil)))
          (pe_and (pe_not (pe_callB call_isi (by rfl) T.tIsi (by decide +kernel) (pa_cons (pv 2) (pa_cons (pe_bltn (v := .ty "bool") (by rfl) T.tBool (by decide +kernel) rfl) pa_nil))))
          (pe_one (pe_chain op_le op_le pe_int (pv 2) pe_int)))) (fun σ H Q h => by
          obtain ⟨v, hv, an, q⟩ := h
          cases an with
          | int i =>
            refine ⟨_, hv, _, .ty "int", .type "int", .type "int", true, rfl, .ty "int", .base (.int i), kit_ty (by decide +kernel), true, rfl, iteT ?_⟩
            refine ⟨_, hv, _, .ty "bool", .type "int", .type "bool", false, rfl, .ty "bool", .base (.int i), kit_ty (by decide +kernel), false, rfl, true, rfl, iteT ?_⟩
            refine ⟨_, hv, _, _, rfl, rfl, _, rfl, ?_⟩
            refine ite2 (fun h1 => ?_) (fun h1 => ?_)
            · refine ⟨_, _, rfl, rfl, ?_⟩
              have h1' := of_decide_eq_true h1
              have e : wholeB (.int i) 1 8 = decide (i ≤ 8) := by simp [wholeB, h1']
              rw [e] at q
              exact q
            · have h1' : ¬ 1 ≤ i := fun z => h1 (decide_eq_true z)
              have e : wholeB (.int i) 1 8 = false := by simp [wholeB, h1']
              rw [e] at q
              exact q
          | bl b =>
            refine ⟨_, hv, _, .ty "int", .type "bool", .type "int", true, rfl, .ty "int", .base (.bl b), kit_ty (by decide +kernel), true, rfl, iteT ?_⟩
            exact ⟨_, hv, _, .ty "bool", .type "bool", .type "bool", true, rfl, .ty "bool", .base (.bl b), kit_ty (by decide +kernel), true, rfl, false, rfl, iteF q⟩
          | str t z => exact ⟨_, hv, _, .ty "int", .type "str", .type "int", false, rfl, .ty "int", .base (.str t), kit_ty (by decide +kernel), false, rfl, iteF q⟩
          | non => exact ⟨_, hv, _, .ty "int", .type "NoneType", .type "int", false, rfl, .ty "int", .base .non, kit_ty (by decide +kernel), false, rfl, iteF q⟩
          | tup e => exact ⟨_, hv, _, .ty "int", .type "tuple", .type "int", false, rfl, .ty "int", .base (.tup e), kit_ty (by decide +kernel), false, rfl, iteF q⟩
          | lst e => exact ⟨_, hv, _, .ty "int", .type "list", .type "int", false, rfl, .ty "int", .base (.lst e), kit_ty (by decide +kernel), false, rfl, iteF q⟩
          | dic e => exact ⟨_, hv, _, .ty "int", .type "dict", .type "int", false, rfl, .ty "int", .base (.dK e), kit_ty (by decide +kernel), false, rfl, iteF q⟩)))
      (pss_cons (ps_set (i := 4) sc38.nd rfl (Or.inl rfl) (PE.imp (t' := tDue K) (pe_op op_cat (pe_op op_cat
          (pe_op op_rep (pe_lst (pa_cons (PE.imp (t' := tFirst K) (pe_ifExp (pt_val (pv 3)) (pe_lst (pa_cons (pv 1) (pa_cons pe_int pa_nil))) (pe_tup (pa_cons pe_str (pa_cons (pv 2) pa_nil)))) (fun σ H Q h => by
            obtain ⟨w, m, b, dw, dm, hw, hm, hb, Dw, Dm, q⟩ := h
            refine ⟨_, hb, b, rfl, ?_⟩
            cases b with
            | true =>
              refine iteT ⟨_, hw, (by show 2 ≤ sizeLine; decide), fun a ha => q _ _ (same_upd ha) ?_⟩
              exact .lst (SqL.of upd_same) (.cons (Dw.same (same_upd ha)) (.cons (.int _) .nil))
            | false =>
              refine iteF ⟨_, hm, (by show 2 ≤ sizeLine; decide), fun a ha => q _ _ (same_upd ha) ?_⟩
              exact .tup (SqT.of upd_same) (.cons (.str _) (.cons (Dm.same (same_upd ha)) .nil)))) pa_nil)) pe_int)
          (pe_lst (pa_cons (pe_lst (pa_cons (pv 1) (pa_cons pe_int pa_nil))) pa_nil)))
          (pe_op op_rep (pe_lst (pa_cons (pe_lst (pa_cons (pe_op op_add_str pe_str (pe_callTy st (by rfl) T.tStr (by decide +kernel) (pa_cons (pv 1) pa_nil))) (pa_cons pe_int pa_nil))) pa_nil)) pe_int)) (fun σ H Q h => by
          obtain ⟨w, m, b, dw, dm, hw, hm, hb, Dw, sw, Dm, tx, q⟩ := h
          refine ⟨w, m, b, dw, dm, hw, hm, hb, Dw, Dm, fun v1 H1 S1 D1 => ?_⟩
          refine ⟨(by show 1 ≤ sizeLine; decide), fun l1 hl1 => ?_⟩
          generalize e2 : upd H1 l1 _ = H2 at *
          have S2 : Same H1 H2 := e2 ▸ same_upd hl1
          have h1 : H2 l1 = some (.lst [v1]) := e2 ▸ upd_same
          refine ⟨l1, 2, _, rfl, rfl, h1, by decide, by decide, (by show 1 * 2 ≤ sizeLine; decide), fun l2 hl2 => ?_⟩
          generalize e3 : upd H2 l2 _ = H3 at *
          have S3 : Same H2 H3 := e3 ▸ same_upd hl2
          have h2 : H3 l2 = some (.lst [v1, v1]) := e3 ▸ upd_same
          refine ⟨_, hw, (by show 2 ≤ sizeLine; decide), fun l3 hl3 => ?_⟩
          generalize e4 : upd H3 l3 _ = H4 at *
          have S4 : Same H3 H4 := e4 ▸ same_upd hl3
          have h3 : H4 l3 = some (.lst [w, .int 0]) := e4 ▸ upd_same
          refine ⟨(by show 1 ≤ sizeLine; decide), fun l4 hl4 => ?_⟩
          generalize e5 : upd H4 l4 _ = H5 at *
          have S5 : Same H4 H5 := e5 ▸ same_upd hl4
          have h4 : H5 l4 = some (.lst [.ref l3]) := e5 ▸ upd_same
          refine ⟨l2, l4, _, _, rfl, rfl, S5 _ _ (S4 _ _ h2), h4, (by show 2 + 1 ≤ sizeLine; decide), fun l5 hl5 => ?_⟩
          generalize e6 : upd H5 l5 _ = H6 at *
          have S6 : Same H5 H6 := e6 ▸ same_upd hl5
          have h5 : H6 l5 = some (.lst [v1, v1, .ref l3]) := e6 ▸ upd_same
          have S16 : Same H1 H6 := fun b o z => S6 _ _ (S5 _ _ (S4 _ _ (S3 _ _ (S2 _ _ z))))
          have S06 : Same H H6 := fun b o z => S16 _ _ (S1 _ _ z)
          have sl := strD_len Dw sw tx
          have one : (("@" : Str)).length = 1 := by decide +kernel
          refine ⟨_, hw, w, dw, rfl, Dw.same S06, sw.1, by rw [sizeLine_eq]; have := sw.2.1; omega, by have := sw.2.2; omega, _, _, rfl, rfl, by rw [one, sizeLine_eq]; omega, ?_⟩
          refine ⟨(by show 2 ≤ sizeLine; decide), fun l6 hl6 => ?_⟩
          generalize e7 : upd H6 l6 _ = H7 at *
          have S7 : Same H6 H7 := e7 ▸ same_upd hl6
          have h6 : H7 l6 = some (.lst [.str ("@" ++ strD dw), .int 0]) := e7 ▸ upd_same
          refine ⟨(by show 1 ≤ sizeLine; decide), fun l7 hl7 => ?_⟩
          generalize e8 : upd H7 l7 _ = H8 at *
          have S8 : Same H7 H8 := e8 ▸ same_upd hl7
          have h7 : H8 l7 = some (.lst [.ref l6]) := e8 ▸ upd_same
          refine ⟨l7, 2, _, rfl, rfl, h7, by decide, by decide, (by show 1 * 2 ≤ sizeLine; decide), fun l8 hl8 => ?_⟩
          generalize e9 : upd H8 l8 _ = H9 at *
          have S9 : Same H8 H9 := e9 ▸ same_upd hl8
          have h8 : H9 l8 = some (.lst [.ref l6, .ref l6]) := e9 ▸ upd_same
          refine ⟨l5, l8, _, _, rfl, rfl, S9 _ _ (S8 _ _ (S7 _ _ h5)), h8, (by show 3 + 2 ≤ sizeLine; decide), fun l9 hl9 => ?_⟩
          generalize e10 : upd H9 l9 _ = H10 at *
          have S10 : Same H9 H10 := e10 ▸ same_upd hl9
          have h9 : H10 l9 = some (.lst [v1, v1, .ref l3, .ref l6, .ref l6]) := e10 ▸ upd_same
          have S6' : Same H6 H10 := fun b o z => S10 _ _ (S9 _ _ (S8 _ _ (S7 _ _ z)))
          have S1' : Same H1 H10 := fun b o z => S6' _ _ (S16 _ _ z)
          have S0' : Same H H10 := fun b o z => S6' _ _ (S06 _ _ z)
          have x1 := D1.same S1'
          have x3 : Dr K H10 (.ref l3) (.list [dw, .int 0]) := .lst (SqL.of (S6' _ _ (S6 _ _ (S5 _ _ h3)))) (.cons (Dw.same S0') (.cons (.int _) .nil))
          have x6 : Dr K H10 (.ref l6) (.list [.str ("@" ++ strD dw), .int 0]) := .lst (SqL.of (S10 _ _ (S9 _ _ (S8 _ _ h6)))) (.cons (.str _) (.cons (.int _) .nil))
          exact q l9 H10 S0' (.lst (SqL.of h9) (.cons x1 (.cons x1 (.cons x3 (.cons x6 (.cons x6 .nil)))))))))
      (pss_cons (psimp (t' := tNamed K) (ps_if (pt_not (pt_val (pe_call (E := E0) T.GIs hr1 (by rfl) T.gIs T.FIs.kp (b36 T.FIs) .nil pass0 (pa_cons (pv 1) pa_nil))))
          (pss_one (ps_set (i := 4) sc38.nd rfl (Or.inl rfl) (pe_op op_rep (pe_lst (pa_cons (pe_tup (pa_cons pe_str (pa_cons (pv 1) pa_nil))) pa_nil)) pe_int))) pss_nil) (fun D σ H h => by
          obtain ⟨p, w, m, b, L0, dw, dm, rfl, an, tx, Dw, D0, q⟩ := h
          refine ⟨_, rfl, w, rfl, an, tx, fun H1 S1 => ⟨_, rfl, ?_⟩⟩
          refine ite2 (fun h1 => ?_) (fun h1 => ?_)
          · have e1 : nameB w = false := by simpa using h1
            refine ⟨_, rfl, (by show 2 ≤ sizeLine; decide), fun t ht => ?_⟩
            generalize e2 : upd H1 t _ = H2 at *
            have S2 : Same H1 H2 := e2 ▸ same_upd ht
            have h2 : H2 t = some (.tup [.str "name", w]) := e2 ▸ upd_same
            refine ⟨(by show 1 ≤ sizeLine; decide), fun l hl => ?_⟩
            generalize e3 : upd H2 l _ = H3 at *
            have S3 : Same H2 H3 := e3 ▸ same_upd hl
            have h3 : H3 l = some (.lst [.ref t]) := e3 ▸ upd_same
            refine ⟨l, 5, _, rfl, rfl, h3, by decide, by decide, (by show 1 * 5 ≤ sizeLine; decide), fun l2 hl2 => ?_⟩
            generalize e4 : upd H3 l2 _ = H4 at *
            have S4 : Same H3 H4 := e4 ▸ same_upd hl2
            have h4 : H4 l2 = some (.lst [.ref t, .ref t, .ref t, .ref t, .ref t]) := e4 ▸ upd_same
            have S04 : Same H H4 := fun b o z => S4 _ _ (S3 _ _ (S2 _ _ (S1 _ _ z)))
            have x : Dr K H4 (.ref t) (.tuple [.str "name", dw]) := .tup (SqT.of (S4 _ _ (S3 _ _ h2))) (.cons (.str _) (.cons (Dw.same S04) .nil))
            refine q l2 H4 S04 ?_
            rw [rightD_no e1]
            exact .lst (SqL.of h4) (.cons x (.cons x (.cons x (.cons x (.cons x .nil)))))
          · have e1 : nameB w = true := by simpa using h1
            refine q L0 H1 S1 ?_
            rw [rightD_yes e1]
            exact D0.same S1))
      (pss_cons (ps_set (i := 5) sc38.nd rfl (Or.inl rfl) (pe_lst (pa_cons (lamR (t := fun E => tMake (He.ga K "Kind") (spKind K) [] E (tCons (tVar 1) (tCons (tVar 2) tNil))) T TB hr (lamS_by (by decide +kernel)) rfl (fun _ _ _ _ _ => rfl)
          (fun A' o' s' H' E' f c' hr' => pe_make T.ht.cl.kind.mkr T.GK hr' (by rfl) T.gK hbK3 .nil (passes_call (takes_of rfl rfl rfl rfl) (fun _ _ _ _ h => h)) (pa_cons (pv 1) (pa_cons (pv 2) pa_nil)))) pa_nil)))
      (pss_cons (ps_expr (pe_bm PySem.F.plainAttrs_list PySem.F.slot_list_append PySem.F.type_list_append mt_append (pv 5) (pa_cons (lamR (t := fun E => tMakeK (He.ga K "Kind") 0 (["times", "name"] : List Str).length (spKind K) (fun vs zs => vs ++ zs.reverse) E tNil (tCons (tVar 2) (tCons (tVar 1) tNil))) T TB hr (lamS_by (by decide +kernel)) rfl (fun _ _ _ _ _ => rfl)
          (fun A' o' s' H' E' f c' hr' => pe_makeK0 T.ht.cl.kind.mkr T.GK hr' (by rfl) T.gK hbKk (passes_call (takes_of rfl rfl rfl rfl) (fun _ _ _ _ h => h)) (pk_cons (pv 2) (pk_cons (pv 1) pk_nil)))) pa_nil)))
      (pss_cons (ps_expr (pe_bm PySem.F.plainAttrs_list PySem.F.slot_list_append PySem.F.type_list_append mt_append (pv 5) (pa_cons (lamR (t := fun E => tMake (He.ga K "Kind") (spKind K) [.int 1] E (tCons (tVar 1) tNil)) T TB hr (lamS_by (by decide +kernel)) rfl (fun _ _ _ _ _ => rfl)
          (fun A' o' s' H' E' f c' hr' => pe_make T.ht.cl.kind.mkr T.GK hr' (by rfl) T.gK hbK2 v2 (passes_call (takes_of rfl rfl rfl rfl) (fun _ _ _ _ h => h)) (pa_cons (pv 1) pa_nil))) pa_nil)))
      (pss_cons (ps_expr (pe_bm PySem.F.plainAttrs_list PySem.F.slot_list_append PySem.F.type_list_append mt_append (pv 5) (pa_cons (lamR (t := fun E => tMake (He.ga K "Use") (spUse K) [] E (tCons (tVar 1) tNil)) T TB hr (lamS_by (by decide +kernel)) rfl (fun _ _ _ _ _ => rfl)
          (fun A' o' s' H' E' f c' hr' => pe_make T.ht.cl.use.mkr T.GU hr' (by rfl) T.gU hbU .nil (passes_call (takes_of rfl rfl rfl rfl) (fun _ _ _ _ h => h)) (pa_cons (pv 1) pa_nil))) pa_nil)))
      (pss_cons (ps_expr (pe_bm PySem.F.plainAttrs_list PySem.F.slot_list_append PySem.F.type_list_append mt_append (pv 5) (pa_cons (lamR (t := fun E => tMakeK (He.ga K "Use") 0 (["name"] : List Str).length (spUse K) (fun vs zs => vs ++ zs) E tNil (tCons (tVar 1) tNil)) T TB hr (lamS_by (by decide +kernel)) rfl (fun _ _ _ _ _ => rfl)
          (fun A' o' s' H' E' f c' hr' => pe_makeK0 T.ht.cl.use.mkr T.GU hr' (by rfl) T.gU hbUk (passes_call (takes_of rfl rfl rfl rfl) (fun _ _ _ _ h => h)) (pk_cons (pv 1) pk_nil))) pa_nil)))
      (pss_one (ps_ret (pe_cmpR op_eq (pe_callB rp (by rfl) T.tRep (by decide +kernel) (pa_cons (pv 5) pa_nil)) (pe_callB rp (by rfl) T.tRep (by decide +kernel) (pa_cons (pv 4) pa_nil)) (nomark _))))))))))))))
      , ?_⟩
    obtain ⟨c0, cells0, t0, l0, hp0, _⟩ := id pen
    -- word
    refine ⟨_, rfl, p, n, rfl, pen, by omega, fun wv H1 m1 hm1 ⟨dw, Dw1, sw, aw1, tx⟩ pen1 k1 => ?_⟩
    have hT1 : Tabs (TR K) H1 := tabs_but hp0 k1 hT
    obtain ⟨c1, cells1, t1', l1', hp1, _⟩ := id pen1
    -- many
    refine ⟨_, rfl, _, rfl, p, 8, m1, rfl, by decide, by decide, pen1, by omega, fun z H2 z0 z1 pen2 k2 => ?_⟩
    have hT2 : Tabs (TR K) H2 := tabs_but hp1 k2 hT1
    obtain ⟨o2, p2⟩ := pen2.ex
    refine ⟨_, _, rfl, rfl, _, rfl, (by show 1 ≤ sizeLine; decide), fun t1 ht1 => ?_⟩
    generalize e3 : upd H2 t1 _ = H3 at *
    obtain ⟨s3, a3, _, p3, _⟩ := new_at p2 ht1 e3
    refine ⟨_, _, rfl, rfl, ⟨by decide, by decide, by decide⟩, (by show 12 ≤ sizeLine; decide), fun l1 hl1 => ?_⟩
    generalize e4 : upd H3 l1 _ = H4 at *
    obtain ⟨s4, _, h4, p4, l1p⟩ := new_at p3 hl1 e4
    have s24 : Same H2 H4 := fun b o e => s4 _ _ (s3 _ _ e)
    refine ⟨p, l1, _, _, rfl, h4, l1p, (by show 0 < 12; decide), (by show 12 ≤ 100000; decide), pen2.same s24, by omega, fun mv H5 hmv pen5 k5 => ?_⟩
    have k15 : But p H1 H5 := k2.tr ((But.of s24).tr k5)
    have hT5 : Tabs (TR K) H5 := tabs_but hp1 k15 hT1
    have aw5 : Any K (del H5 p) wv := aw1.same k15.del
    have Dw5 : Dr K (del H5 p) wv dw := Dw1.same k15.del
    have M5 : ∃ dm, Dr K (del H5 p) mv dm ∧ Small dm ∧ Any K (del H5 p) mv := by
      have d3 : del H5 p t1 = some (.tup [.int 1]) := k5.del _ _ (same_del s4 _ _ a3)
      have hx : mv ∈ ([.int 1, .int 2, .int 8, .int (1 + z), .int 0, .int 9, .int (-1), .bl true, .non, .str "1", .ref t1, .int ((10 : Int) ^ 40)] : List V) := hmv
      have sm : ∀ i : Int, 0 ≤ i → i < 10 ^ 6 → ∃ dm, Dr K (del H5 p) (.int i) dm ∧ Small dm ∧ Any K (del H5 p) (.int i) := fun i h0 h1 => ⟨_, .int i, small_int h0 h1, .int i⟩
      simp only [List.mem_cons, List.not_mem_nil, or_false] at hx
      rcases hx with rfl | rfl | rfl | rfl | rfl | rfl | rfl | rfl | rfl | rfl | rfl | rfl
      · exact sm _ (by decide) (by decide)
      · exact sm _ (by decide) (by decide)
      · exact sm _ (by decide) (by decide)
      · exact sm _ (by omega) (by omega)
      · exact sm _ (by decide) (by decide)
      · exact sm _ (by decide) (by decide)
      · exact ⟨_, .int _, ⟨by decide +kernel, by decide +kernel, by decide +kernel⟩, .int _⟩
      · exact ⟨_, .bl true, ⟨by decide, by decide, by decide⟩, .bl true⟩
      · exact ⟨_, .non, ⟨by decide, by decide, by decide⟩, .non⟩
      · exact ⟨_, .str _, TxtOk.small ⟨by decide +kernel, by decide +kernel⟩, .str _ (by rw [sizeLine_eq]; decide +kernel)⟩
      · exact ⟨_, .tup (SqT.of d3) (.cons (.int 1) .nil), small_tup1 (by decide +kernel) (by decide +kernel) (by decide +kernel), .tup d3⟩
      · exact ⟨_, .int _, ⟨by decide +kernel, by decide +kernel, by decide +kernel⟩, .int _⟩
    obtain ⟨dm, Dm5, sm, am5⟩ := M5
    clear hmv e3 e4
    -- is_times, due, the name
    refine ⟨mv, rfl, am5.same del_same', ?_⟩
    refine ⟨wv, mv, _, dw, dm, rfl, rfl, rfl, Dw5.same del_same', sw, Dm5.same del_same', tx, fun L0 H6 S6 D6 => ?_⟩
    refine ⟨.ref p, wv, mv, _, L0, dw, dm, rfl, (aw5.same del_same').same S6, tx, (Dw5.same del_same').same S6, D6, fun L1 H7 S7 D7 => ?_⟩
    have S57 : Same H5 H7 := fun b o e => S7 _ _ (S6 _ _ e)
    obtain ⟨c5, cells5, t5, l5, hp5, _⟩ := id pen5
    have hp7 := S57 _ _ hp5
    have aw7 := aw5.same (same_del (p := p) S57)
    have am7 := am5.same (same_del (p := p) S57)
    have Dw7 := Dw5.same (same_del (p := p) S57)
    have Dm7 := Dm5.same (same_del (p := p) S57)
    have pen7 := pen5.same S57
    have hT7 : Tabs (TR K) H7 := hT5.ext S57
    clear S6 D6 S57
    have noT : ∀ {xs : List V} (ps : Array Value), (HO.lst xs : HO) ≠ .tbl ps := fun ps z => by cases z
    -- heard = [..]
    refine ⟨hT7, fun H8 x8 T8 => fun H9 R S9 hR => ⟨_, rfl, _, rfl, fun x dx hx hd ne => kindHeard (L := p) (x8 _ _ hp7 noT) (aw7.ext (ext_del x8)) (am7.ext (ext_del x8)) (Dw7.ext (ext_del x8)) (Dm7.ext (ext_del x8)) (fun v1 H10 S10 D1 => ?_) S9 hR x dx hx hd ne⟩⟩
    have x10 : ExtN H7 H10 := x8.trans (ext_of S10)
    have T10 : Tabs (TR K) H10 := T8.ext S10
    refine ⟨(by show 1 ≤ sizeLine; decide), fun L hL => ?_⟩
    generalize e11 : upd H10 L _ = H11 at *
    have h11 : H11 L = some (.lst [v1]) := e11 ▸ upd_same
    have S11 : Same H10 (del H11 L) := fun b o e => by
      have nb : b ≠ L := ne_of_none e hL
      rw [del_ne nb, ← e11, upd_ne nb]
      exact e
    have F1 : Fx K (TR K) (del H11 L) p _ wv mv (.ref L1) dw dm (rightD wv mv dw dm) :=
      ⟨(((aw7.same del_same').ext x10)).same S11, (((am7.same del_same').ext x10)).same S11, (((Dw7.same del_same').ext x10)).same S11, (((Dm7.same del_same').ext x10)).same S11, (D7.ext x10).same S11, (pen7.ext x10).same S11, T10.ext S11⟩
    have V1 : DrAll K (del H11 L) [v1] [kindDue wv mv dw dm] := .cons ((D1.same del_same').same S11) .nil
    clear x10 T10 S11 e11 D1 S10
    -- append 2
    refine ⟨_, rfl, .inl ⟨rfl, _, SqL.of h11⟩, F1.tabs.ext del_same', fun H12 x12 T12 => fun H13 R S13 hR => ⟨_, rfl, _, rfl, rfl, rfl, fun x dx hx hd ne => kindHeard (L := L) (x12 _ _ h11 noT) (F1.aw.ext (ext_del x12)) (F1.am.ext (ext_del x12)) (F1.Dw.ext (ext_del x12)) (F1.Dm.ext (ext_del x12)) (fun v2 H14 S14 D2 => ?_) S13 hR x dx hx hd ne⟩⟩
    obtain ⟨g2, h15, F2, V2⟩ := Fx.next h11 F1 V1 x12 T12 S14 D2
    refine ⟨L, _, _, rfl, rfl, g2, (by show 1 < sizeLine; rw [sizeLine_eq]; decide), ?_⟩
    generalize upd H14 L _ = H15 at *
    clear x12 T12 S14 D2 g2 F1 V1 h11
    -- append 3
    refine ⟨_, rfl, .inl ⟨rfl, _, SqL.of h15⟩, F2.tabs.ext del_same', fun H16 x16 T16 => fun H17 R S17 hR => ⟨_, rfl, fun x dx hx hd ne => kindHeard (L := L) (m := .int 1) (dm := .int 1) (x16 _ _ h15 noT) (F2.aw.ext (ext_del x16)) (.int 1) (F2.Dw.ext (ext_del x16)) (.int 1) (fun v3 H18 S18 D3 => ?_) S17 hR x dx hx hd ne⟩⟩
    obtain ⟨g3, h19, F3, V3⟩ := Fx.next h15 F2 V2 x16 T16 S18 D3
    refine ⟨L, _, _, rfl, rfl, g3, (by show 2 < sizeLine; rw [sizeLine_eq]; decide), ?_⟩
    generalize upd H18 L _ = H19 at *
    clear x16 T16 S18 D3 g3 F2 V2 h15
    -- append 4
    refine ⟨_, rfl, .inl ⟨rfl, _, SqL.of h19⟩, F3.tabs.ext del_same', fun H20 x20 T20 => fun H21 R S21 hR => ⟨_, rfl, fun x dx hx hd ne => useHeard (L := L) (x20 _ _ h19 noT) (F3.aw.ext (ext_del x20)) (F3.Dw.ext (ext_del x20)) (fun v4 H22 S22 D4 => ?_) S21 hR x dx hx hd ne⟩⟩
    obtain ⟨g4, h23, F4, V4⟩ := Fx.next h19 F3 V3 x20 T20 S22 D4
    refine ⟨L, _, _, rfl, rfl, g4, (by show 3 < sizeLine; rw [sizeLine_eq]; decide), ?_⟩
    generalize upd H22 L _ = H23 at *
    clear x20 T20 S22 D4 g4 F3 V3 h19
    -- append 5
    refine ⟨_, rfl, .inl ⟨rfl, _, SqL.of h23⟩, F4.tabs.ext del_same', fun H24 x24 T24 => fun H25 R S25 hR => ⟨_, rfl, rfl, rfl, fun x dx hx hd ne => useHeard (L := L) (x24 _ _ h23 noT) (F4.aw.ext (ext_del x24)) (F4.Dw.ext (ext_del x24)) (fun v5 H26 S26 D5 => ?_) S25 hR x dx hx hd ne⟩⟩
    obtain ⟨g5, h27, F5, V5⟩ := Fx.next h23 F4 V4 x24 T24 S26 D5
    refine ⟨L, _, _, rfl, rfl, g5, (by show 4 < sizeLine; rw [sizeLine_eq]; decide), ?_⟩
    generalize upd H26 L _ = H27 at *
    clear x24 T24 S26 D5 g5 F4 V4 h23
    -- repr(heard) == repr(due)
    have Ws : Dr K H27 wv dw := F5.Dw.same del_same'
    have gd : Good (rightD wv mv dw dm) := good_list (fun d hd => by
      simp only [List.mem_cons, List.not_mem_nil, or_false] at hd
      rcases hd with rfl | rfl | rfl | rfl | rfl
      · exact kindDue_el (K := K) (H := H27) sw sm
      · exact kindDue_el (K := K) (H := H27) sw sm
      · exact kindDue_el (K := K) (H := H27) sw (small_int (by decide) (by decide))
      · exact useDue_el sw Ws
      · exact useDue_el sw Ws) (by show 5 ≤ 100; decide)
    refine ⟨_, rfl, .ref L, rightD wv mv dw dm, rfl, .lst (SqL.of h27) (V5.same del_same'), gd.1, gd.2.1, gd.2.2, _, rfl, .ref L1, rightD wv mv dw dm, rfl, F5.Dd.same del_same', gd.1, gd.2.1, gd.2.2, rfl, ?_⟩
    have e : decide (V.str (rightD wv mv dw dm).shown = V.str (rightD wv mv dw dm).shown) = true := decide_eq_true rfl
    show Q (.bl (decide _)) H27
    rw [e]
    exact q H27 _ (by omega) (F5.pen.same del_same') (F5.tabs.ext del_same')
end
end H1
set_option Elab.async false
set_option linter.all false
set_option maxRecDepth 100000
set_option maxHeartbeats 4000000
namespace Ev
open PySem PySem.Spec PyProof.Rows L2
section
variable {K : PySem.W.Frag} {H : Hp} {Q : VK}
theorem made {H' : Hp} {x dx : Addr} {o o' : HO} (hx : H x = none) (hd : H dx = none) (B : But x (upd (upd H dx o) x o') H') : Same H H' := fun b u z => B _ _ (ne_of_none z hx) (same_make hx hd _ _ z)
theorem mkKind {one : Str} {first : Int} {x dx : Addr} (hx : H x = some (.ins (He.ga K "Kind") dx [])) (hn : nameB (.str one) = true) (hl : one.length ≤ sizeLine) (hw : wholeB (.int first) 1 8 = true)
    (q : ∀ H', But x H H' → KindAt K H' x (.str one) (.int first) → Q .non H') : spKind K [.ref x, .str one, .int first] H Q E0 :=
  ⟨x, dx, .str one, .int first, rfl, hx, .str one hl, .int first, (fun z => by rw [hn] at z; cases z), (fun _ z => by rw [hw] at z; cases z), fun _ _ H' B k => q H' B k⟩
theorem mkUse {one : Str} {x dx : Addr} (hx : H x = some (.ins (He.ga K "Use") dx [])) (hn : nameB (.str one) = true) (hl : one.length ≤ sizeLine) (q : ∀ H', But x H H' → UseAt K H' x (.str one) → Q .non H') :
    spUse K [.ref x, .str one] H Q E0 :=
  ⟨x, dx, .str one, rfl, hx, .str one hl, (fun z => by rw [hn] at z; cases z), fun _ H' B k => q H' B k⟩
theorem mkByte {x dx : Addr} (hx : H x = some (.ins (He.ga K "Byte") dx [])) (q : ∀ H', But x H H' → ByteAt K H' x → Q .non H') : spByte K [.ref x] H Q E0 := ⟨x, dx, rfl, hx, q⟩
end
section
variable {K : PySem.W.Frag} {H : Hp} {x z : Addr} {cn cn' : Str} {d d' : PyData} {y : V} {n : String} {Q : VK}
theorem ownE_part (T : PClss K) (hx : PtAt K H x cn d) (hz : PtAt K H z cn' d') (q : Q (.bl (decide (cn = cn') && (if cn = cn' then PyData.eqv d d' else false))) H) : rOwnE K (He.ga K cn) (spEq K) E0 (.ref x) (.ref z) H Q := by
  obtain ⟨C, dx, fs, tv, I⟩ := hx.is T
  obtain ⟨C', dx', fs', tv', I'⟩ := hz.is T
  have e := I.cC
  subst e
  have e' := I'.cC
  subst e'
  exact ⟨x, dx, fs, _, rfl, I.at_, I'.ty T, (T.PT.one cn I.mem).nf cn' I'.mem, x, .ref z, cn, d, _, rfl, hx, .part hz, q⟩
theorem ownNe_part (T : PClss K) (hx : PtAt K H x cn d) (hz : PtAt K H z cn' d') (q : Q (.bl (!(decide (cn = cn') && (if cn = cn' then PyData.eqv d d' else false)))) H) : rOwnNe K (He.ga K cn) (spEq K) E0 (.ref x) (.ref z) H Q := by
  obtain ⟨C, dx, fs, tv, I⟩ := hx.is T
  obtain ⟨C', dx', fs', tv', I'⟩ := hz.is T
  have e := I.cC
  subst e
  have e' := I'.cC
  subst e'
  exact ⟨x, dx, fs, _, rfl, I.at_, I'.ty T, (T.PT.one cn I.mem).nf cn' I'.mem, x, .ref z, cn, d, _, rfl, hx, .part hz, _, rfl, q⟩
theorem ownE_flat (T : PClss K) (hx : PtAt K H x cn d) (ty : TyX K H y (.type n)) (hn : n ∈ flatTypes) (q : Q (.bl false) H) : rOwnE K (He.ga K cn) (spEq K) E0 (.ref x) y H Q := by
  obtain ⟨C, dx, fs, tv, I⟩ := hx.is T
  have e := I.cC
  subst e
  exact ⟨x, dx, fs, _, rfl, I.at_, ty, (T.PT.one cn I.mem).ft n hn, x, y, cn, d, _, rfl, hx, .flat ty hn, q⟩
end
theorem kind_eqv (a b : Str) (i j : Int) : (decide (("Kind" : Str) = "Kind") && (if ("Kind" : Str) = "Kind" then PyData.eqv (.tuple [.str a, .int i]) (.tuple [.str b, .int j]) else false)) = (decide (a = b) && decide (i = j)) := by
  rw [if_pos rfl, decide_eq_true rfl, Bool.true_and]
  simp only [PyData.eqv, PyData.eqvAll, Bool.and_true]
  by_cases h : a = b <;> by_cases h2 : i = j <;> simp [h, h2]
theorem use_eqv (a b : Str) : (decide (("Use" : Str) = "Use") && (if ("Use" : Str) = "Use" then PyData.eqv (.tuple [.str a]) (.tuple [.str b]) else false)) = decide (a = b) := by
  rw [if_pos rfl, decide_eq_true rfl, Bool.true_and]
  simp only [PyData.eqv, PyData.eqvAll, Bool.and_true]
  by_cases h : a = b <;> simp [h]
theorem byte_eqv : (decide (("Byte" : Str) = "Byte") && (if ("Byte" : Str) = "Byte" then PyData.eqv (.tuple []) (.tuple []) else false)) = true := by
  rw [if_pos rfl, decide_eq_true rfl]
  rfl
theorem small_bool (b : Bool) : Small (.bool b) := by cases b <;> exact ⟨by decide, by decide, by decide⟩
theorem good_bools (a b c d e : Bool) : Good (.list [.bool a, .bool b, .bool c, .bool d, .bool e]) := good_list (fun x hx => by
  simp only [List.mem_cons, List.not_mem_nil, or_false] at hx
  rcases hx with rfl | rfl | rfl | rfl | rfl <;> exact (small_bool _).el) (by show 5 ≤ 100; decide)
theorem dec_strs (a b : Str) : decide (V.str a = V.str b) = decide (a = b) := by
  by_cases h : a = b <;> simp [h]
def tSame : TE := fun σ H Q => ∃ (a b : Str) (i j : Int), σ[2]? = some (some (.str a)) ∧ σ[3]? = some (some (.str b)) ∧ σ[4]? = some (some (.int i)) ∧ σ[5]? = some (some (.int j)) ∧ Q (.bl (decide (a = b) && decide (i = j))) H
def eqNames : List Str := ["a", "b", "ab", "zzzzzzzz"]
theorem eqNames_ok : ∀ s ∈ eqNames, nameB (.str s) = true ∧ PyData.strOk s = true ∧ s.length ≤ 8 := by decide +kernel
end Ev
namespace H1
open PySem PySem.Spec PyProof.Rows L2 Ev LamX
structure QTxt (P : Program) (w : World) (K : PySem.W.Frag) (mg : Str → Option Value) (base : Heap) (dBi : FuncData) : Prop where
  gB : mg "Byte" = some (.ref (He.ga K "Byte"))
  FB : FnM K "Byte" "__init__" 18 0 [] (He.ma K (He.ga K "Byte") "__init__") dBi
  GB : FnOk P w K mg base CX0 2 (He.ma K (He.ga K "Byte") "__init__") dBi ["self"] (spByte K)
  GE : FnR P w K mg base CX0 1 (He.ma K (He.ga K "Part") "__eq__") (spEq K)
def spEqual (K : PySem.W.Frag) : Sp := fun vs H Q _ => ∃ (p : Addr) (n : Nat), vs = [.ref p] ∧ PenAt H p n ∧ n + 10 ≤ 1000 ∧ ∀ (H' : Hp) (m : Nat), m ≤ n + 4 → PenAt H' p m → But p H H' → Q (.bl true) H'
abbrev NQ : List Str := ["_law_pen_here", "_law_words", "_law_one", "_law_other", "_law_first", "_law_second", "_law_kind", "_law_near", "_law_is_due", "_law_marks", "_law_odd", "_law_thing"]
theorem sc39 : FnScope NQ ["_law_pen_here"] (defScope (top 39)) := ⟨rfl, rfl, rfl, by decide +kernel, rfl, by decide +kernel, by decide +kernel⟩
section
variable {P : Program} {w : World} {K : PySem.W.Frag} {mg : Str → Option Value} {base : Heap} {f fWd fPk fDr fIs fH fKi fUi : Addr} {fd dWd dPk dDr dIs dH dKi dUi dBi : FuncData}
theorem bB1 {f : Addr} {d : FuncData} (F : FnM K "Byte" "__init__" 18 0 [] f d) : Binds K d ["self"] [] := FunD.bindsN F fun _ _ _ _ _ _ us hl => match us, hl with | [_], _ => rfl
theorem ok_equal (F : FnL K "_law_equal_right" 39 f fd) (T : RTxt P w K mg base fWd fPk fDr fIs fH fKi fUi dWd dPk dDr dIs dH dKi dUi) (B : QTxt P w K mg base dBi) : FnG P w K mg base CX0 8 f (spEqual K) := by
  have hbK3 := bK3 T.FK
  obtain ⟨ds2, v2, hbK2⟩ := bK2 T.FK
  have hbU := bU1 T.FU
  have hbB := bB1 B.FB
  have oK := T.ht.cl.PT.one "Kind" (by decide)
  have oU := T.ht.cl.PT.one "Use" (by decide)
  have oB := T.ht.cl.PT.one "Byte" (by decide)
  refine okG F sc39 (fun _ _ _ _ _ _ us hl => match us, hl with | [_], _ => rfl) (fun vs H Q E h => ?_) (fun cdv A outer s H vs Q E hg hr h => ?_)
  · obtain ⟨p, n, rfl, _⟩ := h
    rfl
  · obtain ⟨p, n, rfl, pen, hn, q⟩ := h
    have hgd : (A.deeper (envOfC "_law_equal_right" (defScope (top 39)) s.heap.objs.size f cdv)).guards = some [] := hg
    have rp : CallR (cxOf CX0 P w K mg base NQ "_law_equal_right" (defScope (top 39)) f cdv A outer s H E).nox (.builtin "repr") (rRepr K) := call_repr hgd hr.units T.ht.er.sys
    have hr5 : Room 5 (A.deeper (envOfC "_law_equal_right" (defScope (top 39)) s.heap.objs.size f cdv)) := hr.mono (by decide)
    have hr3 : Room 3 (A.deeper (envOfC "_law_equal_right" (defScope (top 39)) s.heap.objs.size f cdv)) := hr.mono (by decide)
    have hr2 : Room 2 (A.deeper (envOfC "_law_equal_right" (defScope (top 39)) s.heap.objs.size f cdv)) := hr.mono (by decide)
    have hr1 : Room 1 (A.deeper (envOfC "_law_equal_right" (defScope (top 39)) s.heap.objs.size f cdv)) := hr.mono (by decide)
    refine ⟨_, PSs.nox (pss_cons (ps_set (i := 1) sc39.nd rfl (Or.inl rfl) (pe_lst (pa_cons pe_str (pa_cons pe_str (pa_cons pe_str (pa_cons pe_str pa_nil))))))
      (pss_cons (ps_asg (pe_tup (pa_cons (pe_call (E := E0) T.GPk hr2 (by rfl) T.gPk T.FPk.kp (b34 T.FPk) .nil pass0 (pa_cons (pv 0) (pa_cons (pv 1) pa_nil)))
            (pa_cons (pe_call (E := E0) T.GPk hr2 (by rfl) T.gPk T.FPk.kp (b34 T.FPk) .nil pass0 (pa_cons (pv 0) (pa_cons (pv 1) pa_nil))) pa_nil)))
          (pg_tup rfl (pgs_cons (pg_name (i := 2) sc39.nd rfl (Or.inr rfl)) (pgs_cons (pg_name (i := 3) sc39.nd rfl (Or.inl rfl)) pgs_nil))))
      (pss_cons (ps_par (i := 4) (j := 5) rfl sc39.nd rfl rfl (by decide) rfl rfl (pa_cons (pe_op op_add pe_int (pe_call (E := E0) T.GDr hr1 (by rfl) T.gDr T.FDr.kp (b33 T.FDr) .nil pass0 (pa_cons (pv 0) (pa_cons pe_int pa_nil))))
            (pa_cons (pe_op op_add pe_int (pe_call (E := E0) T.GDr hr1 (by rfl) T.gDr T.FDr.kp (b33 T.FDr) .nil pass0 (pa_cons (pv 0) (pa_cons pe_int pa_nil)))) pa_nil)) (by rfl))
      (pss_cons (ps_asg (pe_tup (pa_cons (pe_make (E := E0) T.ht.cl.kind.mkr T.GK hr5 (by rfl) T.gK hbK3 .nil passL (pa_cons (pv 2) (pa_cons (pv 4) pa_nil)))
            (pa_cons (pe_make (E := E0) T.ht.cl.kind.mkr T.GK hr5 (by rfl) T.gK hbK3 .nil passL (pa_cons (pv 3) (pa_cons (pv 5) pa_nil))) pa_nil)))
          (pg_tup rfl (pgs_cons (pg_name (i := 6) sc39.nd rfl (Or.inr rfl)) (pgs_cons (pg_name (i := 7) sc39.nd rfl (Or.inl rfl)) pgs_nil))))
      (pss_cons (ps_if (pt_cmpR (op_neD hr.units) (pe_lst (pa_cons (pe_fld (pv 6) (by rfl)) (pa_cons (pe_fld (pv 6) (by rfl)) (pa_cons (pe_fld (pe_make (E := E0) T.ht.cl.kind.mkr T.GK hr5 (by rfl) T.gK hbK2 v2 passL (pa_cons (pv 2) pa_nil)) (by rfl))
            (pa_cons (pe_fld (pe_make (E := E0) T.ht.cl.use.mkr T.GU hr5 (by rfl) T.gU hbU .nil passL (pa_cons (pv 2) pa_nil)) (by rfl)) pa_nil))))) (pe_lst (pa_cons (pv 2) (pa_cons (pv 4) (pa_cons pe_int (pa_cons (pv 2) pa_nil))))) (nomark _)) (pss_one (ps_ret pe_bl)) pss_nil)
      (pss_cons (ps_set (i := 8) sc39.nd rfl (Or.inl rfl) (PE.imp (t' := tSame) (pe_and (pe_cmpR op_eq (pv 2) (pv 3) (nomark _)) (pe_one (pe_cmpR op_eq (pv 4) (pv 5) (nomark _)))) (fun σ H Q h => by
          obtain ⟨a, b, i, j, ha, hb, hi, hj, q⟩ := h
          refine ⟨_, ha, _, hb, rfl, _, rfl, ?_⟩
          refine ite2 (fun h1 => ?_) (fun h1 => ?_)
          · have e : a = b := by have := of_decide_eq_true h1; injection this
            refine ⟨_, hi, _, hj, rfl, ?_⟩
            have e2 : decide (V.int i = V.int j) = (decide (a = b) && decide (i = j)) := by
              rw [decide_eq_true e, Bool.true_and]
              by_cases h : i = j
              · simp [h]
              · simp [h]
            show Q (.bl (decide (V.int i = V.int j))) H
            rw [e2]
            exact q
          · have e : ¬ a = b := fun z => h1 (by rw [z]; exact decide_eq_true rfl)
            rw [decide_eq_false e, Bool.false_and] at q
            exact q)))
      (pss_cons (ps_set (i := 9) sc39.nd rfl (Or.inl rfl) (pe_lst (pa_cons (pe_cmpR (op_ownE (E := E0) oK.eq T.ht.cl.PT.eqF B.GE hr1 pass0) (pv 6) (pv 7) (nomark _))
          (pa_cons (pe_cmpR (op_ownNe (E := E0) oK.cm oK.ne oK.eq T.ht.cl.PT.eqF B.GE hr2 pass0) (pv 6) (pv 7) (nomark _))
          (pa_cons (pe_cmpR (op_ownE (E := E0) oU.eq T.ht.cl.PT.eqF B.GE hr1 pass0) (pe_make (E := E0) T.ht.cl.use.mkr T.GU hr5 (by rfl) T.gU hbU .nil passL (pa_cons (pv 2) pa_nil)) (pe_make (E := E0) T.ht.cl.use.mkr T.GU hr5 (by rfl) T.gU hbU .nil passL (pa_cons (pv 3) pa_nil)) (nomark _))
          (pa_cons (pe_cmpR (op_ownE (E := E0) oB.eq T.ht.cl.PT.eqF B.GE hr1 pass0) (pe_make0 (E := E0) T.ht.cl.byte.mkr B.GB hr3 (by rfl) B.gB hbB .nil pass0) (pe_make0 (E := E0) T.ht.cl.byte.mkr B.GB hr3 (by rfl) B.gB hbB .nil pass0) (nomark _))
          (pa_cons (pe_cmpR (op_ownNe (E := E0) oB.cm oB.ne oB.eq T.ht.cl.PT.eqF B.GE hr2 pass0) (pe_make0 (E := E0) T.ht.cl.byte.mkr B.GB hr3 (by rfl) B.gB hbB .nil pass0) (pe_make0 (E := E0) T.ht.cl.byte.mkr B.GB hr3 (by rfl) B.gB hbB .nil pass0) (nomark _)) pa_nil)))))))
      (pss_cons (ps_if (pt_cmpR op_ne (pe_callB rp (by rfl) T.tRep (by decide +kernel) (pa_cons (pv 9) pa_nil)) (pe_callB rp (by rfl) T.tRep (by decide +kernel) (pa_cons
            (pe_lst (pa_cons (pv 8) (pa_cons (pe_not (pv 8)) (pa_cons (pe_cmpR op_eq (pv 2) (pv 3) (nomark _)) (pa_cons pe_bl (pa_cons pe_bl pa_nil)))))) pa_nil)) (nomark _)) (pss_one (ps_ret pe_bl)) pss_nil)
      (pss_cons (ps_set (i := 10) sc39.nd rfl (Or.inl rfl) (pe_lst (pa_cons (pv 2) (pa_cons (pe_tup (pa_cons (pv 2) (pa_cons (pv 4) pa_nil))) (pa_cons pe_non (pa_cons pe_int (pa_cons pe_str
          (pa_cons (pe_make (E := E0) T.ht.cl.use.mkr T.GU hr5 (by rfl) T.gU hbU .nil passL (pa_cons (pv 2) pa_nil)) (pa_cons (pe_make0 (E := E0) T.ht.cl.byte.mkr B.GB hr3 (by rfl) B.gB hbB .nil pass0) pa_nil)))))))))
      (pss_cons (ps_if (pt_cmpR (op_neD hr.units) (pe_lc (own := [("_law_thing", 11)]) (g := gName 11) (tt := tTest (tOp (rOwnE K (He.ga K "Kind") (spEq K) E0) (tVar 6) (tVar 11))) (te := tVar 11) rfl sc39.nd (pi_list (pv 10)) (blkOk_by (N := NQ) (sc := defScope (top 39)) (by decide +kernel))
          (fun _ _ _ _ _ => pg_name (i := 11) sc39.nd rfl (Or.inl rfl)) (fun _ _ _ _ _ => pts_one (pt_cmpR (op_ownE (E := E0) oK.eq T.ht.cl.PT.eqF B.GE hr1 pass0) (pv 6) (pv 11) (nomark _))) (fun _ _ _ _ _ => pv 11)) (pe_lst pa_nil) (nomark _)) (pss_one (ps_ret pe_bl)) pss_nil)
      (pss_cons (ps_set (i := 10) sc39.nd rfl (Or.inl rfl) (pe_lst (pa_cons (pv 2) (pa_cons (pv 6) (pa_cons (pe_make0 (E := E0) T.ht.cl.byte.mkr B.GB hr3 (by rfl) B.gB hbB .nil pass0) (pa_cons (pe_op op_add_str pe_str (pv 2)) pa_nil))))))
      (pss_one (ps_ret (pe_and (pe_cmpR (op_eqD hr.units) (pe_lc (own := [("_law_thing", 11)]) (g := gName 11) (tt := tTest (tOp (rOwnE K (He.ga K "Use") (spEq K) E0) (tMake (He.ga K "Use") (spUse K) [] E0 (tCons (tVar 2) tNil)) (tVar 11))) (te := tVar 11) rfl sc39.nd (pi_list (pv 10)) (blkOk_by (N := NQ) (sc := defScope (top 39)) (by decide +kernel))
          (fun _ _ _ _ _ => pg_name (i := 11) sc39.nd rfl (Or.inl rfl)) (fun _ _ _ _ _ => pts_one (pt_cmpR (op_ownE (E := E0) oU.eq T.ht.cl.PT.eqF B.GE hr1 pass0) (pe_make (E := E0) T.ht.cl.use.mkr T.GU hr5 (by rfl) T.gU hbU .nil passL (pa_cons (pv 2) pa_nil)) (pv 11) (nomark _))) (fun _ _ _ _ _ => pv 11)) (pe_lst pa_nil) (nomark _))
          (pe_one (pe_cmpR op_eq (pe_fld (pe_make0 (E := E0) T.ht.cl.byte.mkr B.GB hr3 (by rfl) B.gB hbB .nil pass0) (by rfl)) pe_int (nomark _))))))))))))))))), ?_⟩
    obtain ⟨o0, p0⟩ := pen.ex
    refine ⟨(by show 4 ≤ sizeLine; decide), fun l1 hl1 => ?_⟩
    generalize e1 : upd H l1 _ = H1 at *
    obtain ⟨s1, _, h1, p1, l1p⟩ := new_at p0 hl1 e1
    refine ⟨_, rfl, _, rfl, p, l1, _, n, rfl, h1, l1p, (by show 0 < 4; decide), (by show 4 ≤ 100000; decide), pen.same s1, by omega, fun x1 H2 hx1 pen2 k2 => ?_⟩
    refine ⟨_, rfl, _, rfl, p, l1, _, _, rfl, k2 _ _ l1p h1, l1p, (by show 0 < 4; decide), (by show 4 ≤ 100000; decide), pen2, by omega, fun x2 H3 hx2 pen3 k3 => ?_⟩
    have inN : ∀ {x : V}, x ∈ eqNames.map V.str → ∃ t : Str, x = .str t ∧ nameB (.str t) = true ∧ PyData.strOk t = true ∧ t.length ≤ 8 := fun {x} hx => by
      obtain ⟨t, a, b⟩ := List.mem_map.mp hx
      exact ⟨t, b.symm, eqNames_ok t a⟩
    obtain ⟨one, rfl, n1, ok1, len1⟩ := inN (x := x1) hx1
    obtain ⟨other, rfl, n2, ok2, len2⟩ := inN (x := x2) hx2
    have ll1 : one.length ≤ sizeLine := by rw [sizeLine_eq]; omega
    have ll2 : other.length ≤ sizeLine := by rw [sizeLine_eq]; omega
    obtain ⟨o3, p3⟩ := pen3.ex
    refine ⟨(by show 2 ≤ sizeLine; decide), fun t1 ht1 => ⟨t1, _, rfl, SqT.of upd_same, rfl, _, _, rfl, _, _, rfl, rfl, ?_⟩⟩
    generalize e4 : upd H3 t1 _ = H4 at *
    obtain ⟨s4, _, _, p4, _⟩ := new_at p3 ht1 e4
    refine ⟨_, rfl, p, 3, _, rfl, by decide, by decide, pen3.same s4, by omega, fun z1 H5 z10 z11 pen5 k5 => ?_⟩
    refine ⟨_, _, rfl, rfl, _, rfl, p, 3, _, rfl, by decide, by decide, pen5, by omega, fun z2 H6 z20 z21 pen6 k6 => ?_⟩
    refine ⟨_, _, rfl, rfl, .int (1 + z1), .int (1 + z2), rfl, ?_⟩
    have kH6 : But p H H6 := (But.of s1).tr (k2.tr (k3.tr ((But.of s4).tr (k5.tr k6))))
    have fin : ∀ H', Same H6 H' → Q (.bl true) H' := fun H' S => q H' _ (by omega) (pen6.same S) (kH6.tr (But.of S))
    clear hx1 hx2 k2 k3 k5 k6 kH6 pen2 pen3 pen5 s1 s4 p0 p1 p3 p4 h1 e1 e4
    have w1 : wholeB (.int (1 + z1)) 1 8 = true := by simp [wholeB]; omega
    have w2 : wholeB (.int (1 + z2)) 1 8 = true := by simp [wholeB]; omega
    generalize hf1 : (1 + z1) = first at *
    generalize hf2 : (1 + z2) = second at *
    -- kind, near
    refine ⟨_, rfl, _, rfl, fun kd dxH7 hx hd ne => mkKind upd_same n1 ll1 w1 fun H7 BH7 K7 => ⟨rfl, ?_⟩⟩
    have S7 := made hx hd BH7
    clear hx hd ne BH7
    refine ⟨_, rfl, _, rfl, fun nr dxH8 hx hd ne => mkKind upd_same n2 ll2 w2 fun H8 BH8 N8 => ⟨rfl, ?_⟩⟩
    have S8 := made hx hd BH8
    clear hx hd ne BH8
    refine ⟨(by show 2 ≤ sizeLine; decide), fun t2 ht2 => ⟨t2, _, rfl, SqT.of upd_same, rfl, _, _, rfl, _, _, rfl, rfl, ?_⟩⟩
    generalize e9 : upd H8 t2 _ = H9 at *
    have S9 : Same H8 H9 := e9 ▸ same_upd ht2
    have S69 : Same H6 H9 := fun b o z => S9 _ _ (S8 _ _ (S7 _ _ z))
    have K9 : KindAt K H9 kd (.str one) (.int first) := (K7.same S8).same S9
    have N9 : KindAt K H9 nr (.str other) (.int second) := N8.same S9
    clear S7 K7 S8 N8 S9 e9
    -- the fields
    obtain ⟨dk, tk, ek, et⟩ := id K9
    have cl := T.ht.cl.kind
    have cu := T.ht.cl.use
    refine ⟨_, rfl, kd, _, dk, _, _, rfl, ek, cl.cl, cl.no _ (by decide), rfl, _, rfl, kd, _, dk, _, _, rfl, ek, cl.cl, cl.no _ (by decide), rfl, _, rfl, fun k1 dxH10 hx hd ne => mkKind upd_same n1 ll1 (by decide) fun H10 BH10 K10 => ⟨rfl, ?_⟩⟩
    have S10 := made hx hd BH10
    clear hx hd ne BH10
    obtain ⟨dk1, tk1, ek1, et1⟩ := id K10
    refine ⟨k1, _, dk1, _, _, rfl, ek1, cl.cl, cl.no _ (by decide), rfl, _, rfl, fun u1 dxH11 hx hd ne => mkUse upd_same n1 ll1 fun H11 BH11 U11 => ⟨rfl, ?_⟩⟩
    have S11 := made hx hd BH11
    clear hx hd ne BH11
    obtain ⟨du1, tu1, eu1, eut1⟩ := id U11
    refine ⟨u1, _, du1, _, _, rfl, eu1, cu.cl, cu.no _ (by decide), rfl, (by show 4 ≤ sizeLine; decide), fun a1 ha1 => ?_⟩
    generalize e12 : upd H11 a1 _ = H12 at *
    have S12 : Same H11 H12 := e12 ▸ same_upd ha1
    have x12 : H12 a1 = some (.lst [.str one, .int first, .int 1, .str one]) := e12 ▸ upd_same
    refine ⟨_, rfl, _, rfl, _, rfl, (by show 4 ≤ sizeLine; decide), fun a2 ha2 => ?_⟩
    generalize e13 : upd H12 a2 _ = H13 at *
    have S13 : Same H12 H13 := e13 ▸ same_upd ha2
    have x13 : H13 a2 = some (.lst [.str one, .int first, .int 1, .str one]) := e13 ▸ upd_same
    have S913 : Same H9 H13 := fun b o z => S13 _ _ (S12 _ _ (S11 _ _ (S10 _ _ z)))
    have dps : ∀ {Hx : Hp}, DpAll K Hx [.str one, .int first, .int 1, .str one] [.str one, .int first, .int 1, .str one] := .cons (.str _) (.cons (.int _) (.cons (.int _) (.cons (.str _) .nil)))
    have sh4 : SeqAt.shaped (.list [.str one, .int first, .int 1, .str one]) = true := by simp [SeqAt.shaped, PyData.canLay0, PyData.canLayAll0, PyData.depth, PyData.depthAll, ok1]
    refine ⟨_, _, .lst (SqL.of (S13 _ _ x12)) dps, .lst (SqL.of x13) dps, sh4, sh4, _, rfl, ?_⟩
    have eq4 : PyData.eqv (.list [.str one, .int first, .int 1, .str one]) (.list [.str one, .int first, .int 1, .str one]) = true := by simp [PyData.eqv, PyData.eqvAll]
    rw [eq4]
    refine iteF ?_
    have K13 := K9.same S913
    have N13 := N9.same S913
    have S613 : Same H6 H13 := fun b o z => S913 _ _ (S69 _ _ z)
    clear S12 S13 S10 S11 K10 U11 x12 x13 e12 e13 ek et ek1 et1 eu1 eut1 K9 N9 S69 S913
    -- is_due
    refine ⟨one, other, first, second, rfl, rfl, rfl, rfl, ?_⟩
    -- marks
    have C := T.ht.cl
    refine ⟨_, rfl, _, rfl, ownE_part C (.kind ok1 K13) (.kind ok2 N13) ?_⟩
    refine ⟨_, rfl, _, rfl, ownNe_part C (.kind ok1 K13) (.kind ok2 N13) ?_⟩
    refine ⟨_, rfl, fun u1 dx1 hx hd ne => mkUse upd_same n1 ll1 fun H14 B14 U1 => ⟨rfl, ?_⟩⟩
    have S14 := made hx hd B14
    clear hx hd ne B14
    refine ⟨_, rfl, fun u2 dx1 hx hd ne => mkUse upd_same n2 ll2 fun H15 B15 U2 => ⟨rfl, ownE_part C (.use ok1 (U1.same (made hx hd B15))) (.use ok2 U2) ?_⟩⟩
    have S15 := made hx hd B15
    clear hx hd ne B15
    refine fun b1 dx1 hx hd ne => mkByte upd_same fun H16 B16 Y1 => ⟨rfl, ?_⟩
    have S16 := made hx hd B16
    clear hx hd ne B16
    refine fun b2 dx1 hx hd ne => mkByte upd_same fun H17 B17 Y2 => ⟨rfl, ownE_part C (.byte (Y1.same (made hx hd B17))) (.byte Y2) ?_⟩
    have S17 := made hx hd B17
    clear hx hd ne B17
    refine fun b3 dx1 hx hd ne => mkByte upd_same fun H18 B18 Y3 => ⟨rfl, ?_⟩
    have S18 := made hx hd B18
    clear hx hd ne B18
    refine fun b4 dx1 hx hd ne => mkByte upd_same fun H19 B19 Y4 => ⟨rfl, ownNe_part C (.byte (Y3.same (made hx hd B19))) (.byte Y4) ?_⟩
    have S19 := made hx hd B19
    clear hx hd ne B19
    rw [kind_eqv, use_eqv, byte_eqv]
    generalize hbI : (decide (one = other) && decide (first = second)) = bI at *
    refine ⟨(by show 5 ≤ sizeLine; decide), fun lm hlm => ?_⟩
    generalize e20 : upd H19 lm _ = H20 at *
    have S20 : Same H19 H20 := e20 ▸ same_upd hlm
    have x20 : H20 lm = some (.lst [.bl bI, .bl (!bI), .bl (decide (one = other)), .bl true, .bl (!true)]) := e20 ▸ upd_same
    have gd := good_bools bI (!bI) (decide (one = other)) true false
    refine ⟨_, rfl, .ref lm, _, rfl, .lst (SqL.of x20) (.cons (.bl _) (.cons (.bl _) (.cons (.bl _) (.cons (.bl true) (.cons (.bl false) .nil))))), gd.1, gd.2.1, gd.2.2, ?_⟩
    refine ⟨_, rfl, _, rfl, _, rfl, _, rfl, _, rfl, rfl, (by show 5 ≤ sizeLine; decide), fun ld hld => ?_⟩
    generalize e21 : upd H20 ld _ = H21 at *
    have S21 : Same H20 H21 := e21 ▸ same_upd hld
    have x21 : H21 ld = some (.lst [.bl bI, .bl (!bI), .bl (decide (V.str one = V.str other)), .bl true, .bl false]) := e21 ▸ upd_same
    rw [dec_strs] at x21
    refine ⟨.ref ld, _, rfl, .lst (SqL.of x21) (.cons (.bl _) (.cons (.bl _) (.cons (.bl _) (.cons (.bl true) (.cons (.bl false) .nil))))), gd.1, gd.2.1, gd.2.2, rfl, _, rfl, ?_⟩
    refine ite2 (fun z => ?_) (fun _ => ?_)
    · have e : decide (V.str (PyData.list [.bool bI, .bool (!bI), .bool (decide (one = other)), .bool true, .bool false]).shown = V.str (PyData.list [.bool bI, .bool (!bI), .bool (decide (one = other)), .bool true, .bool false]).shown) = true := decide_eq_true rfl
      have z2 : (!decide (V.str (PyData.list [.bool bI, .bool (!bI), .bool (decide (one = other)), .bool true, .bool false]).shown = V.str (PyData.list [.bool bI, .bool (!bI), .bool (decide (one = other)), .bool true, .bool false]).shown)) = true := z
      rw [e] at z2
      cases z2
    have S1321 : Same H13 H21 := fun b o z => S21 _ _ (S20 _ _ (S19 _ _ (S18 _ _ (S17 _ _ (S16 _ _ (S15 _ _ (S14 _ _ z)))))))
    have K21 := K13.same S1321
    have S621 : Same H6 H21 := fun b o z => S1321 _ _ (S613 _ _ z)
    clear S14 S15 S16 S17 S18 S19 S20 S21 S1321 S613 U1 U2 Y1 Y2 Y3 Y4 x20 x21 e20 e21 K13 N13
    -- odd
    refine ⟨_, rfl, _, rfl, _, rfl, (by show 2 ≤ sizeLine; decide), fun t3 ht3 => ?_⟩
    generalize e22 : upd H21 t3 _ = H22 at *
    have S22 : Same H21 H22 := e22 ▸ same_upd ht3
    have x22 : H22 t3 = some (.tup [.str one, .int first]) := e22 ▸ upd_same
    refine ⟨_, rfl, fun u3 dx1 hx hd ne => mkUse upd_same n1 ll1 fun H23 B23 U3 => ⟨rfl, ?_⟩⟩
    have S23 := made hx hd B23
    clear hx hd ne B23
    refine fun b5 dx1 hx hd ne => mkByte upd_same fun H24 B24 Y5 => ⟨rfl, ?_⟩
    have S24 := made hx hd B24
    clear hx hd ne B24
    refine ⟨(by show 7 ≤ sizeLine; decide), fun lo hlo => ?_⟩
    generalize e25 : upd H24 lo _ = H25 at *
    have S25 : Same H24 H25 := e25 ▸ same_upd hlo
    have x25 : H25 lo = some (.lst [.str one, .ref t3, .non, .int 1, .str "byte", .ref u3, .ref b5]) := e25 ▸ upd_same
    have K25 := (((K21.same S22).same S23).same S24).same S25
    have X25 := S25 _ _ (S24 _ _ (S23 _ _ x22))
    have U25 := (U3.same S24).same S25
    have Y25 := Y5.same S25
    refine ⟨_, rfl, lo, rfl, ⟨_, SqL.of x25⟩, fun D hD => ?_⟩
    have S625 : Same H6 H25 := fun b o z => S25 _ _ (S24 _ _ (S23 _ _ (S22 _ _ (S621 _ _ z))))
    refine lc_list (K := K) (a := lo) (xs := [.str one, .ref t3, .non, .int 1, .str "byte", .ref u3, .ref b5]) (fun _ H' => Same H25 H' ∧ H' D = some (.lst [])) ⟨same_upd hD, upd_same⟩ (fun i H' _ h => SqL.of (h.1 _ _ x25)) ?_ ?_
    · rintro i x H' hx ⟨S', e'⟩
      have hm := List.mem_of_getElem? hx
      have kk : PtAt K H' kd "Kind" (.tuple [.str one, .int first]) := .kind ok1 (K25.same S')
      refine ⟨rfl, _, rfl, _, rfl, ?_⟩
      simp only [List.mem_cons, List.not_mem_nil, or_false] at hm
      rcases hm with rfl | rfl | rfl | rfl | rfl | rfl | rfl
      · exact ownE_flat C kk (.base (.str _)) (by decide) ⟨_, rfl, iteF ⟨S', e'⟩⟩
      · exact ownE_flat C kk (.base (.tup (S' _ _ X25))) (by decide) ⟨_, rfl, iteF ⟨S', e'⟩⟩
      · exact ownE_flat C kk (.base .non) (by decide) ⟨_, rfl, iteF ⟨S', e'⟩⟩
      · exact ownE_flat C kk (.base (.int _)) (by decide) ⟨_, rfl, iteF ⟨S', e'⟩⟩
      · exact ownE_flat C kk (.base (.str _)) (by decide) ⟨_, rfl, iteF ⟨S', e'⟩⟩
      · exact ownE_part C kk (.use ok1 (U25.same S')) ⟨_, rfl, iteF ⟨S', e'⟩⟩
      · exact ownE_part C kk (.byte (Y25.same S')) ⟨_, rfl, iteF ⟨S', e'⟩⟩
    rintro H26 ⟨S26, e26⟩
    refine ⟨(by show 0 ≤ sizeLine; decide), fun l3 hl3 => ?_⟩
    generalize e27 : upd H26 l3 _ = H27 at *
    have S27 : Same H26 H27 := e27 ▸ same_upd hl3
    have x27 : H27 l3 = some (.lst []) := e27 ▸ upd_same
    refine ⟨.list [], .list [], .lst (SqL.of (S27 _ _ e26)) .nil, .lst (SqL.of x27) .nil, rfl, rfl, _, rfl, iteF ?_⟩
    have K27 := (K25.same S26).same S27
    have S627 : Same H6 H27 := fun b o z => S27 _ _ (S26 _ _ (S625 _ _ z))
    clear S22 S23 S24 S25 S26 S27 S625 U3 Y5 U25 Y25 X25 K25 x22 x25 e22 e25 e26 e27 x27 hD
    -- the second odd
    refine ⟨_, rfl, _, rfl, ?_⟩
    refine fun b6 dx1 hx hd ne => mkByte upd_same fun H28 B28 Y6 => ⟨rfl, ?_⟩
    have S28 := made hx hd B28
    clear hx hd ne B28
    have one1 : (("@" : Str)).length = 1 := by decide +kernel
    refine ⟨_, rfl, _, _, rfl, rfl, by rw [one1, sizeLine_eq]; omega, (by show 4 ≤ sizeLine; decide), fun lp hlp => ?_⟩
    generalize e29 : upd H28 lp _ = H29 at *
    have S29 : Same H28 H29 := e29 ▸ same_upd hlp
    have x29 : H29 lp = some (.lst [.str one, .ref kd, .ref b6, .str ("@" ++ one)]) := e29 ▸ upd_same
    have K29 := (K27.same S28).same S29
    have Y29 := Y6.same S29
    have S629 : Same H6 H29 := fun b o z => S29 _ _ (S28 _ _ (S627 _ _ z))
    refine ⟨_, rfl, lp, rfl, ⟨_, SqL.of x29⟩, fun D hD => ?_⟩
    refine lc_list (K := K) (a := lp) (xs := [.str one, .ref kd, .ref b6, .str ("@" ++ one)]) (fun _ H' => Same H29 H' ∧ H' D = some (.lst [])) ⟨same_upd hD, upd_same⟩ (fun i H' _ h => SqL.of (h.1 _ _ x29)) ?_ ?_
    · rintro i x H' hx ⟨S', e'⟩
      have hm := List.mem_of_getElem? hx
      refine ⟨rfl, _, rfl, fun u4 dx1 hx hd ne => mkUse upd_same n1 ll1 fun H30 B30 U4 => ⟨rfl, _, rfl, ?_⟩⟩
      have S30 := made hx hd B30
      have fi : Same H29 H30 ∧ H30 D = some (.lst []) := ⟨fun b o z => S30 _ _ (S' _ _ z), S30 _ _ e'⟩
      have uu : PtAt K H30 u4 "Use" (.tuple [.str one]) := .use ok1 U4
      simp only [List.mem_cons, List.not_mem_nil, or_false] at hm
      rcases hm with rfl | rfl | rfl | rfl
      · exact ownE_flat C uu (.base (.str _)) (by decide) ⟨_, rfl, iteF fi⟩
      · exact ownE_part C uu (.kind ok1 (K29.same fi.1)) ⟨_, rfl, iteF fi⟩
      · exact ownE_part C uu (.byte (Y29.same fi.1)) ⟨_, rfl, iteF fi⟩
      · exact ownE_flat C uu (.base (.str _)) (by decide) ⟨_, rfl, iteF fi⟩
    rintro H31 ⟨S31, e31⟩
    refine ⟨(by show 0 ≤ sizeLine; decide), fun l4 hl4 => ?_⟩
    generalize e32 : upd H31 l4 _ = H32 at *
    have S32 : Same H31 H32 := e32 ▸ same_upd hl4
    have x32 : H32 l4 = some (.lst []) := e32 ▸ upd_same
    refine ⟨.list [], .list [], .lst (SqL.of (S32 _ _ e31)) .nil, .lst (SqL.of x32) .nil, rfl, rfl, _, rfl, iteT ?_⟩
    refine fun b7 dx1 hx hd ne => mkByte upd_same fun H33 B33 Y7 => ⟨rfl, ?_⟩
    have S33 := made hx hd B33
    obtain ⟨dy, ey⟩ := id Y7
    have cb := T.ht.cl.byte
    refine ⟨b7, _, dy, _, _, rfl, ey, cb.cl, cb.no _ (by decide), rfl, rfl, ?_⟩
    exact fin H33 fun b o z => S33 _ _ (S32 _ _ (S31 _ _ (S629 _ _ z)))
end
end H1
set_option Elab.async false
set_option linter.all false
set_option maxRecDepth 100000
set_option maxHeartbeats 4000000
namespace H1
open PySem PySem.Spec PyProof.Rows L2 Ev LamX
def spLaw (K : PySem.W.Frag) : Sp := fun vs H Q _ => ∃ (a : Addr) (ns : List Int), vs = [.ref a] ∧ SqL K H a (ns.map V.int) ∧ ns.length ≤ 63 ∧ Tabs (TR K) H ∧ ∀ H', Q (.bl true) H'
structure LTxt (P : Program) (w : World) (K : PySem.W.Frag) (mg : Str → Option Value) (base : Heap) (fPen fEq : Addr) (dPen dBi : FuncData) : Prop where
  gPen : mg "_law_pen" = some (.ref fPen)
  FPen : FnL K "_law_pen" 32 fPen dPen
  GPen : FnOk P w K mg base CX0 1 fPen dPen ["_law_script"] (spPen K)
  gR : mg "_law_right" = some (.ref (He.fAd K pR))
  kR : PySem.W.keepIn K (.ref (He.fAd K pR)) = true
  GR : FnG P w K mg base CX0 8 (He.fAd K pR) (spRight K)
  gE : mg "_law_equal_right" = some (.ref fEq)
  kE : PySem.W.keepIn K (.ref fEq) = true
  GE : FnG P w K mg base CX0 8 fEq (spEqual K)
  tRng : mg "range" = none
  tStr : mg "str" = none
  B : QTxt P w K mg base dBi
  cB : PClsT K "Byte" byteFs
  sB : FnR P w K mg base CX0 1 (He.ma K (He.ga K "Byte") "__str__") (spStrB K)
abbrev NL : List Str := ["_law_script", "_law_pen_here", "_law_turn"]
theorem sc40 : FnScope NL ["_law_script"] (defScope (top 40)) := ⟨rfl, rfl, rfl, by decide +kernel, rfl, by decide +kernel, by decide +kernel⟩
section
variable {P : Program} {w : World} {K : PySem.W.Frag} {mg : Str → Option Value} {base : Heap} {f fPen fEq : Addr} {fd dPen dBi : FuncData}
theorem ok_law (F : FnL K "law" 40 f fd) (T : LTxt P w K mg base fPen fEq dPen dBi) : FnG P w K mg base CX0 9 f (spLaw K) := by
  have bPen : Binds K dPen ["_law_script"] [] := FunD.bindsN T.FPen fun _ _ _ _ _ _ us hl => match us, hl with | [_], _ => rfl
  have hbB := bB1 T.B.FB
  refine okG F sc40 (fun _ _ _ _ _ _ us hl => match us, hl with | [_], _ => rfl) (fun vs H Q E h => ?_) (fun cdv A outer s H vs Q E hg hr h => ?_)
  · obtain ⟨a, ns, rfl, _⟩ := h
    rfl
  · obtain ⟨a, ns, rfl, hS, hn, hT, q⟩ := h
    have hgd : (A.deeper (envOfC "law" (defScope (top 40)) s.heap.objs.size f cdv)).guards = some [] := hg
    have hr1 : Room 1 (A.deeper (envOfC "law" (defScope (top 40)) s.heap.objs.size f cdv)) := hr.mono (by decide)
    have hr3 : Room 3 (A.deeper (envOfC "law" (defScope (top 40)) s.heap.objs.size f cdv)) := hr.mono (by decide)
    refine ⟨_, PSs.nox (pss_cons (ps_set (i := 1) sc40.nd rfl (Or.inl rfl) (pe_call (E := E0) T.GPen hr1 (by rfl) T.gPen T.FPen.kp bPen .nil pass0 (pa_cons (pv 0) pa_nil)))
      (pss_cons (ps_for PassesOwn.never rfl (pi_range1 rfl T.tRng (pa_cons pe_int pa_nil)) (pg_name (i := 2) sc40.nd rfl (Or.inl rfl))
        (pss_one (ps_if (PW.pt (pw_or (pt_not (pt_val (pe_callG (E := E0) T.GR hgd hr (by rfl) T.gR T.kR pass0 (pa_cons (pv 1) pa_nil)))) (pw_or1 (pt_not (pt_val (pe_callG (E := E0) T.GE hgd hr (by rfl) T.gE T.kE pass0 (pa_cons (pv 1) pa_nil)))))))
          (pss_one (ps_ret pe_bl)) pss_nil)))
      (pss_one (ps_ret (pe_cmpR op_eq (pe_callTy (call_strOwn (X := (cxOf CX0 P w K mg base NL "law" (defScope (top 40)) f cdv A outer s H E).nox) (E := E0) T.cB.st.at_ T.cB.st.fn T.sB hr3 pass0) (by rfl) T.tStr (by decide +kernel)
          (pa_cons (pe_make0 (E := E0) T.cB.mkr T.B.GB hr3 (by rfl) T.B.gB hbB .nil pass0) pa_nil)) pe_str (nomark _)))))), ?_⟩
    refine ⟨_, rfl, a, ns, rfl, hS, hn, fun p H1 S1 pen1 np => ?_⟩
    refine ⟨10, rfl, by decide, by decide, for_range (lo := 0) (n := 10) (fun i σ H' => ∃ (v2 : Option V) (m : Nat), σ = [some (.ref a), some (.ref p), v2] ∧ m ≤ 18 * i ∧ PenAt H' p m ∧ Tabs (TR K) H')
      ⟨none, 0, rfl, by omega, pen1, hT.ext S1⟩ ?_ ?_⟩
    · rintro i σ H2 hi ⟨v2, m, rfl, hm, pen2, T2⟩
      refine ⟨_, rfl, p, m, rfl, pen2, by omega, T2, fun H3 m3 hm3 pen3 T3 => ⟨_, rfl, iteF ?_⟩⟩
      refine ⟨_, rfl, p, m3, rfl, pen3, by omega, fun H4 m4 hm4 pen4 k4 => ⟨_, rfl, iteF ?_⟩⟩
      obtain ⟨c, cells, t, l, hp, _⟩ := id pen3
      exact ⟨_, m4, rfl, by omega, pen4, tabs_but hp k4 T3⟩
    · rintro σ H2 ⟨v2, m, rfl, hm, pen2, T2⟩
      refine fun b dx1 hx hd ne => mkByte upd_same fun H3 B3 Y3 => ⟨rfl, ?_⟩
      obtain ⟨dy, ey⟩ := id Y3
      refine ⟨b, dy, _, rfl, ey, b, rfl, "byte", rfl, rfl, ?_⟩
      exact q H3
end
end H1
set_option Elab.async false
set_option linter.all false
set_option maxRecDepth 100000
set_option maxHeartbeats 4000000
namespace H1
open PySem PySem.Spec PyProof.Rows L2 Ev LamX
section
variable {P : Program} {w : World} {K : PySem.W.Frag} {mg : Str → Option Value} {h : Heap} {fa0 : Addr}
theorem facts (KX : K.In h) (G : h.Ns mainGlobals mg) (hfa : mg "law" = some (.ref fa0)) (c : He.SaysD fa fn K) (er : ErrsT errs K) (pt : PartsT K) (base : Heap) (TB : TabB base mg (He.cT K pR).1 (He.cT K pR).2) :
    FnG P w K mg base CX0 9 fa0 (spLaw K) := by
  have g_PadError := He.glo_ok KX G (x := "PadError") (c.fact 0 rfl)
  have g_BadName := He.glo_ok KX G (x := "BadName") (c.fact 1 rfl)
  have g_BadTimes := He.glo_ok KX G (x := "BadTimes") (c.fact 2 rfl)
  have g_BadParts := He.glo_ok KX G (x := "BadParts") (c.fact 3 rfl)
  have g_NoPath := He.glo_ok KX G (x := "NoPath") (c.fact 4 rfl)
  have g_TooLarge := He.glo_ok KX G (x := "TooLarge") (c.fact 5 rfl)
  have g_Part := He.glo_ok KX G (x := "Part") (c.fact 6 rfl)
  have g_Kind := He.glo_ok KX G (x := "Kind") (c.fact 7 rfl)
  have g_Byte := He.glo_ok KX G (x := "Byte") (c.fact 8 rfl)
  have g_Use := He.glo_ok KX G (x := "Use") (c.fact 9 rfl)
  have g_BARRED := He.glo_ok KX G (x := "BARRED") (c.fact 10 rfl)
  have g_is_name := He.glo_ok KX G (x := "is_name") (c.fact 11 rfl)
  have g_is_whole := He.glo_ok KX G (x := "is_whole") (c.fact 12 rfl)
  have g__law_pen := He.glo_ok KX G (x := "_law_pen") (c.fact 13 rfl)
  have g__law_draw := He.glo_ok KX G (x := "_law_draw") (c.fact 14 rfl)
  have g__law_pick := He.glo_ok KX G (x := "_law_pick") (c.fact 15 rfl)
  have g__law_word := He.glo_ok KX G (x := "_law_word") (c.fact 16 rfl)
  have g__law_is_name := He.glo_ok KX G (x := "_law_is_name") (c.fact 17 rfl)
  have g__law_heard := He.glo_ok KX G (x := "_law_heard") (c.fact 18 rfl)
  have g__law_right := He.glo_ok KX G (x := "_law_right") (c.fact 19 rfl)
  have g__law_equal_right := He.glo_ok KX G (x := "_law_equal_right") (c.fact 20 rfl)
  have g_law := He.glo_ok KX G (x := "law") (c.fact 21 rfl)
  have t_int := He.free_ok KX G (x := "int") (c.fact 22 rfl)
  have t_len := He.free_ok KX G (x := "len") (c.fact 23 rfl)
  have t_abs := He.free_ok KX G (x := "abs") (c.fact 24 rfl)
  have t_range := He.free_ok KX G (x := "range") (c.fact 25 rfl)
  have t_list := He.free_ok KX G (x := "list") (c.fact 26 rfl)
  have t_repr := He.free_ok KX G (x := "repr") (c.fact 27 rfl)
  have t_isinstance := He.free_ok KX G (x := "isinstance") (c.fact 28 rfl)
  have t_str := He.free_ok KX G (x := "str") (c.fact 29 rfl)
  have t_max := He.free_ok KX G (x := "max") (c.fact 30 rfl)
  have t_all := He.free_ok KX G (x := "all") (c.fact 31 rfl)
  have t_bool := He.free_ok KX G (x := "bool") (c.fact 32 rfl)
  have i_most := He.int_ok KX G (x := "MOST_TIMES") (i := 8) (c.fact 33 rfl)
  have i_long := He.int_ok KX G (x := "LONGEST") (i := 8) (c.fact 34 rfl)
  have i_let := He.str_ok KX G (x := "LETTERS") (z := letters) (c.fact 35 rfl)
  have p_Kind : PClsT K "Kind" kindFs := ⟨He.cls_ok (c.fact 36 rfl), He.mkr_ok (c.fact 37 rfl), He.meth_ok (c.fact 38 rfl), fun f hf => by
    simp only [List.mem_cons, List.not_mem_nil, or_false] at hf
    rcases hf with rfl | rfl | rfl | rfl | rfl
    · exact He.noat_ok (c.fact 39 rfl)
    · exact He.noat_ok (c.fact 40 rfl)
    · exact He.noat_ok (c.fact 41 rfl)
    · exact He.noat_ok (c.fact 42 rfl)
    · exact He.noat_ok (c.fact 43 rfl)⟩
  have p_Byte : PClsT K "Byte" byteFs := ⟨He.cls_ok (c.fact 44 rfl), He.mkr_ok (c.fact 45 rfl), He.meth_ok (c.fact 46 rfl), fun f hf => by
    simp only [List.mem_cons, List.not_mem_nil, or_false] at hf
    rcases hf with rfl | rfl | rfl
    · exact He.noat_ok (c.fact 47 rfl)
    · exact He.noat_ok (c.fact 48 rfl)
    · exact He.noat_ok (c.fact 49 rfl)⟩
  have p_Use : PClsT K "Use" useFs := ⟨He.cls_ok (c.fact 50 rfl), He.mkr_ok (c.fact 51 rfl), He.meth_ok (c.fact 52 rfl), fun f hf => by
    simp only [List.mem_cons, List.not_mem_nil, or_false] at hf
    rcases hf with rfl | rfl | rfl | rfl
    · exact He.noat_ok (c.fact 53 rfl)
    · exact He.noat_ok (c.fact 54 rfl)
    · exact He.noat_ok (c.fact 55 rfl)
    · exact He.noat_ok (c.fact 56 rfl)⟩
  have x_BN := He.exm_ok (x := "BadName") (y := "PadError") (b := true) (c.fact 57 rfl)
  have x_BT := He.exm_ok (x := "BadTimes") (y := "PadError") (b := true) (c.fact 58 rfl)
  obtain ⟨d_PadError, F_PadError⟩ := c.def_ 0 (d := mkD "PadError" 2) rfl
  obtain ⟨d_BadName, F_BadName⟩ := c.def_ 1 (d := mkD "BadName" 3) rfl
  obtain ⟨d_BadTimes, F_BadTimes⟩ := c.def_ 2 (d := mkD "BadTimes" 4) rfl
  obtain ⟨d_PartI, F_PartI⟩ := c.def_ 6 (d := meD "Part" "__init__" 16 1 [.adr (He.dflAt ("Part", some "__init__") 0), .adr (He.dflAt ("Part", some "__init__") 1)]) rfl
  obtain ⟨d_PartE, F_PartE⟩ := c.def_ 7 (d := meD "Part" "__eq__" 16 2 []) rfl
  obtain ⟨d_KindI, F_KindI⟩ := c.def_ 8 (d := meD "Kind" "__init__" 17 0 [.int 1]) rfl
  obtain ⟨d_KindS, F_KindS⟩ := c.def_ 9 (d := meD "Kind" "__str__" 17 1 []) rfl
  obtain ⟨d_ByteI, F_ByteI⟩ := c.def_ 10 (d := meD "Byte" "__init__" 18 0 []) rfl
  obtain ⟨d_ByteS, F_ByteS⟩ := c.def_ 11 (d := meD "Byte" "__str__" 18 1 []) rfl
  obtain ⟨d_UseI, F_UseI⟩ := c.def_ 12 (d := meD "Use" "__init__" 19 0 []) rfl
  obtain ⟨d_UseS, F_UseS⟩ := c.def_ 13 (d := meD "Use" "__str__" 19 1 []) rfl
  obtain ⟨d_is_name, F_is_name⟩ := c.def_ 14 (d := fnD "is_name" 12) rfl
  obtain ⟨d_is_whole, F_is_whole⟩ := c.def_ 15 (d := fnD "is_whole" 13) rfl
  obtain ⟨d__law_pen, F__law_pen⟩ := c.def_ 16 (d := fnD "_law_pen" 32) rfl
  obtain ⟨d__law_draw, F__law_draw⟩ := c.def_ 17 (d := fnD "_law_draw" 33) rfl
  obtain ⟨d__law_pick, F__law_pick⟩ := c.def_ 18 (d := fnD "_law_pick" 34) rfl
  obtain ⟨d__law_word, F__law_word⟩ := c.def_ 19 (d := fnD "_law_word" 35) rfl
  obtain ⟨d__law_is_name, F__law_is_name⟩ := c.def_ 20 (d := fnD "_law_is_name" 36) rfl
  obtain ⟨d__law_heard, F__law_heard⟩ := c.def_ 21 (d := fnD "_law_heard" 37) rfl
  obtain ⟨d__law_right, F__law_right⟩ := c.def_ 22 (d := fnD "_law_right" 38) rfl
  obtain ⟨d__law_equal_right, F__law_equal_right⟩ := c.def_ 23 (d := fnD "_law_equal_right" 39) rfl
  obtain ⟨d_law, F_law⟩ := c.def_ 24 (d := fnD "law" 40) rfl
  have GPad : FnR P w K mg base CX0 1 (He.ma K (He.ga K "PadError") "__init__") (spPad K) := ok_pad F_PadError
  have mN : (("BadName" : Str), ([("name" : Str)] : List Str)) ∈ errs := by simp [errs]
  have mT : (("BadTimes" : Str), ([("value" : Str)] : List Str)) ∈ errs := by simp [errs]
  have TN := er.one _ mN
  have TT := er.one _ mT
  have GBN := ok_bname (P := P) (w := w) (base := base) F_BadName g_PadError er.off GPad TN
  have GBT := ok_btimes (P := P) (w := w) (base := base) F_BadTimes g_PadError er.off GPad TT
  have GN := ok_name (P := P) (w := w) (base := base) F_is_name t_isinstance t_str t_len t_all g_BARRED pt.bar i_long i_let
  have GW := ok_whole (P := P) (w := w) (base := base) F_is_whole t_isinstance t_int t_bool
  have GPt := ok_part (P := P) (w := w) (base := base) F_PartI t_max t_int g_Part pt
  have GP2 : FnR P w K mg base CX0 1 (He.ma K (He.ga K "Part") "__init__") (fun vs => spPart K (vs ++ [.ref (dfT 1 K)])) := by
    obtain ⟨ds, v, b⟩ := FunD.binds1 F_PartI (ps := ["self", "traits", "inside"]) 2 1 (by simp [meD, He.DefD.dvs]) (by rfl) (fun T kV doc pm an cdv ct us its h1 h2 => match us, h1, its, h2 with | [_, _], _, [_, _], _ => ⟨_, rfl, rfl⟩)
    exact GPt.raw b v
  have GP1 : FnR P w K mg base CX0 1 (He.ma K (He.ga K "Part") "__init__") (fun vs => spPart K (vs ++ [.ref (dfT 0 K), .ref (dfT 1 K)])) := by
    obtain ⟨ds, v, b⟩ := FunD.binds1 F_PartI (ps := ["self", "traits", "inside"]) 1 0 (by simp [meD, He.DefD.dvs]) (by rfl) (fun T kV doc pm an cdv ct us its h1 h2 => match us, h1, its, h2 with | [_], _, [_, _], _ => ⟨_, rfl, rfl⟩)
    exact GPt.raw b v
  have X : PTxt P w K mg base _ _ _ _ _ _ := { gN := g_is_name, FN := F_is_name, GN := GN, gW := g_is_whole, FW := F_is_whole, GW := GW, gMost := i_most, gBN := g_BadName, TBN := TN, FBN := F_BadName, GBN := GBN, gBT := g_BadTimes, TBT := TT, FBT := F_BadTimes, GBT := GBT, gPart := g_Part, PT := pt, GP2 := GP2, GP1 := GP1 }
  have C : PClss K := ⟨p_Kind, p_Use, p_Byte, pt⟩
  have GK := ok_kind (P := P) (w := w) (base := base) F_KindI X p_Kind
  have GU := ok_use (P := P) (w := w) (base := base) F_UseI X p_Use
  have GB := ok_byte (P := P) (w := w) (base := base) F_ByteI X p_Byte
  have one1 : ∀ {q : Str} {i j : Nat} {x m : Str} {f : Addr} {d : FuncData} {sp : Sp} {k : Nat}, FnOk P w K mg base CX0 k f d ["self"] sp → Binds K d ["self"] [] → FnR P w K mg base CX0 k f sp := fun G b => FnR.imp (G.raw b .nil) (fun vs H Q E h => by rw [List.append_nil]; exact h)
  have sK := one1 (q := "") (i := 0) (j := 0) (x := "") (m := "") (ok_strK (P := P) (w := w) (base := base) (mg := mg) F_KindS p_Kind) (FunD.bindsN F_KindS fun _ _ _ _ _ _ us hl => match us, hl with | [_], _ => rfl)
  have sU := one1 (q := "") (i := 0) (j := 0) (x := "") (m := "") (ok_strU (P := P) (w := w) (base := base) (mg := mg) F_UseS p_Use) (FunD.bindsN F_UseS fun _ _ _ _ _ _ us hl => match us, hl with | [_], _ => rfl)
  have sB := one1 (q := "") (i := 0) (j := 0) (x := "") (m := "") (ok_strB (P := P) (w := w) (base := base) (mg := mg) F_ByteS) (FunD.bindsN F_ByteS fun _ _ _ _ _ _ us hl => match us, hl with | [_], _ => rfl)
  have GE : FnR P w K mg base CX0 1 (He.ma K (He.ga K "Part") "__eq__") (spEq K) :=
    FnR.imp ((ok_eq (P := P) (w := w) (base := base) F_PartE C t_isinstance g_Part).raw (FunD.bindsN F_PartE fun _ _ _ _ _ _ us hl => match us, hl with | [_, _], _ => rfl) .nil) (fun vs H Q E h => by rw [List.append_nil]; exact h)
  have HT : HTxt P w K mg base := ⟨g_PadError, g_BadName, g_BadTimes, t_isinstance, t_str, er, x_BN, x_BT, C, sK, sU⟩
  have GDC := ok_drawC (P := P) (w := w) (base := base) F__law_draw t_int t_len t_abs
  have GD := ok_draw (P := P) (w := w) (base := base) F__law_draw t_int t_len t_abs
  have GPk := ok_pick (P := P) (w := w) (base := base) F__law_pick t_len g__law_draw F__law_draw GD
  have GPs := ok_pickS (P := P) (w := w) (base := base) F__law_pick t_len g__law_draw F__law_draw GDC
  have GWd := ok_word (P := P) (w := w) (base := base) F__law_word t_range g__law_draw F__law_draw GDC g__law_pick F__law_pick GPk GPs
  have GIs := ok_isname (P := P) (w := w) (mg := mg) (base := base) F__law_is_name t_isinstance t_str t_len
  have RT : RTxt P w K mg base _ _ _ _ _ 0 0 _ _ _ _ _ _ _ := { gWd := g__law_word, FWd := F__law_word, GWd := GWd, gPk := g__law_pick, FPk := F__law_pick, GPk := GPk, gDr := g__law_draw, FDr := F__law_draw, GDr := GD, gIs := g__law_is_name, FIs := F__law_is_name, GIs := GIs, gH := g__law_heard, FH := F__law_heard, tIsi := t_isinstance, tInt := t_int, tBool := t_bool, tStr := t_str, tRep := t_repr, ht := HT, gK := g_Kind, FK := F_KindI, GK := GK, gU := g_Use, FU := F_UseI, GU := GU }
  have B : QTxt P w K mg base _ := ⟨g_Byte, F_ByteI, GB, GE⟩
  have e := hfa.symm.trans g_law
  cases e
  exact ok_law F_law { gPen := g__law_pen, FPen := F__law_pen, GPen := ok_pen F__law_pen t_list, gR := g__law_right, kR := F__law_right.kp, GR := ok_right F__law_right RT TB, gE := g__law_equal_right, kE := F__law_equal_right.kp, GE := ok_equal F__law_equal_right RT B, tRng := t_range, tStr := t_str, B := B, cB := p_Byte, sB := sB }
end
end H1
open PySem PySem.W PySem.Calls PyProof.Rows
set_option maxRecDepth 100000 in
set_option maxHeartbeats 0 in
theorem PySem.Challenge.cw_anypads_k01_kinds_bytes_and_uses_made_holds : PySem.Challenge.rw_anypads_k01_kinds_bytes_and_uses_made.Holds := by
  w_on; o_law
  refine HandSHeadRun.head_any (r := H1.R) (q := view H1.R.prog [40]) (H := H1.hk) (ob := H1.ob) (M := 8000) (loose := H1.loose) (d := HandSHeadRun.topDef H1.R.prog 40) (kwd := []) H1.ob_eq
    (by kernel_rfl) (fun s => by kernel_rfl) H1.run (by kernel_rfl) (by kernel_rfl) (by kernel_rfl) (by rfl) (by first | assumption | decide +kernel) (by decide +kernel) ⟨rfl, rfl, rfl, rfl, rfl, by decide +kernel⟩ ?hw ?hc
  case hw => w_witness2
  case hc =>
    refine Ev.walk_ofT (l := PySem.Challenge.rw_anypads_k01_kinds_bytes_and_uses_made) (n := 63) (k := 9) (CX := L2.CX0) rfl (by decide) (by kernel_rfl) ⟨rfl, by decide, by decide⟩ ?F (fun _ _ _ _ z => z)
    intro w mg fa h Y G hmg0
    obtain ⟨K, KX, c⟩ := Y
    have hmg : mg ("law" : PySem.Str) = some (.ref fa) := by
      have e : (HandSHeadRun.topDef H1.R.prog 40).name = ("law" : PySem.Str) := by kernel_rfl
      rw [← e]
      exact hmg0
    have er := Ev.errsB_ok (Ev.two c.more).1
    have pt := Ev.partsB_ok (Ev.two c.more).2
    refine ⟨K, H1.tf.map (He.cT K), H1.spLaw K, KX, c.tabs KX, fun H a ns hl _ hT hS => ⟨a, ns, rfl, hS, hl, fun p hp => ?_, fun _ => rfl⟩, fun base _ _ TB => H1.facts KX G hmg c.d er pt base (TB _ (List.mem_singleton.mpr rfl))⟩
    rw [List.mem_singleton.mp hp]
    exact LamX.TabS.nil (hT _ (List.mem_singleton.mpr rfl))
