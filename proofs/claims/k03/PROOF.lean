import PyProof.Rows.All
import Wide.All
import OpenK.AllK
import Wide.FinOn
import HandS.ForMost
import HandS.ForExc
import HandS.ExcInit
import HandS.ExcIs
import HandS.Star
import HandS.ClsMeth
import HandS.More
import HandS.RaiseMore
import HandS.Defaults
import HandS.Head0
import HandS.Head1
import HandS.Head2
import HandS.HeadEnd
import HandS.HeadHook1
import HandS.HeadHook2
import HandS.MakeKw
import HandS.Lambda
import HandS.EndTab
import HandS.HeadHook4
import HandS.IsInst
import KE.KTypeName
import KE.DataMinMax
import HandS.SortKw
import HandS.SlotsOwn
import HandS.OwnEq
import HandS.FStr
import KE.KFmtOwn
import KE.KOpsOwn
import HandS.TryOnly
import HandS.ExcField
import HandS.ForSpec
import HandS.Walk
import HandS.Text
import HandS.WordsExc
import KE.KCallOwn
import HandS.MakeKwOnly
import PyProof.Rows.StrFit
import PyProof.Rows.NestShow
import OpenK.KOps
import PySem.Challenge.RW_anypads_k03_rows_made
set_option Elab.async false
set_option linter.all false
set_option maxRecDepth 100000
set_option maxHeartbeats 4000000
/-! Errors as values: own exception classes whose own __init__ calls that of a base off its class. -/
namespace Ev
open PySem PySem.Spec PyProof.Rows L2

section
variable {X : Cx} {pins : List (Addr × Obj)} {σ : L2.St} {H H1 : Hp} {s : Shared} {C fI : Addr} {CX : CXT} {k : Nat} {sp : Sp} {E : XK} {Q : VK}
/-- the class at C is called: the new error stays tracked -/
theorem run_mk {us : List Value} {vs : List V} (T : OexC X.K C)
    (iC : PySem.W.findIn X.K (.ref C) "__init__" = some (some (.ref fI)))
    (tI : PySem.W.typeIn X.K (.ref fI) = some (.type "function"))
    (FR : FnR X.prog X.w X.K X.mg X.base CX k fI sp) (hr : Room (k + 1) X.A) (hx : Passes CX X E)
    (I1 : Inv X pins σ H1 s) (r1 : Vals vs us) (hz : vs.length ≤ 1000)
    (q1 : ∀ a, H1 a = none → sp (.ref a :: vs) (upd H1 a (exo a C none)) (fun v H2 => v = .non ∧ Q (.ref a) H2) E) :
    wpAny (model X.prog X.w) X.A (call (.ref C) us) (EP X pins σ Q) X.xe s := by
  obtain ⟨x1, x2, x3, x4, x5, x6, x7, x8, x9, x10, x11, y0, y1, y2, y3, hC, hbm⟩ := T.cls
  obtain ⟨hp, g, dr, tk, os⟩ := s
  have hs1 : hp.objs.size ≤ hp.objs.size + 1 := Nat.le_succ _
  have hn : H1 (hp.objs.size + 1) = none := I1.hok.fresh hs1
  have hq := q1 (hp.objs.size + 1) hn
  have up : ∀ b o, hp.get? b = some o →
      ((hp.push (PySem.W.kdv_tup us)).push (PySem.HandSPX.excO C hp.objs.size)).get? b = some o :=
    fun b o e => Heap.get?_push_of_some _ (Heap.get?_push_of_some _ e)
  have here : ((hp.push (PySem.W.kdv_tup us)).push (PySem.HandSPX.excO C hp.objs.size)).get? (hp.objs.size + 1)
      = some (PySem.HandSPX.excO C hp.objs.size) := by heap_get
  have I2 : Inv X pins σ (upd H1 (hp.objs.size + 1) (exo (hp.objs.size + 1) C none))
      ⟨(hp.push (PySem.W.kdv_tup us)).push (PySem.HandSPX.excO C hp.objs.size), g, dr, tk, os⟩ :=
    I1.laid (t' := tk) (a := hp.objs.size + 1) (o := exo (hp.objs.size + 1) C none)
      (h' := (hp.push (PySem.W.kdv_tup us)).push (PySem.HandSPX.excO C hp.objs.size)) up hs1 (exo_ok here)
  have r2 : Vals (V.ref (hp.objs.size + 1) :: vs) (Value.ref (hp.objs.size + 1) :: us) := .cons rfl r1
  have hus : us.length ≤ sizeLine := by
    rw [← Paired.length r1, sizeLine_eq]; omega
  refine wpAny_call (PySem.HandSPX.call_own PySem.F.excBase_ValueError (fun Y => PySem.HandSPX.refsVE_contains Y x5 hbm)
    (I1.kIn _ _ hC) (PySem.W.looks_findIn I1.kIn iC) (fun self => PySem.W.bind_fn I1.kIn self tI) hus
    (codeAny_mono (FR _ X.stack _ _ (Value.ref (hp.objs.size + 1) :: us) _ _ E (hr.make C us [])
      (I2.env0.make C us []) r2 hq) fun r s' z => ?_))
  cases r with
  | error er => exact hx pins σ _ _ er s' I2 z
  | ok fl =>
    cases fl with
    | ret u =>
      obtain ⟨v, H', I3, rv, ev, q3⟩ := I2.after z
      subst ev
      exact ⟨rv, V.ref (hp.objs.size + 1), H', I3, rfl, q3⟩
    | next => exact False.elim z
    | brk => exact False.elim z
    | cont => exact False.elim z
end

/-- C(e, ..) as a value -/
def tMk (C : Addr) (sp : Sp) (E : XK) (ta : TA) : TE := fun σ H Q => ta σ H fun vs H1 => vs.length ≤ 1000 ∧
  ∀ a, H1 a = none → sp (.ref a :: vs) (upd H1 a (exo a C none)) (fun v H2 => v = .non ∧ Q (.ref a) H2) E
/-- o.m(e, ..), o a class of one's own, m a def of it -/
def tOff (C0 : Addr) (sp : Sp) (E : XK) (to : TE) (ta : TA) : TE := fun σ H Q => to σ H fun x H1 => x = .ref C0 ∧
  ta σ H1 fun vs H2 => sp vs H2 Q E
section
variable {X : Cx} {CX : CXT} {k : Nat} {C C0 fI f0 : Addr} {mc : Value} {sp : Sp} {E : XK} {x m : Str} {o e : Expr} {es : List Expr}
  {p pos apos : Pos} {to : TE} {ta : TA} {pl : Sem Bool}
theorem pe_mk (T : OexC X.K C) (iC : PySem.W.findIn X.K (.ref C) "__init__" = some (some (.ref fI)))
    (tI : PySem.W.typeIn X.K (.ref fI) = some (.type "function")) (FR : FnR X.prog X.w X.K X.mg X.base CX k fI sp)
    (hr : Room (k + 1) X.A) (hx : Passes CX X E) (hg : Gl X x) (hm : X.mg x = some (.ref C)) (ha : PA X (e :: es) ta)
    (hdb : (x == ("__debug__" : Str)) = false := by decide)
    (he : starEach (e :: es) X.env = (false, eval e X.env) :: starEach es X.env := by rfl)
    (hpl : (backTo pos (starEach es X.env)).any (·.1) = false := by rfl) :
    PE X (.Call (.Name x p) (e :: es) [] pos) (tMk C sp E ta) := by
  refine ⟨fun pins s σ H Q I h => wpAny_Call_Name_kw (ld_glob I hg hm ?_ hdb)⟩
  refine PySem.W.callWith_K (h₀ := X.base) I.ok.mod.kin T.kC
    (thn (ha.run pos pins s σ H _ I h) fun us s1 ⟨vs, H1, I1, r1, hz, q1⟩ => ⟨I1.kIn, ?_⟩) he hpl
  exact run_mk T iC tI FR hr hx I1 r1 hz q1
theorem pe_mk0 (T : OexC X.K C) (iC : PySem.W.findIn X.K (.ref C) "__init__" = some (some (.ref fI)))
    (tI : PySem.W.typeIn X.K (.ref fI) = some (.type "function")) (FR : FnR X.prog X.w X.K X.mg X.base CX k fI sp)
    (hr : Room (k + 1) X.A) (hx : Passes CX X E) (hg : Gl X x) (hm : X.mg x = some (.ref C))
    (hdb : (x == ("__debug__" : Str)) = false := by decide) :
    PE X (.Call (.Name x p) [] [] pos) (tMk C sp E tNil) := by
  refine ⟨fun pins s σ H Q I h => wpAny_Call_Name_kw (ld_glob I hg hm ?_ hdb)⟩
  exact PySem.W.callWith_K0 I.kIn T.kC (run_mk (us := []) T iC tI FR hr hx I .nil h.1 h.2)
theorem pe_off (he : PE X o to) (r : ClX.CRead X.K C0 mc) (hf : PySem.W.findCls X.K (.ref C0) mc m = some (.val (.ref f0)))
    (FR : FnR X.prog X.w X.K X.mg X.base CX k f0 sp) (hr : Room k X.A) (kf : PySem.W.keepIn X.K (.ref f0) = true)
    (hx : Passes CX X E) (ha : PA X (e :: es) ta)
    (hst : starEach (e :: es) X.env = (false, eval e X.env) :: starEach es X.env := by rfl)
    (hpl : (backTo pos (starEach es X.env)).any (·.1) = false := by rfl)
    (ht : eval (.Call (.Attribute o m apos) (e :: es) [] pos) X.env = (eval o X.env >>= fun ov => standAt apos.atName >>= fun _ =>
      holding [ov] (getMethod ov m pl) >>= fun q => callWith pos q.1 q.2 (backTo pos (starEach (e :: es) X.env))
        (backToKw pos (keywordEach [] X.env))) := by rfl) :
    PE X (.Call (.Attribute o m apos) (e :: es) [] pos) (tOff C0 sp E to ta) := by
  refine ⟨fun pins s σ H Q I h => PySem.W.methodCall_KW (pl := pl)
    (thn (he.run pins s σ H _ I h) fun u s1 ⟨y, H1, I1, ry, ey, q⟩ => ?_) ht⟩
  subst ey
  obtain rfl : u = Value.ref C0 := ry
  refine PySem.W.method_cls I1.kIn r.ga (PySem.W.cls_value I1.kIn r.rd hf rfl ?_)
  refine PySem.W.callWith_K (first := []) (h₀ := X.base) I1.ok.mod.kin kf
    (thn (ha.run pos pins _ σ H1 _ (I1.tok _) q) fun us s2 ⟨vs, H2, I2, rv, q2⟩ => ⟨I2.kIn, ?_⟩) hst hpl
  exact wpAny_call (run_fnR FR hr hx I2 rv q2)
end
end Ev
set_option Elab.async false
set_option linter.all false
set_option maxRecDepth 100000
set_option maxHeartbeats 4000000
/-! Errors as values, further: a field read off an error, isinstance of one, repr of data. -/
namespace Ev
open PySem PySem.Spec PyProof.Rows L2
/-! ### where an error and its dict stand -/
section
variable {P : Program} {w : World} {H : Hp} {h : Heap} {a C d : Addr} {fs : List (Str × V)}
theorem err_inst (hok : HOk P w H h) (ea : H a = some (exo a C (some d))) (ed : H d = some (exd d fs)) :
    ∃ (oe od : Obj) (mA : Str → Option Value), PySem.W.InstAt h a oe C (some od) ∧ (∀ y, PySem.W.lookIn y od = some (mA y)) ∧ ∀ f, RelO (fs.lookup f) (mA f) := by
  obtain ⟨t0, ho⟩ := exo_at hok ea
  obtain ⟨mA, hns, rel⟩ := exd_at hok ed
  obtain ⟨od, hd, hl⟩ := lookIn_ns hns
  exact ⟨_, od, mA, ⟨ho, rfl, rfl, hd⟩, hl, rel⟩
end
/-! ### e.f -/
def tErr (K : PySem.W.Frag) (ta : TE) (f : Str) : TE := fun σ H Q => ta σ H fun x H1 => ∃ (a C d : Addr) (fs : List (Str × V)) (v : V), x = .ref a ∧
  ExcC K C ∧ PySem.W.findIn K (.ref C) f = some none ∧ H1 a = some (exo a C (some d)) ∧ H1 d = some (exd d fs) ∧ fs.lookup f = some v ∧ Q v H1
section
variable {X : Cx} {e : Expr} {te : TE} {f : Str} {pos : Pos}
theorem pe_err (he : PE X e te) (hb : attributeBase e f X.env (eval e X.env) = eval e X.env := by rfl) : PE X (.Attribute e f pos) (tErr X.K te f) := by
  refine ⟨fun pins s σ H Q I h => attr_of hb (thn (he.run pins s σ H _ I h) fun u s1 z => ?_)⟩
  obtain ⟨x, H1, I1, rx, a, C, d, fs, v, ex, T, no, ea, ed, l, q⟩ := z
  subst ex
  obtain rfl : u = Value.ref a := rx
  obtain ⟨oe, od, mA, J, hl, rel⟩ := err_inst I1.hok ea ed
  obtain ⟨u, hu, ru⟩ := RelO.some_of (v := v) (o := mA f) (by rw [← l]; exact rel f)
  exact PySem.HandSPX.exc_get I1.kIn J T.hg T.hk T.hs (PySem.W.findObj_own T.hd no rfl (by rw [hl, hu])) (handed_of ru) ⟨v, H1, I1.tok _, ru, q⟩
end
/-! ### isinstance(e, C) -/
section
open PySem.W
variable {prog : Program} {w : World} {A : Around} {E : Value → Shared → Prop} {s : Shared} {K : Frag} {x D : Addr} {ox : Obj} {od : Option Obj}
theorem find_cls (c : ExcC K D) : findObj K D od "__class__" = some (.bind (.builtin "getset_descriptor.__get__") (.builtin "object.__class__")) := by
  obtain ⟨cd, hc, _⟩ := any_some c.hd
  have h1 := c.ha; have h2 := c.hn; have h3 := c.ht
  unfold findObj
  rw [hc, Option.bind_some, h1, Option.bind_some]
  simp [h2, h3]
theorem cls_read {Q : Option Value → Shared → Prop} (c : ExcC K D) (X : K.In s.heap) (I : PySem.W.InstAt s.heap x ox D od)
    (h : Q (some (.ref D)) { s with toks := s.toks + 1 }) : wpAny (model prog w) A (getAttr? (.ref x) "__class__") Q E s := by
  obtain ⟨hp, g, dr, tk, os⟩ := s
  have z0 := I.type (M := model prog w)
  have z1 := looks_findIn (M := model prog w) X c.hg
  have z2 := looks_findIn (M := model prog w) X c.hk
  have z3 := looks_find (M := model prog w) X I (find_cls c)
  have sb : Looks (model prog w) hp (isInstance (.ref x) (.type "BaseException")) true := z0.andThen (looks_subIn X c.hs)
  have n0 : (false && onTheHeap (Value.builtin "BaseException.__getattribute__")) = false := rfl
  have n2 : (Value.builtin "BaseException.__getattribute__" == Value.builtin "object.__getattribute__") = false := by decide +kernel
  have n1 : (onTheHeap (Value.ref D) && Value.builtin "BaseException.__getattribute__" == Value.builtin "object.__getattribute__") = false := by
    rw [n2]; rfl
  unfold getAttr? getAttrBy? getAttrBy
  refine wpAny_bind (wpAny_mkText (wpAny_bind (wpAny_attempt (wpAny_holding (wpAny_bind (z0.at (wpAny_bind (z1.at ?_))))))))
  show wpAny _ _ (if (onTheHeap (Value.ref D) && Value.builtin "BaseException.__getattribute__" == Value.builtin "object.__getattribute__") = true then _ else _) _ _ _
  rw [n1, if_neg Bool.false_ne_true]
  unfold getAttrByItsOwn hookBefore
  refine wpAny_bind ?_
  rw [if_pos (show onTheHeap (Value.ref D) = true from rfl)]
  refine z2.at (wpAny_bind (wpAny_attempt (wpAny_holding ?_)))
  unfold callGetattribute
  rw [n0, if_neg Bool.false_ne_true]
  unfold boundAndCalled
  rw [PySem.F.excAttr_ValueError.ga.bind (.ref x)]
  refine wpAny_bind (wpAny_pure ?_)
  show wpAny _ _ (call (.builtin "BaseException.__getattribute__") [.ref x, .str "__class__" tk]) _ _ _
  refine wpAny_call (codeAny_call_builtin PySem.F.excAttr_ValueError.ga.plain PySem.F.entry_bexc_ga
    (@check_slot (model prog w) _ _ ⟨hp, g, dr, tk + 1, os⟩ "BaseException.__getattribute__" "BaseException" "__getattribute__" (.ref x) [.str "__class__" tk] [] _
      (by decide +kernel) (by decide +kernel) sb (PySem.F.args_bexc_ga (.ref x) (.str "__class__" tk)) ?_))
  unfold Builtin.«object.__getattribute__»
  refine wpAny_bind (wpAny_of_eq (a := ((Value.ref x : Value), [Value.str "__class__" tk])) (by first | rfl | (simp only [slotArgs]; rfl)) ?_)
  refine wpAny_bind (wpAny_pure (wpAny_bind (z0.at (wpAny_bind (z3.at ?_)))))
  show wpAny _ _ (holding [Value.builtin "object.__class__"] (call (.builtin "getset_descriptor.__get__") [.builtin "object.__class__", .ref x, .ref D]) >>= ret) _ _ _
  refine wpAny_bind (wpAny_holding (wpAny_call (class_get (s := ⟨hp, g, dr, tk + 1, os⟩) (ox := ox) (od := od) X I c.hm (wpAny_pure ?_))))
  show wpAny _ _ (handedOut (.ref D)) _ _ _
  rw [handedOut_of (v := .ref D) rfl]
  first
    | exact wpAny_pure (wpAny_pure h)
    | exact wpAny_pure h
    | exact wpAny_pure (wpAny_bind (wpAny_pure (wpAny_pure h)))
theorem kit_err (c : ExcC K D) : KitX K (.ref x) (.ref D) (fun h => PySem.W.InstAt h x ox D od) := by
  have k : ∃ c' d' cd' sl', K.lookup D = some ⟨c', d', .cls cd', sl'⟩ := by
    obtain ⟨cd, hc, _⟩ := any_some c.hd
    unfold clsIn at hc
    split at hc
    · rename_i c' d' cd' sl' ho
      exact ⟨c', d', cd', sl', ho⟩
    · cases hc
  obtain ⟨c', d', cd', sl', ho⟩ := k
  refine ⟨fun _ _ _ I => I.type, fun _ _ X _ A' Q' E' s' kp q => ?_, fun h tp dd its n sl X ht => Bool.eq_false_iff.mpr fun q => ?_, fun X I q => cls_read c X I q⟩
  · unfold isType loadHead
    exact wpAny_bind (wpAny_loadPart (kp _ _ (X _ _ ho)) (wpAny_pure q))
  · have e : D = tp := Value.ref.inj (beq_iff_eq.mp q)
    subst e
    cases (X _ _ ho).symm.trans ht
end
/-- isinstance(e, c), e an error of the class at D -/
def rIsV (K : PySem.W.Frag) : List V → Hp → VK → Prop := fun xs H Q => ∃ (a D d : Addr) (fs : List (Str × V)) (c : V) (cv : Value) (b : Bool), xs = [.ref a, c] ∧ ExcC K D ∧
  H a = some (exo a D (some d)) ∧ H d = some (exd d fs) ∧ (∀ u, RelV c u → u = cv) ∧ PySem.W.kitOne K (.ref D) cv = some b ∧ Q (.bl b) H
theorem call_isV {X : Cx} : CallR X (.builtin "isinstance") (rIsV X.K) := by
  intro pins s σ H xs us Q I r h
  obtain ⟨a, D, d, fs, c, cv, b, rfl, T, ea, ed, hcv, e, q⟩ := h
  obtain ⟨oe, od, mA, J, hl, rel⟩ := err_inst I.hok ea ed
  cases r with
  | cons rx rr => cases rr with
    | cons rt rr =>
      cases rr
      cases rx
      have ec := hcv _ rt
      subst ec
      exact PySem.W.kia_one (kit_err T) I.kIn J e (fun z => nomatch z) fun tk => ⟨.bl b, H, I.kept (t' := tk) fun _ _ z => z, rfl, q⟩
/-- isinstance(e, (c1, c2, ..)) -/
def rIsW (K : PySem.W.Frag) : List V → Hp → VK → Prop := fun xs H Q => ∃ (a D d tp : Addr) (fs : List (Str × V)) (cs : List V) (cvs : List Value) (b : Bool), xs = [.ref a, .ref tp] ∧ ExcC K D ∧
  H a = some (exo a D (some d)) ∧ H d = some (exd d fs) ∧ SqT K H tp cs ∧ (∀ us, Vals cs us → us = cvs) ∧ PySem.W.kitAny K (.ref D) cvs = some b ∧ Q (.bl b) H
theorem call_isW {X : Cx} : CallR X (.builtin "isinstance") (rIsW X.K) := by
  intro pins s σ H xs us Q I r h
  obtain ⟨a, D, d, tp, fs, cs, cvs, b, rfl, T, ea, ed, ht, hcv, e, q⟩ := h
  obtain ⟨oe, od, mA, J, hl, rel⟩ := err_inst I.hok ea ed
  obtain ⟨its, rv, ⟨o, ho, hc, n, hd⟩, hz⟩ := I.tuple ht
  have ei := hcv _ rv
  subst ei
  obtain ⟨oc, odi, oda, osl⟩ := o
  dsimp only at hc hd
  subst hc hd
  cases r with
  | cons rx rr => cases rr with
    | cons rt rr =>
      cases rr
      cases rx
      cases rt
      exact PySem.W.kia_tup (kit_err T) I.kIn J ho e (fun z => nomatch z) fun tk => ⟨.bl b, H, I.kept (t' := tk) fun _ _ z => z, rfl, q⟩
end Ev
set_option Elab.async false
set_option linter.all false
set_option maxRecDepth 100000
set_option maxHeartbeats 4000000
/-! repr of data: None, bools, ints, texts, lists, tuples, dicts by text and int keys, one in another. -/
namespace Ev
open PySem PySem.Spec PyProof.Rows L2
def keyD : Key → PyData
  | .inl i => .int i
  | .inr x => .str x
mutual
inductive Dr (K : PySem.W.Frag) (H : Hp) : V → PyData → Prop
  | non : Dr K H .non .none
  | bl (b : Bool) : Dr K H (.bl b) (.bool b)
  | int (i : Int) : Dr K H (.int i) (.int i)
  | str (x : Str) : Dr K H (.str x) (.str x)
  | lst {a : Addr} {xs : List V} {ds : List PyData} : SqL K H a xs → DrAll K H xs ds → Dr K H (.ref a) (.list ds)
  | tup {a : Addr} {xs : List V} {ds : List PyData} : SqT K H a xs → DrAll K H xs ds → Dr K H (.ref a) (.tuple ds)
  | dct {a : Addr} {kvs : List (Key × V)} {ds : List PyData} : H a = some (.dK kvs) → DrAll K H (kvs.map (·.2)) ds →
      Dr K H (.ref a) (.dict ((kvs.map fun p => keyD p.1).zip ds))
inductive DrAll (K : PySem.W.Frag) (H : Hp) : List V → List PyData → Prop
  | nil : DrAll K H [] []
  | cons {v : V} {vs : List V} {d : PyData} {ds : List PyData} : Dr K H v d → DrAll K H vs ds → DrAll K H (v :: vs) (d :: ds)
end
theorem same_seqT {K : PySem.W.Frag} {H H' : Hp} {a : Addr} {xs : List V} (S : Same H H') (h : SqT K H a xs) : SqT K H' a xs := by
  rcases h with (h | ⟨o, h⟩) | h
  · exact .inl (.inl (S _ _ h))
  · exact .inl (.inr ⟨o, S _ _ h⟩)
  · exact .inr h
mutual
theorem Dr.same {K : PySem.W.Frag} {H H' : Hp} (S : Same H H') : ∀ {v : V} {d : PyData}, Dr K H v d → Dr K H' v d
  | _, _, .non => .non
  | _, _, .bl b => .bl b
  | _, _, .int i => .int i
  | _, _, .str x => .str x
  | _, _, .lst h r => .lst (S.seq h) (DrAll.same S r)
  | _, _, .tup h r => .tup (same_seqT S h) (DrAll.same S r)
  | _, _, .dct h r => .dct (S _ _ h) (DrAll.same S r)
theorem DrAll.same {K : PySem.W.Frag} {H H' : Hp} (S : Same H H') : ∀ {vs : List V} {ds : List PyData}, DrAll K H vs ds → DrAll K H' vs ds
  | _, _, .nil => .nil
  | _, _, .cons h r => .cons (Dr.same S h) (DrAll.same S r)
end
theorem DrAll.len {K : PySem.W.Frag} {H : Hp} : ∀ {vs : List V} {ds : List PyData}, DrAll K H vs ds → vs.length = ds.length
  | _, _, .nil => rfl
  | _, _, .cons _ r => congrArg Nat.succ r.len
/-- the written part knows the table of modules as a dict -/
def SysK (K : PySem.W.Frag) : Prop := ∃ o, K.lookup sysModules = some o ∧ o.cls = .type "dict"
theorem keys_read {P : Program} {w : World} {h : Heap} : ∀ {es : List DictEntry} {vs : List (Key × Value)}, PySem.Pairs (mixKind P w) es vs →
    ReadsAll h (es.map (·.key)) (vs.map fun p => keyD p.1) [] ∧ es.map (·.val) = vs.map (·.2)
  | _, _, .nil => ⟨.nil, rfl⟩
  | _, _, .cons (e := e) (kv := kv) (es := es) (kvs := kvs) h1 h2 r => by
    obtain ⟨a, b⟩ := keys_read (h := h) r
    refine ⟨?_, ?_⟩
    · rcases keyIs_shape (k := kv.1) (v := e.key) h1 with ⟨i, t, k1, k2⟩ | ⟨x, t, k1, k2⟩
      · have z : Reads h e.key (keyD kv.1) [] := by
          rw [k1, k2]; exact .int i t
        exact ReadsAll.cons z a
      · have z : Reads h e.key (keyD kv.1) [] := by
          rw [k1, k2]; exact .str x t
        exact ReadsAll.cons z a
    · show e.val :: es.map (·.val) = kv.2 :: kvs.map (·.2)
      rw [h2, b]
theorem kv_split : ∀ {kvs : List (Key × V)} {vs : List (Key × Value)}, KV kvs vs → (kvs.map fun p => keyD p.1) = (vs.map fun p => keyD p.1) ∧ Vals (kvs.map (·.2)) (vs.map (·.2))
  | _, _, .nil => ⟨rfl, .nil⟩
  | _, _, .cons (a := p) (b := q) h r => by
    obtain ⟨x, y⟩ := kv_split r
    refine ⟨?_, .cons h.2 y⟩
    show keyD p.1 :: _ = keyD q.1 :: _
    rw [h.1, x]
section
variable {X : Cx} {pins : List (Addr × Obj)} {σ : L2.St} {H : Hp} {s : Shared}
theorem not_sys {a : Addr} (I : Inv X pins σ H s) (hs : SysK X.K) {o : Obj} (ho : s.heap.get? a = some o) (hc : o.cls = .type "list") : sysModules ≠ a := fun e => by
  obtain ⟨o2, h2, c2⟩ := hs
  have z := I.kIn _ _ h2
  rw [e, ho] at z
  cases z
  rw [hc] at c2
  have c3 := Value.type.inj c2
  exact absurd c3 (by decide)
mutual
theorem Dr.reads (I : Inv X pins σ H s) (hs : SysK X.K) : ∀ {v : V} {d : PyData} {u : Value}, Dr X.K H v d → RelV v u → ∃ as, Reads s.heap u d as ∧ sysModules ∉ as
  | _, _, _, .non, r => by cases r; exact ⟨[], .none, by simp⟩
  | _, _, _, .bl b, r => by cases r; exact ⟨[], .bool b, by simp⟩
  | _, _, _, .int i, r => by obtain ⟨t, rfl⟩ := r; exact ⟨[], .int i t, by simp⟩
  | _, _, _, .str x, r => by obtain ⟨t, rfl⟩ := r; exact ⟨[], .str x t, by simp⟩
  | _, _, _, .lst h ha, r => by
    cases r
    obtain ⟨its, rv, ⟨o, n, ho, hc, _, hd⟩, _⟩ := I.list h
    obtain ⟨as, hr, hn⟩ := DrAll.reads I hs ha rv
    exact ⟨_, Reads.list ho hc hd hr, fun hm => (List.mem_cons.mp hm).elim (not_sys I hs ho hc) hn⟩
  | _, _, _, .tup h ha, r => by
    cases r
    obtain ⟨its, rv, ⟨o, ho, hc, n, hd⟩, _⟩ := I.tuple h
    obtain ⟨as, hr, hn⟩ := DrAll.reads I hs ha rv
    exact ⟨_, Reads.tuple ho hc hd hr, hn⟩
  | _, _, _, .dct (kvs := kvs) (ds := ds) h ha, r => by
    cases r
    obtain ⟨_, hy, vs, rel, o, es, ep, ho, hc, hd, _, pr, _⟩ := dk_of I.hok h
    obtain ⟨k1, k2⟩ := keys_read (h := s.heap) pr
    obtain ⟨e1, rv⟩ := kv_split rel
    obtain ⟨as, hr, hn⟩ := DrAll.reads I hs ha rv
    have hl : (kvs.map fun p => keyD p.1).length = ds.length := by
      rw [← ha.len, List.length_map, List.length_map]
    refine ⟨_, Reads.dict (as := []) (bs := as) ho hc.1 hd ?_ ?_, fun hm => ?_⟩
    · rw [List.map_fst_zip (Nat.le_of_eq hl), e1]; exact k1
    · rw [List.map_snd_zip (Nat.le_of_eq hl.symm), k2]; exact hr
    · rcases List.mem_cons.mp hm with q | q
      · rw [← q] at hy
        exact absurd hy (by simp)
      · exact hn (by simpa using q)
theorem DrAll.reads (I : Inv X pins σ H s) (hs : SysK X.K) : ∀ {vs : List V} {ds : List PyData} {us : List Value}, DrAll X.K H vs ds → Vals vs us → ∃ as, ReadsAll s.heap us ds as ∧ sysModules ∉ as
  | _, _, _, .nil, r => by cases r; exact ⟨[], .nil, by simp⟩
  | _, _, _, .cons h1 h2, r => by
    cases r with
    | cons r1 r2 =>
      obtain ⟨as, q1, n1⟩ := Dr.reads I hs h1 r1
      obtain ⟨bs, q2, n2⟩ := DrAll.reads I hs h2 r2
      exact ⟨_, .cons q1 q2, fun hm => (List.mem_append.mp hm).elim n1 n2⟩
end
end
/-- repr(x), x data -/
def rRepr (K : PySem.W.Frag) : List V → Hp → VK → Prop := fun xs H Q => ∃ (v : V) (d : PyData), xs = [v] ∧ Dr K H v d ∧ d.showable = true ∧ d.shown.length ≤ sizeLine ∧ d.depth ≤ 20 ∧ Q (.str d.shown) H
theorem call_repr {X : Cx} (hg : X.A.guards = some []) (hu : X.A.units + 64 < cLine) (hs : SysK X.K) : CallR X (.builtin "repr") (rRepr X.K) := by
  intro pins s σ H xs us Q I r h
  obtain ⟨v, d, rfl, hd, hsh, hz, hdp, q⟩ := h
  cases r with
  | cons r1 rr =>
    cases rr
    cases hd with
    | non =>
      cases r1
      exact PySem.P.repr_of_none ⟨.str _, H, I.tok _, ⟨_, rfl⟩, q⟩
    | bl b =>
      cases r1
      refine PySem.P.repr_of_bool ⟨.str _, H, I.tok _, ⟨_, rfl⟩, ?_⟩
      simpa only [PyData.shown] using q
    | int i =>
      obtain ⟨t, rfl⟩ := r1
      refine PySem.P.repr_of_int (by simpa [PyData.showable] using hsh) ⟨.str _, H, I.tok _, ⟨_, rfl⟩, ?_⟩
      simpa only [PyData.shown] using q
    | str x =>
      obtain ⟨t, rfl⟩ := r1
      refine PySem.P.repr_of_str ⟨.str _, H, I.tok _, ⟨_, rfl⟩, ?_⟩ (by simpa only [PyData.shown] using hz)
      simpa only [PyData.shown] using q
    | lst h1 h2 =>
      cases r1
      obtain ⟨as, rd, hn⟩ := Dr.reads I hs (.lst h1 h2) rfl
      exact repr_of_reads' rd hsh (fun _ => hn) hg (by omega) (fun _ _ e => e) (fun h' u tk hk => ⟨.str _, H, I.kept (t' := tk) hk, ⟨u, rfl⟩, q⟩) hz
    | tup h1 h2 =>
      cases r1
      obtain ⟨as, rd, hn⟩ := Dr.reads I hs (.tup h1 h2) rfl
      exact repr_of_reads' rd hsh (fun _ => hn) hg (by omega) (fun _ _ e => e) (fun h' u tk hk => ⟨.str _, H, I.kept (t' := tk) hk, ⟨u, rfl⟩, q⟩) hz
    | dct h1 h2 =>
      cases r1
      obtain ⟨as, rd, hn⟩ := Dr.reads I hs (.dct h1 h2) rfl
      exact repr_of_reads' rd hsh (fun _ => hn) hg (by omega) (fun _ _ e => e) (fun h' u tk hk => ⟨.str _, H, I.kept (t' := tk) hk, ⟨u, rfl⟩, q⟩) hz
end Ev
set_option Elab.async false
set_option linter.all false
set_option maxRecDepth 100000
set_option maxHeartbeats 4000000
/-! Defs whose bodies ask repr: a promise that holds where no repr is under way (FnG); the end of a law by such a promise; a Hook with one Bool more. -/
namespace Ev
open PySem PySem.Spec PyProof.Rows L2
def FnG (P : Program) (w : World) (K : PySem.W.Frag) (mg : Str → Option Value) (base : Heap) (CX : CXT) (k : Nat) (f : Addr) (sp : Sp) : Prop :=
  ∀ (A : Around) (outer : List Env) (s : Shared) (H : Hp) (us : List Value) (vs : List V) (Q : VK) (E : XK), A.guards = some [] → Room k A →
    Env0 P w K mg base A outer s H → Vals vs us → sp vs H Q E → codeAny (model P w) A (.call (.ref f) ⟨us, []⟩) (CR CX outer P w H s Q E) s
section
variable {P : Program} {w : World} {K : PySem.W.Frag} {mg : Str → Option Value} {base : Heap} {CX : CXT} {k : Nat} {f : Addr} {sp : Sp}
theorem FnG.of (F : FnR P w K mg base CX k f sp) : FnG P w K mg base CX k f sp := fun A outer s H us vs Q E _ => F A outer s H us vs Q E
theorem FnG.mono {j : Nat} (F : FnG P w K mg base CX j f sp) (h : j ≤ k) : FnG P w K mg base CX k f sp := fun A outer s H us vs Q E g hr => F A outer s H us vs Q E g (hr.mono h)
/-- a def, by its body, where no repr is under way -/
theorem okG {x qual : Str} {params : Arguments} {body : List Stmt} {scope : Scope} {fd : FuncData} {N ps : List Str}
    (F : FunD K x qual params body scope [] [] f fd) (S : FnScope N ps scope)
    (hb : ∀ (kV doc pm : Value) (an : Option Addr) (cdv ct : Value) (us : List Value), us.length = ps.length →
      bindArgs (PySem.W.fnOf x qual params body scope .none kV doc pm an cdv ct) ⟨us, []⟩ = pure (ps.zip us))
    (len : ∀ vs H Q E, sp vs H Q E → vs.length = ps.length)
    (hbody : ∀ (cdv : Value) (A : Around) (outer : List Env) (s : Shared) (H : Hp) (vs : List V) (Q : VK) (E : XK), A.guards = some [] →
      Room k (A.deeper (envOfC qual scope s.heap.objs.size f cdv)) → sp vs H Q E →
      ∃ t, PSs (cxOf CX P w K mg base N qual scope f cdv A outer s H E) body t ∧ t { nx := fun _ H' => Q .non H', rt := Q } (start N vs) H) :
    FnG P w K mg base CX (k + 1) f sp := by
  intro A outer s H us vs Q E hg hr e0 r hsp
  obtain ⟨oc, od, dV, kV, doc, pm, an, cdv, ct, osl, rfl, lk, hcd, hD, hK⟩ := F.ex
  have hl : us.length = ps.length := by rw [← r.length]; exact len _ _ _ _ hsp
  rcases hD with ⟨_, rfl⟩ | ⟨e, _⟩
  · refine StX.run_bnd (G := fun xs H2 => xs = vs ∧ H2 = H) lk hcd S hr e0 (fun A' Ex Q' h => ?_) fun s2 H2 xs ⟨ex, eH⟩ hr' => ?_
    · rw [hb kV doc pm an cdv ct us hl]
      exact wpAny_pure (h s H vs us e0 (Un.kept fun _ _ z => z) rfl (fun _ _ z => z) r (r.length.trans hl) ⟨rfl, rfl⟩)
    · subst ex eH
      exact hbody cdv A outer s2 _ _ Q E hg hr' hsp
  · exact absurd rfl e
end
section
variable {X : Cx} {CX : CXT} {k : Nat} {f : Addr} {sp : Sp} {E : XK} {x : Str} {p pos : Pos} {e : Expr} {es : List Expr} {t : TA}
theorem pe_callG (F : FnG X.prog X.w X.K X.mg X.base CX k f sp) (hgd : X.A.guards = some []) (hr : Room k X.A) (hg : Gl X x) (hm : X.mg x = some (.ref f))
    (hk : PySem.W.keepIn X.K (.ref f) = true) (hx : Passes CX X E) (ha : PA X (e :: es) t) (hdb : (x == ("__debug__" : Str)) = false := by decide)
    (he : starEach (e :: es) X.env = (false, eval e X.env) :: starEach es X.env := by rfl) (hpl : (backTo pos (starEach es X.env)).any (·.1) = false := by rfl) :
    PE X (.Call (.Name x p) (e :: es) [] pos) (tCall sp [] E t) := by
  refine ⟨fun pins s σ H Q I h => wpAny_Call_Name_kw (ld_glob I hg hm ?_ hdb)⟩
  refine PySem.W.callWith_K (h₀ := X.base) I.ok.mod.kin hk (thn (ha.run pos pins s σ H _ I h) fun us s1 ⟨vs, H1, I1, r, q⟩ => ⟨I1.kIn, wpAny_call ?_⟩) he hpl
  have q : sp (vs ++ []) H1 Q E := q
  rw [List.append_nil] at q
  refine codeAny_mono (F X.A X.stack s1 H1 us vs Q E hgd hr I1.env0 r q) fun r2 s' z => ?_
  cases r2 with
  | error er => exact hx pins σ _ s1 er s' I1 z
  | ok fl =>
    cases fl with
    | ret u => exact I1.after z
    | next => exact False.elim z
    | brk => exact False.elim z
    | cont => exact False.elim z
end
/-! ### the end of a law -/
section
variable {P : Program} {w : World} {K : PySem.W.Frag} {mg mb : Str → Option Value} {CX : CXT} {k : Nat} {fa a : Addr} {sp : Sp} {s1 : Shared} {vs : List Value} {ns : List Int}
abbrev LawEnd (s1 : Shared) : Result → Shared → Prop := fun r s' => r = .ok (.ret (.bool true)) ∧ OldK s1.heap s'.heap ∧ s'.os = s1.os ∧ AllBare s'.gens
theorem law_from {H : Hp} (KX : K.In s1.heap) (hns : s1.heap.Ns mainGlobals mg) (hb : s1.heap.Ns builtinsNs mb) (hbb : ∀ x : Str, x ≠ "__name__" → mb x = bootBuiltins x)
    (hlim : s1.heap.NoLimit) (hg : s1.gens = #[]) (ha : s1.heap.get? a = some { cls := .type "list", data := .seq vs.toArray }) (hr : Room k callerA)
    (F : ∀ base : Heap, K.In base → base.Ns mainGlobals mg → FnG P w K mg base CX k fa sp)
    (hsp : sp [.ref a] H (fun v _ => v = .bl true) fun _ _ _ => False) (hCX : ∀ e s', CX [] H s1 (fun _ _ _ => False) e s' → False)
    (hO : Only H) (hok : HOk P w H s1.heap) (hA : ∀ b, H b ≠ none → b = a) (hK : H a ≠ none → K.lookup a = none) :
    codeAny (model P w) callerA (.call (.ref fa) ⟨[.ref a], []⟩) (LawEnd s1) s1 := by
  have free : ∀ {b : Addr} {o : Obj} {es : Array DictEntry} {ep : Nat}, s1.heap.get? b = some o → o.data = .dict es ep → H b = none := fun {b o es ep} e d => by
    cases q : H b with
    | none => rfl
    | some u =>
      obtain rfl : b = a := hA b (by rw [q]; exact fun z => nomatch z)
      rw [ha] at e
      cases e
      exact nomatch (show Data.seq vs.toArray _ = Data.dict es ep from d)
  have nsk : ∀ {b : Addr} {m : Str → Option Value}, s1.heap.Ns b m → (hidT s1.heap H).Ns b m := fun ⟨o, es, ep, e, d, r⟩ => ⟨o, es, ep, hidT_get e (free e d), d, r⟩
  have kb : K.In (hidT s1.heap H) := fun b o e => hidT_get (KX b o e) (by
    cases q : H b with
    | none => rfl
    | some u =>
      obtain rfl : b = a := hA b (by rw [q]; exact fun z => nomatch z)
      rw [hK (by rw [q]; exact fun z => nomatch z)] at e
      cases e)
  obtain ⟨mc, l1, l2⟩ := hlim
  have e0 : Env0 P w K mg (hidT s1.heap H) callerA [] s1 H := {
    frames := rfl
    mod := ⟨kb, nsk hns, ⟨mb, nsk hb, hbb⟩, ⟨mc, nsk l1, l2⟩⟩
    bs := fun b o e => of_hidT e
    bsz := Nat.le_of_eq (hidT_size _ _)
    funs := trivial
    frf := fun b hm => absurd (show b ∈ ([] : List Addr) from hm) (by simp)
    hok := hok
    bare := .of_eq hg }
  refine codeAny_mono (F _ kb (nsk hns) callerA [] s1 H [.ref a] [.ref a] _ _ rfl hr e0 (.cons rfl .nil) hsp) fun r s' h => ?_
  have ends : ∀ {u : Value}, CE [] P w H s1 (fun v _ => v = .bl true) u s' → LawEnd s1 (.ok (.ret u)) s' := by
    intro u h
    obtain ⟨v, H', os, bare, un, ok2, rv, rfl⟩ := h
    obtain rfl : u = Value.bool true := rv
    refine ⟨rfl, OldK.of_keep fun b o e => ?_, os, bare⟩
    cases q : H b with
    | none => exact un.keep b o e q (by intro z; exact absurd (show b ∈ ([] : List Addr) from z) (by simp)) (by simp)
    | some u =>
      rcases hO b with z | ⟨ob, xs, z⟩
      · rw [q] at z
        cases z
      · obtain ⟨e1, _⟩ := hok b _ z
        obtain ⟨e2, _⟩ := ok2 b _ (un.frzs b ob _ z)
        rw [e] at e1
        cases e1
        exact e2
  cases r with
  | error er => exact (hCX er s' h).elim
  | ok fl =>
    cases fl with
    | ret u => exact ends h
    | next => exact False.elim h
    | brk => exact False.elim h
    | cont => exact False.elim h
theorem law_callG (KX : K.In s1.heap) (hns : s1.heap.Ns mainGlobals mg) (hb : s1.heap.Ns builtinsNs mb) (hbb : ∀ x : Str, x ≠ "__name__" → mb x = bootBuiltins x)
    (hlim : s1.heap.NoLimit) (hg : s1.gens = #[]) (ha : s1.heap.get? a = some { cls := .type "list", data := .seq vs.toArray }) (hi : IntsAre vs ns) (hl : ns.length ≤ sizeLine)
    (hr : Room k callerA) (F : ∀ base : Heap, K.In base → base.Ns mainGlobals mg → FnG P w K mg base CX k fa sp)
    (hsp : ∀ H : Hp, Only H → SqL K H a (ns.map V.int) → sp [.ref a] H (fun v _ => v = .bl true) fun _ _ _ => False)
    (hCX : ∀ H e s', CX [] H s1 (fun _ _ _ => False) e s' → False) : codeAny (model P w) callerA (.call (.ref fa) ⟨[.ref a], []⟩) (LawEnd s1) s1 := by
  have rv := vals_ints hi
  have lv := hi.length
  cases hk : K.lookup a with
  | some o =>
    have e := KX a o hk
    rw [ha] at e
    cases e
    have hO : Only (fun _ => none) := fun _ => .inl rfl
    exact law_from KX hns hb hbb hlim hg ha hr F (hsp _ hO (.inr ⟨_, vs.toArray, _, hk, rfl, rfl, rfl, by rw [List.size_toArray, lv]; exact hl, by simpa using rv⟩)) (hCX _) hO
      (fun b u z => nomatch (show (none : Option HO) = some u from z)) (fun b z => absurd rfl z) fun z => absurd rfl z
  | none =>
    let H : Hp := fun b => if b = a then some (.frz { cls := .type "list", data := .seq vs.toArray } (.lst (ns.map V.int))) else none
    have at1 : H a = some (.frz { cls := .type "list", data := .seq vs.toArray } (.lst (ns.map V.int))) := if_pos rfl
    have off : ∀ {b}, b ≠ a → H b = none := fun h => if_neg h
    have hO : Only H := fun b => by
      by_cases q : b = a
      · exact .inr ⟨_, _, q ▸ at1⟩
      · exact .inl (off q)
    refine law_from KX hns hb hbb hlim hg ha hr F (hsp H hO (.inl (.inr ⟨_, at1⟩))) (hCX H) hO (fun b u z => ?_) (fun b z => ?_) fun _ => hk
    · by_cases q : b = a
      · subst q
        rw [at1] at z
        cases z
        exact ⟨ha, by rw [List.length_map]; exact hl, vs, _, rv, ha⟩
      · rw [off q] at z
        cases z
    · by_cases q : b = a
      · exact q
      · exact absurd (off q) z
end
theorem walk_ofG {l : PySem.W.OpenLaw} {n k : Nat} {q : Program} {loose : List Str} {XP : (Str → Option Value) → Heap → Prop} {YP : World → Heap → Prop} {d : DefRec} {CX : CXT}
    (hn : l.most = some n) (hn2 : n ≤ sizeLine) (hdf : d.params.defaults = []) (hr : Room k callerA)
    (F : ∀ (w : World) (mg : Str → Option Value) (fa : Addr) (h : Heap), YP w h → h.Ns mainGlobals mg → mg d.name = some (.ref fa) →
      ∃ (K : PySem.W.Frag) (sp : Sp), K.In h ∧
        (∀ (H : Hp) (a : Addr) (ns : List Int), ns.length ≤ n → Only H → SqL K H a (ns.map V.int) → sp [.ref a] H (fun v _ => v = .bl true) fun _ _ _ => False) ∧
        ∀ base : Heap, K.In base → base.Ns mainGlobals mg → FnG l.prog w K mg base CX k fa sp)
    (hCX : ∀ (H : Hp) (s : Shared) (e : Value) (s' : Shared), CX [] H s (fun _ _ _ => False) e s' → False) :
    PySem.W.WalkO q loose XP YP l.row.toRowW d [] (fun f vs => PySem.call f vs) := by
  refine Att.attach_call hn hdf fun w s0 s1 mg mb fa o pm cd doc a vs ns G Y ho hd hcd hmg hobj hints hlen hg => ?_
  obtain ⟨K, sp, KX, hsp, hF⟩ := F w mg fa _ Y G.T.g hmg
  exact law_callG KX G.T.g G.T.b G.T.builtins G.T.nolimit hg hobj hints (Nat.le_trans hlen hn2) hr hF (fun H hO hS => hsp H a ns hlen hO hS) fun H e s' => hCX H s1 e s'
/-! ### a Hook: the facts of He, and a Bool of one's own; the table of modules is among what is known -/
def asE (g : Addr → Option Obj) (n : Nat) : List Addr := He.asD g n ++ [sysModules, cStatics]
def obsE (n : Nat) (fa : List He.Fa) (fn : List He.DefD) (ex : PySem.W.Frag → Bool) (g : Addr → Option Obj) : He.AlD × Bool :=
  (He.obsD fa fn (He.frG g (asE g n)), ex (He.frG g (asE g n)))
def hookE (n : Nat) (fa : List He.Fa) (fn : List He.DefD) (ex : PySem.W.Frag → Bool) : PySem.W.Hook where
  α := He.AlD × Bool
  obs := fun s => obsE n fa fn ex s.heap.get?
  val := fun _ => (He.valD fn, true)
  says := fun _ h => ∃ K : PySem.W.Frag, K.In h ∧ He.SaysD fa fn K ∧ ex K = true
  of := fun _ _ e => ⟨_, He.frG_in, congrArg (fun z : He.AlD × Bool => z.1) e, congrArg (fun z : He.AlD × Bool => z.2) e⟩
  keeps := fun _ _ _ ⟨K, hK, c⟩ k => ⟨K, PySem.W.Frag.In.keeps hK k, c⟩
theorem obsE_eq {n : Nat} {fa : List He.Fa} {fn : List He.DefD} {ex : PySem.W.Frag → Bool} {g : Addr → Option Obj} {s : Shared} (h : ∀ a, g a = s.heap.get? a) :
    obsE n fa fn ex g = (hookE n fa fn ex).obs s := by
  have e : g = s.heap.get? := funext h
  rw [e] <;> rfl
end Ev
set_option Elab.async false
set_option linter.all false
set_option maxRecDepth 100000
set_option maxHeartbeats 4000000
/-! What the written part says of a family of errors: PadError over ValueError, the others over it. -/
namespace Ev
open PySem PySem.Spec PyProof.Rows L2 PySem.W
def eqS (a b : Option (Option Value)) : Bool := decide (a = b)
def oexB (K : Frag) (C : Addr) : Bool :=
  (match K.lookup C with
    | some ⟨.type t, _, .cls cd, sl⟩ => decide (t = "type") && ((match cd.mro, sl.toList with
      | .ref C' :: bm, [_, _, _, _, some (.builtin n)  , _] => decide (C' = C) && (decide (n = "ValueError.__new__") && (!cd.hasDel && (cd.hasDict && PySem.HandSPX.refsVE bm)))
      | _, _ => false))
    | _ => false) &&
  (eqS (findIn K (.ref C) "__setattr__") (some (some (.builtin "object.__setattr__"))) && (decide (subIn K (.ref C) (.type "BaseException") = some true) &&
  (decide (typeIn K (.ref C) = some (.type "type")) && keepIn K (.ref C))))
theorem two {a b : Bool} (h : (a && b) = true) : a = true ∧ b = true := Bool.and_eq_true_iff.mp h
theorem oexB_ok {K : Frag} {C : Addr} (h : oexB K C = true) : OexC K C := by
  obtain ⟨h1, h⟩ := two h
  obtain ⟨h2, h⟩ := two h
  obtain ⟨h3, h⟩ := two h
  obtain ⟨h4, h5⟩ := two h
  refine ⟨?_, of_decide_eq_true h2, of_decide_eq_true h3, of_decide_eq_true h4, h5⟩
  split at h1
  · rename_i t dd cd sl lk
    obtain ⟨ht, h1⟩ := two h1
    split at h1
    · rename_i C' bm k0 k1 k2 k3 n k5 em es
      obtain ⟨z1, h1⟩ := two h1
      obtain ⟨z2, h1⟩ := two h1
      obtain ⟨z3, h1⟩ := two h1
      obtain ⟨z4, z5⟩ := two h1
      obtain ⟨nm, bs, mro, ns, qn, hdc, sn, sub, ab, col, del⟩ := cd
      dsimp only at em z3 z4
      have e1 : C' = C := of_decide_eq_true z1
      have e2 : n = "ValueError.__new__" := of_decide_eq_true z2
      have e3 : t = "type" := of_decide_eq_true ht
      have e4 : del = false := by simpa using z3
      have e5 : sl = #[k0, k1, k2, k3, some (.builtin n), k5] := by
        have := congrArg List.toArray es
        simpa using this
      subst e1 e2 e3 e4 e5 z4 em
      exact ⟨_, _, _, _, bm, _, _, _, _, _, _, _, _, _, _, lk, z5⟩
    · cases h1
  · cases h1
def excB (K : Frag) (D : Addr) : Bool :=
  eqS (findIn K (.ref D) "__getattribute__") (some (some (.builtin "BaseException.__getattribute__"))) && (eqS (findIn K (.ref D) "__getattr__") (some none) &&
  (decide (subIn K (.ref D) (.type "BaseException") = some true) && (hasDictIn K D && (eqS (findIn K (.ref D) "__class__") (some (some (.builtin "object.__class__"))) &&
  (eqS (specialIn K (.builtin "object.__class__") "__get__") (some (some (.builtin "getset_descriptor.__get__"))) && (decide (takesIn K (.builtin "object.__class__") = some true) &&
  decide (mroIn K D (.type "object") = some true)))))))
theorem excB_ok {K : Frag} {D : Addr} (h : excB K D = true) : ExcC K D := by
  obtain ⟨h1, h⟩ := two h
  obtain ⟨h2, h⟩ := two h
  obtain ⟨h3, h⟩ := two h
  obtain ⟨h4, h⟩ := two h
  obtain ⟨h5, h⟩ := two h
  obtain ⟨h6, h⟩ := two h
  obtain ⟨h7, h8⟩ := two h
  exact ⟨of_decide_eq_true h1, of_decide_eq_true h2, of_decide_eq_true h3, h4, of_decide_eq_true h5, of_decide_eq_true h6, of_decide_eq_true h7, of_decide_eq_true h8⟩
/-- one class with its fields -/
structure ErrT (K : Frag) (C fI : Addr) (fs : List Str) : Prop where
  ox : OexC K C
  ec : ExcC K C
  iC : findIn K (.ref C) "__init__" = some (some (.ref fI))
  tI : typeIn K (.ref fI) = some (.type "function")
  no : ∀ f ∈ fs, findIn K (.ref C) f = some none
def errB (K : Frag) (x : Str) (fs : List Str) : Bool := oexB K (He.ga K x) && (excB K (He.ga K x) && (eqS (findIn K (.ref (He.ga K x)) "__init__") (some (some (.ref (He.ma K (He.ga K x) "__init__")))) &&
  (decide (typeIn K (.ref (He.ma K (He.ga K x) "__init__")) = some (.type "function")) && (fs.all fun f => eqS (findIn K (.ref (He.ga K x)) f) (some none)))))
theorem errB_ok {K : Frag} {x : Str} {fs : List Str} (h : errB K x fs = true) : ErrT K (He.ga K x) (He.ma K (He.ga K x) "__init__") fs := by
  obtain ⟨h1, h⟩ := two h
  obtain ⟨h2, h⟩ := two h
  obtain ⟨h3, h⟩ := two h
  obtain ⟨h4, h5⟩ := two h
  exact ⟨oexB_ok h1, excB_ok h2, of_decide_eq_true h3, of_decide_eq_true h4, fun f hf => of_decide_eq_true (List.all_eq_true.mp h5 f hf)⟩
def sysB (K : Frag) : Bool := match K.lookup sysModules with
  | some ⟨.type t, _, _, _⟩ => decide (t = "dict")
  | _ => false
theorem sysB_ok {K : Frag} (h : sysB K = true) : SysK K := by
  unfold sysB at h
  split at h
  · rename_i t a b c e
    exact ⟨_, e, congrArg Value.type (of_decide_eq_true h)⟩
  · cases h
def offB (K : Frag) (C0 f0 : Addr) : Bool := readsIn K C0 (.type "type") && (eqS (specialIn K (.ref C0) "__getattribute__") (some (some (.builtin "type.__getattribute__"))) &&
  ((match findCls K (.ref C0) (.type "type") "__init__" with
    | some (.val (.ref f)) => decide (f = f0)
    | _ => false) && keepIn K (.ref f0)))
structure OffT (K : Frag) (C0 f0 : Addr) : Prop where
  rd : ClX.CRead K C0 (.type "type")
  at_ : findCls K (.ref C0) (.type "type") "__init__" = some (.val (.ref f0))
  kp : keepIn K (.ref f0) = true
theorem offB_ok {K : Frag} {C0 f0 : Addr} (h : offB K C0 f0 = true) : OffT K C0 f0 := by
  obtain ⟨h1, h⟩ := two h
  obtain ⟨h2, h⟩ := two h
  obtain ⟨h3, h4⟩ := two h
  refine ⟨⟨h1, of_decide_eq_true h2⟩, ?_, h4⟩
  split at h3
  · rename_i f e
    rw [e, of_decide_eq_true h3]
  · cases h3
/-- all of them -/
def errsB (es : List (Str × List Str)) (K : Frag) : Bool := sysB K && (offB K (He.ga K "PadError") (He.ma K (He.ga K "PadError") "__init__") && (errB K "PadError" ["told"] &&
  ((es.all fun e => errB K e.1 ("told" :: e.2)) && (decide (kitOne K (.ref (He.ga K "PadError")) (.type "ValueError") = some true) &&
  (es.all fun e => decide (kitOne K (.ref (He.ga K e.1)) (.ref (He.ga K "PadError")) = some true) && (decide (kitOne K (.ref (He.ga K e.1)) (.type "ValueError") = some true) &&
    (decide (kitAny K (.ref (He.ga K e.1)) [.type "KeyError", .type "IndexError", .type "LookupError"] = some false) &&
    (es.all fun d => decide (kitOne K (.ref (He.ga K e.1)) (.ref (He.ga K d.1)) = some (decide (e.1 = d.1)))))))))))
structure ErrsT (es : List (Str × List Str)) (K : Frag) : Prop where
  sys : SysK K
  off : OffT K (He.ga K "PadError") (He.ma K (He.ga K "PadError") "__init__")
  pad : ErrT K (He.ga K "PadError") (He.ma K (He.ga K "PadError") "__init__") ["told"]
  one : ∀ e ∈ es, ErrT K (He.ga K e.1) (He.ma K (He.ga K e.1) "__init__") ("told" :: e.2)
  padV : kitOne K (.ref (He.ga K "PadError")) (.type "ValueError") = some true
  under : ∀ e ∈ es, kitOne K (.ref (He.ga K e.1)) (.ref (He.ga K "PadError")) = some true
  val : ∀ e ∈ es, kitOne K (.ref (He.ga K e.1)) (.type "ValueError") = some true
  look : ∀ e ∈ es, kitAny K (.ref (He.ga K e.1)) [.type "KeyError", .type "IndexError", .type "LookupError"] = some false
  each : ∀ e ∈ es, ∀ d ∈ es, kitOne K (.ref (He.ga K e.1)) (.ref (He.ga K d.1)) = some (decide (e.1 = d.1))
theorem errsB_ok {es : List (Str × List Str)} {K : Frag} (h : errsB es K = true) : ErrsT es K := by
  obtain ⟨h1, h⟩ := two h
  obtain ⟨h2, h⟩ := two h
  obtain ⟨h3, h⟩ := two h
  obtain ⟨h4, h⟩ := two h
  obtain ⟨h5, h6⟩ := two h
  have h7 := fun e he => two (List.all_eq_true.mp h6 e he)
  have h8 := fun e he => two (h7 e he).2
  have h9 := fun e he => two (h8 e he).2
  exact ⟨sysB_ok h1, offB_ok h2, errB_ok h3, fun e he => errB_ok (List.all_eq_true.mp h4 e he), of_decide_eq_true h5, fun e he => of_decide_eq_true (h7 e he).1,
    fun e he => of_decide_eq_true (h8 e he).1, fun e he => of_decide_eq_true (h9 e he).1, fun e he d hd => of_decide_eq_true (List.all_eq_true.mp (h9 e he).2 d hd)⟩
end Ev
set_option Elab.async false
set_option linter.all false
set_option maxRecDepth 100000
set_option maxHeartbeats 4000000
/-! An own exception class with an __init__ of its own, called with keywords. -/
namespace PySem
namespace EvK
open PySem.W PySem.Calls PyProof.Rows PySem.HandSPX Builtin
section
variable {M : Model} {prog : Program} {w : World} {A : Around} {E : Value → Shared → Prop} {R : Result → Shared → Prop} {h : Heap} {g : Array GenState} {d : Drawn} {t : Nat} {os : OsState}
  {nm q : Str} {C N : Addr} {bs bm bmB : List Value} {hdct : Bool} {sn : List Str} {sub : List Value} {ab : Bool} {col : Option Bool} {dd : Option Addr} {k0 k1 k2 k3 k5 : Option Value} {B newId initId : String}
  {rest : List Value} {kw : List (Str × Value)}
/-- the class's record at C -/
abbrev Rec (h : Heap) (nm q : Str) (C N : Addr) (bs bm : List Value) (hdct : Bool) (sn : List Str) (sub : List Value) (ab : Bool) (col : Option Bool) (dd : Option Addr) (k0 k1 k2 k3 k5 : Option Value) (newId : String) : Prop :=
  h.get? C = some (excClassObj nm q C N bs bm hdct sn sub ab col dd k0 k1 k2 k3 k5 newId)
theorem kw_check (F : ExcBaseFacts B newId initId bmB) (hT : ∀ Y : String, bm.contains (.type Y) = bmB.contains (.type Y)) {Q : Unit → Shared → Prop}
    (hC : Rec h nm q C N bs bm hdct sn sub ab col dd k0 k1 k2 k3 k5 newId) (hq : Q () ⟨h, g, d, t, os⟩) :
    wpAny M A (checkBuiltinCall newId ⟨.ref C :: rest, kw⟩) Q E ⟨h, g, d, t, os⟩ := by
  have cB : (Value.ref C :: bm).contains (.type B) = true := by rw [List.contains_cons, hT, F.hasB, Bool.or_true]
  have st := F.noStar
  simp only [checkBuiltinCall, F.newKind, F.newSplit, F.newRow]
  repeat (first
    | refine wpAny_loadPart_at hC ?_
    | (refine wpAny_isSubtype_exc hC ?_; rw [cB])
    | refine wpAny_staticBase_exc hC ?_
    | refine wpAny_madeBy_exc hC ?_
    | simp only [bne_self_eq_false, Bool.false_eq_true, if_false]
    | wp_step)
  exact hq
theorem kw_new (F : ExcBaseFacts B newId initId bmB) (hT : ∀ Y : String, bm.contains (.type Y) = bmB.contains (.type Y))
    (hC : Rec h nm q C N bs bm hdct sn sub ab col dd k0 k1 k2 k3 k5 newId)
    (hq : R (.ok (.ret (.ref (h.objs.size + 1)))) ⟨(h.push { cls := .type "tuple", data := .seq rest.toArray }).push (excO C h.objs.size), g, d, t, os⟩) (hz : rest.length ≤ sizeLine) :
    codeAny (model prog w) A (.builtin newId ⟨.ref C :: rest, kw⟩) R ⟨h, g, d, t, os⟩ := by
  have en := F.ends
  have cB : (Value.ref C :: bm).contains (.type B) = true := by rw [List.contains_cons, hT, F.hasB, Bool.or_true]
  have cA : (Value.ref C :: bm).contains (.type "AttributeError") = false := by rw [List.contains_cons, hT, F.noAttr]; rfl
  have cN : (Value.ref C :: bm).contains (.type "NameError") = false := by rw [List.contains_cons, hT, F.noName]; rfl
  refine codeAny_builtinAt F.entry ?_
  unfold Builtin.«BaseException.__new__»
  refine wpAt_bind ?_
  show wpAt _ _ _ (stack >>= _) _ _ _
  refine wpAt_bind (wpAt_stack fun p below => wpAt_of_wpAny ?_)
  wp_walk
  refine wpAt_of_wpAny ?_
  rw [F.owner]
  repeat (first
    | with_reducible refine wpAny_madeHere_exc F.canon hC ?_
    | with_reducible refine wpAny_loadPart_at hC ?_
    | (with_reducible refine wpAny_isSubtype_exc hC ?_; first | rw [cB] | rw [cA] | rw [cN])
    | wp_step)
  show R _ _
  rw [Heap.size_push]
  exact hq
theorem kw_type_call (F : ExcBaseFacts B newId initId bmB) (hT : ∀ Y : String, bm.contains (.type Y) = bmB.contains (.type Y)) {fI : Addr} {Q : Fin → Shared → Prop}
    (hC : Rec h nm q C N bs bm hdct sn sub ab col dd k0 k1 k2 k3 k5 newId)
    (hi : Looks (model prog w) h (typeLookup (.ref C) "__init__") (some (.ref fI))) (hb : ∀ self, Looks (model prog w) h (bindSpecial (.ref fI) self) (.ref fI, [self])) (hz : rest.length ≤ sizeLine)
    (hq : codeAny (model prog w) A (.call (.ref fI) ⟨.ref (h.objs.size + 1) :: rest, kw⟩)
      (fun r s' => match r with | .ok (.ret v) => v = .none ∧ Q (.done (.ret (.ref (h.objs.size + 1)))) s' | .ok _ => False | .error e => E e s')
      ⟨(h.push (kdv_tup rest)).push (excO C h.objs.size), g, d, t, os⟩) :
    wpAny (model prog w) A (Builtin.«type.__call__» ⟨.ref C :: rest, kw⟩) Q E ⟨h, g, d, t, os⟩ := by
  repeat (first | with_reducible refine wpAny_loadPart_at hC ?_ | with_reducible refine wpAny_madeBy_exc hC ?_ | wp_step)
  refine codeAny_call_builtin_code (Code.quiet_builtin _ F.quiet) (kw_check F hT hC (kw_new F hT hC ?_ hz))
  show wpAny _ _ _ _ _ _
  have up : ∀ b o, h.get? b = some o → ((h.push (kdv_tup rest)).push (excO C h.objs.size)).get? b = some o :=
    fun b o e => Heap.get?_push_of_some _ (Heap.get?_push_of_some _ e)
  have hC1 := up _ _ hC
  have here : ((h.push (kdv_tup rest)).push (excO C h.objs.size)).get? (h.objs.size + 1) = some (excO C h.objs.size) := by heap_get
  have cC : (Value.ref C :: bm).contains (.ref C) = true := by simp
  have i1 := hi.keeps up
  have b1 := (hb (.ref (h.objs.size + 1))).keeps up
  unfold isInstance
  repeat (first | with_reducible refine wpAny_loadPart_at here ?_ | (with_reducible refine wpAny_isSubtype_exc hC1 ?_; rw [cC]) | wp_step)
  show wpAny _ _ (typeLookup (.ref C) _) _ _ _
  refine i1.at (wpAny_holding (wpAny_bind (b1.at (wpAny_bind (wpAny_call (codeAny_mono hq fun r s' z => ?_))))))
  cases r with
  | error e => exact z
  | ok fl =>
    cases fl with
    | ret v =>
      obtain ⟨rfl, z⟩ := z
      first
        | exact wpAny_pure (wpAny_pure z)
        | (wp_walk; exact z)
    | next => exact z.elim
    | brk => exact z.elim
    | cont => exact z.elim
theorem kw_call (F : ExcBaseFacts B newId initId bmB) (hT : ∀ Y : String, bm.contains (.type Y) = bmB.contains (.type Y)) {fI : Addr}
    (hC : Rec h nm q C N bs bm hdct sn sub ab col dd k0 k1 k2 k3 k5 newId)
    (hi : Looks (model prog w) h (typeLookup (.ref C) "__init__") (some (.ref fI))) (hb : ∀ self, Looks (model prog w) h (bindSpecial (.ref fI) self) (.ref fI, [self])) (hz : rest.length ≤ sizeLine)
    (hq : codeAny (model prog w) (A.under (.builtin "type.__call__" ⟨.ref C :: rest, kw⟩)) (.call (.ref fI) ⟨.ref (h.objs.size + 1) :: rest, kw⟩) (InitBack (h.objs.size + 1) R)
      ⟨(h.push (kdv_tup rest)).push (excO C h.objs.size), g, d, t, os⟩) :
    codeAny (model prog w) A (.call (.ref C) ⟨rest, kw⟩) R ⟨h, g, d, t, os⟩ := by
  have f1 := tc_lookup
  have f2 := tc_bind (.ref C)
  have hTy : (⟨h, g, d, t, os⟩ : Shared).TypeIs (.ref C) "type" := ⟨_, hC, rfl⟩
  have ty0 : Looks (model prog w) h (typeOf (.ref C)) (.type "type") := (Looks.ld hC).andThen .now
  have typ : Looks (model prog w) h (isInstance (.ref C) (.type "type")) true := ty0.andThen (Looks.of_pure tc_sub)
  refine codeAny_of_tree ?_
  show wpAny _ _ (callAny (.ref C) _) _ _ _
  repeat (any_goals (first | assumption | with_reducible refine wpAny_loadPart_at hC ?_ | wp_step))
  refine ⟨rfl, codeAny_call_builtin_at (Code.quiet_builtin _ (by decide +kernel)) entry_typeCall (check_slot tc_kind tc_split typ (tc_args _ _ _) (kw_type_call F hT hC hi hb hz ?_))⟩
  refine codeAny_mono hq fun r s' z => ?_
  cases r with
  | error e => exact z
  | ok fl => cases fl <;> exact z
end
end EvK
end PySem
set_option Elab.async false
set_option linter.all false
set_option maxRecDepth 100000
set_option maxHeartbeats 4000000
/-! Errors as the law makes them: by position, by keywords; what stands behind; a field read. -/
namespace Ev
open PySem PySem.Spec PyProof.Rows L2
section
variable {X : Cx} {pins : List (Addr × Obj)} {σ : L2.St} {H1 : Hp} {s : Shared} {C fI : Addr} {CX : CXT} {k : Nat} {sp : Sp} {E : XK} {Q : VK} {fd : FuncData} {ps ks : List Str} {g : List Value → List Value} {gV : List V → List V}
theorem run_mkK {ws : List Value} {zs : List V} (T : OexC X.K C)
    (iC : PySem.W.findIn X.K (.ref C) "__init__" = some (some (.ref fI)))
    (tI : PySem.W.typeIn X.K (.ref fI) = some (.type "function"))
    (FO : FnOk X.prog X.w X.K X.mg X.base CX k fI fd ps sp)
    (hb : ∀ (s : Shared) (a : Addr) (ws : List Value), ws.length = ks.length → BindsTo s fd ⟨[.ref a], ks.zip ws⟩ (ps.zip (.ref a :: g ws)))
    (hg : ∀ {zs : List V} {ws : List Value}, Vals zs ws → Vals (gV zs) (g ws)) (hr : Room (k + 1) X.A) (hx : Passes CX X E)
    (I1 : Inv X pins σ H1 s) (r1 : Vals zs ws) (hl : zs.length = ks.length)
    (q1 : ∀ a, H1 a = none → sp (.ref a :: gV zs) (upd H1 a (exo a C none)) (fun v H2 => v = .non ∧ Q (.ref a) H2) E) :
    wpAny (model X.prog X.w) X.A (call (.ref C) [] (ks.zip ws)) (EP X pins σ Q) X.xe s := by
  obtain ⟨x1, x2, x3, x4, x5, x6, x7, x8, x9, x10, x11, y0, y1, y2, y3, hC, hbm⟩ := T.cls
  obtain ⟨hp, g', dr, tk, os⟩ := s
  have hs1 : hp.objs.size ≤ hp.objs.size + 1 := Nat.le_succ _
  have hn : H1 (hp.objs.size + 1) = none := I1.hok.fresh hs1
  have hq := q1 (hp.objs.size + 1) hn
  have up : ∀ b o, hp.get? b = some o → ((hp.push (PySem.W.kdv_tup [])).push (PySem.HandSPX.excO C hp.objs.size)).get? b = some o :=
    fun b o e => Heap.get?_push_of_some _ (Heap.get?_push_of_some _ e)
  have here : ((hp.push (PySem.W.kdv_tup [])).push (PySem.HandSPX.excO C hp.objs.size)).get? (hp.objs.size + 1) = some (PySem.HandSPX.excO C hp.objs.size) := by heap_get
  have I2 : Inv X pins σ (upd H1 (hp.objs.size + 1) (exo (hp.objs.size + 1) C none))
      ⟨(hp.push (PySem.W.kdv_tup [])).push (PySem.HandSPX.excO C hp.objs.size), g', dr, tk, os⟩ :=
    I1.laid (t' := tk) (a := hp.objs.size + 1) (o := exo (hp.objs.size + 1) C none) (h' := (hp.push (PySem.W.kdv_tup [])).push (PySem.HandSPX.excO C hp.objs.size)) up hs1 (exo_ok here)
  have r2 : Vals (V.ref (hp.objs.size + 1) :: gV zs) (Value.ref (hp.objs.size + 1) :: g ws) := .cons rfl (hg r1)
  refine wpAny_call (PySem.EvK.kw_call PySem.F.excBase_ValueError (fun Y => PySem.HandSPX.refsVE_contains Y x5 hbm)
    (I1.kIn _ _ hC) (PySem.W.looks_findIn I1.kIn iC) (fun self => PySem.W.bind_fn I1.kIn self tI) (Nat.zero_le _)
    (codeAny_mono (FO.run _ X.stack _ _ ⟨[.ref (hp.objs.size + 1)], ks.zip ws⟩ _ _ _ E (hr.make C [] (ks.zip ws))
      (I2.env0.make C [] (ks.zip ws)) (hb _ _ ws (by rw [← r1.length]; exact hl)) r2 hq) fun r s' z => ?_))
  cases r with
  | error er => exact hx pins σ _ _ er s' I2 z
  | ok fl =>
    cases fl with
    | ret u =>
      obtain ⟨v, H', I3, rv, ev, q3⟩ := I2.after z
      subst ev
      exact ⟨rv, V.ref (hp.objs.size + 1), H', I3, rfl, q3⟩
    | next => exact False.elim z
    | brk => exact False.elim z
    | cont => exact False.elim z
end
/-- C(f = e, ..) as a value -/
def tMkK (C : Addr) (n : Nat) (sp : Sp) (gV : List V → List V) (E : XK) (tk : TA) : TE := fun σ H Q => tk σ H fun zs H1 => zs.length = n ∧
  ∀ a, H1 a = none → sp (.ref a :: gV zs) (upd H1 a (exo a C none)) (fun v H2 => v = .non ∧ Q (.ref a) H2) E
section
variable {X : Cx} {CX : CXT} {k : Nat} {C fI : Addr} {sp : Sp} {E : XK} {x : Str} {p pos : Pos} {kws : List Keyword} {tk : TA} {fd : FuncData} {ps ks : List Str} {g : List Value → List Value} {gV : List V → List V}
theorem pe_mkK (T : OexC X.K C) (iC : PySem.W.findIn X.K (.ref C) "__init__" = some (some (.ref fI)))
    (tI : PySem.W.typeIn X.K (.ref fI) = some (.type "function")) (FO : FnOk X.prog X.w X.K X.mg X.base CX k fI fd ps sp)
    (hb : ∀ (s : Shared) (a : Addr) (ws : List Value), ws.length = ks.length → BindsTo s fd ⟨[.ref a], ks.zip ws⟩ (ps.zip (.ref a :: g ws)))
    (hg : ∀ {zs : List V} {ws : List Value}, Vals zs ws → Vals (gV zs) (g ws))
    (hr : Room (k + 1) X.A) (hx : Passes CX X E) (hgl : Gl X x) (hm : X.mg x = some (.ref C)) (hkw : PK X kws tk)
    (hks : (backToKw pos (keywordEach kws X.env)).filterMap (·.1) = ks := by rfl)
    (hall : (backToKw pos (keywordEach kws X.env)).all (·.1.isSome) = true := by rfl)
    (hpl : ((backTo pos (starEach [] X.env)).any (·.1) || (backToKw pos (keywordEach kws X.env)).any (·.1.isNone)) = false := by rfl)
    (hdb : (x == ("__debug__" : Str)) = false := by decide) :
    PE X (.Call (.Name x p) [] kws pos) (tMkK C ks.length sp gV E tk) := by
  refine ⟨fun pins s σ H Q I h => wpAny_Call_Name_kw (ld_glob I hgl hm ?_ hdb)⟩
  refine PySem.W.callWith_KW0 (h₀ := X.base) I.ok.mod.kin T.kC hall (thn (hkw.run pos pins s σ H _ I h) fun ws s2 ⟨zs, H2, I2, rz, l2, q2⟩ => ⟨I2.kIn, ?_⟩) hpl
  rw [hks]
  exact run_mkK T iC tI FO hb hg hr hx I2 rz l2 q2
end
/-! ### what stands behind the making -/
theorem PE.imp {X : Cx} {e : Expr} {t t' : TE} (he : PE X e t) (h : ∀ σ H Q, t' σ H Q → t σ H Q) : PE X e t' := ⟨fun pins s σ H Q I z => he.run pins s σ H Q I (h σ H Q z)⟩
/-- an error of the class at C with these fields (the last one first) -/
def ErrAt (H : Hp) (e C : Addr) (fs : List (Str × V)) : Prop := ∃ d p, H e = some (exo e C (some d)) ∧ H d = some (exd d (fs ++ [(("told" : Str), V.ref p)]))
theorem ErrAt.same {H H' : Hp} {e C : Addr} {fs : List (Str × V)} (S : Same H H') : ErrAt H e C fs → ErrAt H' e C fs
  | ⟨d, p, h1, h2⟩ => ⟨d, p, S _ _ h1, S _ _ h2⟩
/-- the __init__ of such a class: the values under the names, behind all that the base keeps -/
def spIni (K : PySem.W.Frag) (C : Addr) (ns : List Str) : Sp := fun vs H Q _ => ∃ (a : Addr) (ys : List V), vs = .ref a :: ys ∧ ys.length = ns.length ∧ H a = some (exo a C none) ∧
  ∀ H', (∀ b o, b ≠ a → H b = some o → H' b = some o) → ErrAt H' a C (ns.zip ys).reverse → Q .non H'
theorem new_of {K : PySem.W.Frag} {C : Addr} {ns : List Str} {E : XK} {Q : VK} {ys : List V} {H1 : Hp} (hl : ys.length = ns.length) (q : ∀ e H', Same H1 H' → H1 e = none → ErrAt H' e C (ns.zip ys).reverse → Q (.ref e) H') (a : Addr) (ha : H1 a = none) :
    spIni K C ns (.ref a :: ys) (upd H1 a (exo a C none)) (fun v H2 => v = .non ∧ Q (.ref a) H2) E := by
  refine ⟨a, ys, rfl, hl, upd_same, fun H' k A => ⟨rfl, q a H' (fun b o e => ?_) ha A⟩⟩
  have n : b ≠ a := ne_of_none e ha
  exact k b o n (by rw [upd_ne n]; exact e)
def tNew1 (C : Addr) (f : Str) (i : Nat) : TE := fun σ H Q => ∃ v, σ[i]? = some (some v) ∧ ∀ e H', Same H H' → H e = none → ErrAt H' e C [(f, v)] → Q (.ref e) H'
def tNew2 (C : Addr) (f g : Str) (i j : Nat) : TE := fun σ H Q => ∃ v y, σ[i]? = some (some v) ∧ σ[j]? = some (some y) ∧ ∀ e H', Same H H' → H e = none → ErrAt H' e C [(g, y), (f, v)] → Q (.ref e) H'
def tNew0 (C : Addr) : TE := fun _ H Q => ∀ e H', Same H H' → H e = none → ErrAt H' e C [] → Q (.ref e) H'
section
variable {X : Cx} {C fI : Addr} {x f g : Str} {p pos p1 p2 q1 q2 : Pos} {k : Nat} {fs : List Str} {i j : Nat} {fd : FuncData} {ps : List Str} {a b : Expr}
theorem pe_new1 (T : ErrT X.K C fI fs) (FR : FnR X.prog X.w X.K X.mg X.base CX0 k fI (spIni X.K C [f])) (hr : Room (k + 1) X.A) (hg : Gl X x) (hm : X.mg x = some (.ref C)) (ha : PA X [a] (tCons (tVar i) tNil))
    (hdb : (x == ("__debug__" : Str)) = false := by decide)
    (he : starEach [a] X.env = (false, eval a X.env) :: starEach [] X.env := by rfl) : PE X (.Call (.Name x p) [a] [] pos) (tNew1 C f i) :=
  PE.imp (pe_mk (E := E0) T.ox T.iC T.tI FR hr pass0 hg hm ha hdb he) fun σ H Q ⟨v, h1, h2⟩ => ⟨v, h1, (by show 1 ≤ 1000; decide), fun a ha => new_of (ys := [v]) rfl h2 a ha⟩
theorem pe_new2 (T : ErrT X.K C fI fs) (FR : FnR X.prog X.w X.K X.mg X.base CX0 k fI (spIni X.K C [f, g])) (hr : Room (k + 1) X.A) (hg : Gl X x) (hm : X.mg x = some (.ref C)) (ha : PA X [a, b] (tCons (tVar i) (tCons (tVar j) tNil)))
    (hdb : (x == ("__debug__" : Str)) = false := by decide)
    (he : starEach [a, b] X.env = (false, eval a X.env) :: starEach [b] X.env := by rfl)
    (hpl : (backTo pos (starEach [b] X.env)).any (·.1) = false := by rfl) : PE X (.Call (.Name x p) [a, b] [] pos) (tNew2 C f g i j) :=
  PE.imp (pe_mk (E := E0) T.ox T.iC T.tI FR hr pass0 hg hm ha hdb he hpl) fun σ H Q ⟨v, y, h1, h2, h3⟩ => ⟨v, h1, y, h2, (by show 2 ≤ 1000; decide), fun a ha => new_of (ys := [v, y]) rfl h3 a ha⟩
theorem pe_new0 (T : ErrT X.K C fI fs) (FR : FnR X.prog X.w X.K X.mg X.base CX0 k fI (spIni X.K C [])) (hr : Room (k + 1) X.A) (hg : Gl X x) (hm : X.mg x = some (.ref C))
    (hdb : (x == ("__debug__" : Str)) = false := by decide) : PE X (.Call (.Name x p) [] [] pos) (tNew0 C) :=
  PE.imp (pe_mk0 (E := E0) T.ox T.iC T.tI FR hr pass0 hg hm hdb) fun σ H Q h => ⟨(by show 0 ≤ 1000; decide), fun a ha => new_of (ys := []) rfl (fun e H' S n A => h e H' S n A) a ha⟩
/-- C(f = e) -/
theorem pe_newK1 (T : ErrT X.K C fI fs) (FO : FnOk X.prog X.w X.K X.mg X.base CX0 k fI fd ps (spIni X.K C [f]))
    (hb : ∀ (s : Shared) (a : Addr) (ws : List Value), ws.length = [f].length → BindsTo s fd ⟨[.ref a], [f].zip ws⟩ (ps.zip (.ref a :: ws)))
    (hr : Room (k + 1) X.A) (hg : Gl X x) (hm : X.mg x = some (.ref C)) (ha : PE X a (tVar i))
    (hks : (backToKw pos (keywordEach [⟨some f, a, q1⟩] X.env)).filterMap (·.1) = [f] := by rfl)
    (hall : (backToKw pos (keywordEach [⟨some f, a, q1⟩] X.env)).all (·.1.isSome) = true := by rfl)
    (hpl : ((backTo pos (starEach [] X.env)).any (·.1) || (backToKw pos (keywordEach [⟨some f, a, q1⟩] X.env)).any (·.1.isNone)) = false := by rfl)
    (hdb : (x == ("__debug__" : Str)) = false := by decide) : PE X (.Call (.Name x p) [] [⟨some f, a, q1⟩] pos) (tNew1 C f i) :=
  PE.imp (pe_mkK (E := E0) (g := fun ws => ws) (gV := fun vs => vs) T.ox T.iC T.tI FO hb (fun r => r) hr pass0 hg hm (pk_cons ha pk_nil) hks hall hpl hdb)
    fun σ H Q ⟨v, h1, h2⟩ => ⟨v, h1, rfl, fun a ha => new_of (ys := [v]) rfl h2 a ha⟩
theorem vals_rev : ∀ {vs : List V} {us : List Value}, Vals vs us → Vals vs.reverse us.reverse
  | _, _, .nil => .nil
  | _, _, .cons (a := a) (b := b) h r => by
    rw [List.reverse_cons, List.reverse_cons]
    exact (vals_rev r).append (.cons h .nil)
/-- C(g = e, f = e'), the names the other way about -/
theorem pe_newK2 (T : ErrT X.K C fI fs) (FO : FnOk X.prog X.w X.K X.mg X.base CX0 k fI fd ps (spIni X.K C [f, g]))
    (hb : ∀ (s : Shared) (a : Addr) (ws : List Value), ws.length = [g, f].length → BindsTo s fd ⟨[.ref a], [g, f].zip ws⟩ (ps.zip (.ref a :: ws.reverse)))
    (hr : Room (k + 1) X.A) (hg : Gl X x) (hm : X.mg x = some (.ref C)) (ha : PE X a (tVar j)) (hb2 : PE X b (tVar i))
    (hks : (backToKw pos (keywordEach [⟨some g, a, q1⟩, ⟨some f, b, q2⟩] X.env)).filterMap (·.1) = [g, f] := by rfl)
    (hall : (backToKw pos (keywordEach [⟨some g, a, q1⟩, ⟨some f, b, q2⟩] X.env)).all (·.1.isSome) = true := by rfl)
    (hpl : ((backTo pos (starEach [] X.env)).any (·.1) || (backToKw pos (keywordEach [⟨some g, a, q1⟩, ⟨some f, b, q2⟩] X.env)).any (·.1.isNone)) = false := by rfl)
    (hdb : (x == ("__debug__" : Str)) = false := by decide) : PE X (.Call (.Name x p) [] [⟨some g, a, q1⟩, ⟨some f, b, q2⟩] pos) (tNew2 C f g i j) :=
  PE.imp (pe_mkK (E := E0) (g := fun ws => ws.reverse) (gV := fun vs => vs.reverse) T.ox T.iC T.tI FO hb (fun r => vals_rev r) hr pass0 hg hm (pk_cons ha (pk_cons hb2 pk_nil)) hks hall hpl hdb)
    fun σ H Q ⟨v, y, h1, h2, h3⟩ => ⟨y, h2, v, h1, rfl, fun a ha => new_of (ys := [v, y]) rfl h3 a ha⟩
/-- e.f of such an error -/
def tGet (C : Addr) (f : Str) (te : TE) : TE := fun σ H Q => te σ H fun x H1 => ∃ e fs v, x = .ref e ∧ ErrAt H1 e C fs ∧ fs.lookup f = some v ∧ Q v H1
theorem look_more {f : Str} {v : V} : ∀ {fs gs : List (Str × V)}, fs.lookup f = some v → (fs ++ gs).lookup f = some v
  | [], _, h => by cases h
  | (n, y) :: fs, gs, h => by
    show (match f == n with | true => some y | false => (fs ++ gs).lookup f) = some v
    have h2 : (match f == n with | true => some y | false => fs.lookup f) = some v := h
    cases q : (f == n) with
    | true =>
      rw [q] at h2
      exact h2
    | false =>
      rw [q] at h2
      exact look_more h2
/-- the field of an error that is made on the spot -/
def tG1 (C : Addr) (f : Str) (i : Nat) : TE := fun σ H Q => ∃ v, σ[i]? = some (some v) ∧ ∀ H', Same H H' → Q v H'
theorem pe_get1 (T : ErrT X.K C fI fs) (hf : f ∈ fs) (he : PE X a (tNew1 C f i)) (hb : attributeBase a f X.env (eval a X.env) = eval a X.env := by rfl) : PE X (.Attribute a f pos) (tG1 C f i) :=
  PE.imp (pe_err he hb) fun σ H Q ⟨v, h1, h2⟩ => ⟨v, h1, fun e H' S n ⟨d, q, a1, a2⟩ => ⟨e, C, d, _, v, rfl, T.ec, T.no f hf, a1, a2, look_more (by simp [List.lookup]), h2 H' S⟩⟩
/-- the field of an error that a slot holds -/
theorem pe_getv (T : ErrT X.K C fI fs) (hf : f ∈ fs) (he : PE X a (tVar i)) (hb : attributeBase a f X.env (eval a X.env) = eval a X.env := by rfl) :
    PE X (.Attribute a f pos) (fun σ H Q => ∃ e gs v, σ[i]? = some (some (.ref e)) ∧ ErrAt H e C gs ∧ gs.lookup f = some v ∧ Q v H) :=
  PE.imp (pe_err he hb) fun σ H Q ⟨e, gs, v, h1, ⟨d, q, a1, a2⟩, l, h2⟩ => ⟨_, h1, e, C, d, _, v, rfl, T.ec, T.no f hf, a1, a2, look_more l, h2⟩
end
end Ev
set_option Elab.async false
set_option linter.all false
set_option maxRecDepth 100000
set_option maxHeartbeats 4000000
/-! The base's own __init__ and the others', whatever the text: what is asked of the body. -/
namespace Ev
open PySem PySem.Spec PyProof.Rows L2
/-- PadError.__init__(self, *told) -/
def spPad (K : PySem.W.Frag) : Sp := fun vs H Q _ => ∃ (a C : Addr) (ws : List V), vs = .ref a :: ws ∧ OexC K C ∧ PySem.W.findIn K (.ref C) "told" = some none ∧ H a = some (exo a C none) ∧ ws.length ≤ 900 ∧
  ∀ p d, H p = none → H d = none → d ≠ p → d ≠ a → Q .non (upd (upd (upd H p (.tup ws)) d (exd d [(("told" : Str), .ref p)])) a (exo a C (some d)))
def spPadIn (K : PySem.W.Frag) : Sp := fun vs H Q _ => ∃ (a C p : Addr), vs = [.ref a, .ref p] ∧ OexC K C ∧ PySem.W.findIn K (.ref C) "told" = some none ∧ H a = some (exo a C none) ∧
  ∀ d, H d = none → d ≠ a → Q .non (upd (upd H d (exd d [(("told" : Str), .ref p)])) a (exo a C (some d)))
theorem pad_imp {K : PySem.W.Frag} (vs : List V) (H : Hp) (Q : VK) (E : XK) (h : spPad K vs H Q E) :
    ∃ ws rest, vs = ws ++ rest ∧ ws.length = (["self"] : List Str).length ∧ rest.length ≤ sizeLine ∧ ∀ p, H p = none → spPadIn K (ws ++ [V.ref p]) (upd H p (.tup rest)) Q E := by
  obtain ⟨a, C, ws, rfl, T, no, ha, hl, q⟩ := h
  refine ⟨[.ref a], ws, rfl, rfl, by rw [sizeLine_eq]; omega, fun p hp => ⟨a, C, p, rfl, T, no, ?_, fun d hd ne => ?_⟩⟩
  · rw [upd_ne (ne_of_none ha hp)]
    exact ha
  · have dp : d ≠ p := fun z => by
      rw [z, upd_same] at hd
      cases hd
    rw [upd_ne dp] at hd
    exact q p d hp hd dp ne
/-- behind the base's __init__: one field more -/
theorem ini1 {H : Hp} {a C p d : Addr} {ws : List V} {f : Str} {y : V} (ha : H a = some (exo a C none)) (hp : H p = none) (hd : H d = none) (dp : d ≠ p) (da : d ≠ a) :
    (∀ b o, b ≠ a → H b = some o → (upd (upd (upd (upd H p (.tup ws)) d (exd d [(("told" : Str), .ref p)])) a (exo a C (some d))) d (exd d [(f, y), (("told" : Str), .ref p)])) b = some o) ∧
    ErrAt (upd (upd (upd (upd H p (.tup ws)) d (exd d [(("told" : Str), .ref p)])) a (exo a C (some d))) d (exd d [(f, y), (("told" : Str), .ref p)])) a C [(f, y)] := by
  refine ⟨fun b o n e => ?_, d, p, ?_, upd_same⟩
  · rw [upd_ne (ne_of_none e hd), upd_ne n, upd_ne (ne_of_none e hd), upd_ne (ne_of_none e hp)]
    exact e
  · rw [upd_ne (Ne.symm da), upd_same]
theorem ini2 {H : Hp} {a C p d : Addr} {ws : List V} {f g : Str} {x y : V} (ha : H a = some (exo a C none)) (hp : H p = none) (hd : H d = none) (dp : d ≠ p) (da : d ≠ a) :
    (∀ b o, b ≠ a → H b = some o → (upd (upd (upd (upd (upd H p (.tup ws)) d (exd d [(("told" : Str), .ref p)])) a (exo a C (some d))) d (exd d [(f, x), (("told" : Str), .ref p)])) d (exd d [(g, y), (f, x), (("told" : Str), .ref p)])) b = some o) ∧
    ErrAt (upd (upd (upd (upd (upd H p (.tup ws)) d (exd d [(("told" : Str), .ref p)])) a (exo a C (some d))) d (exd d [(f, x), (("told" : Str), .ref p)])) d (exd d [(g, y), (f, x), (("told" : Str), .ref p)])) a C [(g, y), (f, x)] := by
  refine ⟨fun b o n e => ?_, d, p, ?_, upd_same⟩
  · rw [upd_ne (ne_of_none e hd), upd_ne (ne_of_none e hd), upd_ne n, upd_ne (ne_of_none e hd), upd_ne (ne_of_none e hp)]
    exact e
  · rw [upd_ne (Ne.symm da), upd_ne (Ne.symm da), upd_same]
theorem ini0 {H : Hp} {a C p d : Addr} {ws : List V} (ha : H a = some (exo a C none)) (hp : H p = none) (hd : H d = none) (dp : d ≠ p) (da : d ≠ a) :
    (∀ b o, b ≠ a → H b = some o → (upd (upd (upd H p (.tup ws)) d (exd d [(("told" : Str), .ref p)])) a (exo a C (some d))) b = some o) ∧
    ErrAt (upd (upd (upd H p (.tup ws)) d (exd d [(("told" : Str), .ref p)])) a (exo a C (some d))) a C [] := by
  refine ⟨fun b o n e => ?_, d, p, upd_same, ?_⟩
  · rw [upd_ne n, upd_ne (ne_of_none e hd), upd_ne (ne_of_none e hp)]
    exact e
  · rw [upd_ne da, upd_same]
    rfl
end Ev
set_option Elab.async false
set_option linter.all false
set_option maxRecDepth 100000
set_option maxHeartbeats 4000000
/-! The pen of a law: what it is, what a draw leaves. -/
namespace Ev
open PySem PySem.Spec PyProof.Rows L2
def Ints (xs : List V) : Prop := ∀ x ∈ xs, ∃ i : Int, x = .int i
theorem ints_map (ns : List Int) : Ints (ns.map V.int) := fun x h => by
  obtain ⟨i, _, e⟩ := List.mem_map.mp h
  exact ⟨i, e.symm⟩
theorem ints_cut {xs : List V} (h : Ints xs) (lo hi : Option Int) : Ints (cutV xs lo hi) := fun x m => h x (List.mem_of_mem_drop (List.mem_of_mem_take m))
theorem ints_dp {K : PySem.W.Frag} {H : Hp} : ∀ {xs : List V}, Ints xs → ∃ ds, DpAll K H xs ds ∧ SeqAt.shaped (.list ds) = true
  | [], _ => ⟨[], .nil, rfl⟩
  | x :: xs, h => by
    obtain ⟨i, rfl⟩ := h x (by simp)
    obtain ⟨ds, a, b⟩ := ints_dp (K := K) (H := H) (xs := xs) fun y m => h y (List.mem_cons_of_mem _ m)
    refine ⟨.int i :: ds, .cons (.int i) a, ?_⟩
    first
      | exact b
      | (simp [SeqAt.shaped, SeqAt.shapedAll] at b ⊢; exact b)
/-- the pen at p: its cells, how many draws at most, what is left of a great cell -/
def PenAt (H : Hp) (p : Addr) (n : Nat) : Prop := ∃ (c : Addr) (cells : List V) (t l : Int), H p = some (.lst [.ref c, .int t, .int l]) ∧ H c = some (.lst cells) ∧ Ints cells ∧ cells.length ≤ 63 ∧ c ≠ p ∧ 0 ≤ t ∧ t ≤ n
theorem PenAt.same {H H' : Hp} {p : Addr} {n : Nat} (S : Same H H') : PenAt H p n → PenAt H' p n
  | ⟨c, cells, t, l, h1, h2, r⟩ => ⟨c, cells, t, l, S _ _ h1, S _ _ h2, r⟩
/-- all but the object at p stands as it stood -/
def But (p : Addr) (H H' : Hp) : Prop := ∀ b o, b ≠ p → H b = some o → H' b = some o
theorem But.of {p : Addr} {H H' : Hp} (S : Same H H') : But p H H' := fun b o _ => S b o
theorem But.tr {p : Addr} {H H1 H2 : Hp} (a : But p H H1) (b : But p H1 H2) : But p H H2 := fun c o n e => b c o n (a c o n e)
theorem But.del {p : Addr} {H H' : Hp} (a : But p H H') : Same (del H p) (del H' p) := fun b o e => by
  by_cases n : b = p
  · rw [n, del_same] at e
    cases e
  · rw [del_ne n] at e ⊢
    exact a b o n e
theorem same_del {p : Addr} {H H' : Hp} (S : Same H H') : Same (del H p) (del H' p) := (But.of S).del
theorem del_same' {p : Addr} {H : Hp} : Same (del H p) H := fun b o e => by
  by_cases n : b = p
  · rw [n, del_same] at e
    cases e
  · rwa [del_ne n] at e
/-- the pen has a law's draw: between 0 and the number -/
def spDraw : Sp := fun vs H Q _ => ∃ (p : Addr) (m : Int) (n : Nat), vs = [.ref p, .int m] ∧ 0 < m ∧ m < 1073741824 ∧ PenAt H p n ∧ n ≤ 1000 ∧
  ∀ (z : Int) (H' : Hp), 0 ≤ z → z < m → PenAt H' p (n + 1) → But p H H' → Q (.int z) H'
/-- one of some things -/
def spPick (K : PySem.W.Frag) : Sp := fun vs H Q _ => ∃ (p l : Addr) (xs : List V) (n : Nat), vs = [.ref p, .ref l] ∧ H l = some (.lst xs) ∧ l ≠ p ∧ 0 < xs.length ∧ xs.length ≤ 100000 ∧ PenAt H p n ∧ n ≤ 1000 ∧
  ∀ (x : V) (H' : Hp), x ∈ xs → PenAt H' p (n + 1) → But p H H' → Q x H'
def spPen (K : PySem.W.Frag) : Sp := fun vs H Q _ => ∃ (a : Addr) (ns : List Int), vs = [.ref a] ∧ SqL K H a (ns.map V.int) ∧ ns.length ≤ 63 ∧ ∀ (p : Addr) (H' : Hp), Same H H' → PenAt H' p 0 → H p = none → Q (.ref p) H'
/-! ### the bounds of a draw's numbers -/
theorem fmod_in {a m : Int} (h : 0 < m) : 0 ≤ a % m ∧ a % m < m := ⟨Int.emod_nonneg _ (by omega), Int.emod_lt_of_pos _ h⟩
theorem small5 {x t A B : Int} (h0 : 0 ≤ x) (h1 : x < 2147483648) (t0 : 0 ≤ t) (t1 : t ≤ 1000) (a0 : 0 ≤ A) (a1 : A ≤ 1000000) (b0 : 0 ≤ B) (b1 : B ≤ 1000000) : (x + A * t + B).natAbs < 2 ^ 64 := by
  have h2 : A * t ≤ 1000000 * 1000 := Int.mul_le_mul a1 t1 t0 (by omega)
  have h3 : 0 ≤ A * t := Int.mul_nonneg a0 t0
  omega
theorem small3 {x t A B D : Int} (h0 : 0 ≤ x) (h1 : x < 2147483648) (t0 : 0 ≤ t) (t1 : t ≤ 1000) (a0 : 0 ≤ A) (a1 : A ≤ 1000000) (b0 : 0 ≤ B) (b1 : B ≤ 1000000) (d0 : 0 ≤ D) (d1 : D ≤ 1000000) :
    (x * (2 * t + A) + B * t * t + D).natAbs < 2 ^ 64 := by
  have h2 : x * (2 * t + A) ≤ 2147483648 * 1002000 := Int.mul_le_mul (by omega) (by omega) (by omega) (by omega)
  have h3 : 0 ≤ x * (2 * t + A) := Int.mul_nonneg h0 (by omega)
  have h4 : B * t ≤ 1000000 * 1000 := Int.mul_le_mul b1 t1 t0 (by omega)
  have h5 : 0 ≤ B * t := Int.mul_nonneg b0 t0
  have h6 : B * t * t ≤ 1000000000 * 1000 := Int.mul_le_mul (by omega) t1 t0 (by omega)
  have h7 : 0 ≤ B * t * t := Int.mul_nonneg h5 t0
  omega
theorem in64 {B t : Int} (b0 : 0 ≤ B) (b1 : B ≤ 1000000) (t0 : 0 ≤ t) (t1 : t ≤ 1000) : -(2 ^ 64) < B * t ∧ B * t < 2 ^ 64 := by
  have h2 : B * t ≤ 1000000 * 1000 := Int.mul_le_mul b1 t1 t0 (by omega)
  have h3 : 0 ≤ B * t := Int.mul_nonneg b0 t0
  omega
theorem ixN_in {n : Nat} {i : Int} (h0 : 0 ≤ i) (h1 : i < n) : ixN n i = some i.toNat := by
  unfold ixN
  rw [if_pos h0, if_pos h1]
theorem atI_in {α : Type} {xs : List α} {i : Int} (h0 : 0 ≤ i) (h1 : i < xs.length) : ∃ x, atI xs i = some x ∧ x ∈ xs := by
  obtain ⟨j, rfl⟩ := Int.eq_ofNat_of_zero_le h0
  have hj : j < xs.length := by omega
  exact ⟨xs[j], atI_nat (List.getElem?_eq_getElem hj), List.getElem_mem hj⟩
end Ev
set_option Elab.async false
set_option linter.all false
set_option maxRecDepth 100000
set_option maxHeartbeats 4000000
/-! The end of a law whose defs make lambdas and ask repr: tables of code objects are known at its entry; the Hook that leaves them out. -/
namespace Ev
open PySem PySem.Spec PyProof.Rows L2 LamX
abbrev emptyT : Obj := { cls := .none, data := .fields #[] }
/-- what may be known at the law's entry -/
def OnlyT (T : List (Addr × Addr)) (H : Hp) : Prop := ∀ b, H b = none ∨ (∃ p ∈ T, p.2 = b ∧ H b = some (.tbl #[])) ∨ ∃ o xs, H b = some (.frz o (.lst xs))
section
variable {P : Program} {w : World} {K : PySem.W.Frag} {mg mb : Str → Option Value} {CX : CXT} {k : Nat} {fa a : Addr} {sp : Sp} {s1 : Shared} {vs : List Value} {ns : List Int} {T : List (Addr × Addr)}
structure TabsIn (K : PySem.W.Frag) (h : Heap) (T : List (Addr × Addr)) : Prop where
  at_ : ∀ p ∈ T, h.get? p.2 = some emptyT
  out : ∀ p ∈ T, K.lookup p.2 = none
  hd : ∀ p ∈ T, PySem.W.CodeHd h p.1 p.2
abbrev BMain (mg : Str → Option Value) (h : Heap) : Prop := ∃ (bm : Addr) (ob : Obj), mg "__builtins__" = some (.ref bm) ∧ bm ≠ builtinsNs ∧ h.get? bm = some ob ∧ ob.cls = .type "module" ∧ ob.dict = some builtinsNs ∧ ob.data = .plain
theorem law_fromT {H : Hp} (KX : K.In s1.heap) (hns : s1.heap.Ns mainGlobals mg) (hb : s1.heap.Ns builtinsNs mb) (hbb : ∀ x : Str, x ≠ "__name__" → mb x = bootBuiltins x)
    (hlim : s1.heap.NoLimit) (hg : s1.gens = #[]) (ha : s1.heap.get? a = some { cls := .type "list", data := .seq vs.toArray }) (hr : Room k callerA) (TI : TabsIn K s1.heap T) (hbm : BMain mg s1.heap)
    (F : ∀ base : Heap, K.In base → base.Ns mainGlobals mg → (∀ p ∈ T, TabB base mg p.1 p.2) → FnG P w K mg base CX k fa sp)
    (hsp : sp [.ref a] H (fun v _ => v = .bl true) fun _ _ _ => False) (hCX : ∀ e s', CX [] H s1 (fun _ _ _ => False) e s' → False)
    (hO : OnlyT T H) (hok : HOk P w H s1.heap) (hA : ∀ b, H b ≠ none → b = a ∨ ∃ p ∈ T, p.2 = b) (hK : H a ≠ none → K.lookup a = none) :
    codeAny (model P w) callerA (.call (.ref fa) ⟨[.ref a], []⟩) (LawEnd s1) s1 := by
  -- an object that is neither a sequence nor an empty table is not tracked
  have free : ∀ {b : Addr} {o : Obj}, s1.heap.get? b = some o → (∀ us n, o.data ≠ .seq us n) → o.data ≠ .fields #[] → H b = none := fun {b o} e d1 d2 => by
    cases q : H b with
    | none => rfl
    | some u =>
      rcases hA b (by rw [q]; exact fun z => nomatch z) with z | ⟨p, hp, z⟩
      · rw [z, ha] at e
        cases e
        exact absurd rfl (d1 _ _)
      · rw [← z, TI.at_ p hp] at e
        cases e
        exact absurd rfl d2
  have dict : ∀ {b : Addr} {o : Obj} {es : Array DictEntry} {ep : Nat}, s1.heap.get? b = some o → o.data = .dict es ep → H b = none := fun {b o es ep} e d =>
    free e (fun us n z => by rw [d] at z; cases z) (fun z => by rw [d] at z; cases z)
  have nsk : ∀ {b : Addr} {m : Str → Option Value}, s1.heap.Ns b m → (hidT s1.heap H).Ns b m := fun ⟨o, es, ep, e, d, r⟩ => ⟨o, es, ep, hidT_get e (dict e d), d, r⟩
  have kb : K.In (hidT s1.heap H) := fun b o e => hidT_get (KX b o e) (by
    cases q : H b with
    | none => rfl
    | some u =>
      rcases hA b (by rw [q]; exact fun z => nomatch z) with z | ⟨p, hp, z⟩
      · subst z
        rw [hK (by rw [q]; exact fun z => nomatch z)] at e
        cases e
      · rw [← z, TI.out p hp] at e
        cases e)
  obtain ⟨mc, l1, l2⟩ := hlim
  have e0 : Env0 P w K mg (hidT s1.heap H) callerA [] s1 H := {
    frames := rfl
    mod := ⟨kb, nsk hns, ⟨mb, nsk hb, hbb⟩, ⟨mc, nsk l1, l2⟩⟩
    bs := fun b o e => of_hidT e
    bsz := Nat.le_of_eq (hidT_size _ _)
    funs := trivial
    frf := fun b hm => absurd (show b ∈ ([] : List Addr) from hm) (by simp)
    hok := hok
    bare := .of_eq hg }
  have TB : ∀ p ∈ T, TabB (hidT s1.heap H) mg p.1 p.2 := fun p hp => by
    have hT := TI.at_ p hp
    have notG : mainGlobals ≠ p.2 := fun z => by
      obtain ⟨o, es, ep, e, d, _⟩ := hns
      rw [z, hT] at e
      cases e
      cases d
    obtain ⟨o, us, file, tf, fl, tg, iF, tx, tt, c1, c2, c3, c4, c5⟩ := TI.hd p hp
    obtain ⟨bm, ob, b1, b2, b3, b4, b5, b6⟩ := hbm
    have nG : bm ≠ mainGlobals := fun z => by
      obtain ⟨o, es, ep, e, d, _⟩ := hns
      rw [z, e] at b3
      cases b3
      rw [d] at b6
      cases b6
    have nP : bm ≠ p.2 := fun z => by
      rw [z, hT] at b3
      cases b3
      cases b6
    refine ⟨⟨o, us, file, tf, fl, tg, iF, tx, tt, hidT_get c1 (free c1 (fun w n z => ?_) (fun z => ?_)), c2, c3, c4, c5⟩, ⟨bm, ob, b1, b2, nG, nP, hidT_get b3 (free b3 (fun w n z => ?_) (fun z => ?_)), b4, b5, b6⟩, notG⟩
    · rw [c3] at z; cases z
    · rw [c3] at z
      cases z
      simp at c4
    · rw [b6] at z; cases z
    · rw [b6] at z; cases z
  refine codeAny_mono (F _ kb (nsk hns) TB callerA [] s1 H [.ref a] [.ref a] _ _ rfl hr e0 (.cons rfl .nil) hsp) fun r s' h => ?_
  have ends : ∀ {u : Value}, CE [] P w H s1 (fun v _ => v = .bl true) u s' → LawEnd s1 (.ok (.ret u)) s' := by
    intro u h
    obtain ⟨v, H', os, bare, un, ok2, rv, rfl⟩ := h
    obtain rfl : u = Value.bool true := rv
    have old : ∀ b o, s1.heap.get? b = some o → s'.heap.get? b = some o ∨ ∃ p ∈ T, p.2 = b ∧ ∃ more : Array Value, s'.heap.get? b = some { cls := .none, data := .fields more } := fun b o e => by
      rcases hO b with z | ⟨p, hp, z1, z2⟩ | ⟨ob, xs, z⟩
      · exact .inl (un.keep b o e z (by intro y; exact absurd (show b ∈ ([] : List Addr) from y) (by simp)) (by simp))
      · obtain ⟨more, y⟩ := un.tbls b #[] z2
        exact .inr ⟨p, hp, z1, _, ok2 b _ y⟩
      · obtain ⟨e1, _⟩ := hok b _ z
        obtain ⟨e2, _⟩ := ok2 b _ (un.frzs b ob _ z)
        rw [e] at e1
        cases e1
        exact .inl e2
    refine ⟨rfl, ⟨fun b o e => ?_, fun b o e => ?_⟩, os, bare⟩
    · rcases old b o e with z | ⟨p, hp, z1, more, z2⟩
      · exact .inl z
      · have hT := TI.at_ p hp
        rw [z1] at hT
        rw [hT] at e
        cases e
        refine .inr (.inl ⟨?_, rfl, #[], more, rfl, by rw [Array.empty_append]; exact z2⟩)
        rw [← z1]
        exact ((TI.hd p hp).tab (TI.at_ p hp)).isCodeTable
    · rcases old b o e with z | ⟨p, hp, z1, more, z2⟩
      · exact ⟨o, z⟩
      · exact ⟨_, z2⟩
  cases r with
  | error er => exact (hCX er s' h).elim
  | ok fl =>
    cases fl with
    | ret u => exact ends h
    | next => exact False.elim h
    | brk => exact False.elim h
    | cont => exact False.elim h
theorem law_callT (KX : K.In s1.heap) (hns : s1.heap.Ns mainGlobals mg) (hb : s1.heap.Ns builtinsNs mb) (hbb : ∀ x : Str, x ≠ "__name__" → mb x = bootBuiltins x)
    (hlim : s1.heap.NoLimit) (hg : s1.gens = #[]) (ha : s1.heap.get? a = some { cls := .type "list", data := .seq vs.toArray }) (hi : IntsAre vs ns) (hl : ns.length ≤ sizeLine)
    (hr : Room k callerA) (TI : TabsIn K s1.heap T) (hbm : BMain mg s1.heap)
    (F : ∀ base : Heap, K.In base → base.Ns mainGlobals mg → (∀ p ∈ T, TabB base mg p.1 p.2) → FnG P w K mg base CX k fa sp)
    (hsp : ∀ H : Hp, OnlyT T H → (∀ p ∈ T, H p.2 = some (.tbl #[])) → SqL K H a (ns.map V.int) → sp [.ref a] H (fun v _ => v = .bl true) fun _ _ _ => False)
    (hCX : ∀ H e s', CX [] H s1 (fun _ _ _ => False) e s' → False) : codeAny (model P w) callerA (.call (.ref fa) ⟨[.ref a], []⟩) (LawEnd s1) s1 := by
  have rv := vals_ints hi
  have lv := hi.length
  have notT : ∀ p ∈ T, p.2 ≠ a := fun p hp z => by
    have e := TI.at_ p hp
    rw [z, ha] at e
    have y : Data.seq vs.toArray _ = Data.fields #[] := congrArg Obj.data (Option.some.inj e)
    cases y
  let T2 : List Addr := T.map (·.2)
  have mT : ∀ p ∈ T, p.2 ∈ T2 := fun p hp => List.mem_map.mpr ⟨p, hp, rfl⟩
  have unT : ∀ b ∈ T2, ∃ p ∈ T, p.2 = b := fun b hb => List.mem_map.mp hb
  have naT : a ∉ T2 := fun z => by
    obtain ⟨p, hp, e⟩ := unT a z
    exact notT p hp e
  cases hk : K.lookup a with
  | some o =>
    have e := KX a o hk
    rw [ha] at e
    cases e
    let H : Hp := fun b => if b ∈ T2 then some (.tbl #[]) else none
    have hin : ∀ {b}, b ∈ T2 → H b = some (.tbl #[]) := fun h => if_pos h
    have hout : ∀ {b}, b ∉ T2 → H b = none := fun h => if_neg h
    have hO : OnlyT T H := fun b => by
      by_cases q : b ∈ T2
      · obtain ⟨p, hp, e⟩ := unT b q
        exact .inr (.inl ⟨p, hp, e, hin q⟩)
      · exact .inl (hout q)
    refine law_fromT KX hns hb hbb hlim hg ha hr TI hbm F (hsp H hO (fun p hp => hin (mT p hp)) (.inr ⟨_, vs.toArray, _, hk, rfl, rfl, rfl, by rw [List.size_toArray, lv]; exact hl, by simpa using rv⟩)) (hCX H) hO
      (fun b u z => ?_) (fun b z => ?_) fun z => absurd (hout naT) z
    · by_cases q : b ∈ T2
      · rw [hin q] at z
        cases z
        obtain ⟨p, hp, e⟩ := unT b q
        rw [← e]
        exact TI.at_ p hp
      · rw [hout q] at z
        cases z
    · by_cases q : b ∈ T2
      · exact .inr (unT b q)
      · exact absurd (hout q) z
  | none =>
    let H : Hp := fun b => if b = a then some (.frz { cls := .type "list", data := .seq vs.toArray } (.lst (ns.map V.int))) else if b ∈ T2 then some (.tbl #[]) else none
    have at1 : H a = some (.frz { cls := .type "list", data := .seq vs.toArray } (.lst (ns.map V.int))) := if_pos rfl
    have hin : ∀ {b}, b ∈ T2 → H b = some (.tbl #[]) := fun {b} h => (if_neg (fun z : b = a => naT (z ▸ h))).trans (if_pos h)
    have hout : ∀ {b}, b ≠ a → b ∉ T2 → H b = none := fun h1 h2 => (if_neg h1).trans (if_neg h2)
    have hO : OnlyT T H := fun b => by
      by_cases q : b ∈ T2
      · obtain ⟨p, hp, e⟩ := unT b q
        exact .inr (.inl ⟨p, hp, e, hin q⟩)
      · by_cases q1 : b = a
        · exact .inr (.inr ⟨_, _, q1 ▸ at1⟩)
        · exact .inl (hout q1 q)
    refine law_fromT KX hns hb hbb hlim hg ha hr TI hbm F (hsp H hO (fun p hp => hin (mT p hp)) (.inl (.inr ⟨_, at1⟩))) (hCX H) hO (fun b u z => ?_) (fun b z => ?_) fun _ => hk
    · by_cases q1 : b = a
      · subst q1
        rw [at1] at z
        cases z
        exact ⟨ha, by rw [List.length_map]; exact hl, vs, _, rv, ha⟩
      · by_cases q : b ∈ T2
        · rw [hin q] at z
          cases z
          obtain ⟨p, hp, e⟩ := unT b q
          rw [← e]
          exact TI.at_ p hp
        · rw [hout q1 q] at z
          cases z
    · by_cases q1 : b = a
      · exact .inl q1
      · by_cases q : b ∈ T2
        · exact .inr (unT b q)
        · exact absurd (hout q1 q) z
end
theorem walk_ofT {l : PySem.W.OpenLaw} {n k : Nat} {q : Program} {loose : List Str} {XP : (Str → Option Value) → Heap → Prop} {YP : World → Heap → Prop} {d : DefRec} {CX : CXT}
    (hn : l.most = some n) (hn2 : n ≤ sizeLine) (hdf : d.params.defaults = []) (hr : Room k callerA)
    (F : ∀ (w : World) (mg : Str → Option Value) (fa : Addr) (h : Heap), YP w h → h.Ns mainGlobals mg → mg d.name = some (.ref fa) →
      ∃ (K : PySem.W.Frag) (T : List (Addr × Addr)) (sp : Sp), K.In h ∧ TabsIn K h T ∧
        (∀ (H : Hp) (a : Addr) (ns : List Int), ns.length ≤ n → OnlyT T H → (∀ p ∈ T, H p.2 = some (.tbl #[])) → SqL K H a (ns.map V.int) → sp [.ref a] H (fun v _ => v = .bl true) fun _ _ _ => False) ∧
        ∀ base : Heap, K.In base → base.Ns mainGlobals mg → (∀ p ∈ T, TabB base mg p.1 p.2) → FnG l.prog w K mg base CX k fa sp)
    (hCX : ∀ (H : Hp) (s : Shared) (e : Value) (s' : Shared), CX [] H s (fun _ _ _ => False) e s' → False) :
    PySem.W.WalkO q loose XP YP l.row.toRowW d [] (fun f vs => PySem.call f vs) := by
  refine Att.attach_call hn hdf fun w s0 s1 mg mb fa o pm cd doc a vs ns G Y ho hd hcd hmg hobj hints hlen hg => ?_
  obtain ⟨K, T, sp, KX, TI, hsp, hF⟩ := F w mg fa _ Y G.T.g hmg
  exact law_callT KX G.T.g G.T.b G.T.builtins G.T.nolimit hg hobj hints (Nat.le_trans hlen hn2) hr TI G.T.bmain hF (fun H hO hT hS => hsp H a ns hlen hO hT hS) fun H e s' => hCX H s1 e s'
/-! ### the Hook -/
structure SaysY (fa : List He.Fa) (fn : List He.DefD) (tf : List He.Defn) (ex : PySem.W.Frag → Bool) (h : Heap) (K : PySem.W.Frag) : Prop where
  d : He.SaysD fa fn K
  more : ex K = true
  hd : ∀ p ∈ tf, PySem.W.codeHdIn K (He.cT K p).1 (He.cT K p).2 = true
  tab : ∀ p ∈ tf, K.lookup (He.cT K p).2 = none ∧ h.get? (He.cT K p).2 = some emptyT
abbrev fry (n : Nat) (g : Addr → Option Obj) : PySem.W.Frag := He.frT g (asE g n)
def obsY (n : Nat) (fa : List He.Fa) (fn : List He.DefD) (tf : List He.Defn) (ex : PySem.W.Frag → Bool) (g : Addr → Option Obj) : He.AlD × Bool :=
  (He.obsD fa fn (fry n g), ex (fry n g) && He.tabsB g tf (fry n g))
theorem saysY_of {n : Nat} {fa : List He.Fa} {fn : List He.DefD} {tf : List He.Defn} {ex : PySem.W.Frag → Bool} {h : Heap} (e : obsY n fa fn tf ex h.get? = (He.valD fn, true)) : SaysY fa fn tf ex h (fry n h.get?) := by
  obtain ⟨e1, e2⟩ := Prod.mk.inj e
  obtain ⟨h1, h2⟩ := Bool.and_eq_true_iff.mp e2
  have h3 := fun p hp => Bool.and_eq_true_iff.mp (List.all_eq_true.mp h2 p hp)
  refine ⟨e1, h1, fun p hp => (h3 p hp).1, fun p hp => ?_⟩
  have h4 := (h3 p hp).2
  cases q : h.get? (He.cT (fry n h.get?) p).2 with
  | none =>
    rw [q] at h4
    cases h4
  | some o =>
    rw [q] at h4
    exact ⟨He.frT_none q h4, by rw [He.emptyTab_eq h4]⟩
def hookY (n : Nat) (fa : List He.Fa) (fn : List He.DefD) (tf : List He.Defn) (ex : PySem.W.Frag → Bool) : PySem.W.Hook where
  α := He.AlD × Bool
  obs := fun s => obsY n fa fn tf ex s.heap.get?
  val := fun _ => (He.valD fn, true)
  says := fun _ h => ∃ K : PySem.W.Frag, K.In h ∧ SaysY fa fn tf ex h K
  of := fun _ _ e => ⟨_, He.frT_in, saysY_of e⟩
  keeps := fun _ _ _ ⟨K, hK, c⟩ k => ⟨K, PySem.W.Frag.In.keeps hK k, ⟨c.d, c.more, c.hd, fun p hp => ⟨(c.tab p hp).1, k _ _ (c.tab p hp).2⟩⟩⟩
theorem obsY_eq {n : Nat} {fa : List He.Fa} {fn : List He.DefD} {tf : List He.Defn} {ex : PySem.W.Frag → Bool} {g : Addr → Option Obj} {s : Shared} (h : ∀ a, g a = s.heap.get? a) :
    obsY n fa fn tf ex g = (hookY n fa fn tf ex).obs s := by
  have e : g = s.heap.get? := funext h
  rw [e] <;> rfl
theorem SaysY.tabs {fa : List He.Fa} {fn : List He.DefD} {tf : List He.Defn} {ex : PySem.W.Frag → Bool} {h : Heap} {K : PySem.W.Frag} (c : SaysY fa fn tf ex h K) (KX : K.In h) : TabsIn K h (tf.map (He.cT K)) where
  at_ := fun p hp => by
    obtain ⟨q, hq, rfl⟩ := List.mem_map.mp hp
    exact (c.tab q hq).2
  out := fun p hp => by
    obtain ⟨q, hq, rfl⟩ := List.mem_map.mp hp
    exact (c.tab q hq).1
  hd := fun p hp => by
    obtain ⟨q, hq, rfl⟩ := List.mem_map.mp hp
    exact PySem.W.codeHd_of_K KX (c.hd q hq)
end Ev
set_option Elab.async false
set_option linter.all false
set_option maxRecDepth 100000
set_option maxHeartbeats 4000000
/-! What the written part says of the parts' classes. -/
namespace Ev
open PySem PySem.Spec PyProof.Rows L2 PySem.W
/-- the class's own name, in its slot -/
def nameIn (K : Frag) (C : Addr) (x : Str) : Bool := match K.lookup C with
  | some ⟨_, _, _, sl⟩ => (match sl.toList with
    | [_, _, some (Value.str y _), _, _, _] => decide (y = x)
    | _ => false)
  | none => false
def getN (C : Addr) : Option CFound := some (.get (.builtin "getset_descriptor.__get__") (.builtin "type.__name__") (.ref C) (.type "type"))
def isN (C : Addr) : Option CFound → Bool
  | some (.get (.builtin g) (.builtin n) (.ref c) (.type t)) => decide (g = "getset_descriptor.__get__") && (decide (n = "type.__name__") && (decide (c = C) && decide (t = "type")))
  | _ => false
theorem isN_ok {C : Addr} {r : Option CFound} (h : isN C r = true) : r = getN C := by
  unfold isN at h
  split at h
  · obtain ⟨h1, h⟩ := two h
    obtain ⟨h2, h⟩ := two h
    obtain ⟨h3, h4⟩ := two h
    rw [of_decide_eq_true h1, of_decide_eq_true h2, of_decide_eq_true h3, of_decide_eq_true h4] <;> rfl
  · cases h
def partNames : List Str := ["Kind", "Use", "Byte"]
def flatTypes : List String := ["str", "int", "bool", "NoneType", "tuple"]
/-- one class over Part -/
structure PartC (K : Frag) (x : Str) : Prop where
  nm : nameIn K (He.ga K x) x = true
  gn : findCls K (.ref (He.ga K x)) (.type "type") "__name__" = getN (He.ga K x)
  rd : readsIn K (He.ga K x) (.type "type") = true
  ca : findIn K (.ref (He.ga K x)) "__class__" = some (some (.builtin "object.__class__"))
  cm : mroIn K (He.ga K x) (.type "object") = some true
  eq : findIn K (.ref (He.ga K x)) "__eq__" = some (some (.ref (He.ma K (He.ga K "Part") "__eq__")))
  ne : findIn K (.ref (He.ga K x)) "__ne__" = some (some (.builtin "object.__ne__"))
  kp : kitOne K (.ref (He.ga K x)) (.ref (He.ga K "Part")) = some true
  nf : ∀ y ∈ partNames, notFirst K (He.ga K x) (.ref (He.ga K y)) = true
  ft : ∀ t ∈ flatTypes, notFirst K (He.ga K x) (.type t) = true
def partB (K : Frag) (x : Str) : Bool := nameIn K (He.ga K x) x && (isN (He.ga K x) (findCls K (.ref (He.ga K x)) (.type "type") "__name__") && (readsIn K (He.ga K x) (.type "type") &&
  (eqS (findIn K (.ref (He.ga K x)) "__class__") (some (some (.builtin "object.__class__"))) && (decide (mroIn K (He.ga K x) (.type "object") = some true) &&
  (eqS (findIn K (.ref (He.ga K x)) "__eq__") (some (some (.ref (He.ma K (He.ga K "Part") "__eq__")))) && (eqS (findIn K (.ref (He.ga K x)) "__ne__") (some (some (.builtin "object.__ne__"))) &&
  (decide (kitOne K (.ref (He.ga K x)) (.ref (He.ga K "Part")) = some true) && ((partNames.all fun y => notFirst K (He.ga K x) (.ref (He.ga K y))) &&
  (flatTypes.all fun t => notFirst K (He.ga K x) (.type t))))))))))
theorem partB_ok {K : Frag} {x : Str} (h : partB K x = true) : PartC K x := by
  obtain ⟨h1, h⟩ := two h
  obtain ⟨h2, h⟩ := two h
  obtain ⟨h3, h⟩ := two h
  obtain ⟨h4, h⟩ := two h
  obtain ⟨h5, h⟩ := two h
  obtain ⟨h6, h⟩ := two h
  obtain ⟨h7, h⟩ := two h
  obtain ⟨h8, h⟩ := two h
  obtain ⟨h9, h10⟩ := two h
  exact ⟨h1, isN_ok h2, h3, of_decide_eq_true h4, of_decide_eq_true h5, of_decide_eq_true h6, of_decide_eq_true h7, of_decide_eq_true h8, fun y hy => List.all_eq_true.mp h9 y hy, fun t ht => List.all_eq_true.mp h10 t ht⟩
def barred : List Str := ["byte", "size", "align", "place", "end", "packed", "and", "or", "not", "yes", "no", "for", "nogap", "notail", "leaf"]
/-- an empty tuple among what is written -/
def nilT (K : Frag) (a : Addr) : Bool := match K.lookup a with
  | some ⟨.type c, _, .seq its _, _⟩ => decide (c = "tuple") && its.isEmpty
  | _ => false
abbrev dfT (i : Nat) (K : Frag) : Addr := He.dflAt ("Part", some "__init__") i K
def isDepth : Option CFound → Bool
  | some (.val (.int i _)) => decide (i = 4)
  | _ => false
structure PartsT (K : Frag) : Prop where
  one : ∀ x ∈ partNames, PartC K x
  off : OffT K (He.ga K "Part") (He.ma K (He.ga K "Part") "__init__")
  depth : ∃ t, findCls K (.ref (He.ga K "Part")) (.type "type") "DEPTH" = some (.val (.int 4 t))
  eqF : isFn K (.ref (He.ma K (He.ga K "Part") "__eq__")) = true
  cn : specialIn K (.builtin "object.__class__") "__get__" = some (some (.builtin "getset_descriptor.__get__"))
  ct : takesIn K (.builtin "object.__class__") = some true
  flat : ∀ t ∈ flatTypes, kitOne K (.type t) (.ref (He.ga K "Part")) = some false
  bar : He.tupB K "BARRED" (barred.map He.Dv.str) = true
  nil : ∀ i < 2, nilT K (dfT i K) = true
def partsB (K : Frag) : Bool := (partNames.all fun x => partB K x) && (offB K (He.ga K "Part") (He.ma K (He.ga K "Part") "__init__") && (isDepth (findCls K (.ref (He.ga K "Part")) (.type "type") "DEPTH") &&
  (isFn K (.ref (He.ma K (He.ga K "Part") "__eq__")) && (eqS (specialIn K (.builtin "object.__class__") "__get__") (some (some (.builtin "getset_descriptor.__get__"))) &&
  (decide (takesIn K (.builtin "object.__class__") = some true) && ((flatTypes.all fun t => decide (kitOne K (.type t) (.ref (He.ga K "Part")) = some false)) &&
  (He.tupB K "BARRED" (barred.map He.Dv.str) && (nilT K (dfT 0 K) && nilT K (dfT 1 K)))))))))
theorem partsB_ok {K : Frag} (h : partsB K = true) : PartsT K := by
  obtain ⟨h1, h⟩ := two h
  obtain ⟨h2, h⟩ := two h
  obtain ⟨h3, h⟩ := two h
  obtain ⟨h4, h⟩ := two h
  obtain ⟨h5, h⟩ := two h
  obtain ⟨h6, h⟩ := two h
  obtain ⟨h7, h⟩ := two h
  obtain ⟨h8, h⟩ := two h
  obtain ⟨h9, h10⟩ := two h
  refine ⟨fun x hx => partB_ok (List.all_eq_true.mp h1 x hx), offB_ok h2, ?_, h4, of_decide_eq_true h5, of_decide_eq_true h6, fun t ht => of_decide_eq_true (List.all_eq_true.mp h7 t ht), h8, fun i hi => ?_⟩
  · unfold isDepth at h3
    split at h3
    · rename_i i t e
      exact ⟨t, by rw [e, of_decide_eq_true h3]⟩
    · cases h3
  · match i, hi with
    | 0, _ => exact h9
    | 1, _ => exact h10
theorem nilT_ok {K : Frag} {a : Addr} (h : nilT K a = true) (H : Hp) : SqT K H a [] := by
  unfold nilT at h
  split at h
  · rename_i c dd its n sl e
    obtain ⟨h1, h2⟩ := two h
    exact .inr ⟨_, its, n, e, congrArg Value.type (of_decide_eq_true h1), rfl, (by rw [Array.isEmpty_iff.mp h2]; decide), (by rw [Array.isEmpty_iff.mp h2]; exact .nil)⟩
  · cases h
end Ev
set_option Elab.async false
set_option linter.all false
set_option maxRecDepth 100000
set_option maxHeartbeats 4000000
/-! Rules: max of nothing by default=, an instance's class and its name, == and != by an own __eq__. -/
namespace Ev
open PySem PySem.Spec PyProof.Rows L2
/-! ### max(xs, default=d), xs empty -/
def rMaxD0 (K : PySem.W.Frag) : List V → List V → Hp → VK → Prop := fun xs zs H Q => ∃ (a : Addr) (d : V), xs = [.ref a] ∧ zs = [d] ∧ SqL K H a [] ∧ Q d H
theorem cr_maxD0 {X : Cx} (hc : X.calm = true) (hu : X.A.units + 1 < cLine) : CallRK X (.builtin "max") [Str.ofString "default"] (rMaxD0 X.K) := by
  intro pins s σ H xs zs us ws Q I r rz h
  obtain ⟨a, d, rfl, rfl, hs, q⟩ := h
  obtain ⟨its, rv, hl, _⟩ := I.list hs
  cases rv
  rw [Vals.ref1 r]
  obtain ⟨w1, rfl, e1⟩ := vals1 rz
  refine PySem.W.max_list_default (I.ok.hd hc) hl.isList (xs := []) (as := []) .nil (by simp [PySem.W.AlikeAll]) hu (fun _ h' tk k => ⟨d, H, I.kept (t' := tk) k, e1, q⟩) (fun y ys i v h' tk bs e => ?_)
  cases e
/-! ### o.__class__ -/
structure ClsC (K : PySem.W.Frag) (C : Addr) : Prop where
  cl : Cls K C
  ca : PySem.W.findIn K (.ref C) "__class__" = some (some (.builtin "object.__class__"))
  cn : PySem.W.specialIn K (.builtin "object.__class__") "__get__" = some (some (.builtin "getset_descriptor.__get__"))
  ct : PySem.W.takesIn K (.builtin "object.__class__") = some true
  cm : PySem.W.mroIn K C (.type "object") = some true
def tClsOf (K : PySem.W.Frag) (ta : TE) : TE := fun σ H Q => ta σ H fun x H1 => ∃ (a C dx : Addr) (fs : List (Str × V)), x = .ref a ∧ H1 a = some (.ins C dx fs) ∧ ClsC K C ∧ Q (.ref C) H1
theorem pe_clsOf {X : Cx} {e : Expr} {te : TE} {pos : Pos} (he : PE X e te) (hb : attributeBase e "__class__" X.env (eval e X.env) = eval e X.env := by rfl) : PE X (.Attribute e "__class__" pos) (tClsOf X.K te) := by
  refine ⟨fun pins s σ H Q I h => attr_of hb (thn (he.run pins s σ H _ I h) fun u s1 z => ?_)⟩
  obtain ⟨x, H1, I1, rx, a, C, dx, fs, ex, ea, T, q⟩ := z
  subst ex
  obtain rfl : u = Value.ref a := rx
  obtain ⟨mA, O, _⟩ := ins_get I1.hok ea
  obtain ⟨od, J, _⟩ := O.look
  obtain ⟨m, F⟩ := I1.fr
  exact PySem.W.get_class F I1.ok.mod.kin J (T.cl.get _) T.cl.hd T.ca T.cn T.ct T.cm ⟨.ref C, H1, I1.tok _, rfl, q⟩
/-! ### C.__name__ -/
section
open PySem.W PySem.Builtin PySem.Builtin.ObjectAttr PySem.Builtin.Getset_descriptor
variable {prog : Program} {w : World} {A : Around} {E : Value → Shared → Prop} {s : Shared} {K : Frag} {R : Result → Shared → Prop} {C : Addr} {o : Obj} {v : Value}
theorem dga_own (d tp : Value) (C : Addr) : descrGetArgs ⟨[d, .ref C, tp], []⟩ = pure (d, some (.ref C), given tp) := by kernel_rfl
theorem own_name {tp : Value} (X : K.In s.heap) (ht : typeIn K (.ref C) = some (.type "type")) (ho : s.heap.get? C = some o) (hv : o.slots[2]? = some (some v)) (h : R (.ok (.ret v)) s) :
    codeAny (model prog w) A (.call (.builtin "getset_descriptor.__get__") ⟨[.builtin "type.__name__", .ref C, tp], []⟩) R s := by
  obtain ⟨hh, g, dr, t, os⟩ := s
  have L0 : Looks (model prog w) hh (typeOf (.ref C)) (.type "type") := looks_typeIn X ht
  have L1 : Looks (model prog w) hh (isSubtype (.type "type") (.type "type")) true := Looks.of_pure (by rw [isSubtype_type]; kernel_rfl)
  refine codeAny_call_builtin KF.slot_gs.plain KF.entry_gs (KF.slot_gs.check _ _ _ _ _ _ _ _ ktyn_type (KF.args_gs _ _ _) ?_)
  unfold Builtin.«getset_descriptor.__get__» descrGet
  rw [dga_own]
  refine wpAny_bind (wpAny_pure ?_)
  unfold descrGetter descrCheckInstance descrNameAndClass isInstance
  simp only [ktyn_owner]
  repeat lk
  refine ⟨Code.quiet_builtin _ (by decide +kernel), codeAny_builtin ktyn_entry ?_⟩
  unfold Builtin.«type.__name__» Builtin.keptObject slotAt
  dsimp only
  refine wpAny_bind (wpAny_bind (wpAny_loadPart_at ho ?_))
  refine wpAny_pure ?_
  rw [hv]
  exact wpAny_pure h
end
def tNameOf (K : PySem.W.Frag) (ta : TE) : TE := fun σ H Q => ta σ H fun x H1 => ∃ (C : Addr) (y : Str), x = .ref C ∧ nameIn K C y = true ∧ PySem.W.findCls K (.ref C) (.type "type") "__name__" = getN C ∧
  PySem.W.readsIn K C (.type "type") = true ∧ PySem.W.typeIn K (.ref C) = some (.type "type") ∧ Q (.str y) H1
theorem pe_nameOf {X : Cx} {e : Expr} {te : TE} {pos : Pos} (he : PE X e te) (hb : attributeBase e "__name__" X.env (eval e X.env) = eval e X.env := by rfl) : PE X (.Attribute e "__name__" pos) (tNameOf X.K te) := by
  refine ⟨fun pins s σ H Q I h => attr_of hb (thn (he.run pins s σ H _ I h) fun u s1 z => ?_)⟩
  obtain ⟨x, H1, I1, rx, C, y, ex, hn, hf, hr, ht, q⟩ := z
  subst ex
  obtain rfl : u = Value.ref C := rx
  unfold nameIn at hn
  split at hn
  · rename_i oc od dt sl lk
    split at hn
    · rename_i k0 k1 z t k3 k4 k5 es
      have e : z = y := of_decide_eq_true hn
      subst e
      have hv : sl[2]? = some (some (Value.str z t)) := by
        have e2 : sl = #[k0, k1, some (Value.str z t), k3, k4, k5] := by
          have := congrArg List.toArray es
          simpa using this
        rw [e2]
        rfl
      refine PySem.W.cls_bind I1.kIn hr hf (wpAny_call (own_name (s := { s1 with toks := s1.toks + 1 }) I1.kIn ht (I1.kIn _ _ lk) hv ?_))
      exact PySem.W.handed_on rfl ⟨.str z, H1, I1.tok _, ⟨t, rfl⟩, q⟩
    · cases hn
  · cases hn
/-! ### x == y, x != y, x an instance with its own __eq__ -/
section
variable {X : Cx} {CX : CXT} {pins : List (Addr × Obj)} {σ : L2.St} {H : Hp} {s : Shared} {C g : Addr} {n : Nat} {sp : Sp} {E : XK}
def rOwnE (K : PySem.W.Frag) (C : Addr) (sp : Sp) (E : XK) : R2 := fun x y H Q => ∃ (a dx : Addr) (fs : List (Str × V)) (t : Value), x = .ref a ∧ H a = some (.ins C dx fs) ∧ TyX K H y t ∧ PySem.W.notFirst K C t = true ∧ sp [x, y] H Q E
theorem op_ownE (hs : PySem.W.findIn X.K (.ref C) "__eq__" = some (some (.ref g))) (hf : PySem.W.isFn X.K (.ref g) = true) (F : FnR X.prog X.w X.K X.mg X.base CX n g sp)
    (hr : Room n X.A) (hx : Passes CX X E) : OpR X (compareOp .Eq) (rOwnE X.K C sp E) := by
  intro pins s σ H x y v u Q I rx ry h
  obtain ⟨a, dx, fs, t, rfl, ha, ty, hn, q⟩ := h
  cases (show v = Value.ref a from rx)
  obtain ⟨mA, O, _⟩ := ins_get I.hok ha
  obtain ⟨od, J, _⟩ := O.look
  obtain ⟨P, Z, p, _⟩ := kit_of I ry ty
  obtain ⟨m, hF⟩ := I.fr
  show wpAny _ _ (richCompare .Eq (.ref a) u) _ _ _
  refine PySem.W.cmp_K (op := .Eq) (tb := t) hr.units0 hF I.ok.mod.kin J (Z.ty _ _ I.kIn p) hn hs hf ?_
  refine thn (wpAny_call (run_fnR (us := [.ref a, u]) (vs := [.ref a, y]) F hr hx I (.cons rfl (.cons ry .nil)) q)) (fun w s' z => ?_)
  obtain ⟨z', H', I', rz, qz⟩ := z
  exact SlX.cmpback rz ⟨z', H', I', rz, qz⟩
end
end Ev
namespace Ev
open PySem PySem.Spec PyProof.Rows L2
/-! ### x != y by an own __eq__: object.__ne__ asks it -/
section
variable {M : Model} {prog : Program} {w : World} {A : Around} {E : Value → Shared → Prop} {s : Shared} {K : PySem.W.Frag} {x C : Addr} {ox : Obj} {od : Option Obj}
theorem ifBound_ne {args : List Value} {Q : Option Value → Shared → Prop} (X : K.In s.heap) (I : PySem.W.InstAt s.heap x ox C od) (hs : PySem.W.findIn K (.ref C) "__ne__" = some (some (.builtin "object.__ne__")))
    (h : wpAny M A (call (.builtin "object.__ne__") (.ref x :: args)) (fun v => Q (some v)) E s) : wpAny M A (callSpecialIfBound? (.ref x) "__ne__" args) Q E s := by
  simp only [callSpecialIfBound?, bindSpecialIfBound?]
  apply wpAny_holding
  refine wpAny_bind (wpAny_bind (wpAny_bind (I.type.here ((PySem.W.looks_findIn X hs).here ?_))))
  apply wpAny_bind
  apply wpAny_askSetting
  apply wpAny_ite
  have last : wpAny M A (call (.builtin "object.__ne__") ([.ref x] ++ args) >>= fun v => pure (some v)) Q E s := wpAny_bind (thn h (fun v s' z => wpAny_pure z))
  split
  · exact wpAny_bind (wpAny_of_eq (F.cmp_object.ne.bind _) (wpAny_pure (by exact last)))
  · exact wpAny_tryCatch (wpAny_bind (wpAny_of_eq (F.cmp_object.ne.bind _) (wpAny_pure (by exact last))))
theorem entry_ne {b : Value} {f : Addr} {Q : Fin → Shared → Prop} (hu : A.units < cLine) (X : K.In s.heap) (I : PySem.W.InstAt s.heap x ox C od) (hs : PySem.W.findIn K (.ref C) "__eq__" = some (some (.ref f))) (hf : PySem.W.isFn K (.ref f) = true)
    (h : wpAny M A (call (.ref f) [.ref x, b]) (fun v s' => ∃ k, v = .bool k ∧ Q (.done (.ret (.bool (!k)))) s') E s) : wpAny M A (Builtin.«object.__ne__» ⟨[.ref x, b], []⟩) Q E s := by
  unfold Builtin.«object.__ne__»
  refine wpAny_bind (wpAny_of_eq (a := ((Value.ref x : Value), [b])) (by first | rfl | (simp only [Builtin.ObjectAttr.slotArgs]; rfl)) ?_)
  refine wpAny_bind (wpAny_cRoomFor hu ?_)
  refine wpAny_bind (PySem.W.ifBound_K X I hs hf (thn h (fun v s' z => ?_)))
  obtain ⟨k, rfl, q⟩ := z
  exact wpAny_bind (wpAny_truthy_bool (wpAny_pure q))
end
end Ev
namespace Ev
open PySem PySem.Spec PyProof.Rows L2
section
variable {prog : Program} {w : World} {A : Around} {E : Value → Shared → Prop} {s : Shared} {K : PySem.W.Frag} {x C f : Addr} {ox : Obj} {od : Option Obj} {b tb : Value}
theorem rc_ne {Q : Value → Shared → Prop} (hu : A.units < cLine) (hu1 : A.in1.units < cLine) (X : K.In s.heap) (I : PySem.W.InstAt s.heap x ox C od) (hb : PySem.W.Looks (model prog w) s.heap (typeOf b) tb) (hn : PySem.W.notFirst K C tb = true)
    (hm : PySem.W.mroIn K C (.type "object") = some true) (hne : PySem.W.findIn K (.ref C) "__ne__" = some (some (.builtin "object.__ne__"))) (hs : PySem.W.findIn K (.ref C) "__eq__" = some (some (.ref f))) (hf : PySem.W.isFn K (.ref f) = true)
    (h : wpAny (model prog w) A.in1 (call (.ref f) [.ref x, b]) (fun v s' => ∃ k, v = .bool k ∧ Q (.bool (!k)) s') E s) : wpAny (model prog w) A (richCompare .NotEq (.ref x) b) Q E s := by
  have one : wpAny (model prog w) A (tryCompare (.ref x) "__ne__" b) (fun r s' => ∃ k, r = some (.bool k) ∧ Q (.bool k) s') E s := by
    unfold tryCompare
    refine wpAny_bind (ifBound_ne X I hne (wpAny_call (codeAny_call_builtin F.cmp_object.ne.plain F.cmpEntry_ne
      (PySem.W.check_slot F.cmpKind_ne F.cmpSplit_ne (I.type.andThen (PySem.W.looks_mroIn X hm)) (F.cmpArgs_ne _ _) (entry_ne hu1 X I hs hf (thn h (fun v s' z => ?_)))))))
    obtain ⟨k, rfl, q⟩ := z
    exact ⟨k, rfl, wpAny_pure ⟨!k, rfl, q⟩⟩
  unfold richCompare
  simp only [oneThing_ref]
  refine wpAny_holding (wpAny_bind (wpAny_cRoomFor hu ?_))
  refine wpAny_bind (I.type.here (wpAny_bind (hb.here ?_)))
  split
  · rename_i q
    have e : PySem.W.subIn K tb (.ref C) = some false := by
      rcases Bool.or_eq_true_iff.mp hn with e | e
      · rw [beq_iff_eq.mp e] at q; simp at q
      · exact beq_iff_eq.mp e
    refine wpAny_bind ((PySem.W.looks_subIn X e).here ?_)
    simp only [Bool.false_eq_true, if_false]
    refine wpAny_bind (thn one (fun r s' z => ?_))
    obtain ⟨k, rfl, q⟩ := z
    exact wpAny_pure q
  · refine wpAny_bind (wpAny_pure ?_)
    simp only [Bool.false_eq_true, if_false]
    refine wpAny_bind (thn one (fun r s' z => ?_))
    obtain ⟨k, rfl, q⟩ := z
    exact wpAny_pure q
end
section
variable {X : Cx} {CX : CXT} {pins : List (Addr × Obj)} {σ : L2.St} {H : Hp} {s : Shared} {C g : Addr} {n : Nat} {sp : Sp} {E : XK}
def rOwnNe (K : PySem.W.Frag) (C : Addr) (sp : Sp) (E : XK) : R2 := fun x y H Q => ∃ (a dx : Addr) (fs : List (Str × V)) (t : Value), x = .ref a ∧ H a = some (.ins C dx fs) ∧ TyX K H y t ∧ PySem.W.notFirst K C t = true ∧
  sp [x, y] H (fun v H' => ∃ k, v = .bl k ∧ Q (.bl (!k)) H') E
theorem op_ownNe (hm : PySem.W.mroIn X.K C (.type "object") = some true) (hne : PySem.W.findIn X.K (.ref C) "__ne__" = some (some (.builtin "object.__ne__"))) (hs : PySem.W.findIn X.K (.ref C) "__eq__" = some (some (.ref g)))
    (hf : PySem.W.isFn X.K (.ref g) = true) (F : FnR X.prog X.w X.K X.mg X.base CX n g sp) (hr : Room (n + 1) X.A) (hx : Passes CX X E) : OpR X (compareOp .NotEq) (rOwnNe X.K C sp E) := by
  intro pins s σ H x y v u Q I rx ry h
  obtain ⟨a, dx, fs, t, rfl, ha, ty, hn, q⟩ := h
  cases (show v = Value.ref a from rx)
  obtain ⟨mA, O, _⟩ := ins_get I.hok ha
  obtain ⟨od, J, _⟩ := O.look
  obtain ⟨P, Z, p, _⟩ := kit_of I ry ty
  have hr1 : Room n X.A.in1 := Room.in1 hr
  show wpAny _ _ (richCompare .NotEq (.ref a) u) _ _ _
  refine rc_ne (tb := t) hr.units0 hr1.units0 I.kIn J (Z.ty _ _ I.kIn p) hn hm hne hs hf ?_
  refine thn (wpAny_call (SlX.run_at (us := [.ref a, u]) (ws := [.ref a, y]) F hr1 I.env0.in1 hx I (.cons rfl (.cons ry .nil)) q)) (fun w s' z => ?_)
  obtain ⟨z', H', I', rz, k, ez, qz⟩ := z
  subst ez
  obtain rfl : w = Value.bool k := rz
  exact ⟨k, rfl, .bl (!k), H', I', rfl, qz⟩
end
end Ev
set_option Elab.async false
set_option linter.all false
set_option maxRecDepth 100000
set_option maxHeartbeats 4000000
/-! Rules: max of ints by default=; an operator of one's own; an instance in an f-string. -/
namespace Ev
open PySem PySem.Spec PyProof.Rows L2
/-! ### max(xs, default=d) of ints -/
def maxI (d : Int) : List Int → Int
  | [] => d
  | n :: ns => ns.foldl max n
theorem ints_reads {h : Heap} : ∀ {ns : List Int} {us : List Value}, Vals (ns.map V.int) us → ReadsAll h us (ns.map PyData.int) []
  | [], _, .nil => .nil
  | n :: ns, _, .cons (b := b) r t => by
    obtain ⟨k, rfl⟩ := (show ∃ k, b = Value.int n k from r)
    exact .cons (as := []) (bs := []) (.int n k) (ints_reads t)
theorem alike_ints (ns : List Int) : PySem.W.AlikeAll (ns.map PyData.int) := by
  refine ⟨fun x hx y hy => ?_, fun x hx => ?_⟩
  · obtain ⟨i, _, rfl⟩ := List.mem_map.mp hx
    obtain ⟨j, _, rfl⟩ := List.mem_map.mp hy
    rfl
  · obtain ⟨i, _, rfl⟩ := List.mem_map.mp hx
    intro h; cases h
theorem depth_ints : ∀ ns : List Int, PyData.depthAll (ns.map PyData.int) = 0
  | [] => rfl
  | n :: ns => by
    show max (PyData.depth (.int n)) (PyData.depthAll (ns.map PyData.int)) = 0
    rw [depth_ints ns]; rfl
def rMaxD (K : PySem.W.Frag) : List V → List V → Hp → VK → Prop := fun xs zs H Q => ∃ (a : Addr) (d : Int) (ns : List Int), xs = [.ref a] ∧ zs = [.int d] ∧ SqL K H a (ns.map V.int) ∧ Q (.int (maxI d ns)) H
theorem cr_maxD {X : Cx} (hc : X.calm = true) (hu : X.A.units + 1 < cLine) : CallRK X (.builtin "max") [Str.ofString "default"] (rMaxD X.K) := by
  intro pins s σ H xs zs us ws Q I r rz h
  obtain ⟨a, d, ns, rfl, rfl, hs, q⟩ := h
  obtain ⟨its, rv, hl, _⟩ := I.list hs
  rw [Vals.ref1 r]
  obtain ⟨w1, rfl, e1⟩ := vals1 rz
  refine PySem.W.max_list_default (I.ok.hd hc) hl.isList (xs := ns.map .int) (as := []) (ints_reads rv) (alike_ints ns) (by rw [depth_ints]; exact hu) (fun e h' tk k => ⟨.int d, H, I.kept (t' := tk) k, e1, ?_⟩) (fun y ys i v h' tk bs e hv hr k => ?_)
  · cases ns with
    | nil => exact q
    | cons n ns => cases e
  · cases ns with
    | nil => cases e
    | cons n ms =>
      injection e with e1 e2
      subst e1 e2
      rw [PySem.W.maxD_ints] at hr
      cases hr
      exact ⟨.int (maxI d (n :: ms)), H, I.kept (t' := tk) k, ⟨_, rfl⟩, q⟩
/-- max(xs) of ints -/
def rMaxN (K : PySem.W.Frag) : List V → Hp → VK → Prop := fun xs H Q => ∃ (a : Addr) (n : Int) (ns : List Int), xs = [.ref a] ∧ SqL K H a ((n :: ns).map V.int) ∧ Q (.int (ns.foldl max n)) H
theorem cr_maxN {X : Cx} (hc : X.calm = true) (hu : X.A.units + 1 < cLine) : CallR X (.builtin "max") (rMaxN X.K) := by
  intro pins s σ H xs us Q I r h
  obtain ⟨a, n, ns, rfl, hs, q⟩ := h
  obtain ⟨its, rv, hl, _⟩ := I.list hs
  rw [Vals.ref1 r]
  refine PySem.W.max_list_data (I.ok.hd hc) hl.isList (x := .int n) (xs := ns.map .int) (as := []) (ints_reads (ns := n :: ns) rv) (alike_ints (n :: ns)) (by rw [show PyData.int n :: ns.map .int = (n :: ns).map .int from rfl, depth_ints]; exact hu) (fun i v h' tk bs hv hr k => ?_)
  rw [PySem.W.maxD_ints] at hr
  cases hr
  exact ⟨.int (ns.foldl max n), H, I.kept (t' := tk) k, ⟨_, rfl⟩, q⟩
end Ev
/-! ### x op y by an operator of one's own -/
namespace PySem.W
open Lean Elab Tactic Meta PySem PySem.Calls PyProof.Rows
section
variable {prog : Program} {w : World} {A : Around} {E : Value → Shared → Prop} {s : Shared} {K : Frag} {x C f : Addr} {ox : Obj} {od : Option Obj} {T : String}
theorem ksp_binL {op : Operator} {b : Value} {fo ro rc : Option Value} {Q : Value → Shared → Prop} (X : K.In s.heap) (I : InstAt s.heap x ox C od) (hb : Looks (model prog w) s.heap (typeOf b) (.type T)) (hc : selfFirst K C = true)
    (hs : findIn K (.ref C) (PySem.dunder op.info.2) = some (some (.ref f))) (hf : isFn K (.ref f) = true) (hr : findIn K (.ref C) (dunderR op.info.2) = some rc) (hp : rc = none ∨ ∃ g : Addr, rc = some (.ref g))
    (h1 : findIn K (.type T) (PySem.dunder op.info.2) = some fo) (h2 : findIn K (.type T) (dunderR op.info.2) = some ro) (hsub : subIn K (.type T) (.ref C) = some false)
    (h : wpAny (model prog w) A (call (.ref f) [.ref x, b]) (CmpBack Q) E s) : wpAny (model prog w) A (binaryOp op (.ref x) b) Q E s := by
  obtain ⟨cd, rest, hcd, hm⟩ := ksp_first hc
  rcases hi : op.info with ⟨sym, nm'⟩
  rw [hi] at hs hr h1 h2
  dsimp only at hs hr h1 h2
  have one := ksp_try X I hs hf h
  obtain ⟨hh, g, d, tt, os⟩ := s
  have L1 : Looks (model prog w) hh (typeOf (.ref x)) (.ref C) := I.type
  have L2 : Looks (model prog w) hh (typeOf b) (.type T) := hb
  have L3 : Looks (model prog w) hh (fillsNumberSlot (.ref C) nm') true := fills_K X hcd hm hs
  have L4 : Looks (model prog w) hh (fillsNumberSlot (.type T) nm') ((fo.isSome && !isSeqSlot fo) || (ro.isSome && !isSeqSlot ro)) := ksp_fillsT X h1 h2
  have L5 : Looks (model prog w) hh (isSubtype (.type T) (.ref C)) false := looks_subIn X hsub
  have L6 : Looks (model prog w) hh (numberSlotInPython (.ref C) nm') true := ksp_inPy X hs hr hp
  have L7 : Looks (model prog w) hh (numberSlotInPython (.type T) nm') false := Looks.of_pure rfl
  have L8 : Looks (model prog w) hh (typeLookup (.type T) (dunderR nm')) ro := looks_findIn X h2
  generalize ((fo.isSome && !isSeqSlot fo) || (ro.isSome && !isSeqSlot ro)) = right at L4
  have hne : (Value.ref C == Value.type T) = false := Bool.eq_false_iff.mpr fun q => by cases beq_iff_eq.mp q
  simp only [binaryOp, hi]
  refine wpAny_holding (wpAny_bind ?_)
  unfold binaryOp1
  refine wpAny_bind (L1.at (wpAny_bind (L2.at (wpAny_bind (L3.at ?_)))))
  simp only [hne, Bool.false_eq_true, if_false]
  cases right with
  | false =>
    ksp_lk
    refine wpAny_mono one (fun r s' hr' => ?_) fun _ _ e => e
    obtain ⟨v, rfl, hq⟩ := hr'
    ksp_lk
    exact hq
  | true =>
    ksp_lk
    refine wpAny_mono one (fun r s' hr' => ?_) fun _ _ e => e
    obtain ⟨v, rfl, hq⟩ := hr'
    ksp_lk
    exact hq
end
end PySem.W
namespace Ev
open PySem PySem.Spec PyProof.Rows L2
section
variable {X : Cx} {CX : CXT} {pins : List (Addr × Obj)} {σ : L2.St} {H : Hp} {s : Shared} {C g : Addr} {n : Nat} {sp : Sp} {E : XK}
/-- what the written part says of C's own operator and of the other's type -/
structure OwnOp (K : PySem.W.Frag) (C g : Addr) (nm T : String) : Prop where
  self : PySem.W.selfFirst K C = true
  at_ : PySem.W.findIn K (.ref C) (PySem.dunder nm) = some (some (.ref g))
  fn : PySem.W.isFn K (.ref g) = true
  rn : PySem.W.findIn K (.ref C) (dunderR nm) = some none
  l : (PySem.W.findIn K (.type T) (PySem.dunder nm)).isSome = true
  r : (PySem.W.findIn K (.type T) (dunderR nm)).isSome = true
  sub : PySem.W.subIn K (.type T) (.ref C) = some false
def rOwnB (K : PySem.W.Frag) (nm : String) (g : Addr) (sp : Sp) (E : XK) : R2 := fun x y H Q => ∃ (a C dx : Addr) (fs : List (Str × V)) (T : String), x = .ref a ∧ H a = some (.ins C dx fs) ∧ TyX K H y (.type T) ∧ OwnOp K C g nm T ∧ sp [x, y] H Q E
theorem op_ownB {op : Operator} (F : FnR X.prog X.w X.K X.mg X.base CX n g sp) (hr : Room n X.A) (hx : Passes CX X E) : OpR X (binaryOp op) (rOwnB X.K op.info.2 g sp E) := by
  intro pins s σ H x y v u Q I rx ry h
  obtain ⟨a, C, dx, fs, T, rfl, ha, ty, O, q⟩ := h
  cases (show v = Value.ref a from rx)
  obtain ⟨mA, O1, _⟩ := ins_get I.hok ha
  obtain ⟨od, J, _⟩ := O1.look
  obtain ⟨P, Z, p, _⟩ := kit_of I ry ty
  obtain ⟨fo, efo⟩ := Option.isSome_iff_exists.mp O.l
  obtain ⟨ro, ero⟩ := Option.isSome_iff_exists.mp O.r
  refine PySem.W.ksp_binL I.kIn J (Z.ty _ _ I.kIn p) O.self O.at_ O.fn O.rn (.inl rfl) efo ero O.sub ?_
  refine thn (wpAny_call (run_fnR (us := [.ref a, u]) (vs := [.ref a, y]) F hr hx I (.cons rfl (.cons ry .nil)) q)) (fun w s' z => ?_)
  obtain ⟨z', H', I', rz, qz⟩ := z
  exact SlX.cmpback rz ⟨z', H', I', rz, qz⟩
/-! ### {x}, x an instance with its own __str__ -/
structure FmtC (K : PySem.W.Frag) (C g : Addr) : Prop where
  fm : PySem.W.findIn K (.ref C) "__format__" = some (some (.builtin "object.__format__"))
  mo : PySem.W.mroIn K C (.type "object") = some true
  at_ : PySem.W.findIn K (.ref C) "__str__" = some (some (.ref g))
  fn : PySem.W.isFn K (.ref g) = true
def tFmtO (P : Program) (w : World) (K : PySem.W.Frag) (mg : Str → Option Value) (base : Heap) (n : Nat) (te : TE) : TE := fun σ H Q => te σ H fun x H1 => ∃ (a C dx g : Addr) (fs : List (Str × V)) (sp : Sp), x = .ref a ∧ H1 a = some (.ins C dx fs) ∧
  FmtC K C g ∧ FnR P w K mg base CX0 n g sp ∧ sp [.ref a] H1 (fun z H' => ∃ i, z = .str i ∧ Q z H') (fun _ _ _ => False)
theorem pe_fmtO {e : Expr} {te : TE} {pos : Pos} (he : PE X e te) (hr : Room (n + 1) X.A) : PE X (.FormattedValue e (-1) none pos) (tFmtO X.prog X.w X.K X.mg X.base n te) := by
  refine ⟨fun pins s σ H Q I h => ?_⟩
  refine wpAny_FormattedValue_plain (thn (he.run pins s σ H _ I h) fun v s1 hv => ?_)
  obtain ⟨x, H1, I1, r1, a, C, dx, g, fs, sp, rfl, ha, T, F, q⟩ := hv
  cases (show v = Value.ref a from r1)
  obtain ⟨mA, O, _⟩ := ins_get I1.hok ha
  obtain ⟨od, J, _⟩ := O.look
  have hr2 : Room n X.A.in1 := Room.in1 hr
  have I2 := I1.tok (s1.toks + 1)
  refine PySem.W.kfo_fieldS hr2.units0 I1.kIn J T.fm T.mo T.at_ T.fn (thn (wpAny_call (SlX.run_at (us := [.ref a]) (ws := [.ref a]) F hr2 I2.env0.in1 pass0 I2 (.cons rfl .nil) q)) (fun w s' z => ?_))
  obtain ⟨z', H', I', rz, i, ei, qz⟩ := z
  subst ei
  obtain ⟨t, e⟩ := (show ∃ t, w = Value.str i t from rz)
  cases e
  exact ⟨.str i, H', I', ⟨t, rfl⟩, qz⟩
end
end Ev
set_option Elab.async false
set_option linter.all false
set_option maxRecDepth 100000
set_option maxHeartbeats 4000000
/-! == of tuples whose items are compared by an own __eq__, both answers. -/
namespace GQB
open PySem PySem.SeqAt GQ
open AutoSeq1 (wpAny_loadPart')
open MeetsSeq MeetsSeq2 MeetsSeq3 SeqRoads2
section
variable {prog : Program} {w : World} {A : Around} {R : Result → Shared → Prop} {E : Value → Shared → Prop} {s : Shared}
theorem tuple_eqB (l b : Addr) (items items2 : Array Value) (n n2 : Nat) (dd dd2 : Option Addr) (sl sl2 : Array (Option Value)) (I : Nat → Shared → Prop)
    (turn : ∀ i (h1 : i < items.size) (h2 : i < items2.size) s, I i s → wpAny (model prog w) A.in1 (eqBool items[i] items2[i]) (fun r s' => (r = true ∧ I (i + 1) s') ∨ (r = false ∧ R (.ok (.ret (.bool false))) s')) (fun e s' => R (.error e) s') s)
    (fin : ∀ i s, min items.size items2.size ≤ i → i ≤ items.size → i ≤ items2.size → I i s → R (.ok (.ret (.bool (items.size == items2.size)))) s) {s : Shared}
    (hl1 : s.heap.get? l = some { cls := .type "tuple", dict := dd, data := .seq items n, slots := sl }) (hb1 : s.heap.get? b = some { cls := .type "tuple", dict := dd2, data := .seq items2 n2, slots := sl2 }) (h : I 0 s) :
    wpAny (model prog w) A.in1 (Builtin.«tuple.__eq__» ⟨[.ref l, .ref b], []⟩) (FinOf prog w A R) (fun e s' => R (.error e) s') s := by
  have f2 := AutoSeq1.sub_tuple_tuple
  have hZ : (items.toList.zip items2.toList).length = min items.size items2.size := by simp
  have h0 := h
  obtain ⟨hp, g, d, tk, os⟩ := s
  wp_walk using wpAny_loadPart' hl1, wpAny_loadPart' hb1, wpAny_forIn_list _ (fun rest b s' => b.1 = none ∧ ∃ i, rest = (items.toList.zip items2.toList).drop i ∧ i ≤ items.size ∧ i ≤ items2.size ∧ I i s') _
  case turn =>
    rintro ⟨y, x⟩ rest b s' ⟨hb', i, hz, hi, hi2, hI⟩
    have hlt : i < (items.toList.zip items2.toList).length := by
      rcases Nat.lt_or_ge i (items.toList.zip items2.toList).length with h' | h'
      · exact h'
      · rw [List.drop_of_length_le h'] at hz; cases hz
    have hm : i < min items.size items2.size := hZ ▸ hlt
    have h1 : i < items.size := Nat.lt_of_lt_of_le hm (Nat.min_le_left _ _)
    have h2 : i < items2.size := Nat.lt_of_lt_of_le hm (Nat.min_le_right _ _)
    rw [List.drop_eq_getElem_cons hlt] at hz
    injection hz with hyx hrest
    have hy : y = items[i] := by have := congrArg Prod.fst hyx; simpa using this
    have hx : x = items2[i] := by have := congrArg Prod.snd hyx; simpa using this
    subst hy hx
    refine wpAny_bind (wpAny_mono (turn i h1 h2 s' hI) (fun r s2 q2 => ?_) fun _ _ x => x)
    rcases q2 with ⟨hr, q2⟩ | ⟨hr, q2⟩
    · subst hr
      wp_walk
      exact ⟨rfl, i + 1, hrest, h1, h2, q2⟩
    · subst hr
      wp_walk
      exact q2
  case fin =>
    rintro ⟨b1, b2⟩ s' ⟨hb', i, hz, hi, hi2, hI⟩
    simp only at hb'
    subst hb'
    have hge : min items.size items2.size ≤ i := by
      rcases Nat.lt_or_ge i (items.toList.zip items2.toList).length with h' | h'
      · rw [List.drop_eq_getElem_cons h'] at hz; cases hz
      · exact hZ ▸ h'
    have hR := fin i s' hge hi hi2 hI
    wp_walk
    simpa [Builtin.Tuple.tupleCompareSizes] using hR
  case h =>
    exact ⟨rfl, 0, rfl, Nat.zero_le _, Nat.zero_le _, h0⟩
end
end GQB

namespace L2
open PySem PySem.Spec PyProof.Rows
abbrev EqvB := V → V → Hp → Bool → Prop
def MonB (D : EqvB) : Prop := ∀ x y H H' b, Ext H H' → D x y H b → D x y H' b
def EqJ (X : Cx) (n : Nat) (D : EqvB) : Prop :=
  ∀ (A : Around) (pins : List (Addr × Obj)) (s : Shared) (σ : St) (H : Hp) (x y : V) (u v : Value) (b : Bool), Sub X n A → Inv X pins σ H s → RelV x u → RelV y v → D x y H b →
    wpAny (model X.prog X.w) A (eqBool u v) (fun r s' => r = b ∧ ∃ H', Inv X pins σ H' s' ∧ Ext H H') X.xe s
def RcJ (X : Cx) (n : Nat) (D : EqvB) : Prop :=
  ∀ (A : Around) (pins : List (Addr × Obj)) (s : Shared) (σ : St) (H : Hp) (x y : V) (u v : Value) (b : Bool), Sub X n A → Inv X pins σ H s → RelV x u → RelV y v → D x y H b →
    wpAny (model X.prog X.w) A (richCompare .Eq u v) (fun r s' => r = .bool b ∧ ∃ H', Inv X pins σ H' s' ∧ Ext H H') X.xe s
section
variable {X : Cx} {n m : Nat} {D D' : EqvB}
theorem EqJ.mono (h : EqJ X n D) (hn : n ≤ m) : EqJ X m D := fun A pins s σ H x y u v b sb => h A pins s σ H x y u v b (sb.mono hn)
theorem RcJ.mono (h : RcJ X n D) (hn : n ≤ m) : RcJ X m D := fun A pins s σ H x y u v b sb => h A pins s σ H x y u v b (sb.mono hn)
theorem EqJ.or (h : EqJ X n D) (h' : EqJ X n D') : EqJ X n (fun x y H b => D x y H b ∨ D' x y H b) := fun A pins s σ H x y u v b sb I rx ry d => by
  rcases d with d | d
  · exact h A pins s σ H x y u v b sb I rx ry d
  · exact h' A pins s σ H x y u v b sb I rx ry d
theorem EqJ.imp (h : EqJ X n D) (hd : ∀ x y H b, D' x y H b → D x y H b) : EqJ X n D' := fun A pins s σ H x y u v b sb I rx ry d => h A pins s σ H x y u v b sb I rx ry (hd x y H b d)
theorem RcJ.imp (h : RcJ X n D) (hd : ∀ x y H b, D' x y H b → D x y H b) : RcJ X n D' := fun A pins s σ H x y u v b sb I rx ry d => h A pins s σ H x y u v b sb I rx ry (hd x y H b d)
def DFlatB : EqvB := fun x y _ b => flatV x = true ∧ flatV y = true ∧ eqV x y = b
theorem eqJ_flat : EqJ X 0 DFlatB := by
  intro A pins s σ H x y u v b sb I rx ry d
  obtain ⟨fx, fy, e⟩ := d
  have q := eqAt_V (A := A) (s := s) rx ry fx fy
  rw [e] at q
  exact q X.prog X.w X.xe _ ⟨rfl, H, I, Ext.rfl'⟩
/-- the same object -/
def DSame : EqvB := fun x y _ b => (∃ a, x = .ref a ∧ y = .ref a) ∧ b = true
theorem eqJ_same : EqJ X 0 DSame := by
  intro A pins s σ H x y u v b sb I rx ry d
  obtain ⟨⟨a, rfl, rfl⟩, rfl⟩ := d
  cases rx
  cases ry
  exact SeqAt.EqAt.same (A := A) (s := s) (.ref a) X.prog X.w X.xe _ ⟨rfl, H, I, Ext.rfl'⟩
/-- item by item -/
inductive PrsB (D : EqvB) (H : Hp) : List V → List V → Bool → Prop
  | nil : PrsB D H [] [] true
  | nilL (y : V) (ys : List V) : PrsB D H [] (y :: ys) false
  | nilR (x : V) (xs : List V) : PrsB D H (x :: xs) [] false
  | yes {x y : V} {xs ys : List V} {b : Bool} : D x y H true → PrsB D H xs ys b → PrsB D H (x :: xs) (y :: ys) b
  | no {x y : V} {xs ys : List V} : D x y H false → PrsB D H (x :: xs) (y :: ys) false
theorem PrsB.mon (hD : MonB D) {H H' : Hp} (e : Ext H H') {xs ys : List V} {b : Bool} (p : PrsB D H xs ys b) : PrsB D H' xs ys b := by
  induction p with
  | nil => exact .nil
  | nilL y ys => exact .nilL y ys
  | nilR x xs => exact .nilR x xs
  | yes d _ ih => exact .yes (hD _ _ _ _ _ e d) ih
  | no d => exact .no (hD _ _ _ _ _ e d)
theorem PrsB.imp {H : Hp} (hd : ∀ x y b, D x y H b → D' x y H b) {xs ys : List V} {b : Bool} (p : PrsB D H xs ys b) : PrsB D' H xs ys b := by
  induction p with
  | nil => exact .nil
  | nilL y ys => exact .nilL y ys
  | nilR x xs => exact .nilR x xs
  | yes d _ ih => exact .yes (hd _ _ _ d) ih
  | no d => exact .no (hd _ _ _ d)
def DTupB (K : PySem.W.Frag) (D : EqvB) : EqvB := fun x y H b => ∃ a c xs ys, x = .ref a ∧ y = .ref c ∧ SqT K H a xs ∧ SqT K H c ys ∧ PrsB D H xs ys b
theorem monB_tup {K : PySem.W.Frag} (hD : MonB D) : MonB (DTupB K D) := fun x y H H' b e d => by
  obtain ⟨a, c, xs, ys, hx, hy, h1, h2, p⟩ := d
  exact ⟨a, c, xs, ys, hx, hy, h1.ext e, h2.ext e, p.mon hD e⟩
theorem rcJ_tup (hD : MonB D) (h : EqJ X n D) : RcJ X (n + 1) (DTupB X.K D) := by
  intro A pins s σ H x y u v b sb I rx ry d
  obtain ⟨a, c, xs, ys, rfl, rfl, ha, hb, p⟩ := d
  cases rx
  cases ry
  obtain ⟨its, r, hl, z⟩ := I.tuple ha
  obtain ⟨its2, r2, hb2, z2⟩ := I.tuple hb
  obtain ⟨⟨cls, dd, data, sl⟩, ho, hc, n1, hd⟩ := id hl
  obtain ⟨⟨cls2, dd2, data2, sl2⟩, ho2, hc2, n2, hd2⟩ := id hb2
  simp only at hc hd hc2 hd2
  subst hc hd hc2 hd2
  have l1 : xs.length = its.length := r.length
  have l2 : ys.length = its2.length := r2.length
  refine wpAny_richCompare_same_room (op := .Eq) ⟨_, ho, rfl⟩ ⟨_, ho2, rfl⟩ F.slot_tuple_eq (GQ.call_here F.slot_tuple_eq ⟨_, ho, rfl⟩ F.entry_tuple_eq (F.args_tuple_eq_2 _ _) ?_) sb.room.units0
  refine GQB.tuple_eqB (R := wants (fun v s' => v ≠ .notImplemented ∧ (v = .bool b ∧ ∃ H', Inv X pins σ H' s' ∧ Ext H H')) X.xe) a c its.toArray its2.toArray n1 n2 dd dd2 sl sl2
    (fun i s' => LoopI X pins σ H s' ∧ PrsB D H (xs.drop i) (ys.drop i) b) (fun i h1 h2 s' q => ?_) (fun i s' hm hi1 hi2 q => ?_) ho ho2 ⟨⟨H, I, Ext.rfl'⟩, by simpa using p⟩
  · obtain ⟨⟨H1, I1, e1⟩, pi⟩ := q
    have k1 : i < xs.length := by rw [l1]; simpa using h1
    have k2 : i < ys.length := by rw [l2]; simpa using h2
    have g1 : its[i]? = some its.toArray[i] := by
      have h1' : i < its.length := by simpa using h1
      rw [List.getElem?_eq_getElem h1'] <;> simp
    have g2 : its2[i]? = some its2.toArray[i] := by
      have h2' : i < its2.length := by simpa using h2
      rw [List.getElem?_eq_getElem h2'] <;> simp
    obtain ⟨u, hu, ru⟩ := r.get (List.getElem?_eq_getElem k1)
    obtain ⟨v, hv, rv⟩ := r2.get (List.getElem?_eq_getElem k2)
    rw [g1] at hu
    rw [g2] at hv
    rw [Option.some.inj hu, Option.some.inj hv]
    rw [List.drop_eq_getElem_cons k1, List.drop_eq_getElem_cons k2] at pi
    generalize ex : xs[i] = x at pi ru
    generalize ey : ys[i] = y at pi rv
    generalize exs : xs.drop (i + 1) = xs' at pi
    generalize eys : ys.drop (i + 1) = ys' at pi
    cases pi with
    | yes d p' =>
      refine wpAny_mono (h A.in1 pins s' σ H1 _ _ u v true sb.in1 I1 ru rv (hD _ _ _ _ _ e1 d)) (fun r s2 q => ?_) fun _ _ x => x
      obtain ⟨hr, H2, I2, e2⟩ := q
      exact .inl ⟨hr, ⟨H2, I2, e1.trans e2⟩, by subst exs eys; exact p'⟩
    | no d =>
      refine wpAny_mono (h A.in1 pins s' σ H1 _ _ u v false sb.in1 I1 ru rv (hD _ _ _ _ _ e1 d)) (fun r s2 q => ?_) fun _ _ x => x
      obtain ⟨hr, H2, I2, e2⟩ := q
      exact .inr ⟨hr, (fun x => nomatch x), rfl, H2, I2, e1.trans e2⟩
  · obtain ⟨⟨H1, I1, e1⟩, pi⟩ := q
    have j1 : i ≤ xs.length := by rw [l1]; simpa using hi1
    have j2 : i ≤ ys.length := by rw [l2]; simpa using hi2
    have jm : xs.length ≤ i ∨ ys.length ≤ i := by
      have : min its.length its2.length ≤ i := by simpa using hm
      rw [← l1, ← l2] at this
      omega
    refine ⟨(fun x => nomatch x), ?_, H1, I1, e1⟩
    have es : (its.toArray.size == its2.toArray.size) = (xs.length == ys.length) := by rw [List.size_toArray, List.size_toArray, l1, l2]
    rw [es]
    have : (xs.length == ys.length) = b := by
      have d1 : (xs.drop i).length = xs.length - i := List.length_drop
      have d2 : (ys.drop i).length = ys.length - i := List.length_drop
      generalize xs.drop i = xs' at pi d1
      generalize ys.drop i = ys' at pi d2
      cases pi with
      | nil =>
        simp at d1 d2
        have : xs.length = ys.length := by omega
        simp [this]
      | nilL y zs =>
        simp at d1 d2
        have : ¬ xs.length = ys.length := by omega
        simp [this]
      | nilR x zs =>
        simp at d1 d2
        apply Bool.eq_false_iff.mpr
        intro hh
        have := beq_iff_eq.mp hh
        omega
      | yes d p' => simp at d1 d2; omega
      | no d => simp at d1 d2; omega
    rw [this]
/-- an instance with its own __eq__ on the left -/
def DOwn (X : Cx) (n : Nat) : EqvB := fun x y H b => ∃ (a C g dx : Addr) (fs : List (Str × V)) (t : Value) (sp : Sp), x = .ref a ∧ H a = some (.ins C dx fs) ∧ TyX X.K H y t ∧ PySem.W.notFirst X.K C t = true ∧
  PySem.W.findIn X.K (.ref C) "__eq__" = some (some (.ref g)) ∧ PySem.W.isFn X.K (.ref g) = true ∧ FnR X.prog X.w X.K X.mg X.base CX0 n g sp ∧ sp [x, y] H (fun v H' => v = .bl b ∧ Ext H H') (fun _ _ _ => False)
theorem rcJ_own : RcJ X n (DOwn X n) := by
  intro A pins s σ H x y v u b sb I rx ry h
  obtain ⟨a, C, g, dx, fs, t, sp, rfl, ha, ty, hn, hs, hf, F, q⟩ := h
  cases (show v = Value.ref a from rx)
  obtain ⟨mA, O, _⟩ := ins_get I.hok ha
  obtain ⟨od, J, _⟩ := O.look
  obtain ⟨P, Z, p, _⟩ := kit_of I ry ty
  obtain ⟨m, hF⟩ := I.fr
  have e0 : Env0 X.prog X.w X.K X.mg X.base A X.stack s H := by
    have e := I.env0
    exact ⟨by rw [sb.fr]; exact e.frames, e.mod, e.bs, e.bsz, e.funs, e.frf, e.hok, e.bare⟩
  refine PySem.W.cmp_K (op := .Eq) (tb := t) sb.room.units0 hF I.ok.mod.kin J (Z.ty _ _ I.kIn p) hn hs hf ?_
  refine thn (wpAny_call (SlX.run_at (us := [.ref a, u]) (ws := [.ref a, y]) F sb.room e0 pass0 I (.cons rfl (.cons ry .nil)) q)) (fun w s' z => ?_)
  obtain ⟨z', H', I', rz, ez, ex⟩ := z
  subst ez
  cases rz
  exact ⟨rfl, H', I', ex⟩
theorem RcJ.eqJ (h : RcJ X n D) (hr : ∀ x y H b, D x y H b → ∃ a c, x = .ref a ∧ y = .ref c ∧ (a = c → b = true)) : EqJ X n D := by
  intro A pins s σ H x y u v b sb I rx ry d
  obtain ⟨a, c, rfl, rfl, hb⟩ := hr _ _ _ _ d
  cases rx
  cases ry
  by_cases hab : a = c
  · subst hab
    rw [hb rfl]
    exact SeqAt.EqAt.same (A := A) (s := s) (.ref a) X.prog X.w X.xe _ ⟨rfl, H, I, Ext.rfl'⟩
  · refine GQ.eqBool_refG hab (wpAny_mono (h A pins s σ H (.ref a) (.ref c) _ _ b sb I rfl rfl d) (fun r s' q => ?_) fun _ _ x => x)
    obtain ⟨hr', q⟩ := q
    exact ⟨b, hr', rfl, q⟩
/-- x == y as an expression -/
def rEqJ (D : EqvB) : R2 := fun x y H Q => ∃ b, D x y H b ∧ ∀ H', Ext H H' → Q (.bl b) H'
theorem op_eqJ (h : RcJ X n D) (hr : Room n X.A) : OpR X (compareOp .Eq) (rEqJ D) := by
  intro pins s σ H x y v u Q I rx ry hq
  obtain ⟨b, d, q⟩ := hq
  show wpAny (model X.prog X.w) X.A (richCompare .Eq v u) (EP X pins σ Q) X.xe s
  refine wpAny_mono (h X.A pins s σ H x y v u b ⟨hr, rfl⟩ I rx ry d) (fun r s' z => ?_) fun _ _ x => x
  obtain ⟨hr', H', I', e⟩ := z
  subst hr'
  exact ⟨.bl b, H', I', rfl, q H' e⟩
end
end L2
set_option Elab.async false
set_option linter.all false
set_option maxRecDepth 100000
set_option maxHeartbeats 4000000
/-! What the written part says of all classes of parts. -/
namespace Ev
open PySem PySem.Spec PyProof.Rows L2 PySem.W
def allP : List Str := ["Kind", "Byte", "Use", "Row", "Record", "Overlay"]
def grpP : List Str := ["Row", "Record", "Overlay"]
def flatT : List String := ["str", "int", "bool", "NoneType", "tuple", "list", "dict"]
def six (K : Frag) : List Value := allP.map fun x => .ref (He.ga K x)
abbrev gP (K : Frag) : Addr := He.ga K "Part"
def isIntV (n : Int) : Option CFound → Bool
  | some (.val (.int i _)) => decide (i = n)
  | _ => false
theorem isIntV_ok {n : Int} {r : Option CFound} (h : isIntV n r = true) : ∃ t, r = some (.val (.int n t)) := by
  unfold isIntV at h
  split at h
  · rename_i i t
    exact ⟨t, by rw [of_decide_eq_true h]⟩
  · cases h
structure PC (K : Frag) (x : Str) : Prop where
  nm : nameIn K (He.ga K x) x = true
  gn : findCls K (.ref (He.ga K x)) (.type "type") "__name__" = getN (He.ga K x)
  rd : readsIn K (He.ga K x) (.type "type") = true
  gt : specialIn K (.ref (He.ga K x)) "__getattribute__" = some (some (.builtin "type.__getattribute__"))
  ca : findIn K (.ref (He.ga K x)) "__class__" = some (some (.builtin "object.__class__"))
  cm : mroIn K (He.ga K x) (.type "object") = some true
  eq : findIn K (.ref (He.ga K x)) "__eq__" = some (some (.ref (He.ma K (gP K) "__eq__")))
  ne : findIn K (.ref (He.ga K x)) "__ne__" = some (some (.builtin "object.__ne__"))
  kp : kitOne K (.ref (He.ga K x)) (.ref (gP K)) = some true
  nf : ∀ y ∈ allP, notFirst K (He.ga K x) (.ref (He.ga K y)) = true
  ft : ∀ t ∈ flatT, notFirst K (He.ga K x) (.type t) = true
  isP : kitAny K (.ref (He.ga K x)) (six K) = some true
  isG : kitOne K (.ref (He.ga K x)) (.ref (He.ga K "Group")) = some (decide (x ∈ grpP))
  isS : kitOne K (.ref (He.ga K x)) (.ref (He.ga K "Spread")) = some (decide (x = "Overlay"))
  isR : ∀ y ∈ allP, kitOne K (.ref (He.ga K x)) (.ref (He.ga K y)) = some (decide (x = y))
  isT : ∀ t ∈ flatT, kitOne K (.ref (He.ga K x)) (.type t) = some false
  ln : x ∈ grpP → findIn K (.ref (He.ga K x)) "__len__" = some (some (.ref (He.ma K (He.ga K "Group") "__len__")))
  fm : findIn K (.ref (He.ga K x)) "__format__" = some (some (.builtin "object.__format__"))
  op : ∀ T ∈ flatT, OwnOp K (He.ga K x) (He.ma K (gP K) "__mul__") "mul" T
def opB (K : Frag) (C g : Addr) (nm T : String) : Bool := selfFirst K C && (eqS (findIn K (.ref C) (PySem.dunder nm)) (some (some (.ref g))) && (isFn K (.ref g) &&
  (eqS (findIn K (.ref C) (dunderR nm)) (some none) && ((findIn K (.type T) (PySem.dunder nm)).isSome && ((findIn K (.type T) (dunderR nm)).isSome && decide (subIn K (.type T) (.ref C) = some false))))))
theorem opB_ok {K : Frag} {C g : Addr} {nm T : String} (h : opB K C g nm T = true) : OwnOp K C g nm T := by
  obtain ⟨h1, h⟩ := two h
  obtain ⟨h2, h⟩ := two h
  obtain ⟨h3, h⟩ := two h
  obtain ⟨h4, h⟩ := two h
  obtain ⟨h5, h⟩ := two h
  obtain ⟨h6, h7⟩ := two h
  exact ⟨h1, of_decide_eq_true h2, h3, of_decide_eq_true h4, h5, h6, of_decide_eq_true h7⟩
def pcB (K : Frag) (x : Str) : Bool := nameIn K (He.ga K x) x && (isN (He.ga K x) (findCls K (.ref (He.ga K x)) (.type "type") "__name__") && (readsIn K (He.ga K x) (.type "type") &&
  (eqS (specialIn K (.ref (He.ga K x)) "__getattribute__") (some (some (.builtin "type.__getattribute__"))) &&
  (eqS (findIn K (.ref (He.ga K x)) "__class__") (some (some (.builtin "object.__class__"))) && (decide (mroIn K (He.ga K x) (.type "object") = some true) &&
  (eqS (findIn K (.ref (He.ga K x)) "__eq__") (some (some (.ref (He.ma K (gP K) "__eq__")))) && (eqS (findIn K (.ref (He.ga K x)) "__ne__") (some (some (.builtin "object.__ne__"))) &&
  (decide (kitOne K (.ref (He.ga K x)) (.ref (gP K)) = some true) && ((allP.all fun y => notFirst K (He.ga K x) (.ref (He.ga K y))) &&
  ((flatT.all fun t => notFirst K (He.ga K x) (.type t)) && (decide (kitAny K (.ref (He.ga K x)) (six K) = some true) &&
  (decide (kitOne K (.ref (He.ga K x)) (.ref (He.ga K "Group")) = some (decide (x ∈ grpP))) && (decide (kitOne K (.ref (He.ga K x)) (.ref (He.ga K "Spread")) = some (decide (x = "Overlay"))) &&
  ((allP.all fun y => decide (kitOne K (.ref (He.ga K x)) (.ref (He.ga K y)) = some (decide (x = y)))) && ((flatT.all fun t => decide (kitOne K (.ref (He.ga K x)) (.type t) = some false)) && ((decide (x ∉ grpP) || eqS (findIn K (.ref (He.ga K x)) "__len__") (some (some (.ref (He.ma K (He.ga K "Group") "__len__"))))) && (eqS (findIn K (.ref (He.ga K x)) "__format__") (some (some (.builtin "object.__format__"))) &&
  (flatT.all fun T => opB K (He.ga K x) (He.ma K (gP K) "__mul__") "mul" T))))))))))))))))))
theorem pcB_ok {K : Frag} {x : Str} (h : pcB K x = true) : PC K x := by
  obtain ⟨h1, h⟩ := two h
  obtain ⟨h2, h⟩ := two h
  obtain ⟨h3, h⟩ := two h
  obtain ⟨h3', h⟩ := two h
  obtain ⟨h4, h⟩ := two h
  obtain ⟨h5, h⟩ := two h
  obtain ⟨h6, h⟩ := two h
  obtain ⟨h7, h⟩ := two h
  obtain ⟨h8, h⟩ := two h
  obtain ⟨h9, h⟩ := two h
  obtain ⟨h10, h⟩ := two h
  obtain ⟨h11, h⟩ := two h
  obtain ⟨h12, h⟩ := two h
  obtain ⟨h13, h⟩ := two h
  obtain ⟨h14, h⟩ := two h
  obtain ⟨h14', h⟩ := two h
  obtain ⟨h14b, h⟩ := two h
  obtain ⟨h15, h16⟩ := two h
  exact ⟨h1, isN_ok h2, h3, of_decide_eq_true h3', of_decide_eq_true h4, of_decide_eq_true h5, of_decide_eq_true h6, of_decide_eq_true h7, of_decide_eq_true h8, fun y hy => List.all_eq_true.mp h9 y hy, fun t ht => List.all_eq_true.mp h10 t ht,
    of_decide_eq_true h11, of_decide_eq_true h12, of_decide_eq_true h13, fun y hy => of_decide_eq_true (List.all_eq_true.mp h14 y hy), fun t ht => of_decide_eq_true (List.all_eq_true.mp h14' t ht), fun hx => by
      rw [decide_eq_false (fun z => z hx), Bool.false_or] at h14b
      exact of_decide_eq_true h14b, of_decide_eq_true h15, fun t ht => opB_ok (List.all_eq_true.mp h16 t ht)⟩
theorem PC.crd {K : Frag} {x : Str} (h : PC K x) : ClX.CRead K (He.ga K x) (.type "type") := ⟨h.rd, h.gt⟩
structure PartsF (K : Frag) : Prop where
  one : ∀ x ∈ allP, PC K x
  offP : OffT K (gP K) (He.ma K (gP K) "__init__")
  offG : OffT K (He.ga K "Group") (He.ma K (gP K) "__init__")
  depth : ∃ t, findCls K (.ref (gP K)) (.type "type") "DEPTH" = some (.val (.int 4 t))
  mostW : ∃ t, findCls K (.ref (He.ga K "Row")) (.type "type") "MOST" = some (.val (.int 64 t))
  mostR : ∃ t, findCls K (.ref (He.ga K "Record")) (.type "type") "MOST" = some (.val (.int 8 t))
  mostO : ∃ t, findCls K (.ref (He.ga K "Overlay")) (.type "type") "MOST" = some (.val (.int 4 t))
  eqF : isFn K (.ref (He.ma K (gP K) "__eq__")) = true
  lenF : isFn K (.ref (He.ma K (He.ga K "Group") "__len__")) = true
  cn : specialIn K (.builtin "object.__class__") "__get__" = some (some (.builtin "getset_descriptor.__get__"))
  ct : takesIn K (.builtin "object.__class__") = some true
  flat : ∀ t ∈ flatT, kitOne K (.type t) (.ref (gP K)) = some false
  flatP : ∀ t ∈ flatT, kitAny K (.type t) (six K) = some false
  bar : He.tupB K "BARRED" (barred.map He.Dv.str) = true
  nil : ∀ i < 2, nilT K (dfT i K) = true
def partsFB (K : Frag) : Bool := (allP.all fun x => pcB K x) && (offB K (gP K) (He.ma K (gP K) "__init__") && (offB K (He.ga K "Group") (He.ma K (gP K) "__init__") &&
  (isIntV 4 (findCls K (.ref (gP K)) (.type "type") "DEPTH") && (isIntV 64 (findCls K (.ref (He.ga K "Row")) (.type "type") "MOST") && (isIntV 8 (findCls K (.ref (He.ga K "Record")) (.type "type") "MOST") &&
  (isIntV 4 (findCls K (.ref (He.ga K "Overlay")) (.type "type") "MOST") && (isFn K (.ref (He.ma K (gP K) "__eq__")) && (isFn K (.ref (He.ma K (He.ga K "Group") "__len__")) &&
  (eqS (specialIn K (.builtin "object.__class__") "__get__") (some (some (.builtin "getset_descriptor.__get__"))) && (decide (takesIn K (.builtin "object.__class__") = some true) &&
  ((flatT.all fun t => decide (kitOne K (.type t) (.ref (gP K)) = some false)) && ((flatT.all fun t => decide (kitAny K (.type t) (six K) = some false)) &&
  (He.tupB K "BARRED" (barred.map He.Dv.str) && (nilT K (dfT 0 K) && nilT K (dfT 1 K)))))))))))))))
theorem partsFB_ok {K : Frag} (h : partsFB K = true) : PartsF K := by
  obtain ⟨h1, h⟩ := two h
  obtain ⟨h2, h⟩ := two h
  obtain ⟨h2', h⟩ := two h
  obtain ⟨h3, h⟩ := two h
  obtain ⟨h3a, h⟩ := two h
  obtain ⟨h3b, h⟩ := two h
  obtain ⟨h3c, h⟩ := two h
  obtain ⟨h4, h⟩ := two h
  obtain ⟨h4b, h⟩ := two h
  obtain ⟨h5, h⟩ := two h
  obtain ⟨h6, h⟩ := two h
  obtain ⟨h7, h⟩ := two h
  obtain ⟨h7', h⟩ := two h
  obtain ⟨h8, h⟩ := two h
  obtain ⟨h9, h10⟩ := two h
  refine ⟨fun x hx => pcB_ok (List.all_eq_true.mp h1 x hx), offB_ok h2, offB_ok h2', isIntV_ok h3, isIntV_ok h3a, isIntV_ok h3b, isIntV_ok h3c, h4, h4b, of_decide_eq_true h5, of_decide_eq_true h6, fun t ht => of_decide_eq_true (List.all_eq_true.mp h7 t ht),
    fun t ht => of_decide_eq_true (List.all_eq_true.mp h7' t ht), h8, fun i hi => ?_⟩
  match i, hi with
  | 0, _ => exact h9
  | 1, _ => exact h10
theorem PartsF.clsC {K : Frag} (T : PartsF K) {x : Str} (hx : x ∈ allP) (c : Cls K (He.ga K x)) : ClsC K (He.ga K x) := ⟨c, (T.one x hx).ca, T.cn, T.ct, (T.one x hx).cm⟩
end Ev
set_option Elab.async false
set_option linter.all false
/-! Numbers that classes give. -/
namespace Ev
open PySem PySem.W PySem.Spec PyProof.Rows L2
structure ConstAt (K : Frag) (x m : Str) (n : Int) : Prop where
  crd : ClX.CRead K (He.ga K x) (.type "type")
  at_ : ∃ t, findCls K (.ref (He.ga K x)) (.type "type") m = some (.val (.int n t))
def constB (K : Frag) (x m : Str) (n : Int) : Bool := readsIn K (He.ga K x) (.type "type") && (eqS (specialIn K (.ref (He.ga K x)) "__getattribute__") (some (some (.builtin "type.__getattribute__"))) && isIntV n (findCls K (.ref (He.ga K x)) (.type "type") m))
theorem constB_ok {K : Frag} {x m : Str} {n : Int} (h : constB K x m n = true) : ConstAt K x m n := by
  obtain ⟨h1, h⟩ := two h
  obtain ⟨h2, h3⟩ := two h
  exact ⟨⟨h1, of_decide_eq_true h2⟩, isIntV_ok h3⟩
def constsB (K : Frag) (l : List (Str × Str × Int)) : Bool := l.all fun q => constB K q.1 q.2.1 q.2.2
theorem constsB_ok {K : Frag} {l : List (Str × Str × Int)} (h : constsB K l = true) : ∀ q ∈ l, ConstAt K q.1 q.2.1 q.2.2 := fun q hq => constB_ok (List.all_eq_true.mp h q hq)
end Ev
set_option Elab.async false
set_option linter.all false
set_option maxRecDepth 100000
set_option maxHeartbeats 0
/-! The head: what the top leaves; the places of its statements by name. -/
namespace H1
open PySem PySem.Spec PyProof.Rows L2
abbrev i__wall : Nat := 0
abbrev i_PadError : Nat := 2
abbrev i_BadName : Nat := 3
abbrev i_BadTimes : Nat := 4
abbrev i_BadParts : Nat := 5
abbrev i_NoPath : Nat := 6
abbrev i_TooLarge : Nat := 7
abbrev i_LETTERS : Nat := 9
abbrev i_LONGEST : Nat := 10
abbrev i_BARRED : Nat := 11
abbrev i_is_name : Nat := 12
abbrev i_is_whole : Nat := 13
abbrev i_MOST_TIMES : Nat := 15
abbrev i_Part : Nat := 16
abbrev i_Kind : Nat := 17
abbrev i_Byte : Nat := 18
abbrev i_Use : Nat := 19
abbrev i_Group : Nat := 20
abbrev i_Spread : Nat := 21
abbrev i_Row : Nat := 22
abbrev i_Record : Nat := 23
abbrev i_Overlay : Nat := 24
abbrev i_is_part : Nat := 25
abbrev i_checked_pairs : Nat := 26
abbrev i_is_pair : Nat := 27
abbrev i_stepped : Nat := 28
abbrev i_led : Nat := 29
abbrev i__law_pen : Nat := 31
abbrev i__law_draw : Nat := 32
abbrev i__law_pick : Nat := 33
abbrev i__law_kinds : Nat := 34
abbrev i__law_plan : Nat := 35
abbrev i__law_made : Nat := 36
abbrev i__law_deep : Nat := 37
abbrev i__law_heard : Nat := 38
abbrev i__law_right : Nat := 39
abbrev i_law : Nat := 40
abbrev j_PadError___init__ : Nat := 0
abbrev j_BadName___init__ : Nat := 0
abbrev j_BadTimes___init__ : Nat := 0
abbrev j_BadParts___init__ : Nat := 0
abbrev j_NoPath___init__ : Nat := 0
abbrev j_TooLarge___init__ : Nat := 0
abbrev j_Part___init__ : Nat := 1
abbrev j_Part___eq__ : Nat := 2
abbrev j_Part___mul__ : Nat := 3
abbrev j_Part___getitem__ : Nat := 4
abbrev j_Part___contains__ : Nat := 5
abbrev j_Part___iter__ : Nat := 6
abbrev j_Part_paths : Nat := 7
abbrev j_Part_kinds_in : Nat := 8
abbrev j_Part_uses : Nat := 9
abbrev j_Part_put : Nat := 10
abbrev j_Kind___init__ : Nat := 0
abbrev j_Kind___str__ : Nat := 1
abbrev j_Byte___init__ : Nat := 0
abbrev j_Byte___str__ : Nat := 1
abbrev j_Use___init__ : Nat := 0
abbrev j_Use___str__ : Nat := 1
abbrev j_Group___len__ : Nat := 0
abbrev j_Row___init__ : Nat := 1
abbrev j_Row___str__ : Nat := 2
abbrev j_Record___init__ : Nat := 1
abbrev j_Record___add__ : Nat := 2
abbrev j_Record___str__ : Nat := 3
abbrev j_Overlay___init__ : Nat := 1
abbrev j_Overlay___or__ : Nat := 2
abbrev j_Overlay___str__ : Nat := 3
def top (i : Nat) : Stmt := PySem.Challenge.pw_anypads_k03_rows_made.main.body.getD i (.Pass ⟨0, 0, 0, 0⟩)
def mkD (x : Str) (i : Nat) : He.DefD := ⟨(x, some "__init__"), "__init__", x ++ ".__init__", defArgs (inClass (top i) 0), defBody (inClass (top i) 0), defScope (inClass (top i) 0), [], []⟩
def meD (x m : Str) (i j : Nat) (dfl : List He.Dv) : He.DefD := ⟨(x, some m), m, x ++ "." ++ m, defArgs (inClass (top i) j), defBody (inClass (top i) j), defScope (inClass (top i) j), dfl, []⟩
def fnD (x : Str) (i : Nat) : He.DefD := ⟨(x, none), x, x, defArgs (top i), defBody (top i), defScope (top i), [], []⟩
def errs : List (Str × List Str) := [("BadName", ["name"]), ("BadTimes", ["value"]), ("BadParts", ["at"]), ("NoPath", ["path", "at"]), ("TooLarge", ["what", "most"])]
def fn : List He.DefD := [mkD "PadError" i_PadError, mkD "BadName" i_BadName, mkD "BadTimes" i_BadTimes, mkD "BadParts" i_BadParts, mkD "NoPath" i_NoPath, mkD "TooLarge" i_TooLarge, meD "Part" "__init__" i_Part j_Part___init__ [.adr (He.dflAt ("Part", some "__init__") 0), .adr (He.dflAt ("Part", some "__init__") 1)], meD "Part" "__eq__" i_Part j_Part___eq__ [], meD "Part" "__mul__" i_Part j_Part___mul__ [], meD "Kind" "__init__" i_Kind j_Kind___init__ [.int 1], meD "Kind" "__str__" i_Kind j_Kind___str__ [], meD "Byte" "__init__" i_Byte j_Byte___init__ [], meD "Byte" "__str__" i_Byte j_Byte___str__ [], meD "Use" "__init__" i_Use j_Use___init__ [], meD "Use" "__str__" i_Use j_Use___str__ [], meD "Group" "__len__" i_Group j_Group___len__ [], meD "Row" "__init__" i_Row j_Row___init__ [], meD "Row" "__str__" i_Row j_Row___str__ [], meD "Record" "__init__" i_Record j_Record___init__ [], meD "Record" "__str__" i_Record j_Record___str__ [], meD "Overlay" "__init__" i_Overlay j_Overlay___init__ [], meD "Overlay" "__str__" i_Overlay j_Overlay___str__ [], fnD "is_name" i_is_name, fnD "is_whole" i_is_whole, fnD "is_part" i_is_part, fnD "checked_pairs" i_checked_pairs, fnD "is_pair" i_is_pair, fnD "_law_pen" i__law_pen, fnD "_law_draw" i__law_draw, fnD "_law_pick" i__law_pick, fnD "_law_kinds" i__law_kinds, fnD "_law_plan" i__law_plan, fnD "_law_made" i__law_made, fnD "_law_deep" i__law_deep, fnD "_law_heard" i__law_heard, fnD "_law_right" i__law_right, fnD "law" i_law]
def fa : List He.Fa := [.glo "PadError", .glo "BadName", .glo "BadTimes", .glo "BadParts", .glo "NoPath", .glo "TooLarge", .glo "Part", .glo "Kind", .glo "Byte", .glo "Use", .glo "Group", .glo "Spread", .glo "Row", .glo "Record", .glo "Overlay", .glo "BARRED", .glo "is_name", .glo "is_whole", .glo "is_part", .glo "checked_pairs", .glo "is_pair", .glo "_law_pen", .glo "_law_draw", .glo "_law_pick", .glo "_law_kinds", .glo "_law_plan", .glo "_law_made", .glo "_law_deep", .glo "_law_heard", .glo "_law_right", .glo "law", .free "int", .free "len", .free "abs", .free "range", .free "list", .free "repr", .free "isinstance", .free "str", .free "max", .free "all", .free "bool", .free "enumerate", .free "tuple", .int "MOST_TIMES" 8, .int "LONGEST" 8, .str "LETTERS" "abcdefghijklmnopqrstuvwxyz", .cls "Kind", .mkr "Kind", .meth "Kind" "__str__", .noat "Kind" "traits", .noat "Kind" "inside", .noat "Kind" "depth", .noat "Kind" "name", .noat "Kind" "times", .cls "Byte", .mkr "Byte", .meth "Byte" "__str__", .noat "Byte" "traits", .noat "Byte" "inside", .noat "Byte" "depth", .cls "Use", .mkr "Use", .meth "Use" "__str__", .noat "Use" "traits", .noat "Use" "inside", .noat "Use" "depth", .noat "Use" "name", .cls "Row", .mkr "Row", .meth "Row" "__str__", .meth "Row" "__len__", .noat "Row" "traits", .noat "Row" "inside", .noat "Row" "depth", .noat "Row" "part", .noat "Row" "n", .cls "Record", .mkr "Record", .meth "Record" "__str__", .meth "Record" "__len__", .noat "Record" "traits", .noat "Record" "inside", .noat "Record" "depth", .noat "Record" "fields", .cls "Overlay", .mkr "Overlay", .meth "Overlay" "__str__", .meth "Overlay" "__len__", .noat "Overlay" "traits", .noat "Overlay" "inside", .noat "Overlay" "depth", .noat "Overlay" "members", .exm "BadParts" "PadError" true, .exm "BadTimes" "PadError" true, .exm "TooLarge" "PadError" true]
def tf : List He.Defn := [("_law_right", none), ("law", none)]
abbrev ex (K : PySem.W.Frag) : Bool := Ev.errsB errs K && (Ev.partsFB K && (Ev.constsB K [("Row", "MOST", 64), ("Part", "DEPTH", 4), ("Spread", "AT", 0), ("Overlay", "AT", 0)] && decide ((He.cT K ("_law_right", none)).2 ≠ (He.cT K ("law", none)).2)))
abbrev R : PySem.W.OpenRow := PySem.W.OpenLaw.row PySem.Challenge.rw_anypads_k03_rows_made
abbrev hk : PySem.W.Hook := Ev.hookY 5 fa fn tf ex
def ob (s : PySem.W.SharedT) : He.AlD × Bool := Ev.obsY 5 fa fn tf ex (HandSHeadRun.getT s)
theorem ob_eq (s : PySem.W.SharedT) : ob s = hk.obs s.abs := Ev.obsY_eq (HandSHeadRun.getT_eq s)
def loose : List Str := [("_wall" : Str), ("PadError" : Str), ("BadName" : Str), ("BadTimes" : Str), ("BadParts" : Str), ("NoPath" : Str), ("TooLarge" : Str), ("LETTERS" : Str), ("LONGEST" : Str), ("BARRED" : Str), ("is_name" : Str), ("is_whole" : Str), ("MOST_TIMES" : Str), ("Part" : Str), ("Kind" : Str), ("Byte" : Str), ("Use" : Str), ("Group" : Str), ("Spread" : Str), ("Row" : Str), ("Record" : Str), ("Overlay" : Str), ("is_part" : Str), ("checked_pairs" : Str), ("is_pair" : Str), ("stepped" : Str), ("led" : Str), ("_law_pen" : Str), ("_law_draw" : Str), ("_law_pick" : Str), ("_law_kinds" : Str), ("_law_plan" : Str), ("_law_made" : Str), ("_law_deep" : Str), ("_law_heard" : Str), ("_law_right" : Str)]
theorem run (w : World) : HandSHeadRun.RunEq R (PySem.W.view R.prog [i_law]) hk ob 12000 loose w := by
  intro os
  kernel_rfl
end H1
set_option Elab.async false
set_option linter.all false
set_option maxRecDepth 100000
set_option maxHeartbeats 4000000
/-! A caught error that is kept under another name: known behind its clause too. -/
namespace Ev
open PySem PySem.Spec PyProof.Rows L2
/-- at a: an error that was caught, of the class cls, its dict at d -/
def exk (a : Addr) (cls : Value) (d : Option Addr) : HO := .ext fun h => ∃ (oe : Obj) (vs : Array Value), h.get? a = some oe ∧ Zc cls d oe ∧ oe.data = .fields vs
theorem exk_ok {P : Program} {w : World} {H : Hp} {h : Heap} {a : Addr} {cls : Value} {d : Option Addr} {oe : Obj} {vs : Array Value} (ha : h.get? a = some oe) (z : Zc cls d oe) (hd : oe.data = .fields vs) :
    ObjOk P w H h a (exk a cls d) :=
  ⟨⟨oe, vs, ha, z, hd⟩, ⟨oe, ha⟩, fun h1 h2 ⟨o1, v1, e1, e2, e3⟩ k => ⟨o1, v1, k _ e1, e2, e3⟩⟩
theorem exk_at {P : Program} {w : World} {H : Hp} {h : Heap} {a : Addr} {cls : Value} {d : Option Addr} (hok : HOk P w H h) (e : H a = some (exk a cls d)) :
    ∃ (oe : Obj) (vs : Array Value), h.get? a = some oe ∧ Zc cls d oe ∧ oe.data = .fields vs := by
  have z := hok a _ e
  exact z.1
section
variable {X : Cx} {pins : List (Addr × Obj)} {σ : L2.St} {H : Hp} {s : Shared} {a : Addr} {oe : Obj} {vs : Array Value} {cls : Value} {d : Option Addr}
/-- an object of our own time that is not known yet is known from now on -/
theorem track (I : Inv X pins σ H s) (ha : s.heap.get? a = some oe) (z : Zc cls d oe) (hd : oe.data = .fields vs) (na : H a = none) (n0 : X.s_0.heap.get? a = none) (nL : a ≠ X.env.locals)
    (np : ∀ p ∈ X.pn ++ pins, p.1 ≠ a) : Inv X pins σ (upd H a (exk a cls d)) s := by
  have ne : ∀ {b : Addr} {u : HO}, H b = some u → b ≠ a := fun {b u} q => ne_of_none q na
  have n1 : ∀ {b : Addr} {u : Obj}, X.s_0.heap.get? b = some u → b ≠ a := fun {b u} q e => by
    rw [e, n0] at q
    cases q
  refine ⟨I.ok, I.os, I.bare, ?_, I.loc, I.cell, ?_, fun x c e => ?_, fun p hp => ?_, fun b u q => ?_, I.len⟩
  · refine ⟨I.base.keep, I.base.slot, fun b u q n hx => ?_, I.base.there, fun b xs q => ?_, fun b u v q => ?_, fun b ps q => ?_⟩
    · rw [upd_ne (n1 q)]
      exact I.base.free b u q n hx
    · have q' := I.base.tups b xs q
      rw [upd_ne (ne q')]
      exact q'
    · have q' := I.base.frzs b u v q
      rw [upd_ne (ne q')]
      exact q'
    · obtain ⟨m, q'⟩ := I.base.tbls b ps q
      exact ⟨m, by rw [upd_ne (ne q')]; exact q'⟩
  · rw [upd_ne (Ne.symm nL)]
    exact I.free
  · have nc : c ≠ a := fun q => by
      obtain ⟨w, o, ho, hw⟩ := I.cell x c e
      rw [q, ha] at ho
      cases ho
      rw [hd] at hw
      cases hw
    rw [upd_ne nc]
    exact I.freeC x c e
  · obtain ⟨e1, e2, e3⟩ := I.pin p hp
    exact ⟨e1, by rw [upd_ne (np p hp)]; exact e2, e3⟩
  · by_cases hb : b = a
    · subst hb
      rw [upd_same] at q
      cases q
      exact exk_ok ha z hd
    · rw [upd_ne hb] at q
      exact (I.hok b u q).stay (fun _ _ _ r => r) (fun c r => by rw [upd_ne (ne r)]; exact r) (fun c xs r => by rw [upd_ne (ne r)]; exact r)
end
/-- as wAs; behind the suite, if it ends, the error is known -/
def wKeep (K : PySem.W.Frag) (n : Nat) (c : Value) (i : Nat) (ts : Addr → Value → Option Addr → TS) (Wout : WX) (D : Ends) : WX := fun cls d σ H => σ.length = n → ∃ b, PySem.W.exmOne K cls c = some b ∧
  (b = true → ∀ a, H a = none → ts a cls d { nx := fun σ' H' => D.nx (σ'.set i none) (upd H' a (exk a cls d)), rt := fun v H' => D.rt v H', bk := fun _ _ => False, ct := fun _ _ => False } (σ.set i (some (.ref a))) H) ∧
  (b = false → Wout cls d σ H)
section
variable {X : Cx} {x n : Str} {c : Value} {i : Nat} {body suite : List Stmt} {b₀ : Stmt} {np pos pos' : Pos} {tb : WX → TS} {ts : Addr → Value → Option Addr → TS} {Wout : WX}
theorem ps_try_keep (hs : X.stack = X.env :: X.outer) (hf : X.env.frame = some X.env.locals) (hex : X.ex = []) (hN : X.N.Nodup) (hi : X.N[i]? = some n) (hln : X.env.kindOf n = some .local)
    (hc : Names X x c) (tk : Takes X Wout)
    (hb : ∀ (W : WX) (pn : List (Addr × Obj)) (xe : Value → Shared → Prop), Takes (X.tr pn xe) W → PassesOwn (model X.prog X.w) X.A X.env xe → PSs (X.tr pn xe) body (tb W))
    (hsu : ∀ (a : Addr) (oe : Obj) (cls : Value) (d : Option Addr) (pn : List (Addr × Obj)), PSs (X.suite a ((a, oe) :: pn)) (b₀ :: suite) (ts a cls d)) :
    PS X (.Try body [.ExceptHandler (some (.Name x np)) (some n) (b₀ :: suite) pos'] [] [] pos) (fun D σ H => tb (wKeep X.K X.N.length c i ts Wout D) D σ H) := by
  constructor
  intro pins s σ H D I h
  have ok := I.ok
  have frm : X.A.frames = some (X.env :: X.outer) := ok.frames.trans (congrArg some hs)
  apply wpAny_Try_except
  have run := (hb (wKeep X.K X.N.length c i ts Wout D) (X.pn ++ pins) (fun e s1 => wpAny (model X.prog X.w) X.A (noteFrame e X.env)
    (fun _ s2 => wpAny (model X.prog X.w) X.A (setFlight e none) (fun _ s3 => wpAny (model X.prog X.w) X.A (handleBy e X.env [.ExceptHandler (some (.Name x np)) (some n) (b₀ :: suite) pos']) (SP X pins D) X.xe s3) X.xe s2) X.xe s1)
    (fun u s' y => ?_) PassesOwn.looking).run [] s σ H D (I.toTry _) h
  · refine wpAny_mono run (fun f s1 z => ?_) fun _ _ z => z
    cases f with
    | next => obtain ⟨σ', H', J, q⟩ := z; exact wpAny_execs_nil ⟨σ', H', J.ofTry ok, q⟩
    | ret u => obtain ⟨v, σ', H', J, r, q⟩ := z; exact ⟨v, σ', H', J.ofTry ok, r, q⟩
    | brk => obtain ⟨σ', H', J, q⟩ := z; exact ⟨σ', H', J.ofTry ok, q⟩
    | cont => obtain ⟨σ', H', J, q⟩ := z; exact ⟨σ', H', J.ofTry ok, q⟩
  · obtain ⟨a, B, sI, pins', σ', H', cls, d, rfl, J', nb, up, sky, na, os, ag, wk⟩ := y
    obtain ⟨b, hb1, yes, no⟩ := wk J'.len
    have J : Inv X pins σ' H' sI := J'.ofTry ok
    have sk : Sky B (X.env :: X.outer) a (Zc cls d) X.env.locals s'.heap := hs ▸ sky
    show wpAny (model X.prog X.w) X.A (noteFrame (.ref a) X.env) _ _ _
    refine Sky.land Zc.steady frm hf sk fun g1 l1 u1 => ?_
    have nBa : B.get? a = none := l1.2.1
    have J1 : Inv X pins σ' H' { s' with heap := g1 } := J.landed nb l1.1 (up.trans u1) os ag
    obtain ⟨o1, v1, a1, z1, d1⟩ := l1.there
    have off : ∀ {g : Heap} {o : Obj} {vs : Array Value}, g.FunFrames B (X.env :: X.outer) → g.get? a = some o → o.data = .fields vs → a ∉ frs (X.env :: X.outer) := by
      intro g o vs ff e dd hm
      obtain ⟨_, o', e', hnf⟩ := ff.mem hm
      rw [e] at e'
      cases e'
      exact hnf _ dd
    have nfr := off l1.2.2.1 a1 d1
    have nL : a ≠ X.env.locals := fun q => nfr (List.mem_filterMap.mpr ⟨X.env, List.mem_cons_self, by rw [q]; exact hf⟩)
    have nF : a ∉ X.fs := fun q => by
      obtain ⟨e, he, w⟩ := List.mem_filterMap.mp q
      exact nfr (List.mem_filterMap.mpr ⟨e, List.mem_cons_of_mem _ he, w⟩)
    -- what the ground has is not a
    have ground : ∀ {b : Addr} {o : Obj}, sI.heap.get? b = some o → b ∉ frs X.stack → b ≠ a := fun {b o} e hb q => by
      have w := nb b o e hb
      rw [q, nBa] at w
      cases w
    have n0 : X.s_0.heap.get? a = none := by
      cases e : X.s_0.heap.get? a with
      | none => rfl
      | some o =>
        obtain ⟨o', e'⟩ := J.base.there a o e (by rw [hex]; intro q; cases q)
        exact absurd rfl (ground e' (fun q => nfr (hs ▸ q)))
    have np' : ∀ p ∈ X.pn ++ pins, p.1 ≠ a := fun p hp => by
      obtain ⟨e1, e2, e3, e4, e5⟩ := J.pin p hp
      exact ground e1 fun q => (List.mem_cons.mp (J.stkSub _ q)).elim e3 e4
    have S1 := J1.suite a1 d1 na nL nF
    refine wpAny_handleBy_cons (codeAny_handlers_test ?_) (by intro q; cases q)
    have LT : PySem.W.Looks (model X.prog X.w) g1 (typeOf (.ref a)) cls := fun A Q E s k q => wpAny_typeOf_ref (k _ _ a1) (by rw [z1.1]; exact q)
    have LM := PySem.W.exm_one (M := model X.prog X.w) (J1.kIn) LT hb1
    have test : ∀ {Q : Value → Shared → Prop} {E : Value → Shared → Prop}, Q c { s' with heap := g1 } → wpAny (model X.prog X.w) (X.A.mark (some (.ref a))) (eval (.Name x np) X.env) Q E { s' with heap := g1 } := by
      intro Q E q
      obtain ⟨hg, hdb, hm | ⟨hm, hv, hn⟩⟩ := hc
      · exact ld_glob (X := X.suite a ((a, o1) :: (X.pn ++ pins))) S1 hg hm q hdb
      · exact ld_blt (X := X.suite a ((a, o1) :: (X.pn ++ pins))) S1 hg hm hv q hn hdb
    refine test (LM.here ?_)
    cases b with
    | true =>
      refine codeAny_handlers_suite_as (HandSPX.lands_againZ l1 fun g2 l2 u2 => ?_)
      have J2 : Inv X pins σ' H' { s' with heap := g2 } := J.landed nb l2.1 ((up.trans u1).trans u2) os ag
      obtain ⟨o2, v2, a2, z2, d2⟩ := l2.there
      refine store_ok (X := X.suite a ((a, o2) :: (X.pn ++ pins))) (v := .ref a) (J2.suite a2 d2 na nL nF) hN hi (.inl hln) rfl (fun s3 S3 => ?_) (.inr hln)
      refine wpAny_mono ((hsu a o2 cls d (X.pn ++ pins)).run [] s3 _ H' _ S3 (yes rfl a na)) (fun f s4 z => ?_) (fun _ _ q => False.elim q)
      cases f with
      | next =>
        obtain ⟨σ4, H4, S4, q4⟩ := z
        obtain ⟨e1, e2, _⟩ := S4.pin (a, o2) (List.mem_append_left _ List.mem_cons_self)
        have T4 := track (S4.unsuite ok) e1 z2 d2 e2 n0 nL np'
        exact gone_ok T4 hN hi hln fun s7 J7 => ⟨_, _, J7, q4⟩
      | ret u =>
        obtain ⟨v4, σ4, H4, S4, r4, q4⟩ := z
        exact gone_ok (S4.unsuite ok) hN hi hln fun s7 J7 => ⟨_, _, _, J7, r4, q4⟩
      | brk => obtain ⟨_, _, _, q⟩ := z; exact False.elim q
      | cont => obtain ⟨_, _, _, q⟩ := z; exact False.elim q
    | false =>
      show wpAny _ X.A (handleBy (.ref a) X.env []) _ _ _
      refine wpAny_handleBy_nil ?_
      obtain ⟨_, _, _, oe, vs, T, oT, ts', he, hz, hd, h1, _⟩ := id l1
      unfold PySem.passOn
      refine wpAny_bind (wpAny_field he hd h1 ?_)
      have nn : ¬ ((Value.ref T == Value.none) = true) := by simp
      rw [if_neg nn]
      have fin : wpAny (model X.prog X.w) X.A (setFlight (.ref a) X.env.frame) (fun _ s4 => wpAny (model X.prog X.w) X.A (throw (.ref a) : Sem Flow) (SP X pins D) X.xe s4) X.xe { s' with heap := g1 } := by
        rw [hf]
        exact HandSPX.setFlight_upZ l1 fun g5 l5 u5 => wpAny_throw (tk _ _ ⟨a, B, sI, pins, σ', H', cls, d, rfl, J, nb, (up.trans u1).trans u5, .inr (.inr (by rw [hs]; exact l5)), na, os, ag, no rfl⟩)
      first
        | exact wpAny_bind (wpAny_pure (wpAny_bind fin))
        | exact wpAny_bind fin
end
/-! ### such an error's class and fields -/
theorem exk_inst {P : Program} {w : World} {H : Hp} {h : Heap} {a C dd : Addr} {fs : List (Str × V)} (hok : HOk P w H h) (ea : H a = some (exk a (.ref C) (some dd))) (ed : H dd = some (.xd fs)) :
    ∃ (oe od : Obj) (mA : Str → Option Value), PySem.W.InstAt h a oe C (some od) ∧ (∀ y, PySem.W.lookIn y od = some (mA y)) ∧ ∀ f, RelO (fs.lookup f) (mA f) := by
  obtain ⟨oe, vs, ho, z, hv⟩ := exk_at hok ea
  have hx : ObjOk P w H h dd (.xd fs) := hok dd _ ed
  obtain ⟨mA, hns, rel⟩ := hx
  obtain ⟨od, hd, hl⟩ := lookIn_ns hns
  exact ⟨oe, od, mA, ⟨ho, z.1, by unfold PySem.W.notCls; rw [hv] <;> rfl, by rw [z.2]; exact hd⟩, hl, rel⟩
def tKept (K : PySem.W.Frag) (ta : TE) (f : Str) : TE := fun σ H Q => ta σ H fun x H1 => ∃ (a C dd : Addr) (fs : List (Str × V)) (v : V), x = .ref a ∧
  ExcC K C ∧ PySem.W.findIn K (.ref C) f = some none ∧ H1 a = some (exk a (.ref C) (some dd)) ∧ H1 dd = some (.xd fs) ∧ fs.lookup f = some v ∧ Q v H1
theorem pe_kept {X : Cx} {e : Expr} {te : TE} {f : Str} {pos : Pos} (he : PE X e te) (hb : attributeBase e f X.env (eval e X.env) = eval e X.env := by rfl) : PE X (.Attribute e f pos) (tKept X.K te f) := by
  refine ⟨fun pins s σ H Q I h => attr_of hb (thn (he.run pins s σ H _ I h) fun u s1 z => ?_)⟩
  obtain ⟨x, H1, I1, rx, a, C, dd, fs, v, ex, T, no, ea, ed, l, q⟩ := z
  subst ex
  obtain rfl : u = Value.ref a := rx
  obtain ⟨oe, od, mA, J, hl, rel⟩ := exk_inst I1.hok ea ed
  obtain ⟨u, hu, ru⟩ := RelO.some_of (v := v) (o := mA f) (by rw [← l]; exact rel f)
  exact PySem.HandSPX.exc_get I1.kIn J T.hg T.hk T.hs (PySem.W.findObj_own T.hd no rfl (by rw [hl, hu])) (handed_of ru) ⟨v, H1, I1.tok _, ru, q⟩
def rIsK (K : PySem.W.Frag) : List V → Hp → VK → Prop := fun xs H Q => ∃ (a D dd : Addr) (fs : List (Str × V)) (c : V) (cv : Value) (b : Bool), xs = [.ref a, c] ∧ ExcC K D ∧
  H a = some (exk a (.ref D) (some dd)) ∧ H dd = some (.xd fs) ∧ (∀ u, RelV c u → u = cv) ∧ PySem.W.kitOne K (.ref D) cv = some b ∧ Q (.bl b) H
theorem call_isK {X : Cx} : CallR X (.builtin "isinstance") (rIsK X.K) := by
  intro pins s σ H xs us Q I r h
  obtain ⟨a, D, dd, fs, c, cv, b, rfl, T, ea, ed, hcv, e, q⟩ := h
  obtain ⟨oe, od, mA, J, hl, rel⟩ := exk_inst I.hok ea ed
  obtain ⟨u1, u2, rfl, r1, r2⟩ : ∃ u1 u2, us = [u1, u2] ∧ RelV (.ref a) u1 ∧ RelV c u2 := by
    cases r with
    | cons rx rr => cases rr with
      | cons rt rr => cases rr; exact ⟨_, _, rfl, rx, rt⟩
  obtain rfl : u1 = Value.ref a := r1
  obtain rfl := hcv _ r2
  exact PySem.W.kia_one (kit_err T) I.kIn J e (fun z => nomatch z) fun tk => ⟨.bl b, H, I.kept (t' := tk) fun _ _ z => z, rfl, q⟩
end Ev
set_option Elab.async false
set_option linter.all false
set_option maxRecDepth 100000
set_option maxHeartbeats 4000000
/-! The program's defs that k01 reaches. -/
namespace Ev
open PySem PySem.Spec PyProof.Rows L2
/-- what may be asked whether it is a whole number, a text -/
inductive Any (K : PySem.W.Frag) (H : Hp) : V → Prop where
  | int (i : Int) : Any K H (.int i)
  | bl (b : Bool) : Any K H (.bl b)
  | str (s : Str) : s.length ≤ sizeLine → Any K H (.str s)
  | non : Any K H .non
  | tup {a : Addr} {xs : List V} : H a = some (.tup xs) → Any K H (.ref a)
  | lst {a : Addr} {xs : List V} : H a = some (.lst xs) → Any K H (.ref a)
  | dic {a : Addr} {kvs : List (Key × V)} : H a = some (.dK kvs) → Any K H (.ref a)
theorem Any.same {K : PySem.W.Frag} {H H' : Hp} {v : V} (S : Same H H') (h : Any K H v) : Any K H' v := by
  cases h with
  | int i => exact .int i
  | bl b => exact .bl b
  | str s z => exact .str s z
  | non => exact .non
  | tup e => exact .tup (S _ _ e)
  | lst e => exact .lst (S _ _ e)
  | dic e => exact .dic (S _ _ e)
def tyN : V → PyData → String
  | .int _, _ => "int"
  | .bl _, _ => "bool"
  | .str _, _ => "str"
  | .non, _ => "NoneType"
  | _, .tuple _ => "tuple"
  | _, .list _ => "list"
  | _, _ => "dict"
/-- a value's built-in type -/
theorem Any.ty {K : PySem.W.Frag} {H : Hp} {v : V} (h : Any K H v) : ∃ n : String, TyX K H v (.type n) ∧ n ∈ (["int", "bool", "str", "NoneType", "tuple", "list", "dict"] : List String) ∧ (n = "int" ↔ ∃ i, v = .int i) ∧ (n = "bool" ↔ ∃ b, v = .bl b) ∧ (n = "str" ↔ ∃ s, v = .str s) := by
  cases h with
  | int i => exact ⟨"int", .base (.int i), by decide, by simp, by simp, by simp⟩
  | bl b => exact ⟨"bool", .base (.bl b), by decide, by simp, by simp, by simp⟩
  | str s z => exact ⟨"str", .base (.str s), by decide, by simp, by simp, by simp⟩
  | non => exact ⟨"NoneType", .base .non, by decide, by simp, by simp, by simp⟩
  | tup e => exact ⟨"tuple", .base (.tup e), by decide, by simp, by simp, by simp⟩
  | lst e => exact ⟨"list", .base (.lst e), by decide, by simp, by simp, by simp⟩
  | dic e => exact ⟨"dict", .base (.dK e), by decide, by simp, by simp, by simp⟩
def wholeB (v : V) (lo hi : Int) : Bool := match v with
  | .int i => decide (lo ≤ i) && decide (i ≤ hi)
  | _ => false
def letters : Str := "abcdefghijklmnopqrstuvwxyz"
def nameB (v : V) : Bool := match v with
  | .str s => !decide (s ∈ barred) && (decide (1 ≤ s.length) && (decide (s.length ≤ 8) && s.cps.toList.all fun c => decide (c ∈ letters.cps.toList)))
  | _ => false
def spWhole (K : PySem.W.Frag) : Sp := fun vs H Q _ => ∃ (v : V) (lo hi : Int), vs = [v, .int lo, .int hi] ∧ Any K H v ∧ Q (.bl (wholeB v lo hi)) H
def spName (K : PySem.W.Frag) : Sp := fun vs H Q _ => ∃ (v : V), vs = [v] ∧ Any K H v ∧ ∀ H', Same H H' → Q (.bl (nameB v)) H'
theorem isi_int {n : String} (h : n ∈ (["int", "bool", "str", "NoneType", "tuple", "list", "dict"] : List String)) : kitB n "int" = some (decide (n = "int" ∨ n = "bool")) := by
  simp only [List.mem_cons, List.not_mem_nil, or_false] at h
  rcases h with rfl | rfl | rfl | rfl | rfl | rfl | rfl <;> decide +kernel
theorem isi_bool {n : String} (h : n ∈ (["int", "bool", "str", "NoneType", "tuple", "list", "dict"] : List String)) : kitB n "bool" = some (decide (n = "bool")) := by
  simp only [List.mem_cons, List.not_mem_nil, or_false] at h
  rcases h with rfl | rfl | rfl | rfl | rfl | rfl | rfl <;> decide +kernel
theorem isi_str {n : String} (h : n ∈ (["int", "bool", "str", "NoneType", "tuple", "list", "dict"] : List String)) : kitB n "str" = some (decide (n = "str")) := by
  simp only [List.mem_cons, List.not_mem_nil, or_false] at h
  rcases h with rfl | rfl | rfl | rfl | rfl | rfl | rfl <;> decide +kernel
end Ev
namespace H1
open PySem PySem.Spec PyProof.Rows L2 Ev
abbrev FnL (K : PySem.W.Frag) (x : Str) (i : Nat) (f : Addr) (fd : FuncData) : Prop := FunD K x x (defArgs (top i)) (defBody (top i)) (defScope (top i)) [] [] f fd
abbrev sM (i j : Nat) : Stmt := inClass (top i) j
abbrev FnM (K : PySem.W.Frag) (x m : Str) (i j : Nat) (dfl : List V) (f : Addr) (fd : FuncData) : Prop := FunD K m (x ++ "." ++ m) (defArgs (sM i j)) (defBody (sM i j)) (defScope (sM i j)) dfl [] f fd
section
variable {P : Program} {w : World} {K : PySem.W.Frag} {mg : Str → Option Value} {base : Heap} {f f0 C0 : Addr} {fd : FuncData}
theorem sc13 : FnScope ["value", "least", "most"] ["value", "least", "most"] (defScope (top i_is_whole)) := ⟨rfl, rfl, rfl, by decide +kernel, rfl, by decide +kernel, by decide +kernel⟩
theorem ok_whole (F : FnL K "is_whole" i_is_whole f fd) (tIsi : mg "isinstance" = none) (tInt : mg "int" = none) (tBool : mg "bool" = none) : FnOk P w K mg base CX0 1 f fd ["value", "least", "most"] (spWhole K) := by
  refine F.ok sc13 (fun vs H Q E h => ?_) (fun cdv A outer s H vs Q E hr h => ?_)
  · obtain ⟨v, lo, hi, rfl, _⟩ := h
    rfl
  · obtain ⟨v, lo, hi, rfl, an, q⟩ := h
    refine ⟨_, PSs.nox (pss_one (ps_ret (pe_and (pe_callB call_isi (by rfl) tIsi (by decide +kernel) (pa_cons (pv 0) (pa_cons (pe_bltn (v := .ty "int") (by rfl) tInt (by decide +kernel) rfl) pa_nil)))
      (pe_and (pe_not (pe_callB call_isi (by rfl) tIsi (by decide +kernel) (pa_cons (pv 0) (pa_cons (pe_bltn (v := .ty "bool") (by rfl) tBool (by decide +kernel) rfl) pa_nil))))
      (pe_one (pe_chain op_le op_le (pv 1) (pv 0) (pv 2))))))), ?_⟩
    cases an with
    | int i =>
      refine ⟨_, rfl, _, .ty "int", .type "int", .type "int", true, rfl, .ty "int", .base (.int i), kit_ty (by decide +kernel), true, rfl, iteT ?_⟩
      refine ⟨_, rfl, _, .ty "bool", .type "int", .type "bool", false, rfl, .ty "bool", .base (.int i), kit_ty (by decide +kernel), false, rfl, true, rfl, iteT ?_⟩
      refine ⟨_, rfl, _, rfl, _, _, rfl, rfl, _, rfl, ?_⟩
      refine ite2 (fun h1 => ?_) (fun h1 => ?_)
      · refine ⟨_, rfl, _, _, rfl, rfl, ?_⟩
        have h1' := of_decide_eq_true h1
        have e : wholeB (.int i) lo hi = decide (i ≤ hi) := by simp [wholeB, h1']
        rw [e] at q
        exact q
      · have h1' : ¬ lo ≤ i := fun z => h1 (decide_eq_true z)
        have e : wholeB (.int i) lo hi = false := by simp [wholeB, h1']
        rw [e] at q
        exact q
    | bl b =>
      refine ⟨_, rfl, _, .ty "int", .type "bool", .type "int", true, rfl, .ty "int", .base (.bl b), kit_ty (by decide +kernel), true, rfl, iteT ?_⟩
      refine ⟨_, rfl, _, .ty "bool", .type "bool", .type "bool", true, rfl, .ty "bool", .base (.bl b), kit_ty (by decide +kernel), true, rfl, false, rfl, iteF ?_⟩
      exact q
    | str t z => exact ⟨_, rfl, _, .ty "int", .type "str", .type "int", false, rfl, .ty "int", .base (.str t), kit_ty (by decide +kernel), false, rfl, iteF q⟩
    | non => exact ⟨_, rfl, _, .ty "int", .type "NoneType", .type "int", false, rfl, .ty "int", .base .non, kit_ty (by decide +kernel), false, rfl, iteF q⟩
    | tup e => exact ⟨_, rfl, _, .ty "int", .type "tuple", .type "int", false, rfl, .ty "int", .base (.tup e), kit_ty (by decide +kernel), false, rfl, iteF q⟩
    | lst e => exact ⟨_, rfl, _, .ty "int", .type "list", .type "int", false, rfl, .ty "int", .base (.lst e), kit_ty (by decide +kernel), false, rfl, iteF q⟩
    | dic e => exact ⟨_, rfl, _, .ty "int", .type "dict", .type "int", false, rfl, .ty "int", .base (.dK e), kit_ty (by decide +kernel), false, rfl, iteF q⟩
theorem sc12 : FnScope ["value", "letter"] ["value"] (defScope (top i_is_name)) := ⟨rfl, rfl, rfl, by decide +kernel, rfl, by decide +kernel, by decide +kernel⟩
theorem ok_name (F : FnL K "is_name" i_is_name f fd) (tIsi : mg "isinstance" = none) (tStr : mg "str" = none) (tLen : mg "len" = none) (tAll : mg "all" = none) (gBar : mg "BARRED" = some (.ref (He.ga K "BARRED"))) (hBar : He.tupB K "BARRED" (barred.map He.Dv.str) = true)
    (gLong : ∃ t, mg "LONGEST" = some (.int 8 t)) (gLet : ∃ t, mg "LETTERS" = some (.str letters t)) : FnOk P w K mg base CX0 1 f fd ["value"] (spName K) := by
  obtain ⟨t1, gLong⟩ := gLong
  obtain ⟨t2, gLet⟩ := gLet
  refine F.ok sc12 (fun vs H Q E h => ?_) (fun cdv A outer s H vs Q E hr h => ?_)
  · obtain ⟨v, rfl, _⟩ := h
    rfl
  · obtain ⟨v, rfl, an, q⟩ := h
    refine ⟨_, PSs.nox (pss_cons (ps_if (PW.pt (pw_or (pt_not (pt_val (pe_callB call_isi (by rfl) tIsi (by decide +kernel) (pa_cons (pv 0) (pa_cons (pe_bltn (v := .ty "str") (by rfl) tStr (by decide +kernel) rfl) pa_nil)))))
        (pw_or1 (pt_cmpR op_in_seq (pv 0) (pe_glob (v := .ref (He.ga K "BARRED")) (by rfl) gBar rfl) (by rfl))))) (pss_one (ps_ret pe_bl)) pss_nil)
      (pss_one (ps_ret (pe_and (pe_chain op_le op_le pe_int (pe_callB call_len_str (by rfl) tLen PySem.boot_len (pa_cons (pv 0) pa_nil)) (pe_glob (v := .int 8) (by rfl) gLong ⟨_, rfl⟩))
        (pe_one (pe_callB (cr_all rfl) (by rfl) tAll (by decide +kernel) (pa_cons
          (pe_lc (own := [("letter", 1)]) (g := gName 1) (tt := tYes) rfl sc12.nd (pi_str (pv 0)) (blkOk_by (N := ["value", "letter"]) (sc := defScope (top i_is_name)) (by decide +kernel))
            (fun _ _ _ _ _ => pg_name (i := 1) sc12.nd rfl (Or.inl rfl)) (fun _ _ _ _ _ => pts_nil) (fun _ _ _ _ _ => pe_cmpR op_in_sign (pv 1) (pe_glob (v := .str letters) (by rfl) gLet ⟨_, rfl⟩) rfl)) pa_nil))))))), ?_⟩
    cases an with
    | int i => exact ⟨_, rfl, _, .ty "str", .type "int", .type "str", false, rfl, .ty "str", .base (.int i), kit_ty (by decide +kernel), false, rfl, iteT (q _ fun _ _ z => z)⟩
    | bl b => exact ⟨_, rfl, _, .ty "str", .type "bool", .type "str", false, rfl, .ty "str", .base (.bl b), kit_ty (by decide +kernel), false, rfl, iteT (q _ fun _ _ z => z)⟩
    | non => exact ⟨_, rfl, _, .ty "str", .type "NoneType", .type "str", false, rfl, .ty "str", .base .non, kit_ty (by decide +kernel), false, rfl, iteT (q _ fun _ _ z => z)⟩
    | tup e => exact ⟨_, rfl, _, .ty "str", .type "tuple", .type "str", false, rfl, .ty "str", .base (.tup e), kit_ty (by decide +kernel), false, rfl, iteT (q _ fun _ _ z => z)⟩
    | lst e => exact ⟨_, rfl, _, .ty "str", .type "list", .type "str", false, rfl, .ty "str", .base (.lst e), kit_ty (by decide +kernel), false, rfl, iteT (q _ fun _ _ z => z)⟩
    | dic e => exact ⟨_, rfl, _, .ty "str", .type "dict", .type "str", false, rfl, .ty "str", .base (.dK e), kit_ty (by decide +kernel), false, rfl, iteT (q _ fun _ _ z => z)⟩
    | str s hz =>
      refine ⟨_, rfl, _, .ty "str", .type "str", .type "str", true, rfl, .ty "str", .base (.str s), kit_ty (by decide +kernel), true, rfl, iteF ?_⟩
      have inB : inV (.str s) ((barred.map He.Dv.str).map (He.Dv.v K)) = decide (s ∈ barred) := by
        have e1 : (barred.map He.Dv.str).map (He.Dv.v K) = barred.map V.str := by rw [List.map_map]; rfl
        rw [e1]
        unfold inV
        rw [List.any_map]
        have e2 : ∀ l : List Str, (l.any ((fun y => eqV y (V.str s)) ∘ V.str)) = decide (s ∈ l) := by
          intro l
          induction l with
          | nil => simp
          | cons a l ih =>
            rw [List.any_cons, ih]
            have e3 : ((fun y => eqV y (V.str s)) ∘ V.str) a = decide (a = s) := by
              show (a == s) = decide (a = s)
              rfl
            rw [e3]
            by_cases h : a = s
            · simp [h]
            · have h' : ¬ s = a := fun z => h z.symm
              simp [h, h']
        exact e2 barred
      refine ⟨_, rfl, He.ga K "BARRED", _, rfl, .inr (He.tupB_ok hBar H), rfl, (by rfl), _, rfl, ?_⟩
      rw [if_neg Bool.false_ne_true, inB]
      refine ite2 (fun h1 => ?_) (fun h1 => ?_)
      · have e : nameB (.str s) = false := by simp [nameB, of_decide_eq_true h1]
        have q' := q H fun _ _ z => z
        rw [e] at q'
        exact q'
      · have h1' : ¬ s ∈ barred := fun z => h1 (decide_eq_true z)
        have nb : nameB (.str s) = (decide (1 ≤ s.length) && (decide (s.length ≤ 8) && s.cps.toList.all fun c => decide (c ∈ letters.cps.toList))) := by simp [nameB, h1']
        refine ⟨_, rfl, _, rfl, hz, _, _, rfl, rfl, _, rfl, ?_⟩
        refine ite2 (fun h2 => ?_) (fun h2 => ?_)
        · have h2' : 1 ≤ s.length := by have := of_decide_eq_true h2; omega
          refine ⟨_, _, rfl, rfl, _, rfl, ?_⟩
          refine ite2 (fun h3 => ?_) (fun h3 => ?_)
          · have h3' : s.length ≤ 8 := by have := of_decide_eq_true h3; omega
            have e : nameB (.str s) = s.cps.toList.all fun c => decide (c ∈ letters.cps.toList) := by rw [nb, decide_eq_true h2', decide_eq_true h3', Bool.true_and, Bool.true_and]
            rw [e] at q
            refine ⟨_, rfl, s, rfl, fun D hD => lc_it walk_str (fun i H' => Same H H' ∧ H' D = some (.lst ((s.cps.toList.take i).map fun c => V.bl (decide (c ∈ letters.cps.toList))))) ?_ (fun _ _ _ _ => trivial) ?_ ?_⟩
            · exact ⟨fun b o z => by rw [upd_ne (ne_of_none z hD)]; exact z, upd_same⟩
            · rintro i x H1 H2 hi ⟨S1, e1⟩ ⟨rfl, c, hc, rfl⟩
              refine ⟨rfl, ?_⟩
              dsimp only [tYes]
              rw [if_pos rfl]
              have hlen : s.cps.toList.length ≤ 8 := by rw [Array.length_toList]; exact h3'
              refine ⟨_, rfl, c, letters, rfl, rfl, _, e1, by rw [List.length_map, List.length_take, sizeLine_eq]; omega, fun b o z => ?_, ?_⟩
              · rw [upd_ne (ne_of_none z hD)]; exact S1 _ _ z
              · rw [upd_same]
                have hc2 : s.cps.toList[i]? = some c := by rw [← Array.getElem?_toList] at hc; exact hc
                obtain ⟨hi2, he⟩ := List.getElem?_eq_some_iff.mp hc2
                rw [List.take_succ, hc2, List.map_append]
                rfl
            · rintro H' ⟨S1, e1⟩
              refine ⟨D, s.cps.toList.map fun c => decide (c ∈ letters.cps.toList), rfl, SqL.of ?_, ?_⟩
              · rw [e1, List.map_map, List.take_of_length_le (by rw [Array.length_toList]; exact Nat.le_refl _)]
                rfl
              · rw [List.all_map]
                exact q H' S1
          · have h3' : ¬ s.length ≤ 8 := fun z => h3 (decide_eq_true (by omega))
            have e : nameB (.str s) = false := by rw [nb]; simp [h3']
            have q' := q H fun _ _ z => z
            rw [e] at q'
            exact q'
        · have h2' : ¬ 1 ≤ s.length := fun z => h2 (decide_eq_true (by omega))
          have e : nameB (.str s) = false := by rw [nb]; simp [h2']
          have q' := q H fun _ _ z => z
          rw [e] at q'
          exact ⟨_, rfl, iteF q'⟩
end
end H1
set_option Elab.async false
set_option linter.all false
set_option maxRecDepth 100000
set_option maxHeartbeats 4000000
/-! Errors raised. -/
namespace Ev
open PySem PySem.Spec PyProof.Rows L2
/-- the __init__ of an error, its dict told to be new -/
def spIniD (K : PySem.W.Frag) (C : Addr) (ns : List Str) : Sp := fun vs H Q _ => ∃ (a : Addr) (ys : List V), vs = .ref a :: ys ∧ ys.length = ns.length ∧ H a = some (exo a C none) ∧
  ∀ (H' : Hp) (d p : Addr), d ≠ a → H d = none → (∀ b o, b ≠ a → H b = some o → H' b = some o) → H' a = some (exo a C (some d)) → H' d = some (exd d ((ns.zip ys).reverse ++ [(("told" : Str), V.ref p)])) → Q .non H'
/-- an error of the class at C flies, made of these fields -/
def Flies (K : PySem.W.Frag) (x f : Str) (y : V) (H : Hp) (E : XK) : Prop := ∀ (d p : Addr) (H' : Hp), H d = none → Same H H' → H' d = some (.xd [(f, y), (("told" : Str), V.ref p)]) → E (.ref (He.ga K x)) (some d) H'
theorem flies_of {K : PySem.W.Frag} {x f : Str} {y : V} {H1 : Hp} {E : XK} (h : Flies K x f y H1 E) (a : Addr) (ha : H1 a = none) :
    spIniD K (He.ga K x) [f] (.ref a :: ([y] ++ [])) (upd H1 a (exo a (He.ga K x) none))
      (fun v H2 => v = .non ∧ ∃ (d : Addr) (fs : List (Str × V)), H2 a = some (exo a (He.ga K x) (some d)) ∧ H2 d = some (exd d fs) ∧ H1 d = none ∧ E (.ref (He.ga K x)) (some d) (upd (del H2 a) d (.xd fs))) (fun _ _ _ => False) := by
  refine ⟨a, [y], rfl, rfl, upd_same, fun H' d p da hd k e1 e2 => ⟨rfl, d, _, e1, e2, ?_, ?_⟩⟩
  · rw [upd_ne da] at hd; exact hd
  · rw [upd_ne da] at hd
    refine h d p _ hd (fun b o z => ?_) upd_same
    have nb : b ≠ a := ne_of_none z ha
    rw [upd_ne (ne_of_none z hd), del_ne nb]
    exact k b o nb (by rw [upd_ne nb]; exact z)
/-- an error of two fields flies -/
def Flies2 (K : PySem.W.Frag) (x f g : Str) (y z : V) (H : Hp) (E : XK) : Prop := ∀ (d p : Addr) (H' : Hp), H d = none → Same H H' → H' d = some (.xd [(g, z), (f, y), (("told" : Str), V.ref p)]) → E (.ref (He.ga K x)) (some d) H'
theorem flies2_of {K : PySem.W.Frag} {x f g : Str} {y z : V} {H1 : Hp} {E : XK} (h : Flies2 K x f g y z H1 E) (a : Addr) (ha : H1 a = none) :
    spIniD K (He.ga K x) [f, g] (.ref a :: ([y, z] ++ [])) (upd H1 a (exo a (He.ga K x) none))
      (fun v H2 => v = .non ∧ ∃ (d : Addr) (fs : List (Str × V)), H2 a = some (exo a (He.ga K x) (some d)) ∧ H2 d = some (exd d fs) ∧ H1 d = none ∧ E (.ref (He.ga K x)) (some d) (upd (del H2 a) d (.xd fs))) (fun _ _ _ => False) := by
  refine ⟨a, [y, z], rfl, rfl, upd_same, fun H' d p da hd k e1 e2 => ⟨rfl, d, _, e1, e2, ?_, ?_⟩⟩
  · rw [upd_ne da] at hd; exact hd
  · rw [upd_ne da] at hd
    refine h d p _ hd (fun b o z => ?_) upd_same
    have nb : b ≠ a := ne_of_none z ha
    rw [upd_ne (ne_of_none z hd), del_ne nb]
    exact k b o nb (by rw [upd_ne nb]; exact z)
theorem same_none {H H' : Hp} (S : Same H H') (d : Addr) (h : H' d = none) : H d = none := by
  cases e : H d with
  | none => rfl
  | some o =>
    rw [S _ _ e] at h
    cases h
theorem Flies.same {K : PySem.W.Frag} {x f : Str} {y : V} {H H' : Hp} {E : XK} (S : Same H H') (h : Flies K x f y H E) : Flies K x f y H' E := fun d p H2 hd S2 e => h d p H2 (same_none S d hd) (fun b o z => S2 _ _ (S _ _ z)) e
theorem Flies2.same {K : PySem.W.Frag} {x f g : Str} {y z : V} {H H' : Hp} {E : XK} (S : Same H H') (h : Flies2 K x f g y z H E) : Flies2 K x f g y z H' E := fun d p H2 hd S2 e => h d p H2 (same_none S d hd) (fun b o z => S2 _ _ (S _ _ z)) e
theorem same_tr {H H1 H2 : Hp} (a : Same H H1) (b : Same H1 H2) : Same H H2 := fun c o e => b _ _ (a _ _ e)
theorem same_upd {H : Hp} {x : Addr} {o : HO} (hx : H x = none) : Same H (upd H x o) := fun b u z => by rw [upd_ne (ne_of_none z hx)]; exact z
/-- what a def that raises may be called for where nothing is raised -/
theorem passN {P : Program} {w : World} {X : Cx} : Passes (L2.CX P w) X (fun _ _ _ => False) := fun _ _ _ _ _ _ _ h => by
  obtain ⟨_, _, _, _, _, _, _, _, _, _, _, _, e⟩ := h
  exact e.elim
end Ev
namespace H1
open PySem PySem.Spec PyProof.Rows L2 Ev
abbrev FnI (K : PySem.W.Frag) (x : Str) (i : Nat) (f : Addr) (fd : FuncData) : Prop := FunD K "__init__" (x ++ ".__init__") (defArgs (inClass (top i) 0)) (defBody (inClass (top i) 0)) (defScope (inClass (top i) 0)) [] [] f fd
section
variable {P : Program} {w : World} {K : PySem.W.Frag} {mg : Str → Option Value} {base : Heap} {f C f0 C0 : Addr} {fd : FuncData}
theorem sc2 : FnScope ["self", "told"] ((["self"] : List Str) ++ (["told"] : List Str)) (defScope (inClass (top i_PadError) 0)) := ⟨rfl, rfl, rfl, by decide +kernel, rfl, by decide +kernel, by decide +kernel⟩
theorem ok_pad (F : FnI K "PadError" i_PadError f fd) : FnR P w K mg base CX0 1 f (spPad K) := by
  obtain ⟨oc, od, dV, kV, doc, pm, an, cdv, ct, osl, rfl, lk, hcd, hD, hK⟩ := F.ex
  rcases hD with ⟨_, rfl⟩ | ⟨e, _⟩
  · refine FnR.imp (StX.fn_star (ps := ["self"]) (pv := "told") (N := ["self", "told"]) (CX := CX0) (k := 0) (sp := spPadIn K) lk hcd sc2 StX.cxUp_none
      (fun us rest hl => match us, rest, hl with | [_], [], _ => rfl | [_], _ :: _, _ => rfl) (fun A outer s H vs Q E hr h => ?_)) pad_imp
    obtain ⟨a, C, p, rfl, T, no, ha, q⟩ := h
    refine ⟨_, PSs.nox (pss_one (ps_ost (pv 0) (pv 1))), ?_⟩
    exact ⟨_, rfl, _, rfl, a, C, rfl, T, no, .inl ⟨ha, fun dx hn ne => q dx hn ne⟩⟩
  · exact absurd rfl e
theorem scI_BadTimes : FnScope ["self", "value"] ["self", "value"] (defScope (inClass (top i_BadTimes) 0)) := ⟨rfl, rfl, rfl, by decide +kernel, rfl, by decide +kernel, by decide +kernel⟩
theorem ok_BadTimes (F : FnI K "BadTimes" i_BadTimes f fd) (gP : mg "PadError" = some (.ref C0)) (O : OffT K C0 f0) (GP : FnR P w K mg base CX0 1 f0 (spPad K)) (T : ErrT K C f ["told", "value"]) :
    FnOk P w K mg base CX0 2 f fd ["self", "value"] (spIniD K C ["value"]) := by
  refine F.ok scI_BadTimes (fun vs H Q E h => ?_) (fun cdv A outer s H vs Q E hr h => ?_)
  · obtain ⟨a, ys, rfl, hl, _⟩ := h
    show ys.length + 1 = 2
    rw [hl]; rfl
  · obtain ⟨a, ys, rfl, hl, ha, q⟩ := h
    obtain ⟨y0, rfl⟩ : ∃ y, ys = [y] := match ys, hl with | [y], _ => ⟨y, rfl⟩
    refine ⟨_, PSs.nox (pss_cons (ps_expr (pe_off (E := E0) (pe_glob (v := .ref C0) rfl gP rfl) O.rd O.at_ GP hr O.kp pass0 (pa_cons (pv 0) (pa_cons (pv 1) pa_nil))))
      (pss_one (ps_ost (pv 0) (pv 1)))), ?_⟩
    refine ⟨rfl, _, rfl, _, rfl, a, C, [y0], rfl, T.ox, T.no _ (by simp), ha, (by show 1 ≤ 900; decide), fun p d hp hd dp da => ?_⟩
    refine ⟨_, rfl, _, rfl, a, C, rfl, T.ox, T.no _ (by simp), .inr ⟨d, [(("told" : Str), .ref p)], upd_same, by rw [upd_ne da, upd_same], (by show 1 ≤ 900; decide), ?_⟩⟩
    exact q _ d p da hd (ini1 ha hp hd dp da).1 (by rw [upd_ne (Ne.symm da), upd_same]) upd_same
theorem bI_BadTimes {fN : Addr} {dN : FuncData} (F : FnI K "BadTimes" i_BadTimes fN dN) : Binds K dN ["self", "value"] [] := FunD.bindsN F fun _ _ _ _ _ _ us hl => match us, hl with | [_, _], _ => rfl
theorem scI_BadName : FnScope ["self", "name"] ["self", "name"] (defScope (inClass (top i_BadName) 0)) := ⟨rfl, rfl, rfl, by decide +kernel, rfl, by decide +kernel, by decide +kernel⟩
theorem ok_BadName (F : FnI K "BadName" i_BadName f fd) (gP : mg "PadError" = some (.ref C0)) (O : OffT K C0 f0) (GP : FnR P w K mg base CX0 1 f0 (spPad K)) (T : ErrT K C f ["told", "name"]) :
    FnOk P w K mg base CX0 2 f fd ["self", "name"] (spIniD K C ["name"]) := by
  refine F.ok scI_BadName (fun vs H Q E h => ?_) (fun cdv A outer s H vs Q E hr h => ?_)
  · obtain ⟨a, ys, rfl, hl, _⟩ := h
    show ys.length + 1 = 2
    rw [hl]; rfl
  · obtain ⟨a, ys, rfl, hl, ha, q⟩ := h
    obtain ⟨y0, rfl⟩ : ∃ y, ys = [y] := match ys, hl with | [y], _ => ⟨y, rfl⟩
    refine ⟨_, PSs.nox (pss_cons (ps_expr (pe_off (E := E0) (pe_glob (v := .ref C0) rfl gP rfl) O.rd O.at_ GP hr O.kp pass0 (pa_cons (pv 0) (pa_cons (pv 1) pa_nil))))
      (pss_one (ps_ost (pv 0) (pv 1)))), ?_⟩
    refine ⟨rfl, _, rfl, _, rfl, a, C, [y0], rfl, T.ox, T.no _ (by simp), ha, (by show 1 ≤ 900; decide), fun p d hp hd dp da => ?_⟩
    refine ⟨_, rfl, _, rfl, a, C, rfl, T.ox, T.no _ (by simp), .inr ⟨d, [(("told" : Str), .ref p)], upd_same, by rw [upd_ne da, upd_same], (by show 1 ≤ 900; decide), ?_⟩⟩
    exact q _ d p da hd (ini1 ha hp hd dp da).1 (by rw [upd_ne (Ne.symm da), upd_same]) upd_same
theorem bI_BadName {fN : Addr} {dN : FuncData} (F : FnI K "BadName" i_BadName fN dN) : Binds K dN ["self", "name"] [] := FunD.bindsN F fun _ _ _ _ _ _ us hl => match us, hl with | [_, _], _ => rfl
theorem scI_BadParts : FnScope ["self", "at"] ["self", "at"] (defScope (inClass (top i_BadParts) 0)) := ⟨rfl, rfl, rfl, by decide +kernel, rfl, by decide +kernel, by decide +kernel⟩
theorem ok_BadParts (F : FnI K "BadParts" i_BadParts f fd) (gP : mg "PadError" = some (.ref C0)) (O : OffT K C0 f0) (GP : FnR P w K mg base CX0 1 f0 (spPad K)) (T : ErrT K C f ["told", "at"]) :
    FnOk P w K mg base CX0 2 f fd ["self", "at"] (spIniD K C ["at"]) := by
  refine F.ok scI_BadParts (fun vs H Q E h => ?_) (fun cdv A outer s H vs Q E hr h => ?_)
  · obtain ⟨a, ys, rfl, hl, _⟩ := h
    show ys.length + 1 = 2
    rw [hl]; rfl
  · obtain ⟨a, ys, rfl, hl, ha, q⟩ := h
    obtain ⟨y0, rfl⟩ : ∃ y, ys = [y] := match ys, hl with | [y], _ => ⟨y, rfl⟩
    refine ⟨_, PSs.nox (pss_cons (ps_expr (pe_off (E := E0) (pe_glob (v := .ref C0) rfl gP rfl) O.rd O.at_ GP hr O.kp pass0 (pa_cons (pv 0) (pa_cons (pv 1) pa_nil))))
      (pss_one (ps_ost (pv 0) (pv 1)))), ?_⟩
    refine ⟨rfl, _, rfl, _, rfl, a, C, [y0], rfl, T.ox, T.no _ (by simp), ha, (by show 1 ≤ 900; decide), fun p d hp hd dp da => ?_⟩
    refine ⟨_, rfl, _, rfl, a, C, rfl, T.ox, T.no _ (by simp), .inr ⟨d, [(("told" : Str), .ref p)], upd_same, by rw [upd_ne da, upd_same], (by show 1 ≤ 900; decide), ?_⟩⟩
    exact q _ d p da hd (ini1 ha hp hd dp da).1 (by rw [upd_ne (Ne.symm da), upd_same]) upd_same
theorem bI_BadParts {fN : Addr} {dN : FuncData} (F : FnI K "BadParts" i_BadParts fN dN) : Binds K dN ["self", "at"] [] := FunD.bindsN F fun _ _ _ _ _ _ us hl => match us, hl with | [_, _], _ => rfl
theorem scI_TooLarge : FnScope ["self", "what", "most"] ["self", "what", "most"] (defScope (inClass (top i_TooLarge) 0)) := ⟨rfl, rfl, rfl, by decide +kernel, rfl, by decide +kernel, by decide +kernel⟩
theorem ok_TooLarge (F : FnI K "TooLarge" i_TooLarge f fd) (gP : mg "PadError" = some (.ref C0)) (O : OffT K C0 f0) (GP : FnR P w K mg base CX0 1 f0 (spPad K)) (T : ErrT K C f ["told", "what", "most"]) :
    FnOk P w K mg base CX0 2 f fd ["self", "what", "most"] (spIniD K C ["what", "most"]) := by
  refine F.ok scI_TooLarge (fun vs H Q E h => ?_) (fun cdv A outer s H vs Q E hr h => ?_)
  · obtain ⟨a, ys, rfl, hl, _⟩ := h
    show ys.length + 1 = 3
    rw [hl]; rfl
  · obtain ⟨a, ys, rfl, hl, ha, q⟩ := h
    obtain ⟨y0, y1, rfl⟩ : ∃ y z, ys = [y, z] := match ys, hl with | [y, z], _ => ⟨y, z, rfl⟩
    refine ⟨_, PSs.nox (pss_cons (ps_expr (pe_off (E := E0) (pe_glob (v := .ref C0) rfl gP rfl) O.rd O.at_ GP hr O.kp pass0 (pa_cons (pv 0) (pa_cons (pv 1) (pa_cons (pv 2) pa_nil)))))
      (pss_cons (ps_ost (pv 0) (pv 1)) (pss_one (ps_ost (pv 0) (pv 2))))), ?_⟩
    refine ⟨rfl, _, rfl, _, rfl, _, rfl, a, C, [y0, y1], rfl, T.ox, T.no _ (by simp), ha, (by show 2 ≤ 900; decide), fun p d hp hd dp da => ?_⟩
    refine ⟨_, rfl, _, rfl, a, C, rfl, T.ox, T.no _ (by simp), .inr ⟨d, [(("told" : Str), .ref p)], upd_same, by rw [upd_ne da, upd_same], (by show 1 ≤ 900; decide), ?_⟩⟩
    refine ⟨_, rfl, _, rfl, a, C, rfl, T.ox, T.no _ (by simp), .inr ⟨d, _, by rw [upd_ne (Ne.symm da), upd_same], upd_same, (by show 2 ≤ 900; decide), ?_⟩⟩
    exact q _ d p da hd (ini2 ha hp hd dp da).1 (by rw [upd_ne (Ne.symm da), upd_ne (Ne.symm da), upd_same]) upd_same
theorem bI_TooLarge {fN : Addr} {dN : FuncData} (F : FnI K "TooLarge" i_TooLarge fN dN) : Binds K dN ["self", "what", "most"] [] := FunD.bindsN F fun _ _ _ _ _ _ us hl => match us, hl with | [_, _, _], _ => rfl
end
end H1
set_option Elab.async false
set_option linter.all false
set_option maxRecDepth 100000
set_option maxHeartbeats 4000000
/-! Parts: what they are, where they stand; the base's __init__. -/
namespace Ev
open PySem PySem.Spec PyProof.Rows L2
mutual
inductive Pt where
  | byte | kind (s : Str) (t : Nat) | use (s : Str) | row (p : Pt) (n : Nat) | grp (ov : Bool) (ps : Pts)
inductive Pts where
  | nil | cons (s : Str) (p : Pt) (r : Pts)
end
mutual
def Pt.dep : Pt → Int
  | .row p _ => p.dep + 1
  | .grp _ ps => ps.dep
  | .byte => 0
  | .kind _ _ => 0
  | .use _ => 0
/-- the greatest depth and one -/
def Pts.dep : Pts → Int
  | .nil => 0
  | .cons _ p r => max (p.dep + 1) r.dep
end
mutual
theorem Pt.dep0 : ∀ p : Pt, 0 ≤ p.dep
  | .row p _ => by have := p.dep0; show 0 ≤ p.dep + 1; omega
  | .grp _ ps => ps.dep0
  | .byte => Int.le_refl _
  | .kind _ _ => Int.le_refl _
  | .use _ => Int.le_refl _
theorem Pts.dep0 : ∀ ps : Pts, 0 ≤ ps.dep
  | .nil => Int.le_refl _
  | .cons _ p r => by
    have := r.dep0
    show 0 ≤ max (p.dep + 1) r.dep
    omega
end
def Pts.ds : Pts → List Int
  | .nil => []
  | .cons _ p r => p.dep :: r.ds
def Pts.len : Pts → Nat
  | .nil => 0
  | .cons _ _ r => r.len + 1
def Pt.cn : Pt → Str
  | .byte => "Byte"
  | .kind _ _ => "Kind"
  | .use _ => "Use"
  | .row _ _ => "Row"
  | .grp ov _ => if ov then "Overlay" else "Record"
theorem Pt.cnP (p : Pt) : p.cn ∈ allP := by
  cases p with
  | byte => show (("Byte" : Str) ∈ allP); decide
  | kind s t => show (("Kind" : Str) ∈ allP); decide
  | use s => show (("Use" : Str) ∈ allP); decide
  | row p n => show (("Row" : Str) ∈ allP); decide
  | grp ov ps =>
    cases ov
    · show (("Record" : Str) ∈ allP); decide
    · show (("Overlay" : Str) ∈ allP); decide
abbrev cnG (ov : Bool) : Str := if ov then "Overlay" else "Record"
abbrev flG (ov : Bool) : Str := if ov then "members" else "fields"
def maxR : List Int → Int
  | [] => 0
  | n :: r => max n (maxR r)
theorem foldl_max : ∀ (ms : List Int) (a : Int), 0 ≤ a → ms.foldl max a = max a (maxR ms)
  | [], a, h => by show a = max a 0; omega
  | m :: ms, a, h => by
    show ms.foldl max (max a m) = max a (max m (maxR ms))
    rw [foldl_max ms (max a m) (by omega)]
    omega
theorem maxI_R : ∀ ms : List Int, (∀ m ∈ ms, 0 ≤ m) → maxI 0 ms = maxR ms
  | [], _ => rfl
  | m :: ms, h => foldl_max ms m (h m (by simp))
theorem Pts.dep_ds : ∀ ps : Pts, ps.dep = maxR (ps.ds.map (· + 1))
  | .nil => rfl
  | .cons _ p r => by
    show max (p.dep + 1) r.dep = max (p.dep + 1) (maxR (r.ds.map (· + 1)))
    rw [r.dep_ds]
theorem Pts.ds0 : ∀ ps : Pts, ∀ d ∈ ps.ds, 0 ≤ d
  | .nil, d, h => by cases h
  | .cons _ p r, d, h => by
    rcases List.mem_cons.mp h with rfl | h
    · exact p.dep0
    · exact r.ds0 d h
/-- what the base's __init__ leaves -/
def PartFG (nl : Addr) (t : V) (d : Int) : List (Str × V) := [(("traits" : Str), t), (("inside" : Str), V.ref nl), (("depth" : Str), V.int d)]
/-- what is in a row: a pair for each number -/
def RowIn (K : PySem.W.Frag) (H : Hp) (ti y : Addr) (n : Nat) : Prop := ∃ ws : List V, SqT K H ti ws ∧ ws.length = n ∧ ∀ i, i < n → ∃ q, ws[i]? = some (.ref q) ∧ SqT K H q [.str (toString (i : Int)), .ref y]
mutual
inductive PAt (K : PySem.W.Frag) (H : Hp) : Addr → Pt → Prop
  | byte {x dx : Addr} : H x = some (.ins (He.ga K "Byte") dx (PartFG (dfT 1 K) (.ref (dfT 0 K)) 0)) → PAt K H x .byte
  | kind {x dx tr : Addr} {s : Str} {t : Nat} : nameB (.str s) = true → 1 ≤ t → t ≤ 8 → H x = some (.ins (He.ga K "Kind") dx (PartFG (dfT 1 K) (.ref tr) 0 ++ [(("name" : Str), .str s), (("times" : Str), .int t)])) → H tr = some (.tup [.str s, .int t]) → PAt K H x (.kind s t)
  | use {x dx tr : Addr} {s : Str} : nameB (.str s) = true → H x = some (.ins (He.ga K "Use") dx (PartFG (dfT 1 K) (.ref tr) 0 ++ [(("name" : Str), .str s)])) → H tr = some (.tup [.str s]) → PAt K H x (.use s)
  | row {x dx tr ti y : Addr} {p : Pt} {n : Nat} : 1 ≤ n → n ≤ 64 → H x = some (.ins (He.ga K "Row") dx (PartFG ti (.ref tr) (p.dep + 1) ++ [(("part" : Str), .ref y), (("n" : Str), .int n)])) → H tr = some (.tup [.ref y, .int n]) → RowIn K H ti y n → PAt K H y p → PAt K H x (.row p n)
  | grp {x dx tp : Addr} {ov : Bool} {vs : List V} {ps : Pts} : 1 ≤ ps.len → ps.len ≤ 8 → H x = some (.ins (He.ga K (cnG ov)) dx (PartFG tp (.ref tp) ps.dep ++ [(flG ov, .ref tp)])) → H tp = some (.tup vs) → PAll K H vs ps → PAt K H x (.grp ov ps)
inductive PAll (K : PySem.W.Frag) (H : Hp) : List V → Pts → Prop
  | nil : PAll K H [] .nil
  | cons {q y : Addr} {s : Str} {p : Pt} {vs : List V} {ps : Pts} : nameB (.str s) = true → H q = some (.tup [.str s, .ref y]) → PAt K H y p → PAll K H vs ps → PAll K H (.ref q :: vs) (.cons s p ps)
end
/-- what never changes once it is made: tuples, instances with their fields, what is locked -/
def Solid : HO → Prop
  | .tup _ => True
  | .ins _ _ (_ :: _) => True
  | .frz _ _ => True
  | _ => False
def Keep (H H' : Hp) : Prop := ∀ b o, H b = some o → Solid o → H' b = some o
theorem Keep.of {H H' : Hp} (S : Same H H') : Keep H H' := fun b o h _ => S b o h
theorem Keep.ext {H H' : Hp} (S : LamX.ExtN H H') : Keep H H' := fun b o h s => S b o h fun ps z => by subst z; exact s
theorem Keep.rfl' {H : Hp} : Keep H H := fun _ _ h _ => h
theorem Keep.tr {H H1 H2 : Hp} (a : Keep H H1) (b : Keep H1 H2) : Keep H H2 := fun c o h s => b c o (a c o h s) s
theorem Keep.but {H H' : Hp} {x : Addr} {o : HO} (hx : H x = some o) (n : ¬ Solid o) (k : But x H H') : Keep H H' := fun b u h s => by
  refine k b u (fun z => n ?_) h
  rw [z, hx] at h
  cases h
  exact s
theorem rd_keep {H H' : Hp} {a : Addr} {u : HO} (S : Keep H H') (hu : Solid u) (h : Rd H a u) : Rd H' a u := by
  rcases h with h | ⟨o, h⟩
  · exact .inl (S _ _ h hu)
  · exact .inr ⟨o, S _ _ h trivial⟩
theorem sqt_keep {K : PySem.W.Frag} {H H' : Hp} {a : Addr} {xs : List V} (S : Keep H H') (h : SqT K H a xs) : SqT K H' a xs := by
  rcases h with h | h
  · exact .inl (rd_keep S trivial h)
  · exact .inr h
theorem RowIn.keep {K : PySem.W.Frag} {H H' : Hp} (S : Keep H H') {ti y : Addr} {n : Nat} : RowIn K H ti y n → RowIn K H' ti y n
  | ⟨ws, h1, h2, h3⟩ => ⟨ws, sqt_keep S h1, h2, fun i hi => let ⟨q, a, b⟩ := h3 i hi; ⟨q, a, sqt_keep S b⟩⟩
mutual
theorem PAt.keep {K : PySem.W.Frag} {H H' : Hp} (S : Keep H H') : ∀ {x : Addr} {p : Pt}, PAt K H x p → PAt K H' x p
  | _, _, .byte h => .byte (S _ _ h trivial)
  | _, _, .kind a b c d e => .kind a b c (S _ _ d trivial) (S _ _ e trivial)
  | _, _, .use a b c => .use a (S _ _ b trivial) (S _ _ c trivial)
  | _, _, .row a b c d e f => .row a b (S _ _ c trivial) (S _ _ d trivial) (e.keep S) (f.keep S)
  | _, _, .grp a b c d e => .grp a b (S _ _ c trivial) (S _ _ d trivial) (e.keep S)
theorem PAll.keep {K : PySem.W.Frag} {H H' : Hp} (S : Keep H H') : ∀ {vs : List V} {ps : Pts}, PAll K H vs ps → PAll K H' vs ps
  | _, _, .nil => .nil
  | _, _, .cons a b c d => .cons a (S _ _ b trivial) (c.keep S) (d.keep S)
end
theorem PAt.same {K : PySem.W.Frag} {H H' : Hp} (S : Same H H') {x : Addr} {p : Pt} (h : PAt K H x p) : PAt K H' x p := h.keep (.of S)
theorem PAll.same {K : PySem.W.Frag} {H H' : Hp} (S : Same H H') {vs : List V} {ps : Pts} (h : PAll K H vs ps) : PAll K H' vs ps := h.keep (.of S)
theorem RowIn.same {K : PySem.W.Frag} {H H' : Hp} (S : Same H H') {ti y : Addr} {n : Nat} (h : RowIn K H ti y n) : RowIn K H' ti y n := h.keep (.of S)
theorem PAt.ins {K : PySem.W.Frag} {H : Hp} {x : Addr} {p : Pt} (h : PAt K H x p) : ∃ dx ti tv more, H x = some (.ins (He.ga K p.cn) dx (PartFG ti tv p.dep ++ more)) := by
  cases h with
  | byte h => exact ⟨_, _, _, [], h⟩
  | kind a b c d e => exact ⟨_, _, _, _, d⟩
  | use a b c => exact ⟨_, _, _, _, b⟩
  | row a b c d e f => exact ⟨_, _, _, _, c⟩
  | grp a b c d e => exact ⟨_, _, _, _, c⟩
theorem PAll.len {K : PySem.W.Frag} {H : Hp} : ∀ {vs : List V} {ps : Pts}, PAll K H vs ps → vs.length = ps.len
  | _, _, .nil => rfl
  | _, _, .cons _ _ _ d => congrArg Nat.succ d.len
/-- what the classes of parts are -/
structure PCl (K : PySem.W.Frag) (x : Str) (fs : List Str) : Prop where
  cl : Cls K (He.ga K x)
  mkr : Mk K (He.ga K x) (He.ma K (He.ga K x) "__init__")
  st : Meth K (He.ga K x) "__str__" (He.ma K (He.ga K x) "__str__")
  no : ∀ f ∈ fs, NoAttr K (He.ga K x) f
abbrev baseFs : List Str := ["traits", "inside", "depth"]
structure PCls (K : PySem.W.Frag) : Prop where
  kind : PCl K "Kind" (baseFs ++ (["name", "times"] : List Str))
  use : PCl K "Use" (baseFs ++ (["name"] : List Str))
  byte : PCl K "Byte" baseFs
  row : PCl K "Row" (baseFs ++ (["part", "n"] : List Str))
  rcd : PCl K "Record" (baseFs ++ (["fields"] : List Str))
  ovl : PCl K "Overlay" (baseFs ++ (["members"] : List Str))
  F : PartsF K
theorem PCls.cl {K : PySem.W.Frag} (T : PCls K) (p : Pt) : Cls K (He.ga K p.cn) := by
  cases p with
  | byte => exact T.byte.cl
  | kind s t => exact T.kind.cl
  | use s => exact T.use.cl
  | row p n => exact T.row.cl
  | grp ov ps => cases ov
                 · exact T.rcd.cl
                 · exact T.ovl.cl
theorem PCls.no {K : PySem.W.Frag} (T : PCls K) (p : Pt) {f : Str} (h : f ∈ baseFs) : NoAttr K (He.ga K p.cn) f := by
  cases p with
  | byte => exact T.byte.no _ h
  | kind s t => exact T.kind.no _ (List.mem_append_left _ h)
  | use s => exact T.use.no _ (List.mem_append_left _ h)
  | row p n => exact T.row.no _ (List.mem_append_left _ h)
  | grp ov ps => cases ov
                 · exact T.rcd.no _ (List.mem_append_left _ h)
                 · exact T.ovl.no _ (List.mem_append_left _ h)
theorem PCls.grpc {K : PySem.W.Frag} (T : PCls K) (ov : Bool) : PCl K (cnG ov) (baseFs ++ ([flG ov] : List Str)) := by cases ov; exact T.rcd; exact T.ovl
/-- pairs of anything with parts of these depths -/
def InsAt (K : PySem.W.Frag) (H : Hp) (xs : List V) (ds : List Int) : Prop := xs.length = ds.length ∧ ∀ (i : Nat) (x : V), xs[i]? = some x → ∃ (q y : Addr) (s : V) (p : Pt), x = .ref q ∧ SqT K H q [s, V.ref y] ∧ ds[i]? = some p.dep ∧ PAt K H y p
theorem InsAt.same {K : PySem.W.Frag} {H H' : Hp} (S : Same H H') {xs : List V} {ds : List Int} : InsAt K H xs ds → InsAt K H' xs ds
  | ⟨h1, h2⟩ => ⟨h1, fun i x hx => let ⟨q, y, s, p, a, b, c, d⟩ := h2 i x hx; ⟨q, y, s, p, a, same_seqT S b, c, d.same S⟩⟩
theorem PAll.ins {K : PySem.W.Frag} {H : Hp} : ∀ {vs : List V} {ps : Pts}, PAll K H vs ps → InsAt K H vs ps.ds
  | _, _, .nil => ⟨rfl, fun i x h => by cases h⟩
  | _, _, .cons (q := q) (y := y) (s := s) (p := p) (vs := vs) (ps := ps) a b c d => by
    obtain ⟨e1, e2⟩ := d.ins
    refine ⟨congrArg Nat.succ e1, fun i x h => ?_⟩
    cases i with
    | zero => cases h; exact ⟨q, y, _, p, rfl, SqT.of b, rfl, c⟩
    | succ i => exact e2 i x h
theorem InsAt.ds0 {K : PySem.W.Frag} {H : Hp} {xs : List V} {ds : List Int} (h : InsAt K H xs ds) : ∀ m ∈ ds.map (· + 1), 0 ≤ m := by
  intro m hm
  obtain ⟨d, hd, rfl⟩ := List.mem_map.mp hm
  obtain ⟨i, hi, he⟩ := List.getElem_of_mem hd
  have hx : i < xs.length := by rw [h.1]; exact hi
  obtain ⟨q, y, s, p, _, _, e, _⟩ := h.2 i xs[i] (List.getElem?_eq_getElem hx)
  rw [List.getElem?_eq_getElem hi, he] at e
  have := p.dep0
  cases e
  omega
def spInit (K : PySem.W.Frag) : Sp := fun vs H Q E => ∃ (a C dx nl : Addr) (t : V) (xs : List V) (ds : List Int), vs = [.ref a, t, .ref nl] ∧ H a = some (.ins C dx []) ∧ Cls K C ∧ (∀ f ∈ baseFs, NoAttr K C f) ∧
  SqT K H nl xs ∧ xs.length ≤ 64 ∧ InsAt K H xs ds ∧ (4 < maxR (ds.map (· + 1)) → Flies2 K "TooLarge" "what" "most" (.str "depth") (.int 4) H E) ∧
  (maxR (ds.map (· + 1)) ≤ 4 → ∀ H', But a H H' → H' a = some (.ins C dx (PartFG nl t (maxR (ds.map (· + 1))))) → Q .non H')
end Ev
namespace H1
open PySem PySem.Spec PyProof.Rows L2 Ev
section
variable {P : Program} {w : World} {K : PySem.W.Frag} {mg : Str → Option Value} {base : Heap} {f fT : Addr} {fd dT : FuncData}
abbrev dflP (K : PySem.W.Frag) : List V := [.ref (dfT 0 K), .ref (dfT 1 K)]
abbrev NP : List Str := ["self", "traits", "inside", "depth", "step", "part"]
theorem scP : FnScope NP ["self", "traits", "inside"] (defScope (sM i_Part j_Part___init__)) := ⟨rfl, rfl, rfl, by decide +kernel, rfl, by decide +kernel, by decide +kernel⟩
theorem ok_init (F : FnM K "Part" "__init__" i_Part j_Part___init__ (dflP K) f fd) (tMax : mg "max" = none) (tInt : mg "int" = none) (gPart : mg "Part" = some (.ref (gP K))) (T : PCls K)
    (gTL : mg "TooLarge" = some (.ref (He.ga K "TooLarge"))) (TTL : ErrT K (He.ga K "TooLarge") (He.ma K (He.ga K "TooLarge") "__init__") ["told", "what", "most"])
    (FTL : FnI K "TooLarge" i_TooLarge (He.ma K (He.ga K "TooLarge") "__init__") dT) (GTL : FnOk P w K mg base CX0 2 (He.ma K (He.ga K "TooLarge") "__init__") dT ["self", "what", "most"] (spIniD K (He.ga K "TooLarge") ["what", "most"])) :
    FnOk P w K mg base (L2.CX P w) 4 f fd ["self", "traits", "inside"] (spInit K) := by
  refine F.ok scP (fun vs H Q E h => ?_) (fun cdv A outer s H vs Q E hr h => ?_)
  · obtain ⟨a, C, dx, nl, t, xs, ds, rfl, _⟩ := h
    rfl
  · obtain ⟨a, C, dx, nl, t, xs, ds, rfl, ha, cl, no, hn, hx64, hi, qT, q⟩ := h
    obtain ⟨td, hd⟩ := T.F.depth
    refine ⟨_, pss_cons (ps_set (i := 3) scP.nd rfl (Or.inl rfl) (pe_callBK (cr_maxD rfl (Nat.lt_of_le_of_lt (Nat.add_le_add_left (by decide) _) hr.units)) (by rfl) tMax (by decide +kernel)
        (pa_cons (pe_lc (own := [("step", 4), ("part", 5)]) (g := gTup K 2 (gCons (gName 4) (gCons (gName 5) gNil))) (tt := tYes) rfl scP.nd (pi_tup (pv 2)) (blkOk_by (N := NP) (sc := defScope (sM i_Part j_Part___init__)) (by decide +kernel))
          (fun _ _ _ _ _ => pg_tup rfl (pgs_cons (pg_name (i := 4) scP.nd rfl (Or.inl rfl)) (pgs_cons (pg_name (i := 5) scP.nd rfl (Or.inl rfl)) pgs_nil))) (fun _ _ _ _ _ => pts_nil)
          (fun _ _ _ _ _ => pe_op op_add (pe_callTy call_int1 (by rfl) tInt (by decide +kernel) (pa_cons (show PE _ _ (tFld K (tVar 5) "depth") from pe_fld (pv 5) (by rfl)) pa_nil)) pe_int)) pa_nil) (pk_cons pe_int pk_nil)))
      (pss_cons (ps_if (pt_cmpR op_gt (pv 3) (ClX.pe_cval (pe_glob (v := .ref (gP K)) (by rfl) gPart rfl)) (nomark _))
        (pss_one (ps_raise rfl (takes_of rfl rfl rfl rfl) (pmk_oex TTL.ox TTL.iC TTL.tI GTL (hr.mono (by decide)) (bI_TooLarge FTL) .nil pass0 (by rfl) gTL (pa_cons pe_str (pa_cons (ClX.pe_cval (pe_glob (v := .ref (gP K)) (by rfl) gPart rfl)) pa_nil))))) pss_nil)
      (pss_cons (ps_fld (pv 0) (pv 1) rfl) (pss_cons (ps_fld (pv 0) (pv 2) rfl) (pss_one (ps_fld (pv 0) (pv 3) rfl))))), ?_⟩
    have hlen := hi.1
    refine ⟨_, rfl, nl, rfl, ⟨xs, hn⟩, fun D hD => ?_⟩
    have SD : Same H (upd H D (.lst [])) := same_upd hD
    refine lc_tup (K := K) (a := nl) (xs := xs) (fun i H' => H' = upd H D (.lst ((ds.take i).map fun d => .int (d + 1)))) rfl (fun i H' hi' e => ?_) (fun i x H' hx e => ?_) ?_
    · rw [e]; exact same_seqT (same_upd hD) hn
    · obtain ⟨q0, y, s0, p, rfl, hq, hdi, hp⟩ := hi.2 i x hx
      have SH : Same H H' := e ▸ same_upd hD
      obtain ⟨dy, ty, vy, more, hy⟩ := (hp.same SH).ins
      have hdl : i < ds.length := (List.getElem?_eq_some_iff.mp hdi).1
      refine ⟨q0, _, rfl, same_seqT SH hq, rfl, ?_⟩
      refine ⟨_, _, rfl, _, _, rfl, rfl, rfl, ?_⟩
      dsimp only [tYes]
      rw [if_pos rfl]
      refine ⟨_, rfl, y, _, dy, _, .int p.dep, rfl, hy, T.cl p, T.no p (by decide), rfl, .inl ⟨p.dep, rfl, _, _, rfl, rfl, ?_⟩⟩
      refine ⟨_, e ▸ upd_same, ?_, ?_⟩
      · rw [List.length_map, List.length_take, sizeLine_eq]; omega
      · rw [e, List.take_succ, hdi, List.map_append]
        funext b
        by_cases hb : b = D
        · rw [hb, upd_same, upd_same]; rfl
        · rw [upd_ne hb, upd_ne hb, upd_ne hb]
    · intro H' e
      rw [show xs.length = ds.length from hlen, List.take_length] at e
      have eD : H' D = some (.lst ((ds.map (· + 1)).map V.int)) := by rw [e, upd_same, List.map_map]; rfl
      have SH : Same H H' := e ▸ same_upd hD
      refine ⟨D, 0, ds.map (· + 1), rfl, rfl, SqL.of eD, ?_⟩
      rw [maxI_R _ hi.ds0]
      generalize hm : maxR (ds.map (· + 1)) = m at q qT
      have ha1 := SH _ _ ha
      refine ⟨_, rfl, gP K, .type "type", .int 4, .int 4 td, rfl, T.F.offP.rd, ⟨hd, ⟨td, rfl⟩⟩, _, _, rfl, rfl, _, rfl, ?_⟩
      refine ite2 (fun h1 => ?_) (fun h1 => ?_)
      · have h1' : 4 < m := of_decide_eq_true h1
        refine ⟨gP K, .type "type", .int 4, .int 4 td, rfl, T.F.offP.rd, ⟨hd, ⟨td, rfl⟩⟩, (by show 2 ≤ 1000; decide), fun b hb => flies2_of ((qT h1').same SH) b hb⟩
      · have h1' : m ≤ 4 := Int.not_lt.mp (fun z => h1 (decide_eq_true z))
        refine ⟨_, rfl, _, rfl, a, C, dx, [], rfl, ha1, cl, no _ (by decide), (by decide), ?_⟩
        refine ⟨_, rfl, _, rfl, a, C, dx, _, rfl, upd_same, cl, no _ (by decide), (by show 1 < 1000; decide), ?_⟩
        refine ⟨_, rfl, _, rfl, a, C, dx, _, rfl, upd_same, cl, no _ (by decide), (by show 2 < 1000; decide), ?_⟩
        refine q h1' _ (fun b o nb z => ?_) (by rw [upd_same]; rfl)
        rw [upd_ne nb, upd_ne nb, upd_ne nb]
        exact SH _ _ z
end
end H1
set_option Elab.async false
set_option linter.all false
set_option maxRecDepth 100000
set_option maxHeartbeats 4000000
/-! Defs, classes, errors with what calls of them want, in one package each; the parts' constructors. -/
namespace Ev
open PySem PySem.Spec PyProof.Rows L2
section
variable (P : Program) (w : World) (K : PySem.W.Frag) (mg : Str → Option Value) (base : Heap)
/-- a def of the text under its own name -/
structure DefP (CX : CXT) (k : Nat) (x : Str) (ps : List Str) (sp : Sp) : Prop where
  ex : ∃ (f : Addr) (fd : FuncData), mg x = some (.ref f) ∧ PySem.W.keepIn K (.ref f) = true ∧ FnOk P w K mg base CX k f fd ps sp ∧ Binds K fd ps []
/-- .. whose body asks repr -/
structure DefG (CX : CXT) (k : Nat) (x : Str) (sp : Sp) : Prop where
  ex : ∃ (f : Addr), mg x = some (.ref f) ∧ PySem.W.keepIn K (.ref f) = true ∧ FnG P w K mg base CX k f sp
/-- a class, its __init__'s promise with these defaults behind -/
structure DefC (CX : CXT) (k : Nat) (x : Str) (ps : List Str) (sp : Sp) (dvs : List V) : Prop where
  ex : ∃ (fd : FuncData) (ds : List Value), mg x = some (.ref (He.ga K x)) ∧ Mk K (He.ga K x) (He.ma K (He.ga K x) "__init__") ∧ FnOk P w K mg base CX k (He.ma K (He.ga K x) "__init__") fd ps sp ∧ Binds K fd ps ds ∧ Vals dvs ds
/-- .. called by keywords alone -/
structure DefK (CX : CXT) (k : Nat) (x : Str) (ps ks : List Str) (sp : Sp) (gV : List V → List V → List V) : Prop where
  ex : ∃ (fd : FuncData) (g : List Value → List Value → List Value), mg x = some (.ref (He.ga K x)) ∧ Mk K (He.ga K x) (He.ma K (He.ga K x) "__init__") ∧ FnOk P w K mg base CX k (He.ma K (He.ga K x) "__init__") fd ps sp ∧ KBn K fd ps 1 ks g gV
/-- an error's class -/
structure DefE (x : Str) (fs : List Str) : Prop where
  ex : ∃ (fd : FuncData), mg x = some (.ref (He.ga K x)) ∧ ErrT K (He.ga K x) (He.ma K (He.ga K x) "__init__") ("told" :: fs) ∧
    FnOk P w K mg base CX0 2 (He.ma K (He.ga K x) "__init__") fd ("self" :: fs) (spIniD K (He.ga K x) fs) ∧ Binds K fd ("self" :: fs) []
end
section
variable {X : Cx} {CX : CXT} {k : Nat} {x : Str} {ps ks fs : List Str} {sp : Sp} {dvs : List V} {E : XK} {e : Expr} {es : List Expr} {kws : List Keyword} {t tk : TA} {p pos : Pos} {gV : List V → List V → List V}
theorem pe_def (D : DefP X.prog X.w X.K X.mg X.base CX k x ps sp) (hr : Room k X.A) (hg : Gl X x) (hx : Passes CX X E) (ha : PA X (e :: es) t) (hdb : (x == ("__debug__" : Str)) = false := by decide)
    (he : starEach (e :: es) X.env = (false, eval e X.env) :: starEach es X.env := by rfl) (hpl : (backTo pos (starEach es X.env)).any (·.1) = false := by rfl) : PE X (.Call (.Name x p) (e :: es) [] pos) (tCall sp [] E t) := by
  obtain ⟨f, fd, m, kp, F, b⟩ := D.ex
  exact pe_call F hr hg m kp b .nil hx ha hdb he hpl
theorem pe_defG (D : DefG X.prog X.w X.K X.mg X.base CX k x sp) (hgd : X.A.guards = some []) (hr : Room k X.A) (hg : Gl X x) (hx : Passes CX X E) (ha : PA X (e :: es) t) (hdb : (x == ("__debug__" : Str)) = false := by decide)
    (he : starEach (e :: es) X.env = (false, eval e X.env) :: starEach es X.env := by rfl) (hpl : (backTo pos (starEach es X.env)).any (·.1) = false := by rfl) : PE X (.Call (.Name x p) (e :: es) [] pos) (tCall sp [] E t) := by
  obtain ⟨f, m, kp, F⟩ := D.ex
  exact pe_callG F hgd hr hg m kp hx ha hdb he hpl
theorem pe_new (D : DefC X.prog X.w X.K X.mg X.base CX k x ps sp dvs) (hr : Room (k + 1) X.A) (hg : Gl X x) (hx : Passes CX X E) (ha : PA X (e :: es) t) (hdb : (x == ("__debug__" : Str)) = false := by decide)
    (he : starEach (e :: es) X.env = (false, eval e X.env) :: starEach es X.env := by rfl) (hpl : (backTo pos (starEach es X.env)).any (·.1) = false := by rfl) : PE X (.Call (.Name x p) (e :: es) [] pos) (tMake (He.ga X.K x) sp dvs E t) := by
  obtain ⟨fd, ds, m, M, F, b, v⟩ := D.ex
  exact pe_make M F hr hg m b v hx ha hdb he hpl
theorem pe_newN (D : DefC X.prog X.w X.K X.mg X.base CX k x ps sp dvs) (hr : Room (k + 1) X.A) (hg : Gl X x) (hx : Passes CX X E) (hdb : (x == ("__debug__" : Str)) = false := by decide) :
    PE X (.Call (.Name x p) [] [] pos) (tMake (He.ga X.K x) sp dvs E tNil) := by
  obtain ⟨fd, ds, m, M, F, b, v⟩ := D.ex
  exact pe_make0 M F hr hg m b v hx hdb
theorem pe_newK (D : DefK X.prog X.w X.K X.mg X.base CX k x ps ks sp gV) (hr : Room (k + 1) X.A) (hg : Gl X x) (hx : Passes CX X E) (hkw : PK X kws tk)
    (hall : (backToKw pos (keywordEach kws X.env)).all (·.1.isSome) = true := by rfl) (hks : (backToKw pos (keywordEach kws X.env)).filterMap (·.1) = ks := by rfl) (hdb : (x == ("__debug__" : Str)) = false := by decide)
    (hpl : ((backTo pos (starEach [] X.env)).any (·.1) || (backToKw pos (keywordEach kws X.env)).any (·.1.isNone)) = false := by rfl) :
    PE X (.Call (.Name x p) [] kws pos) (tMakeK (He.ga X.K x) 0 ks.length sp gV E tNil tk) := by
  obtain ⟨fd, g, m, M, F, b⟩ := D.ex
  exact pe_makeK0 M F hr hg m b hx hkw hall hks hdb hpl
theorem pmk_err (D : DefE X.prog X.w X.K X.mg X.base x fs) (hr : Room 3 X.A) (hg : Gl X x) (ha : PA X (e :: es) t) (hdb : (x == ("__debug__" : Str)) = false := by decide)
    (he : starEach (e :: es) X.env = (false, eval e X.env) :: starEach es X.env := by rfl) (hpl : (backTo pos (starEach es X.env)).any (·.1) = false := by rfl) :
    PMk X (.Call (.Name x p) (e :: es) [] pos) (tMkO (He.ga X.K x) (spIniD X.K (He.ga X.K x) fs) [] t) := by
  obtain ⟨fd, m, T, F, b⟩ := D.ex
  exact pmk_oex T.ox T.iC T.tI F hr b .nil pass0 hg m ha hdb he hpl
end
/-! ### types of parts; what is a part -/
variable {K : PySem.W.Frag} {H H' : Hp}
theorem PAt.ty (T : PCls K) {x : Addr} {p : Pt} (h : PAt K H x p) : TyX K H (.ref x) (.ref (He.ga K p.cn)) := by
  obtain ⟨dx, ti, tv, more, e⟩ := h.ins
  have o := T.F.one _ p.cnP
  exact .base (.ins e (T.cl p) o.ca T.F.cn T.F.ct o.cm)
/-- a value, and whether it is a part -/
inductive PartV (K : PySem.W.Frag) (H : Hp) : V → Bool → Prop where
  | part {x : Addr} {p : Pt} : PAt K H x p → PartV K H (.ref x) true
  | any {v : V} : Any K H v → PartV K H v false
theorem PartV.same (S : Same H H') {v : V} {b : Bool} (h : PartV K H v b) : PartV K H' v b := by
  cases h with
  | part h => exact .part (h.same S)
  | any h => exact .any (h.same S)
theorem Any.tyF {v : V} (h : Any K H v) : ∃ n : String, TyX K H v (.type n) ∧ n ∈ flatT := by
  obtain ⟨n, a, b, _⟩ := h.ty
  refine ⟨n, a, ?_⟩
  simp only [List.mem_cons, List.not_mem_nil, or_false] at b
  rcases b with rfl | rfl | rfl | rfl | rfl | rfl | rfl <;> decide
theorem PartV.ty (T : PCls K) {v : V} {b : Bool} (h : PartV K H v b) : ∃ t, TyX K H v t ∧ PySem.W.kitAny K t (six K) = some b := by
  cases h with
  | part h => exact ⟨_, h.ty T, (T.F.one _ (Pt.cnP _)).isP⟩
  | any h => obtain ⟨n, a, b⟩ := h.tyF; exact ⟨_, a, T.F.flatP n b⟩
theorem PartV.app {A' : Hp} {v : V} {b : Bool} (h : PartV K H v b) (S : Same H A') : PartV K A' v b := h.same S
def spIsP (K : PySem.W.Frag) : Sp := fun vs H Q _ => ∃ (v : V) (b : Bool), vs = [v] ∧ PartV K H v b ∧ ∀ H', Same H H' → Q (.bl b) H'
/-- the six classes as values -/
theorem six_paired : Paired ClsV (allP.map fun x => V.ref (He.ga K x)) (six K) := by
  unfold six allP
  exact .cons (.own _) (.cons (.own _) (.cons (.own _) (.cons (.own _) (.cons (.own _) (.cons (.own _) .nil)))))
end Ev
namespace H1
open PySem PySem.Spec PyProof.Rows L2 Ev
section
variable {P : Program} {w : World} {K : PySem.W.Frag} {mg : Str → Option Value} {base : Heap} {f : Addr} {fd : FuncData}
theorem scIP : FnScope ["value"] ["value"] (defScope (top i_is_part)) := ⟨rfl, rfl, rfl, by decide +kernel, rfl, by decide +kernel, by decide +kernel⟩
theorem ok_ispart (F : FnL K "is_part" i_is_part f fd) (T : PCls K) (tIsi : mg "isinstance" = none) (gC : ∀ x ∈ allP, mg x = some (.ref (He.ga K x))) : FnOk P w K mg base CX0 1 f fd ["value"] (spIsP K) := by
  refine F.ok scIP (fun vs H Q E h => ?_) (fun cdv A outer s H vs Q E hr h => ?_)
  · obtain ⟨v, b, rfl, _⟩ := h
    rfl
  · obtain ⟨v, b, rfl, hv, q⟩ := h
    have g (x : Str) (hx : x ∈ allP) := gC x hx
    refine ⟨_, PSs.nox (pss_one (ps_ret (pe_callB call_isiT (by rfl) tIsi (by decide +kernel) (pa_cons (pv 0) (pa_cons (pe_tup
      (pa_cons (pe_glob (v := .ref (He.ga K "Kind")) (by rfl) (g "Kind" (by decide)) rfl) (pa_cons (pe_glob (v := .ref (He.ga K "Byte")) (by rfl) (g "Byte" (by decide)) rfl) (pa_cons (pe_glob (v := .ref (He.ga K "Use")) (by rfl) (g "Use" (by decide)) rfl)
      (pa_cons (pe_glob (v := .ref (He.ga K "Row")) (by rfl) (g "Row" (by decide)) rfl) (pa_cons (pe_glob (v := .ref (He.ga K "Record")) (by rfl) (g "Record" (by decide)) rfl) (pa_cons (pe_glob (v := .ref (He.ga K "Overlay")) (by rfl) (g "Overlay" (by decide)) rfl) pa_nil))))))) pa_nil))))), ?_⟩
    refine ⟨_, rfl, (by show 6 ≤ sizeLine; decide), fun tp htp => ?_⟩
    have S := same_upd (o := HO.tup (allP.map fun x => V.ref (He.ga K x))) htp
    obtain ⟨t, ty, kt⟩ := (hv.same S).ty T
    exact ⟨_, tp, _, t, _, b, rfl, upd_same, six_paired, ty, kt, q _ S⟩
/-! ### what the constructors lean on -/
structure CT (P : Program) (w : World) (K : PySem.W.Frag) (mg : Str → Option Value) (base : Heap) : Prop where
  T : PCls K
  N : DefP P w K mg base CX0 1 "is_name" ["value"] (spName K)
  W : DefP P w K mg base CX0 1 "is_whole" ["value", "least", "most"] (spWhole K)
  gMost : ∃ t, mg "MOST_TIMES" = some (.int 8 t)
  BN : DefE P w K mg base "BadName" ["name"]
  BT : DefE P w K mg base "BadTimes" ["value"]
  BP : DefE P w K mg base "BadParts" ["at"]
  gPart : mg "Part" = some (.ref (gP K))
  gGroup : mg "Group" = some (.ref (He.ga K "Group"))
  gC : ∀ x ∈ allP, mg x = some (.ref (He.ga K x))
  I2 : FnR P w K mg base (L2.CX P w) 4 (He.ma K (gP K) "__init__") (fun vs => spInit K (vs ++ [.ref (dfT 1 K)]))
  I1 : FnR P w K mg base (L2.CX P w) 4 (He.ma K (gP K) "__init__") (fun vs => spInit K (vs ++ [.ref (dfT 0 K), .ref (dfT 1 K)]))
  I3 : FnR P w K mg base (L2.CX P w) 4 (He.ma K (gP K) "__init__") (spInit K)
end
end H1
set_option Elab.async false
set_option linter.all false
set_option maxRecDepth 100000
set_option maxHeartbeats 4000000
/-! Kinds, uses, the byte, rows. -/
namespace Ev
open PySem PySem.Spec PyProof.Rows L2
def spKindP (K : PySem.W.Frag) : Sp := fun vs H Q E => ∃ (x dx : Addr) (nm tm : V), vs = [.ref x, nm, tm] ∧ H x = some (.ins (He.ga K "Kind") dx []) ∧ Any K H nm ∧ Any K H tm ∧
  (nameB nm = false → Flies K "BadName" "name" nm H E) ∧ (nameB nm = true → wholeB tm 1 8 = false → Flies K "BadTimes" "value" tm H E) ∧
  (∀ (s : Str) (t : Nat), nm = .str s → tm = .int t → nameB nm = true → 1 ≤ t → t ≤ 8 → ∀ H', But x H H' → PAt K H' x (.kind s t) → Q .non H')
def spUseP (K : PySem.W.Frag) : Sp := fun vs H Q E => ∃ (x dx : Addr) (nm : V), vs = [.ref x, nm] ∧ H x = some (.ins (He.ga K "Use") dx []) ∧ Any K H nm ∧
  (nameB nm = false → Flies K "BadName" "name" nm H E) ∧ (∀ s, nm = .str s → nameB nm = true → ∀ H', But x H H' → PAt K H' x (.use s) → Q .non H')
def spByteP (K : PySem.W.Frag) : Sp := fun vs H Q _ => ∃ (x dx : Addr), vs = [.ref x] ∧ H x = some (.ins (He.ga K "Byte") dx []) ∧ ∀ H', But x H H' → PAt K H' x .byte → Q .non H'
def spRow (K : PySem.W.Frag) : Sp := fun vs H Q E => ∃ (x dx : Addr) (pv nv : V) (b : Bool), vs = [.ref x, pv, nv] ∧ H x = some (.ins (He.ga K "Row") dx []) ∧ PartV K H pv b ∧ Any K H nv ∧
  (b = false → Flies K "BadParts" "at" (.int 0) H E) ∧ (b = true → wholeB nv 1 64 = false → Flies K "BadTimes" "value" nv H E) ∧
  (∀ (y : Addr) (p : Pt) (n : Nat), pv = .ref y → PAt K H y p → nv = .int n → 1 ≤ n → n ≤ 64 → (4 < p.dep + 1 → Flies2 K "TooLarge" "what" "most" (.str "depth") (.int 4) H E) ∧
    (p.dep + 1 ≤ 4 → ∀ H', But x H H' → PAt K H' x (.row p n) → Q .non H'))
theorem whole_is {v : V} {lo hi : Int} (h : wholeB v lo hi = true) (h0 : 0 ≤ lo) : ∃ n : Nat, v = .int n ∧ lo ≤ n ∧ n ≤ hi := by
  cases v with
  | int i =>
    simp only [wholeB, Bool.and_eq_true, decide_eq_true_eq] at h
    exact ⟨i.toNat, by rw [Int.toNat_of_nonneg (by omega)], by omega, by omega⟩
  | _ => simp [wholeB] at h
theorem name_str {v : V} (h : nameB v = true) : ∃ s, v = .str s := by
  cases v with
  | str s => exact ⟨s, rfl⟩
  | _ => simp [nameB] at h
theorem log2_le {i : Int} (h0 : 0 ≤ i) (h1 : i < 10 ^ 6) : i.natAbs.log2 < 1920 := by
  have h2 : i.natAbs < 2 ^ 20 := by omega
  by_cases n0 : i.natAbs = 0
  · rw [n0]; decide
  · exact Nat.lt_trans ((Nat.log2_lt n0).mpr h2) (by decide)
theorem But.upd {H H1 : Hp} {x : Addr} {o : HO} (B : But x H H1) : But x H (L2.upd H1 x o) := fun b u nb z => by rw [upd_ne nb]; exact B b u nb z
theorem insAt_nil {K : PySem.W.Frag} {H : Hp} : InsAt K H [] [] := ⟨rfl, fun i x h => by cases h⟩
end Ev
namespace H1
open PySem PySem.Spec PyProof.Rows L2 Ev
section
variable {P : Program} {w : World} {K : PySem.W.Frag} {mg : Str → Option Value} {base : Heap} {f : Addr} {fd : FuncData}
abbrev dflK : List V := [.int 1]
theorem scK : FnScope ["self", "name", "times"] ["self", "name", "times"] (defScope (sM i_Kind j_Kind___init__)) := ⟨rfl, rfl, rfl, by decide +kernel, rfl, by decide +kernel, by decide +kernel⟩
theorem ok_kindP (F : FnM K "Kind" "__init__" i_Kind j_Kind___init__ dflK f fd) (C : CT P w K mg base) : FnOk P w K mg base (L2.CX P w) 5 f fd ["self", "name", "times"] (spKindP K) := by
  obtain ⟨tM, gM⟩ := C.gMost
  refine F.ok scK (fun vs H Q E h => ?_) (fun cdv A outer s H vs Q E hr h => ?_)
  · obtain ⟨x, dx, nm, tm, rfl, _⟩ := h
    rfl
  · obtain ⟨x, dx, nm, tm, rfl, hx, an, at_, q1, q2, q3⟩ := h
    refine ⟨_, pss_cons (ps_if (pt_not (pt_val (pe_def (E := E0) C.N (hr.mono (by decide)) (by rfl) pass0 (pa_cons (pv 1) pa_nil))))
        (pss_one (ps_raise rfl (takes_of rfl rfl rfl rfl) (pmk_err C.BN (hr.mono (by decide)) (by rfl) (pa_cons (pv 1) pa_nil)))) pss_nil)
      (pss_cons (ps_if (pt_not (pt_val (pe_def (E := E0) C.W (hr.mono (by decide)) (by rfl) pass0 (pa_cons (pv 2) (pa_cons pe_int (pa_cons (pe_glob (v := .int 8) (by rfl) gM ⟨_, rfl⟩) pa_nil))))))
        (pss_one (ps_raise rfl (takes_of rfl rfl rfl rfl) (pmk_err C.BT (hr.mono (by decide)) (by rfl) (pa_cons (pv 2) pa_nil)))) pss_nil)
      (pss_cons (ps_expr (pe_off (E := fun _ _ _ => False) (pe_glob (v := .ref (gP K)) (by rfl) C.gPart rfl) C.T.F.offP.rd C.T.F.offP.at_ C.I2 hr C.T.F.offP.kp passN
          (pa_cons (pv 0) (pa_cons (pe_tup (pa_cons (pv 1) (pa_cons (pv 2) pa_nil))) pa_nil))))
      (pss_cons (ps_fld (pv 0) (pv 1) rfl) (pss_one (ps_fld (pv 0) (pv 2) rfl))))), ?_⟩
    refine ⟨_, rfl, nm, rfl, an, fun H1 S1 => ⟨_, rfl, ?_⟩⟩
    refine ite2 (fun h1 => ?_) (fun h1 => ?_)
    · have e1 : nameB nm = false := by simpa using h1
      exact ⟨_, rfl, (by show 1 ≤ 1000; decide), fun a ha => flies_of ((q1 e1).same S1) a ha⟩
    · have e1 : nameB nm = true := by simpa using h1
      refine ⟨_, rfl, tm, 1, 8, rfl, at_.same S1, ⟨_, rfl, ?_⟩⟩
      refine ite2 (fun h2 => ?_) (fun h2 => ?_)
      · have e2 : wholeB tm 1 8 = false := by simpa using h2
        exact ⟨_, rfl, (by show 1 ≤ 1000; decide), fun a ha => flies_of ((q2 e1 e2).same S1) a ha⟩
      · have e2 : wholeB tm 1 8 = true := by simpa using h2
        obtain ⟨s, rfl⟩ := name_str e1
        obtain ⟨t, rfl, t1, t2⟩ := whole_is e2 (by decide)
        have hx1 := S1 _ _ hx
        refine ⟨rfl, _, rfl, _, rfl, _, rfl, (by show 2 ≤ sizeLine; decide), fun tr htr => ?_⟩
        have xt : x ≠ tr := ne_of_none hx1 htr
        refine ⟨x, _, dx, dfT 1 K, .ref tr, [], [], rfl, (by rw [upd_ne xt]; exact hx1), C.T.kind.cl, fun f hf => C.T.kind.no f (List.mem_append_left _ hf), nilT_ok (C.T.F.nil 1 (by decide)) _, by decide, insAt_nil, fun z => absurd z (by decide), fun _ H2 B2 e => ?_⟩
        refine ⟨_, rfl, _, rfl, x, _, dx, _, rfl, e, C.T.kind.cl, C.T.kind.no _ (by decide), (by show 3 < 1000; decide), ?_⟩
        refine ⟨_, rfl, _, rfl, x, _, dx, _, rfl, upd_same, C.T.kind.cl, C.T.kind.no _ (by decide), (by show 4 < 1000; decide), ?_⟩
        refine q3 s t rfl rfl e1 (by omega) (by omega) _ (fun b o nb z => ?_) (.kind (tr := tr) e1 (by omega) (by omega) (by rw [upd_same]; rfl) ?_)
        · have z1 := S1 _ _ z
          rw [upd_ne nb, upd_ne nb]
          exact B2 b o nb (by rw [upd_ne (ne_of_none z1 htr)]; exact z1)
        · rw [upd_ne (Ne.symm xt), upd_ne (Ne.symm xt)]
          exact B2 _ _ (Ne.symm xt) upd_same
theorem scU : FnScope ["self", "name"] ["self", "name"] (defScope (sM i_Use j_Use___init__)) := ⟨rfl, rfl, rfl, by decide +kernel, rfl, by decide +kernel, by decide +kernel⟩
theorem ok_useP (F : FnM K "Use" "__init__" i_Use j_Use___init__ [] f fd) (C : CT P w K mg base) : FnOk P w K mg base (L2.CX P w) 5 f fd ["self", "name"] (spUseP K) := by
  refine F.ok scU (fun vs H Q E h => ?_) (fun cdv A outer s H vs Q E hr h => ?_)
  · obtain ⟨x, dx, nm, rfl, _⟩ := h
    rfl
  · obtain ⟨x, dx, nm, rfl, hx, an, q1, q3⟩ := h
    refine ⟨_, pss_cons (ps_if (pt_not (pt_val (pe_def (E := E0) C.N (hr.mono (by decide)) (by rfl) pass0 (pa_cons (pv 1) pa_nil))))
        (pss_one (ps_raise rfl (takes_of rfl rfl rfl rfl) (pmk_err C.BN (hr.mono (by decide)) (by rfl) (pa_cons (pv 1) pa_nil)))) pss_nil)
      (pss_cons (ps_expr (pe_off (E := fun _ _ _ => False) (pe_glob (v := .ref (gP K)) (by rfl) C.gPart rfl) C.T.F.offP.rd C.T.F.offP.at_ C.I2 hr C.T.F.offP.kp passN
          (pa_cons (pv 0) (pa_cons (pe_tup (pa_cons (pv 1) pa_nil)) pa_nil))))
      (pss_one (ps_fld (pv 0) (pv 1) rfl))), ?_⟩
    refine ⟨_, rfl, nm, rfl, an, fun H1 S1 => ⟨_, rfl, ?_⟩⟩
    refine ite2 (fun h1 => ?_) (fun h1 => ?_)
    · have e1 : nameB nm = false := by simpa using h1
      exact ⟨_, rfl, (by show 1 ≤ 1000; decide), fun a ha => flies_of ((q1 e1).same S1) a ha⟩
    · have e1 : nameB nm = true := by simpa using h1
      obtain ⟨s, rfl⟩ := name_str e1
      have hx1 := S1 _ _ hx
      refine ⟨rfl, _, rfl, _, rfl, (by show 1 ≤ sizeLine; decide), fun tr htr => ?_⟩
      have xt : x ≠ tr := ne_of_none hx1 htr
      refine ⟨x, _, dx, dfT 1 K, .ref tr, [], [], rfl, (by rw [upd_ne xt]; exact hx1), C.T.use.cl, fun f hf => C.T.use.no f (List.mem_append_left _ hf), nilT_ok (C.T.F.nil 1 (by decide)) _, by decide, insAt_nil, fun z => absurd z (by decide), fun _ H2 B2 e => ?_⟩
      refine ⟨_, rfl, _, rfl, x, _, dx, _, rfl, e, C.T.use.cl, C.T.use.no _ (by decide), (by show 3 < 1000; decide), ?_⟩
      refine q3 s rfl e1 _ (fun b o nb z => ?_) (.use (tr := tr) e1 (by rw [upd_same]; rfl) ?_)
      · have z1 := S1 _ _ z
        rw [upd_ne nb]
        exact B2 b o nb (by rw [upd_ne (ne_of_none z1 htr)]; exact z1)
      · rw [upd_ne (Ne.symm xt)]
        exact B2 _ _ (Ne.symm xt) upd_same
theorem scB : FnScope ["self"] ["self"] (defScope (sM i_Byte j_Byte___init__)) := ⟨rfl, rfl, rfl, by decide +kernel, rfl, by decide +kernel, by decide +kernel⟩
theorem ok_byteP (F : FnM K "Byte" "__init__" i_Byte j_Byte___init__ [] f fd) (C : CT P w K mg base) : FnOk P w K mg base CX0 5 f fd ["self"] (spByteP K) := by
  refine F.ok scB (fun vs H Q E h => ?_) (fun cdv A outer s H vs Q E hr h => ?_)
  · obtain ⟨x, dx, rfl, _⟩ := h
    rfl
  · obtain ⟨x, dx, rfl, hx, q⟩ := h
    refine ⟨_, PSs.nox (pss_one (ps_expr (pe_off (E := fun _ _ _ => False) (pe_glob (v := .ref (gP K)) (by rfl) C.gPart rfl) C.T.F.offP.rd C.T.F.offP.at_ C.I1 hr C.T.F.offP.kp passN (pa_cons (pv 0) pa_nil)))), ?_⟩
    exact ⟨rfl, _, rfl, x, _, dx, dfT 1 K, .ref (dfT 0 K), [], [], rfl, hx, C.T.byte.cl, C.T.byte.no, nilT_ok (C.T.F.nil 1 (by decide)) _, by decide, insAt_nil, fun z => absurd z (by decide), fun _ H2 B2 e => q H2 B2 (.byte e)⟩
abbrev NW : List Str := ["self", "part", "n", "k"]
theorem scW : FnScope NW ["self", "part", "n"] (defScope (sM i_Row j_Row___init__)) := ⟨rfl, rfl, rfl, by decide +kernel, rfl, by decide +kernel, by decide +kernel⟩
theorem ok_rowP (F : FnM K "Row" "__init__" i_Row j_Row___init__ [] f fd) (C : CT P w K mg base) (D : DefP P w K mg base CX0 1 "is_part" ["value"] (spIsP K)) (tRng : mg "range" = none) (tStr : mg "str" = none) (tTup : mg "tuple" = none) :
    FnOk P w K mg base (L2.CX P w) 5 f fd ["self", "part", "n"] (spRow K) := by
  obtain ⟨tM, gM⟩ := C.T.F.mostW
  have gR := C.gC "Row" (by decide)
  have oR := C.T.F.one "Row" (by decide)
  refine F.ok scW (fun vs H Q E h => ?_) (fun cdv A outer s H vs Q E hr h => ?_)
  · obtain ⟨x, dx, pv, nv, b, rfl, _⟩ := h
    rfl
  · obtain ⟨x, dx, pv0, nv, b, rfl, hx, hp, an, q1, q2, q3⟩ := h
    refine ⟨_, pss_cons (ps_if (pt_not (pt_val (pe_def (E := E0) D (hr.mono (by decide)) (by rfl) pass0 (pa_cons (pv 1) pa_nil))))
        (pss_one (ps_raise rfl (takes_of rfl rfl rfl rfl) (pmk_err C.BP (hr.mono (by decide)) (by rfl) (pa_cons pe_int pa_nil)))) pss_nil)
      (pss_cons (ps_if (pt_not (pt_val (pe_def (E := E0) C.W (hr.mono (by decide)) (by rfl) pass0 (pa_cons (pv 2) (pa_cons pe_int (pa_cons (ClX.pe_cval (pe_glob (v := .ref (He.ga K "Row")) (by rfl) gR rfl)) pa_nil))))))
        (pss_one (ps_raise rfl (takes_of rfl rfl rfl rfl) (pmk_err C.BT (hr.mono (by decide)) (by rfl) (pa_cons (pv 2) pa_nil)))) pss_nil)
      (pss_cons (ps_expr (pe_off (E := E) (pe_glob (v := .ref (He.ga K "Group")) (by rfl) C.gGroup rfl) C.T.F.offG.rd C.T.F.offG.at_ C.I3 hr C.T.F.offG.kp (passes_call (takes_of rfl rfl rfl rfl) (fun _ _ _ _ h => h))
          (pa_cons (pv 0) (pa_cons (pe_tup (pa_cons (pv 1) (pa_cons (pv 2) pa_nil))) (pa_cons (pe_callTy call_tuple_of (by rfl) tTup (by decide +kernel) (pa_cons
            (pe_lc (own := [("k", 3)]) (g := gName 3) (tt := tYes) rfl scW.nd (pi_range1 rfl tRng (pa_cons (pv 2) pa_nil)) (blkOk_by (N := NW) (sc := defScope (sM i_Row j_Row___init__)) (by decide +kernel))
              (fun _ _ _ _ _ => pg_name (i := 3) scW.nd rfl (Or.inl rfl)) (fun _ _ _ _ _ => pts_nil)
              (fun _ _ _ _ _ => pe_tup (pa_cons (pe_callTy call_str_int (by rfl) tStr (by decide +kernel) (pa_cons (pv 3) pa_nil)) (pa_cons (pv 1) pa_nil)))) pa_nil)) pa_nil)))))
      (pss_cons (ps_fld (pv 0) (pv 1) rfl) (pss_one (ps_fld (pv 0) (pv 2) rfl))))), ?_⟩
    refine ⟨_, rfl, pv0, b, rfl, hp, fun H1 S1 => ⟨_, rfl, ?_⟩⟩
    refine ite2 (fun h1 => ?_) (fun h1 => ?_)
    · have e1 : b = false := by simpa using h1
      exact ⟨(by show 1 ≤ 1000; decide), fun a ha => flies_of ((q1 e1).same S1) a ha⟩
    · have e1 : b = true := by simpa using h1
      refine ⟨_, rfl, _, _, .int 64, .int 64 tM, rfl, oR.crd, ⟨gM, ⟨tM, rfl⟩⟩, nv, 1, 64, rfl, an.same S1, ⟨_, rfl, ?_⟩⟩
      refine ite2 (fun h2 => ?_) (fun h2 => ?_)
      · have e2 : wholeB nv 1 64 = false := by simpa using h2
        exact ⟨_, rfl, (by show 1 ≤ 1000; decide), fun a ha => flies_of ((q2 e1 e2).same S1) a ha⟩
      · have e2 : wholeB nv 1 64 = true := by simpa using h2
        obtain ⟨n, rfl, n1, n2⟩ := whole_is e2 (by decide)
        subst e1
        cases hp with
        | @part y p hp =>
          obtain ⟨qT, q⟩ := q3 y p n rfl hp rfl (by omega) (by omega)
          have hx1 := S1 _ _ hx
          refine ⟨rfl, _, rfl, _, rfl, _, rfl, (by show 2 ≤ sizeLine; decide), fun tr htr => ?_⟩
          have Str := same_upd (o := HO.tup [V.ref y, V.int n]) htr
          generalize eH : upd H1 tr _ = H2 at *
          have htr2 : H2 tr = some (.tup [V.ref y, V.int n]) := eH ▸ upd_same
          have S2 := same_tr S1 Str
          refine ⟨_, rfl, n, rfl, by omega, by omega, fun D hD => ?_⟩
          have SD := same_upd (o := HO.lst []) hD
          refine lc_range (lo := 0) (n := n) (fun i H' => Same H2 H' ∧ ∃ ws : List V, H' D = some (.lst ws) ∧ ws.length = i ∧ ∀ j, j < i → ∃ q, ws[j]? = some (.ref q) ∧ q ≠ D ∧ H' q = some (.tup [.str (toString (j : Int)), .ref y])) ⟨SD, [], upd_same, rfl, fun j hj => absurd hj (Nat.not_lt_zero _)⟩ ?_ ?_
          · rintro i H3 hi ⟨S3, ws, eD, hl, hw⟩
            refine ⟨rfl, ?_⟩
            dsimp only [tYes]
            rw [if_pos rfl]
            have eI : (0 : Int) + (i : Int) = (i : Int) := Int.zero_add _
            refine ⟨_, rfl, _, rfl, log2_le (by omega) (by omega), _, rfl, (by show 2 ≤ sizeLine; decide), fun q0 hq0 => ?_⟩
            have Sq := same_upd (o := HO.tup [V.str (toString ((0 : Int) + (i : Int))), V.ref y]) hq0
            have qD : q0 ≠ D := Ne.symm (ne_of_none eD hq0)
            refine ⟨ws, by rw [upd_ne (Ne.symm qD)]; exact eD, by rw [hl, sizeLine_eq]; omega, fun c o z => ?_, ws ++ [.ref q0], upd_same, by rw [List.length_append, hl]; rfl, fun j hj => ?_⟩
            · have zD : c ≠ D := ne_of_none z hD
              rw [upd_ne zD]
              exact Sq _ _ (S3 _ _ z)
            · by_cases hji : j < i
              · obtain ⟨q, a, b, c⟩ := hw j hji
                refine ⟨q, by rw [List.getElem?_append_left (by omega)]; exact a, b, ?_⟩
                rw [upd_ne b]
                exact Sq _ _ c
              · have : j = i := by omega
                subst this
                refine ⟨q0, by rw [List.getElem?_append_right (by omega), hl]; simp, qD, ?_⟩
                rw [upd_ne qD, upd_same, eI]
          · rintro H3 ⟨S3, ws, eD, hl, hw⟩
            refine ⟨D, ws, rfl, .inl ⟨SqL.of eD, fun ti hti => ?_⟩⟩
            have St := same_upd (o := HO.tup ws) hti
            generalize eH4 : upd H3 ti _ = H4 at *
            have hti4 : H4 ti = some (.tup ws) := eH4 ▸ upd_same
            have S24 := same_tr S3 St
            have S4 := same_tr S2 S24
            have hp4 := hp.same S4
            have rin : RowIn K H4 ti y n := ⟨ws, SqT.of hti4, hl, fun i hi => let ⟨q, a, _, c⟩ := hw i hi; ⟨q, a, SqT.of (St _ _ c)⟩⟩
            have ia : InsAt K H4 ws (List.replicate n p.dep) := by
              refine ⟨by rw [hl, List.length_replicate], fun i v hv => ?_⟩
              have hi : i < n := by rw [← hl]; exact (List.getElem?_eq_some_iff.mp hv).1
              obtain ⟨q, a, _, c⟩ := hw i hi
              rw [a] at hv
              cases hv
              exact ⟨q, y, _, p, rfl, SqT.of (St _ _ c), by rw [List.getElem?_replicate, if_pos hi], hp4⟩
            have em : maxR ((List.replicate n p.dep).map (· + 1)) = p.dep + 1 := by
              have := p.dep0
              have : ∀ m : Nat, maxR ((List.replicate (m + 1) p.dep).map (· + 1)) = p.dep + 1 := by
                intro m
                induction m with
                | zero => show max (p.dep + 1) 0 = p.dep + 1; omega
                | succ m ih =>
                  rw [List.replicate_succ, List.map_cons]
                  show max (p.dep + 1) (maxR _) = p.dep + 1
                  rw [ih]
                  omega
              obtain ⟨m, rfl⟩ : ∃ m, n = m + 1 := ⟨n - 1, by omega⟩
              exact this m
            have hx4 := S4 _ _ hx
            refine ⟨x, _, dx, ti, .ref tr, ws, _, rfl, hx4, C.T.row.cl, fun f hf => C.T.row.no f (List.mem_append_left _ hf), SqT.of hti4, by omega, ia, fun z => ?_, fun z H5 B5 e => ?_⟩
            · rw [em] at z
              exact (qT z).same S4
            · rw [em] at z e
              refine ⟨_, rfl, _, rfl, x, _, dx, _, rfl, e, C.T.row.cl, C.T.row.no _ (by decide), (by show 3 < 1000; decide), ?_⟩
              refine ⟨_, rfl, _, rfl, x, _, dx, _, rfl, upd_same, C.T.row.cl, C.T.row.no _ (by decide), (by show 4 < 1000; decide), ?_⟩
              refine q z _ (But.tr (But.of S4) (But.upd (But.upd B5))) ?_
              exact .row (tr := tr) (ti := ti) (y := y) (by omega) (by omega) (by rw [upd_same]; rfl) (Keep.but hx4 (fun z => z) (But.upd (But.upd B5)) _ _ (S24 _ _ htr2) trivial) (rin.keep (Keep.but hx4 (fun z => z) (But.upd (But.upd B5)))) (hp4.keep (Keep.but hx4 (fun z => z) (But.upd (But.upd B5))))
end
end H1
set_option Elab.async false
set_option linter.all false
set_option maxRecDepth 100000
set_option maxHeartbeats 4000000
/-! Records and overlays of right pairs. -/
namespace Ev
open PySem PySem.Spec PyProof.Rows L2
def Pts.nms : Pts → List Str
  | .nil => []
  | .cons s _ r => s :: r.nms
theorem Pts.nms_len : ∀ ps : Pts, ps.nms.length = ps.len
  | .nil => rfl
  | .cons _ _ r => congrArg Nat.succ r.nms_len
theorem PAll.at_ {K : PySem.W.Frag} {H : Hp} : ∀ {vs : List V} {ps : Pts}, PAll K H vs ps → ∀ (i : Nat) (v : V), vs[i]? = some v → ∃ (q y : Addr) (s : Str) (p : Pt), v = .ref q ∧ nameB (.str s) = true ∧ SqT K H q [.str s, V.ref y] ∧ PAt K H y p ∧ ps.nms[i]? = some s
  | _, _, .nil, i, v, h => by cases h
  | _, _, .cons (q := q) (y := y) (s := s) (p := p) a b c d, i, v, h => by
    cases i with
    | zero => cases h; exact ⟨q, y, s, p, rfl, a, SqT.of b, c, rfl⟩
    | succ i => exact d.at_ i v h
abbrev tru (ns : List Str) : List (Key × V) := ns.map fun s => ((Sum.inr s : Key), V.bl true)
theorem valV_tru : ∀ (ns : List Str) (s : Str), valV (tru ns) (Sum.inr s : Key) = if s ∈ ns then some (V.bl true) else none
  | [], s => rfl
  | n :: ns, s => by
    have ih := valV_tru ns s
    unfold valV tru at ih ⊢
    rw [List.map_cons, List.find?_cons]
    by_cases h : n = s
    · subst h; simp
    · have h1 : ¬ (Sum.inr n : Key) = Sum.inr s := fun z => h (Sum.inr.inj z)
      rw [decide_eq_false h1]
      simp only
      rw [ih]
      have h2 : ¬ s = n := fun z => h z.symm
      by_cases h3 : s ∈ ns <;> simp [h2, h3]
theorem putK_tru {ns : List Str} {s : Str} (h : s ∉ ns) : putK (tru ns) (Sum.inr s : Key) (V.bl true) = tru (ns ++ [s]) := by
  unfold putK
  have : ((tru ns).any fun kv => decide (kv.1 = (Sum.inr s : Key))) = false := by
    rw [List.any_eq_false]
    intro kv hkv
    obtain ⟨n, hn, rfl⟩ := List.mem_map.mp hkv
    have : ¬ (Sum.inr n : Key) = Sum.inr s := fun z => h (Sum.inr.inj z ▸ hn)
    simp [this]
  rw [this, if_neg Bool.false_ne_true]
  simp [tru]
theorem kit_lt {K : PySem.W.Frag} : PySem.W.kitAny K (.type "list") [.type "list", .type "tuple"] = some true := kitAny_cons (b := true) (kit_ty (by decide +kernel)) (fun h => by cases h) (fun _ => rfl)
/-- a pair of a name and a part is a pair -/
def spPairT (K : PySem.W.Frag) : Sp := fun vs H Q _ => ∃ (q y : Addr) (s : Str) (p : Pt), vs = [.ref q] ∧ SqT K H q [.str s, V.ref y] ∧ nameB (.str s) = true ∧ PAt K H y p ∧ ∀ H', Same H H' → Q (.bl true) H'
def spChkT (K : PySem.W.Frag) : Sp := fun vs H Q _ => ∃ (l : Addr) (m : Nat) (xs : List V) (ps : Pts), vs = [.ref l, .int m] ∧ H l = some (.lst xs) ∧ PAll K H xs ps ∧ ps.nms.Nodup ∧ 1 ≤ ps.len ∧ ps.len ≤ m ∧ m ≤ 8 ∧
  ∀ t H', H t = none → Same H H' → H' t = some (.tup xs) → Q (.ref t) H'
def mostG (ov : Bool) : Nat := if ov then 4 else 8
def spGrp (ov : Bool) (K : PySem.W.Frag) : Sp := fun vs H Q E => ∃ (x dx l : Addr) (xs : List V) (ps : Pts), vs = [.ref x, .ref l] ∧ H x = some (.ins (He.ga K (cnG ov)) dx []) ∧ H l = some (.lst xs) ∧ PAll K H xs ps ∧ ps.nms.Nodup ∧
  1 ≤ ps.len ∧ ps.len ≤ mostG ov ∧ (4 < ps.dep → Flies2 K "TooLarge" "what" "most" (.str "depth") (.int 4) H E) ∧ (ps.dep ≤ 4 → ∀ H', But x H H' → PAt K H' x (.grp ov ps) → Q .non H')
theorem sqt_ty {K : PySem.W.Frag} {H : Hp} {a : Addr} {xs : List V} (h : SqT K H a xs) : TyX K H (.ref a) (.type "tuple") := by
  rcases h with (e | ⟨o, e⟩) | ⟨o, its, n, lk, c, r⟩
  · exact .base (.tup e)
  · exact .fTuple e
  · exact .kTuple lk c
theorem Any.isStr {K : PySem.W.Frag} {H : Hp} {s : Str} (h : nameB (.str s) = true) : Any K H (.str s) := by
  refine .str s ?_
  simp only [nameB, Bool.and_eq_true, decide_eq_true_eq] at h
  have := h.2.2.1
  rw [sizeLine_eq]; omega
end Ev
namespace H1
open PySem PySem.Spec PyProof.Rows L2 Ev
section
variable {P : Program} {w : World} {K : PySem.W.Frag} {mg : Str → Option Value} {base : Heap} {f : Addr} {fd : FuncData}
theorem scPr : FnScope ["value"] ["value"] (defScope (top i_is_pair)) := ⟨rfl, rfl, rfl, by decide +kernel, rfl, by decide +kernel, by decide +kernel⟩
theorem ok_pairT (F : FnL K "is_pair" i_is_pair f fd) (N : DefP P w K mg base CX0 1 "is_name" ["value"] (spName K)) (D : DefP P w K mg base CX0 1 "is_part" ["value"] (spIsP K)) (tIsi : mg "isinstance" = none) (tTup : mg "tuple" = none) (tLen : mg "len" = none) :
    FnOk P w K mg base CX0 2 f fd ["value"] (spPairT K) := by
  refine F.ok scPr (fun vs H Q E h => ?_) (fun cdv A outer s H vs Q E hr h => ?_)
  · obtain ⟨q, y, s, p, rfl, _⟩ := h
    rfl
  · obtain ⟨q0, y, s, p, rfl, hq, hs, hp, q⟩ := h
    refine ⟨_, PSs.nox (pss_one (ps_ret (pe_and (pe_callB call_isi (by rfl) tIsi (by decide +kernel) (pa_cons (pv 0) (pa_cons (pe_bltn (v := .ty "tuple") (by rfl) tTup (by decide +kernel) rfl) pa_nil)))
      (pe_and (pe_cmpR op_eq (pe_callB call_len_seq (by rfl) tLen PySem.boot_len (pa_cons (pv 0) pa_nil)) pe_int (nomark _))
      (pe_and (pe_def (E := E0) N hr (by rfl) pass0 (pa_cons (pe_ix ix_tup (pv 0) pe_int (fun _ _ => rfl)) pa_nil))
      (pe_one (pe_def (E := E0) D hr (by rfl) pass0 (pa_cons (pe_ix ix_tup (pv 0) pe_int (fun _ _ => rfl)) pa_nil)))))))), ?_⟩
    refine ⟨_, rfl, _, .ty "tuple", .type "tuple", .type "tuple", true, rfl, .ty "tuple", sqt_ty hq, kit_ty (by decide +kernel), true, rfl, iteT ?_⟩
    refine ⟨_, rfl, q0, _, rfl, .inr hq, rfl, _, rfl, iteT ?_⟩
    refine ⟨_, rfl, q0, _, 0, _, rfl, rfl, hq, rfl, .str s, rfl, Any.isStr hs, fun H1 S1 => ⟨_, rfl, ?_⟩⟩
    rw [hs]
    refine iteT ⟨_, rfl, q0, _, 1, _, rfl, rfl, same_seqT S1 hq, rfl, .ref y, true, rfl, .part (hp.same S1), fun H2 S2 => q H2 (same_tr S1 S2)⟩
abbrev NC : List Str := ["pairs", "most", "found", "at", "pair"]
theorem scC : FnScope NC ["pairs", "most"] (defScope (top i_checked_pairs)) := ⟨rfl, rfl, rfl, by decide +kernel, rfl, by decide +kernel, by decide +kernel⟩
theorem ok_chkT (F : FnL K "checked_pairs" i_checked_pairs f fd) (D : DefP P w K mg base CX0 2 "is_pair" ["value"] (spPairT K)) (tIsi : mg "isinstance" = none) (tTup : mg "tuple" = none) (tLst : mg "list" = none) (tLen : mg "len" = none) (tEn : mg "enumerate" = none) :
    FnOk P w K mg base CX0 3 f fd ["pairs", "most"] (spChkT K) := by
  refine F.ok scC (fun vs H Q E h => ?_) (fun cdv A outer s H vs Q E hr h => ?_)
  · obtain ⟨l, m, xs, ps, rfl, _⟩ := h
    rfl
  · obtain ⟨l, m, xs, ps, rfl, hl, hp, nd, l1, l2, m8, q⟩ := h
    have hu := hu_of hr
    refine ⟨_, PSs.nox (pss_cons (ps_if (PW.pt (pw_or (pt_not (pt_val (pe_callB call_isiT (by rfl) tIsi (by decide +kernel) (pa_cons (pv 0) (pa_cons (pe_tup (pa_cons (pe_bltn (v := .ty "list") (by rfl) tLst (by decide +kernel) rfl) (pa_cons (pe_bltn (v := .ty "tuple") (by rfl) tTup (by decide +kernel) rfl) pa_nil))) pa_nil)))))
        (pw_or1 (pt_not (pt_chain op_le op_le pe_int (pe_callB call_len_seq (by rfl) tLen PySem.boot_len (pa_cons (pv 0) pa_nil)) (pv 1)))))) (pss_one ps_never) pss_nil)
      (pss_cons (ps_set (i := 2) scC.nd rfl (Or.inl rfl) pe_dnewK)
      (pss_cons (ps_for PassesOwn.never rfl (pi_enum (by rfl) tEn (pa_cons (pv 0) pa_nil)) (pg_tup rfl (pgs_cons (pg_name (i := 3) scC.nd rfl (Or.inl rfl)) (pgs_cons (pg_name (i := 4) scC.nd rfl (Or.inl rfl)) pgs_nil)))
        (pss_cons (ps_if (PW.pt (pw_or (pt_not (pt_val (pe_def (E := E0) D hr (by rfl) pass0 (pa_cons (pv 4) pa_nil)))) (pw_or1 (pt_cmp (pc_din hu (pe_ix ix_tup (pv 4) pe_int (fun _ _ => rfl)) (pv 2)))))) (pss_one ps_never) pss_nil)
        (pss_one (ps_dput hu (pv 2) (pe_ix ix_tup (pv 4) pe_int (fun _ _ => rfl)) pe_bl rfl))))
      (pss_one (ps_ret (pe_callTy call_tuple_of (by rfl) tTup (by decide +kernel) (pa_cons (pv 0) pa_nil))))))), ?_⟩
    have lx := hp.len
    refine ⟨_, rfl, (by show 2 ≤ sizeLine; decide), fun tp htp => ?_⟩
    have St := same_upd (o := HO.tup [V.ty "list", V.ty "tuple"]) htp
    generalize e1 : upd H tp _ = H1 at *
    have htp1 : H1 tp = some (.tup [V.ty "list", V.ty "tuple"]) := e1 ▸ upd_same
    refine ⟨_, tp, _, .type "list", _, true, rfl, htp1, .cons (.ty "list") (.cons (.ty "tuple") .nil), .base (.lst (St _ _ hl)), kit_lt, true, rfl, iteF ?_⟩
    have hl1 := St _ _ hl
    refine ⟨_, rfl, l, _, rfl, .inl (SqL.of hl1), _, _, rfl, rfl, _, rfl, ?_⟩
    rw [if_pos (by rw [decide_eq_true (show (1 : Int) ≤ (xs.length : Nat) by omega)])]
    refine ⟨_, rfl, _, _, rfl, rfl, _, rfl, ?_⟩
    rw [decide_eq_true (show ((xs.length : Nat) : Int) ≤ (m : Nat) by omega)]
    refine iteF (fun d hd => ?_)
    have Sd := same_upd (o := HO.dK []) hd
    generalize e2 : upd H1 d _ = H2 at *
    have hd2 : H2 d = some (.dK (tru [])) := e2 ▸ upd_same
    have S2 : Same H H2 := same_tr St Sd
    refine ⟨_, rfl, l, xs, rfl, SqL.of (S2 _ _ hl), for_it (walk_enum (xs := xs)) (fun i σ H' => ∃ v3 v4, σ = [some (.ref l), some (.int m), some (.ref d), v3, v4] ∧ Same H H' ∧ H' d = some (.dK (tru (ps.nms.take i)))) ⟨_, _, rfl, S2, hd2⟩ ?_ ?_ ?_⟩
    · rintro i σ H' hi ⟨v3, v4, rfl, S', _⟩
      exact SqL.of (S' _ _ hl)
    · rintro i x σ H3 H4 hi ⟨v3, v4, rfl, S3, hd3⟩ ⟨T, x0, x1, rfl, hT, rfl, e0, ex⟩
      cases e0
      have ST := same_upd (o := HO.tup [V.int (i : Nat), x1]) hT
      obtain ⟨q0, y, s0, p0, rfl, hs0, hq0, hy0, hn0⟩ := hp.at_ i x1 ex
      have S4 := same_tr S3 ST
      have dT : d ≠ T := ne_of_none hd3 hT
      refine ⟨T, _, rfl, SqT.of upd_same, rfl, _, _, rfl, _, _, rfl, rfl, ?_⟩
      refine ⟨_, rfl, q0, y, s0, p0, rfl, same_seqT S4 hq0, hs0, hy0.same S4, fun H5 S5 => ⟨_, rfl, iteF ?_⟩⟩
      have S5' := same_tr S4 S5
      have hd5 : H5 d = some (.dK (tru (ps.nms.take i))) := S5 _ _ (ST _ _ hd3)
      have hni : i < ps.nms.length := (List.getElem?_eq_some_iff.mp hn0).1
      have hnn : s0 ∉ ps.nms.take i := by
        intro hm
        obtain ⟨j, hj, he⟩ := List.getElem_of_mem hm
        rw [List.length_take] at hj
        rw [List.getElem_take] at he
        have hj2 : j < ps.nms.length := by omega
        have e3 : ps.nms[i] = s0 := (List.getElem?_eq_some_iff.mp hn0).2
        have := (List.getElem_inj nd (h₀ := hj2) (h₁ := hni)).mp (he.trans e3.symm)
        omega
      have g0 : DGet H5 d (V.str s0) (valV (tru (ps.nms.take i)) (Sum.inr s0 : Key)) := DGet.k (k := (Sum.inr s0 : Key)) hd5
      rw [valV_tru, if_neg hnn] at g0
      refine ⟨_, rfl, q0, _, 0, _, rfl, rfl, same_seqT S5' hq0, rfl, _, rfl, d, _, rfl, g0, _, rfl, iteF ?_⟩
      have p1 : DPut H5 d (V.str s0) (V.bl true) (upd H5 d (.dK (putK (tru (ps.nms.take i)) (Sum.inr s0 : Key) (V.bl true)))) := DPut.k (k := (Sum.inr s0 : Key)) hd5 (by rw [List.length_map, List.length_take, sizeLine_eq]; have := ps.nms_len; omega)
      rw [putK_tru hnn] at p1
      refine ⟨_, rfl, _, rfl, q0, _, 0, _, rfl, rfl, same_seqT S5' hq0, rfl, d, _, rfl, p1, ?_⟩
      refine ⟨_, _, rfl, fun b o z => ?_, ?_⟩
      · have bd : b ≠ d := by
          intro e
          subst e
          have hd1 : H1 b = none := hd
          rw [St _ _ z] at hd1
          cases hd1
        rw [upd_ne bd]
        exact S5' _ _ z
      · rw [upd_same, List.take_succ, hn0]
        rfl
    · rintro σ H3 ⟨v3, v4, rfl, S3, hd3⟩
      refine ⟨_, rfl, l, xs, rfl, .inl ⟨SqL.of (S3 _ _ hl), fun t ht => q t _ (same_none S3 t ht) (fun b o z => ?_) upd_same⟩⟩
      have := S3 _ _ z
      rw [upd_ne (ne_of_none this ht)]
      exact this
theorem scRecord : FnScope ["self", "fields", "pairs"] ["self", "fields"] (defScope (sM i_Record j_Record___init__)) := ⟨rfl, rfl, rfl, by decide +kernel, rfl, by decide +kernel, by decide +kernel⟩
theorem ok_RecordP (F : FnM K "Record" "__init__" i_Record j_Record___init__ [] f fd) (C : CT P w K mg base) (D : DefP P w K mg base CX0 3 "checked_pairs" ["pairs", "most"] (spChkT K)) :
    FnOk P w K mg base (L2.CX P w) 5 f fd ["self", "fields"] (spGrp false K) := by
  obtain ⟨tM, gM⟩ := C.T.F.mostR
  have gR := C.gC "Record" (by decide)
  have oR := C.T.F.one "Record" (by decide)
  have pc := C.T.grpc false
  refine F.ok scRecord (fun vs H Q E h => ?_) (fun cdv A outer s H vs Q E hr h => ?_)
  · obtain ⟨x, dx, l, xs, ps, rfl, _⟩ := h
    rfl
  · obtain ⟨x, dx, l, xs, ps, rfl, hx, hl, hp, nd, l1, l2, qT, q⟩ := h
    refine ⟨_, pss_cons (ps_set (i := 2) scRecord.nd rfl (Or.inl rfl) (pe_def (E := fun _ _ _ => False) D (hr.mono (by decide)) (by rfl) pass0 (pa_cons (pv 1) (pa_cons (ClX.pe_cval (pe_glob (v := .ref (He.ga K "Record")) (by rfl) gR rfl)) pa_nil))))
      (pss_cons (ps_expr (pe_off (E := E) (pe_glob (v := .ref (He.ga K "Group")) (by rfl) C.gGroup rfl) C.T.F.offG.rd C.T.F.offG.at_ C.I3 hr C.T.F.offG.kp (passes_call (takes_of rfl rfl rfl rfl) (fun _ _ _ _ h => h))
          (pa_cons (pv 0) (pa_cons (pv 2) (pa_cons (pv 2) pa_nil)))))
      (pss_one (ps_fld (pv 0) (pv 2) rfl))), ?_⟩
    refine ⟨_, rfl, _, _, .int 8, .int 8 tM, rfl, oR.crd, ⟨gM, ⟨tM, rfl⟩⟩, l, 8, xs, ps, rfl, hl, hp, nd, l1, l2, by decide, fun t H1 nt S1 e1 => ?_⟩
    have hx1 := S1 _ _ hx
    have hp1 := hp.same S1
    have l8 : ps.len ≤ 8 := Nat.le_trans l2 (by decide)
    have k0 : ∀ (H5 : Hp) (o : HO), But x H1 H5 → But x H1 (upd H5 x o) := fun H5 o B5 => But.upd B5
    refine ⟨rfl, _, rfl, _, rfl, _, rfl, x, _, dx, t, .ref t, xs, _, rfl, hx1, pc.cl, fun f hf => pc.no f (List.mem_append_left _ hf), SqT.of e1, by rw [hp.len]; omega, hp1.ins, fun z => ?_, fun z H5 B5 e => ?_⟩
    · rw [← ps.dep_ds] at z
      exact (qT z).same S1
    · rw [← ps.dep_ds] at z e
      refine ⟨_, rfl, _, rfl, x, _, dx, _, rfl, e, pc.cl, pc.no _ (by decide), (by show 3 < 1000; decide), ?_⟩
      refine q z _ (But.tr (But.of S1) (k0 _ _ B5)) ?_
      exact .grp (ov := false) (tp := t) (vs := xs) l1 l8 (by rw [upd_same]; rfl) (Keep.but hx1 (fun z => z) (k0 _ _ B5) _ _ e1 trivial) (hp1.keep (Keep.but hx1 (fun z => z) (k0 _ _ B5)))
theorem scOverlay : FnScope ["self", "members", "pairs"] ["self", "members"] (defScope (sM i_Overlay j_Overlay___init__)) := ⟨rfl, rfl, rfl, by decide +kernel, rfl, by decide +kernel, by decide +kernel⟩
theorem ok_OverlayP (F : FnM K "Overlay" "__init__" i_Overlay j_Overlay___init__ [] f fd) (C : CT P w K mg base) (D : DefP P w K mg base CX0 3 "checked_pairs" ["pairs", "most"] (spChkT K)) :
    FnOk P w K mg base (L2.CX P w) 5 f fd ["self", "members"] (spGrp true K) := by
  obtain ⟨tM, gM⟩ := C.T.F.mostO
  have gR := C.gC "Overlay" (by decide)
  have oR := C.T.F.one "Overlay" (by decide)
  have pc := C.T.grpc true
  refine F.ok scOverlay (fun vs H Q E h => ?_) (fun cdv A outer s H vs Q E hr h => ?_)
  · obtain ⟨x, dx, l, xs, ps, rfl, _⟩ := h
    rfl
  · obtain ⟨x, dx, l, xs, ps, rfl, hx, hl, hp, nd, l1, l2, qT, q⟩ := h
    refine ⟨_, pss_cons (ps_set (i := 2) scOverlay.nd rfl (Or.inl rfl) (pe_def (E := fun _ _ _ => False) D (hr.mono (by decide)) (by rfl) pass0 (pa_cons (pv 1) (pa_cons (ClX.pe_cval (pe_glob (v := .ref (He.ga K "Overlay")) (by rfl) gR rfl)) pa_nil))))
      (pss_cons (ps_expr (pe_off (E := E) (pe_glob (v := .ref (He.ga K "Group")) (by rfl) C.gGroup rfl) C.T.F.offG.rd C.T.F.offG.at_ C.I3 hr C.T.F.offG.kp (passes_call (takes_of rfl rfl rfl rfl) (fun _ _ _ _ h => h))
          (pa_cons (pv 0) (pa_cons (pv 2) (pa_cons (pv 2) pa_nil)))))
      (pss_one (ps_fld (pv 0) (pv 2) rfl))), ?_⟩
    refine ⟨_, rfl, _, _, .int 4, .int 4 tM, rfl, oR.crd, ⟨gM, ⟨tM, rfl⟩⟩, l, 4, xs, ps, rfl, hl, hp, nd, l1, l2, by decide, fun t H1 nt S1 e1 => ?_⟩
    have hx1 := S1 _ _ hx
    have hp1 := hp.same S1
    have l8 : ps.len ≤ 8 := Nat.le_trans l2 (by decide)
    have k0 : ∀ (H5 : Hp) (o : HO), But x H1 H5 → But x H1 (upd H5 x o) := fun H5 o B5 => But.upd B5
    refine ⟨rfl, _, rfl, _, rfl, _, rfl, x, _, dx, t, .ref t, xs, _, rfl, hx1, pc.cl, fun f hf => pc.no f (List.mem_append_left _ hf), SqT.of e1, by rw [hp.len]; omega, hp1.ins, fun z => ?_, fun z H5 B5 e => ?_⟩
    · rw [← ps.dep_ds] at z
      exact (qT z).same S1
    · rw [← ps.dep_ds] at z e
      refine ⟨_, rfl, _, rfl, x, _, dx, _, rfl, e, pc.cl, pc.no _ (by decide), (by show 3 < 1000; decide), ?_⟩
      refine q z _ (But.tr (But.of S1) (k0 _ _ B5)) ?_
      exact .grp (ov := true) (tp := t) (vs := xs) l1 l8 (by rw [upd_same]; rfl) (Keep.but hx1 (fun z => z) (k0 _ _ B5) _ _ e1 trivial) (hp1.keep (Keep.but hx1 (fun z => z) (k0 _ _ B5)))
end
end H1
set_option Elab.async false
set_option linter.all false
set_option maxRecDepth 100000
set_option maxHeartbeats 4000000
/-! == of parts: their own __eq__, both answers, of any depth. -/
namespace Ev
open PySem PySem.Spec PyProof.Rows L2
mutual
def eqPt : Pt → Pt → Bool
  | .byte, .byte => true
  | .kind s t, .kind s' t' => decide (s = s') && decide (t = t')
  | .use s, .use s' => decide (s = s')
  | .row p n, .row q m => eqPt p q && decide (n = m)
  | .grp ov ps, .grp ov' qs => decide (ov = ov') && eqPs ps qs
  | _, _ => false
def eqPs : Pts → Pts → Bool
  | .nil, .nil => true
  | .cons s p r, .cons s' q r' => (decide (s = s') && eqPt p q) && eqPs r r'
  | _, _ => false
end
mutual
theorem eqPt_refl : ∀ p : Pt, eqPt p p = true
  | .byte => rfl
  | .kind s t => by simp [eqPt]
  | .use s => by simp [eqPt]
  | .row p n => by simp [eqPt, eqPt_refl p]
  | .grp ov ps => by simp [eqPt, eqPs_refl ps]
theorem eqPs_refl : ∀ ps : Pts, eqPs ps ps = true
  | .nil => rfl
  | .cons s p r => by simp [eqPs, eqPt_refl p, eqPs_refl r]
end
mutual
theorem eqPt_eq : ∀ p q : Pt, eqPt p q = true → p = q
  | .byte, .byte, _ => rfl
  | .kind s t, .kind s' t', h => by simp [eqPt] at h; rw [h.1, h.2]
  | .use s, .use s', h => by simp [eqPt] at h; rw [h]
  | .row p n, .row q m, h => by simp [eqPt] at h; rw [eqPt_eq p q h.1, h.2]
  | .grp ov ps, .grp ov' qs, h => by simp [eqPt] at h; rw [h.1, eqPs_eq ps qs h.2]
  | .byte, .kind _ _, h => by simp [eqPt] at h
  | .byte, .use _, h => by simp [eqPt] at h
  | .byte, .row _ _, h => by simp [eqPt] at h
  | .byte, .grp _ _, h => by simp [eqPt] at h
  | .kind _ _, .byte, h => by simp [eqPt] at h
  | .kind _ _, .use _, h => by simp [eqPt] at h
  | .kind _ _, .row _ _, h => by simp [eqPt] at h
  | .kind _ _, .grp _ _, h => by simp [eqPt] at h
  | .use _, .byte, h => by simp [eqPt] at h
  | .use _, .kind _ _, h => by simp [eqPt] at h
  | .use _, .row _ _, h => by simp [eqPt] at h
  | .use _, .grp _ _, h => by simp [eqPt] at h
  | .row _ _, .byte, h => by simp [eqPt] at h
  | .row _ _, .kind _ _, h => by simp [eqPt] at h
  | .row _ _, .use _, h => by simp [eqPt] at h
  | .row _ _, .grp _ _, h => by simp [eqPt] at h
  | .grp _ _, .byte, h => by simp [eqPt] at h
  | .grp _ _, .kind _ _, h => by simp [eqPt] at h
  | .grp _ _, .use _, h => by simp [eqPt] at h
  | .grp _ _, .row _ _, h => by simp [eqPt] at h
theorem eqPs_eq : ∀ ps qs : Pts, eqPs ps qs = true → ps = qs
  | .nil, .nil, _ => rfl
  | .cons s p r, .cons s' q r', h => by simp [eqPs] at h; rw [h.1.1, eqPt_eq p q h.1.2, eqPs_eq r r' h.2]
  | .nil, .cons _ _ _, h => by simp [eqPs] at h
  | .cons _ _ _, .nil, h => by simp [eqPs] at h
end
theorem eqPt_iff (p q : Pt) : eqPt p q = true ↔ p = q := ⟨eqPt_eq p q, fun h => h ▸ eqPt_refl p⟩
variable {K : PySem.W.Frag} {H H' : Hp}
theorem ins_fs {C C' dx dx' : Addr} {fs fs' : List (Str × V)} {o : Option HO} (h : o = some (HO.ins C dx fs)) (h' : o = some (HO.ins C' dx' fs')) : fs = fs' := by
  rw [h] at h'
  injection h' with h'
  injection h'
mutual
theorem PAt.inj : ∀ {x : Addr} {p q : Pt}, PAt K H x p → PAt K H x q → p = q
  | _, _, _, .byte h, h' => by
    cases h' with
    | byte h2 => rfl
    | kind a b c d e => have e := ins_fs h d; simp [PartFG] at e
    | use a b c => have e := ins_fs h b; simp [PartFG] at e
    | row a b c d e f => have e := ins_fs h c; simp [PartFG] at e
    | grp a b c d e => have e := ins_fs h c; simp [PartFG] at e
  | _, _, _, .kind a b c d e, h' => by
    cases h' with
    | byte h2 => have e := ins_fs d h2; simp [PartFG] at e
    | kind a2 b2 c2 d2 e2 => have e := ins_fs d d2; simp [PartFG] at e; rw [e.2.1, Int.ofNat.inj e.2.2]
    | use a b c => have e := ins_fs d b; simp [PartFG] at e
    | row a b c2 d2 e2 f => have e := ins_fs d c2; simp [PartFG] at e
    | grp a b c2 d2 e2 => have e := ins_fs d c2; simp [PartFG] at e
  | _, _, _, .use a b c, h' => by
    cases h' with
    | byte h2 => have e := ins_fs b h2; simp [PartFG] at e
    | kind a2 b2 c2 d2 e2 => have e := ins_fs b d2; simp [PartFG] at e
    | use a2 b2 c2 => have e := ins_fs b b2; simp [PartFG] at e; rw [e.2]
    | row a2 b2 c2 d2 e2 f => have e := ins_fs b c2; simp [PartFG] at e
    | @grp _ _ _ ov _ _ a2 b2 c2 d2 e2 => have e := ins_fs b c2; cases ov <;> simp [PartFG] at e
  | _, _, _, .row a b c d e0 f, h' => by
    cases h' with
    | byte h2 => have e := ins_fs c h2; simp [PartFG] at e
    | kind a2 b2 c2 d2 e2 => have e := ins_fs c d2; simp [PartFG] at e
    | use a2 b2 c2 => have e := ins_fs c b2; simp [PartFG] at e
    | row a2 b2 c2 d2 e2 f2 =>
      have e := ins_fs c c2
      simp [PartFG] at e
      obtain ⟨_, _, _, hy, hn⟩ := e
      subst hy
      rw [f.inj f2, Int.ofNat.inj hn]
    | grp a2 b2 c2 d2 e2 => have e := ins_fs c c2; simp [PartFG] at e
  | _, _, _, .grp (ov := ov) a b c d e0, h' => by
    cases h' with
    | byte h2 => have e := ins_fs c h2; simp [PartFG] at e
    | kind a2 b2 c2 d2 e2 => have e := ins_fs c d2; simp [PartFG] at e
    | use a2 b2 c2 => have e := ins_fs c b2; cases ov <;> simp [PartFG] at e
    | row a2 b2 c2 d2 e2 f2 => have e := ins_fs c c2; simp [PartFG] at e
    | @grp _ _ _ ov' _ _ a2 b2 c2 d2 e2 =>
      have e := ins_fs c c2
      have eo : ov = ov' := by
        cases ov <;> cases ov' <;> first | rfl | (simp [PartFG] at e; first | exact absurd e.2.1 (by decide) | exact absurd e.2.2 (by decide) | exact absurd e.2.2.1 (by decide) | exact absurd e.1 (by decide))
      subst eo
      simp [PartFG] at e
      obtain ⟨ht, _⟩ := e
      subst ht
      rw [d] at d2
      injection d2 with d2
      injection d2 with d2
      subst d2
      rw [e0.inj e2]
theorem PAll.inj : ∀ {vs : List V} {ps qs : Pts}, PAll K H vs ps → PAll K H vs qs → ps = qs
  | _, _, _, .nil, h => by cases h; rfl
  | _, _, _, .cons a b c d, h => by
    cases h with
    | cons a2 b2 c2 d2 =>
      rw [b] at b2
      simp at b2
      obtain ⟨h1, h2⟩ := b2
      subst h1 h2
      rw [c.inj c2, d.inj d2]
end
theorem eqPt_cn {p q : Pt} (h : p.cn ≠ q.cn) : eqPt p q = false := by
  cases e : eqPt p q with
  | false => rfl
  | true => exact absurd (congrArg Pt.cn (eqPt_eq p q e)) h
theorem reads_type {K : PySem.W.Frag} {C : Addr} {mc : Value} (h : PySem.W.readsIn K C mc = true) : PySem.W.typeIn K (.ref C) = some mc := by
  simp only [PySem.W.readsIn, Bool.and_eq_true, beq_iff_eq] at h
  exact h.1.1.1.2
def DPart (K : PySem.W.Frag) (d : Nat) : EqvB := fun x y H b => ∃ a c p q, x = .ref a ∧ y = .ref c ∧ PAt K H a p ∧ PAt K H c q ∧ p.dep < d ∧ b = eqPt p q
def DPair (K : PySem.W.Frag) (d : Nat) : EqvB := fun x y H b => ∃ a c s y1 p s' y2 q, x = .ref a ∧ y = .ref c ∧ H a = some (.tup [V.str s, V.ref y1]) ∧ H c = some (.tup [V.str s', V.ref y2]) ∧ PAt K H y1 p ∧ PAt K H y2 q ∧ p.dep < d ∧ b = (decide (s = s') && eqPt p q)
theorem monB_flat : MonB DFlatB := fun _ _ _ _ _ _ d => d
theorem monB_part {d : Nat} : MonB (DPart K d) := fun x y H H' b e h => by
  obtain ⟨a, c, p, q, hx, hy, h1, h2, h3, h4⟩ := h
  exact ⟨a, c, p, q, hx, hy, h1.same e, h2.same e, h3, h4⟩
theorem monB_pair {d : Nat} : MonB (DPair K d) := fun x y H H' b e h => by
  obtain ⟨a, c, s, y1, p, s', y2, q, hx, hy, h0, h0', h1, h2, h3, h4⟩ := h
  exact ⟨a, c, s, y1, p, s', y2, q, hx, hy, e _ _ h0, e _ _ h0', h1.same e, h2.same e, h3, h4⟩
theorem monB_or {D D' : EqvB} (h : MonB D) (h' : MonB D') : MonB (fun x y H b => D x y H b ∨ D' x y H b) := fun x y H H' b e d => d.elim (fun d => .inl (h x y H H' b e d)) fun d => .inr (h' x y H H' b e d)
/-- what another thing is: a part, or a value of a built-in type -/
inductive OtherP (K : PySem.W.Frag) (H : Hp) (p : Pt) : V → Bool → Prop where
  | part {z : Addr} {q : Pt} : PAt K H z q → OtherP K H p (.ref z) (eqPt p q)
  | flat {y : V} {n : String} : TyX K H y (.type n) → n ∈ flatT → OtherP K H p y false
def spEqP (d : Nat) (K : PySem.W.Frag) : Sp := fun vs H Q _ => ∃ (x : Addr) (y : V) (p : Pt) (b : Bool), vs = [.ref x, y] ∧ PAt K H x p ∧ p.dep < d ∧ OtherP K H p y b ∧ ∀ H', Same H H' → Q (.bl b) H'
section
variable {X : Cx} {n d : Nat}
/-- parts are compared by the def's promise -/
theorem rcJ_part (T : PCls X.K) (F : FnR X.prog X.w X.K X.mg X.base CX0 n (He.ma X.K (gP X.K) "__eq__") (spEqP d X.K)) : RcJ X n (DPart X.K d) :=
  rcJ_own.imp fun x y H b h => by
    obtain ⟨a, c, p, q, rfl, rfl, h1, h2, h3, rfl⟩ := h
    obtain ⟨dx, ti, tv, more, e⟩ := h1.ins
    have o := T.F.one _ p.cnP
    exact ⟨a, _, _, dx, _, _, _, rfl, e, h2.ty T, o.nf _ q.cnP, o.eq, T.F.eqF, F, a, _, p, _, rfl, h1, h3, .part h2, fun H' S => ⟨rfl, S⟩⟩
theorem eqJ_part (T : PCls X.K) (F : FnR X.prog X.w X.K X.mg X.base CX0 n (He.ma X.K (gP X.K) "__eq__") (spEqP d X.K)) : EqJ X n (DPart X.K d) :=
  (rcJ_part T F).eqJ fun x y H b h => by
    obtain ⟨a, c, p, q, rfl, rfl, h1, h2, h3, rfl⟩ := h
    exact ⟨a, c, rfl, rfl, fun e => by subst e; rw [h1.inj h2]; exact eqPt_refl q⟩
theorem prs_pair {H : Hp} {s s' : Str} {y1 y2 : Addr} {p q : Pt} (h1 : PAt X.K H y1 p) (h2 : PAt X.K H y2 q) (h3 : p.dep < d) :
    PrsB (fun x y H b => DFlatB x y H b ∨ DPart X.K d x y H b) H [V.str s, V.ref y1] [V.str s', V.ref y2] (decide (s = s') && eqPt p q) := by
  have e0 : eqV (.str s) (.str s') = decide (s = s') := by show (s == s') = decide (s = s'); rfl
  by_cases hs : s = s'
  · rw [decide_eq_true hs] at e0
    rw [decide_eq_true hs, Bool.true_and]
    refine .yes (.inl ⟨rfl, rfl, e0⟩) ?_
    cases e : eqPt p q with
    | true => exact .yes (.inr ⟨y1, y2, p, q, rfl, rfl, h1, h2, h3, e.symm⟩) .nil
    | false => exact .no (.inr ⟨y1, y2, p, q, rfl, rfl, h1, h2, h3, e.symm⟩)
  · rw [decide_eq_false hs] at e0
    rw [decide_eq_false hs, Bool.false_and]
    exact .no (.inl ⟨rfl, rfl, e0⟩)
theorem eqJ_pair (T : PCls X.K) (F : FnR X.prog X.w X.K X.mg X.base CX0 n (He.ma X.K (gP X.K) "__eq__") (spEqP d X.K)) : EqJ X (n + 1) (DPair X.K d) := by
  have r : RcJ X (n + 1) (DPair X.K d) := (rcJ_tup (monB_or monB_flat monB_part) ((eqJ_flat.mono (Nat.zero_le n)).or (eqJ_part T F))).imp fun x y H b h => by
    obtain ⟨a, c, s, y1, p, s', y2, q, rfl, rfl, h0, h0', h1, h2, h3, rfl⟩ := h
    exact ⟨a, c, _, _, rfl, rfl, SqT.of h0, SqT.of h0', prs_pair h1 h2 h3⟩
  exact r.eqJ fun x y H b h => by
    obtain ⟨a, c, s, y1, p, s', y2, q, rfl, rfl, h0, h0', h1, h2, h3, rfl⟩ := h
    refine ⟨a, c, rfl, rfl, fun e => ?_⟩
    subst e
    rw [h0] at h0'
    simp at h0'
    obtain ⟨e1, e2⟩ := h0'
    subst e1 e2
    rw [h1.inj h2, eqPt_refl]
    simp
/-- the traits of two parts of one class -/
def DTr (K : PySem.W.Frag) (d : Nat) : EqvB := DTupB K (fun x y H b => (DFlatB x y H b ∨ DPart K d x y H b) ∨ DPair K d x y H b)
theorem rcJ_tr (T : PCls X.K) (F : FnR X.prog X.w X.K X.mg X.base CX0 n (He.ma X.K (gP X.K) "__eq__") (spEqP d X.K)) : RcJ X (n + 2) (DTr X.K d) :=
  rcJ_tup (monB_or (monB_or monB_flat monB_part) monB_pair) ((((eqJ_flat.mono (Nat.zero_le n)).or (eqJ_part T F)).mono (Nat.le_succ n)).or (eqJ_pair T F))
def DTr0 (K : PySem.W.Frag) : EqvB := DTupB K DFlatB
theorem rcJ_tr0 : RcJ X 1 (DTr0 X.K) := rcJ_tup monB_flat eqJ_flat
end
theorem PAll.prs {X : Cx} {H : Hp} {d : Nat} : ∀ {vs ws : List V} {ps qs : Pts}, PAll X.K H vs ps → PAll X.K H ws qs → ps.dep < d + 1 →
    PrsB (fun x y H b => (DFlatB x y H b ∨ DPart X.K d x y H b) ∨ DPair X.K d x y H b) H vs ws (eqPs ps qs)
  | _, _, _, _, .nil, .nil, _ => .nil
  | _, _, _, _, .nil, .cons _ _ _ _, _ => .nilL _ _
  | _, _, _, _, .cons _ _ _ _, .nil, _ => .nilR _ _
  | _, _, _, _, .cons (q := a) (y := y1) (s := s) (p := p) (ps := ps) a1 b1 c1 d1, .cons (q := c) (y := y2) (s := s') (p := q) (ps := qs) a2 b2 c2 d2, h => by
    have hd : max (p.dep + 1) ps.dep < (d : Int) + 1 := h
    have hp : p.dep < (d : Int) := by omega
    have ih := d1.prs d2 (X := X) (d := d) (by omega)
    show PrsB _ H _ _ ((decide (s = s') && eqPt p q) && eqPs ps qs)
    cases e : (decide (s = s') && eqPt p q) with
    | true =>
      rw [Bool.true_and]
      exact .yes (.inr ⟨a, c, s, y1, p, s', y2, q, rfl, rfl, b1, b2, c1, c2, hp, e.symm⟩) ih
    | false =>
      rw [Bool.false_and]
      exact .no (.inr ⟨a, c, s, y1, p, s', y2, q, rfl, rfl, b1, b2, c1, c2, hp, e.symm⟩)
def Pt.tag : Pt → Nat
  | .byte => 0
  | .kind _ _ => 1
  | .use _ => 2
  | .row _ _ => 3
  | .grp ov _ => if ov then 5 else 4
def nmT : Nat → Str
  | 0 => "Byte"
  | 1 => "Kind"
  | 2 => "Use"
  | 3 => "Row"
  | 4 => "Record"
  | _ => "Overlay"
theorem nmT_inj : ∀ i < 6, ∀ j < 6, nmT i = nmT j → i = j := by decide
theorem Pt.cn_tag (p : Pt) : p.cn = nmT p.tag ∧ p.tag < 6 := by
  cases p with
  | grp ov ps => cases ov; exact ⟨rfl, (by decide : 4 < 6)⟩; exact ⟨rfl, (by decide : 5 < 6)⟩
  | byte => exact ⟨rfl, (by decide : 0 < 6)⟩
  | kind s t => exact ⟨rfl, (by decide : 1 < 6)⟩
  | use s => exact ⟨rfl, (by decide : 2 < 6)⟩
  | row p n => exact ⟨rfl, (by decide : 3 < 6)⟩
theorem cn_ne {p q : Pt} (e : p.cn = q.cn) : (∀ s t, p = .kind s t → ∃ s' t', q = .kind s' t') ∧ (p = .byte → q = .byte) ∧ (∀ s, p = .use s → ∃ s', q = .use s') ∧ (∀ r n, p = .row r n → ∃ r' n', q = .row r' n') ∧ (∀ ov ps, p = .grp ov ps → ∃ qs, q = .grp ov qs) := by
  have t : p.tag = q.tag := nmT_inj _ p.cn_tag.2 _ q.cn_tag.2 (by rw [← p.cn_tag.1, ← q.cn_tag.1]; exact e)
  cases p with
  | byte => cases q with
    | byte => simp
    | grp ov ps => cases ov <;> simp [Pt.tag] at t
    | _ => simp [Pt.tag] at t
  | kind s n => cases q with
    | kind s n => simp
    | grp ov ps => cases ov <;> simp [Pt.tag] at t
    | _ => simp [Pt.tag] at t
  | use s => cases q with
    | use s => simp
    | grp ov ps => cases ov <;> simp [Pt.tag] at t
    | _ => simp [Pt.tag] at t
  | row p n => cases q with
    | row p n => simp
    | grp ov ps => cases ov <;> simp [Pt.tag] at t
    | _ => simp [Pt.tag] at t
  | grp ov ps => cases q with
    | grp ov' ps => cases ov <;> cases ov' <;> simp [Pt.tag] at t ⊢
    | _ => cases ov <;> simp [Pt.tag] at t
/-- the traits' value, and their comparison -/
theorem PAt.tr (T : PCls K) {x z : Addr} {p q : Pt} {X : Cx} (hX : X.K = K) {d : Nat} (h : PAt K H x p) (h' : PAt K H z q) (e : p.cn = q.cn) (hd : p.dep < d + 1) : ∃ dx ti tv more dx' ti' tv' more',
    H x = some (.ins (He.ga K p.cn) dx (PartFG ti tv p.dep ++ more)) ∧ H z = some (.ins (He.ga K q.cn) dx' (PartFG ti' tv' q.dep ++ more')) ∧ DTr K d tv tv' H (eqPt p q) := by
  subst hX
  have c := cn_ne e
  cases h with
  | byte h1 =>
    have := c.2.1 rfl
    subst this
    cases h' with
    | byte h2 => exact ⟨_, _, _, [], _, _, _, [], h1, h2, _, _, [], [], rfl, rfl, nilT_ok (T.F.nil 0 (by decide)) H, nilT_ok (T.F.nil 0 (by decide)) H, .nil⟩
  | @kind _ dx tr s t a1 b1 c1 d1 e1 =>
    obtain ⟨s', t', rfl⟩ := c.1 s t rfl
    cases h' with
    | kind a2 b2 c2 d2 e2 =>
      refine ⟨_, _, _, _, _, _, _, _, d1, d2, _, _, _, _, rfl, rfl, SqT.of e1, SqT.of e2, ?_⟩
      show PrsB _ H _ _ (decide (s = s') && decide (t = t'))
      have e0 : eqV (.str s) (.str s') = decide (s = s') := by show (s == s') = decide (s = s'); rfl
      have e3 : eqV (.int t) (.int t') = decide (t = t') := by
        show ((t : Int) == (t' : Int)) = decide (t = t')
        by_cases h : t = t' <;> simp [h]
        omega
      by_cases hs : s = s'
      · rw [decide_eq_true hs] at e0
        rw [decide_eq_true hs, Bool.true_and]
        refine .yes (.inl (.inl ⟨rfl, rfl, e0⟩)) ?_
        cases e4 : decide (t = t') with
        | true => exact .yes (.inl (.inl ⟨rfl, rfl, e3.trans e4⟩)) .nil
        | false => exact .no (.inl (.inl ⟨rfl, rfl, e3.trans e4⟩))
      · rw [decide_eq_false hs] at e0
        rw [decide_eq_false hs, Bool.false_and]
        exact .no (.inl (.inl ⟨rfl, rfl, e0⟩))
  | @use _ dx tr s a1 b1 c1 =>
    obtain ⟨s', rfl⟩ := c.2.2.1 s rfl
    cases h' with
    | use a2 b2 c2 =>
      refine ⟨_, _, _, _, _, _, _, _, b1, b2, _, _, _, _, rfl, rfl, SqT.of c1, SqT.of c2, ?_⟩
      show PrsB _ H _ _ (decide (s = s'))
      have e0 : eqV (.str s) (.str s') = decide (s = s') := by show (s == s') = decide (s = s'); rfl
      cases e4 : decide (s = s') with
      | true => exact .yes (.inl (.inl ⟨rfl, rfl, e0.trans e4⟩)) .nil
      | false => exact .no (.inl (.inl ⟨rfl, rfl, e0.trans e4⟩))
  | @row _ dx tr ti y p n a1 b1 c1 d1 e1 f1 =>
    obtain ⟨q, m, rfl⟩ := c.2.2.2.1 p n rfl
    cases h' with
    | @row _ dx' tr' ti' y' _ _ a2 b2 c2 d2 e2 f2 =>
      refine ⟨_, _, _, _, _, _, _, _, c1, c2, _, _, _, _, rfl, rfl, SqT.of d1, SqT.of d2, ?_⟩
      show PrsB _ H _ _ (eqPt p q && decide (n = m))
      have hd' : p.dep + 1 < (d : Int) + 1 := hd
      have e3 : eqV (.int n) (.int m) = decide (n = m) := by
        show ((n : Int) == (m : Int)) = decide (n = m)
        by_cases h : n = m <;> simp [h]
        omega
      have dp : ∀ b, eqPt p q = b → DPart X.K d (.ref y) (.ref y') H b := fun b hb => ⟨y, y', p, q, rfl, rfl, f1, f2, by omega, hb.symm⟩
      cases e5 : eqPt p q with
      | true =>
        rw [Bool.true_and]
        refine .yes (.inl (.inr (dp _ e5))) ?_
        cases e4 : decide (n = m) with
        | true => exact .yes (.inl (.inl ⟨rfl, rfl, e3.trans e4⟩)) .nil
        | false => exact .no (.inl (.inl ⟨rfl, rfl, e3.trans e4⟩))
      | false =>
        rw [Bool.false_and]
        exact .no (.inl (.inr (dp _ e5)))
  | @grp _ dx tp ov vs ps a1 b1 c1 d1 e1 =>
    obtain ⟨qs, rfl⟩ := c.2.2.2.2 ov ps rfl
    cases h' with
    | grp a2 b2 c2 d2 e2 =>
      refine ⟨_, _, _, _, _, _, _, _, c1, c2, _, _, _, _, rfl, rfl, SqT.of d1, SqT.of d2, ?_⟩
      show PrsB _ H _ _ (decide (ov = ov) && eqPs ps qs)
      rw [decide_eq_true rfl, Bool.true_and]
      exact e1.prs e2 hd
end Ev
namespace H1
open PySem PySem.Spec PyProof.Rows L2 Ev
section
variable {P : Program} {w : World} {K : PySem.W.Frag} {mg : Str → Option Value} {base : Heap} {fd : FuncData}
theorem scE : FnScope ["self", "other"] ["self", "other"] (defScope (sM i_Part j_Part___eq__)) := ⟨rfl, rfl, rfl, by decide +kernel, rfl, by decide +kernel, by decide +kernel⟩
theorem bEq {f : Addr} (F : FnM K "Part" "__eq__" i_Part j_Part___eq__ [] f fd) : Binds K fd ["self", "other"] [] := FunD.bindsN F fun _ _ _ _ _ _ us hl => match us, hl with | [_, _], _ => rfl
/-- one more deep -/
theorem ok_eqS (F : FnM K "Part" "__eq__" i_Part j_Part___eq__ [] (He.ma K (gP K) "__eq__") fd) (T : PCls K) (tIsi : mg "isinstance" = none) (gPart : mg "Part" = some (.ref (gP K))) {n d e : Nat}
    (R : ∀ (A : Around) (outer : List Env) (s : Shared) (H : Hp) (E : XK) (cdv : Value), RcJ (cxOf CX0 P w K mg base ["self", "other"] ("Part" ++ "." ++ "__eq__") (defScope (sM i_Part j_Part___eq__)) (He.ma K (gP K) "__eq__") cdv A outer s H E).nox n (DTr K d)) (he : e ≤ d + 1) :
    FnOk P w K mg base CX0 (n + 1) (He.ma K (gP K) "__eq__") fd ["self", "other"] (spEqP e K) := by
  refine F.ok scE (fun vs H Q E h => ?_) (fun cdv A outer s H vs Q E hr h => ?_)
  · obtain ⟨x, y, p, b, rfl, _⟩ := h
    rfl
  · obtain ⟨x, y, p, b, rfl, hx, hd, ho, q⟩ := h
    refine ⟨_, PSs.nox (pss_cons (ps_if (pt_not (pt_val (pe_callB call_isi (by rfl) tIsi (by decide +kernel) (pa_cons (pv 1) (pa_cons (pe_glob (v := .ref (gP K)) (by rfl) gPart rfl) pa_nil))))) (pss_one (ps_ret pe_bl)) pss_nil)
      (pss_one (ps_ret (pe_and (pe_cmpR op_eq (pe_nameOf (pe_clsOf (pv 0))) (pe_nameOf (pe_clsOf (pv 1))) (nomark _))
        (pe_one (pe_cmpR (op_eqJ (R A outer s H E cdv) hr) (pe_fld (pv 0) (by rfl)) (pe_fld (pv 1) (by rfl)) (nomark _))))))), ?_⟩
    have o1 := T.F.one _ p.cnP
    cases ho with
    | @flat _ n ty hn =>
      exact ⟨_, rfl, _, .ref (gP K), .type n, .ref (gP K), false, rfl, .own _, ty, T.F.flat n hn, _, rfl, iteT (q H fun _ _ z => z)⟩
    | @part z q0 hz =>
      have o2 := T.F.one _ q0.cnP
      refine ⟨_, rfl, _, .ref (gP K), .ref (He.ga K q0.cn), .ref (gP K), true, rfl, .own _, hz.ty T, o2.kp, _, rfl, iteF ?_⟩
      obtain ⟨dx, ti, tv, more, e1⟩ := hx.ins
      obtain ⟨dx', ti', tv', more', e2⟩ := hz.ins
      refine ⟨_, rfl, x, _, dx, _, rfl, e1, T.F.clsC p.cnP (T.cl p), _, p.cn, rfl, o1.nm, o1.gn, o1.rd, reads_type o1.rd, ?_⟩
      refine ⟨_, rfl, z, _, dx', _, rfl, e2, T.F.clsC q0.cnP (T.cl q0), _, q0.cn, rfl, o2.nm, o2.gn, o2.rd, reads_type o2.rd, ?_⟩
      refine ⟨rfl, _, rfl, ?_⟩
      refine ite2 (fun h1 => ?_) (fun h1 => ?_)
      · have ec : p.cn = q0.cn := by have := of_decide_eq_true h1; injection this
        obtain ⟨dy, ti, tv, more, dy', ti', tv', more', f1, f2, D⟩ := hx.tr T (X := (cxOf CX0 P w K mg base ["self", "other"] ("Part" ++ "." ++ "__eq__") (defScope (sM i_Part j_Part___eq__)) (He.ma K (gP K) "__eq__") cdv A outer s H E).nox) rfl hz ec (d := d) (by omega)
        exact ⟨_, rfl, x, _, dy, _, tv, rfl, f1, T.cl p, T.no p (by decide), rfl, _, rfl, z, _, dy', _, tv', rfl, f2, T.cl q0, T.no q0 (by decide), rfl, _, D, q⟩
      · have ec : ¬ p.cn = q0.cn := fun z => h1 (by rw [z]; exact decide_eq_true rfl)
        rw [eqPt_cn ec] at q
        exact q H fun _ _ z => z
/-- of any depth -/
theorem ok_eqD (F : FnM K "Part" "__eq__" i_Part j_Part___eq__ [] (He.ma K (gP K) "__eq__") fd) (T : PCls K) (tIsi : mg "isinstance" = none) (gPart : mg "Part" = some (.ref (gP K))) :
    ∀ d : Nat, FnOk P w K mg base CX0 (3 * d + 1) (He.ma K (gP K) "__eq__") fd ["self", "other"] (spEqP d K) := by
  intro d
  induction d with
  | zero =>
    refine F.ok (k := 0) scE (fun vs H Q E h => ?_) (fun cdv A outer s H vs Q E hr h => ?_)
    · obtain ⟨x, y, p, b, rfl, _⟩ := h
      rfl
    · obtain ⟨x, y, p, b, rfl, hx, hd, _⟩ := h
      have := p.dep0
      exfalso
      omega
  | succ d ih =>
    have R0 : FnR P w K mg base CX0 (3 * d + 1) (He.ma K (gP K) "__eq__") (spEqP d K) := FnR.imp (ih.raw (bEq F) .nil) (fun vs H Q E h => by rw [List.append_nil]; exact h)
    exact ok_eqS (n := 3 * d + 3) (d := d) F T tIsi gPart (fun A outer s H E cdv => rcJ_tr T R0) (Nat.le_refl _)
theorem ok_eqR (F : FnM K "Part" "__eq__" i_Part j_Part___eq__ [] (He.ma K (gP K) "__eq__") fd) (T : PCls K) (tIsi : mg "isinstance" = none) (gPart : mg "Part" = some (.ref (gP K))) (d : Nat) :
    FnR P w K mg base CX0 (3 * d + 1) (He.ma K (gP K) "__eq__") (spEqP d K) :=
  FnR.imp ((ok_eqD (P := P) (w := w) (base := base) F T tIsi gPart d).raw (bEq F) .nil) (fun vs H Q E h => by rw [List.append_nil]; exact h)
end
end H1
set_option Elab.async false
set_option linter.all false
set_option maxRecDepth 100000
set_option maxHeartbeats 4000000
/-! str of parts. -/
namespace Ev
open PySem PySem.Spec PyProof.Rows L2
mutual
def Pt.txt : Pt → Str
  | .byte => "byte"
  | .kind s _ => s
  | .use s => Str.empty ++ "@" ++ s
  | .row p n => Str.empty ++ Str.ofString (toString (n : Int)) ++ "*" ++ p.txt
  | .grp ov ps => Txt.join "" [if ov then "(" else "{", Txt.join (if ov then "|" else " ") ps.txts, if ov then ")" else "}"]
def Pts.txts : Pts → List Str
  | .nil => []
  | .cons s p r => (Str.empty ++ s ++ ":" ++ p.txt) :: r.txts
end
theorem Pts.txts_len : ∀ ps : Pts, ps.txts.length = ps.len
  | .nil => rfl
  | .cons _ _ r => congrArg Nat.succ r.txts_len
def Bd : Nat → Nat
  | 0 => 0
  | d + 1 => 8 * (Bd d + 10) + 20
theorem app_len (a b : Str) : (a ++ b).length = a.length + b.length := by
  show (a.cps ++ b.cps).size = _
  rw [Array.size_append]; rfl
theorem empty_len : Str.empty.length = 0 := rfl
theorem joinL_len (S : List Nat) : ∀ ps : List (List Nat), (TL.joinL S ps).length ≤ (ps.map (·.length)).sum + ps.length * S.length
  | [] => by simp [TL.joinL]
  | [p] => by simp [TL.joinL]
  | p :: q :: r => by
    have ih := joinL_len S (q :: r)
    simp only [TL.joinL, List.length_append, List.map_cons, List.sum_cons, List.length_cons] at ih ⊢
    have : (r.length + 1 + 1) * S.length = (r.length + 1) * S.length + S.length := Nat.succ_mul _ _
    omega
theorem join_len (y : Str) (parts : List Str) : (Txt.join y parts).length ≤ (parts.map (·.length)).sum + parts.length * y.length := by
  rw [TL.join_eq]
  have h := joinL_len (TL.tl y) (parts.map TL.tl)
  rw [← TL.tl_join] at h
  rw [List.map_map, List.length_map] at h
  exact h
theorem name_len {s : Str} (h : nameB (.str s) = true) : s.length ≤ 8 := by
  simp only [nameB, Bool.and_eq_true, decide_eq_true_eq] at h
  exact h.2.2.1
theorem num_len {n : Nat} (h : n ≤ 64) : (Str.ofString (toString (n : Int))).length ≤ 7 :=
  Nat.le_trans (toString_length_le (by omega) (by decide) (show (n : Int) < 10 ^ 6 by omega)) (by decide)
theorem Bd_mono : ∀ {a b : Nat}, a ≤ b → Bd a ≤ Bd b := by
  intro a b h
  induction h with
  | refl => exact Nat.le_refl _
  | step _ ih => exact Nat.le_trans ih (by show _ ≤ 8 * (Bd _ + 10) + 20; omega)
variable {K : PySem.W.Frag} {H H' : Hp}
mutual
theorem PAt.txt_len : ∀ {x : Addr} {p : Pt}, PAt K H x p → ∀ d : Nat, p.dep < d → p.txt.length ≤ Bd d
  | _, _, .byte h, d, hd => by
    obtain ⟨e, rfl⟩ : ∃ e, d = e + 1 := ⟨d - 1, by have : (0 : Int) < d := hd; omega⟩
    show ("byte" : Str).length ≤ 8 * (Bd e + 10) + 20
    have : ("byte" : Str).length = 4 := by decide +kernel
    omega
  | _, _, .kind (s := s) a b c _ _, d, hd => by
    obtain ⟨e, rfl⟩ : ∃ e, d = e + 1 := ⟨d - 1, by have : (0 : Int) < d := hd; omega⟩
    show s.length ≤ 8 * (Bd e + 10) + 20
    have := name_len a
    omega
  | _, _, .use (s := s) a _ _, d, hd => by
    obtain ⟨e, rfl⟩ : ∃ e, d = e + 1 := ⟨d - 1, by have : (0 : Int) < d := hd; omega⟩
    show (Str.empty ++ "@" ++ s).length ≤ 8 * (Bd e + 10) + 20
    have := name_len a
    rw [app_len, app_len, empty_len, show ("@" : Str).length = 1 by decide +kernel]
    omega
  | _, _, .row (p := p) (n := n) a b _ _ _ f, d, hd => by
    have hd' : p.dep + 1 < (d : Int) := hd
    have := p.dep0
    obtain ⟨e, rfl⟩ : ∃ e, d = e + 1 := ⟨d - 1, by omega⟩
    have ih := f.txt_len e (by omega)
    show (Str.empty ++ Str.ofString (toString (n : Int)) ++ "*" ++ p.txt).length ≤ 8 * (Bd e + 10) + 20
    have := num_len b
    rw [app_len, app_len, app_len, empty_len, show ("*" : Str).length = 1 by decide +kernel]
    omega
  | _, _, .grp (ov := ov) (ps := ps) a b _ _ f, d, hd => by
    have hd' : ps.dep < (d : Int) := hd
    have := ps.dep0
    obtain ⟨e, rfl⟩ : ∃ e, d = e + 1 := ⟨d - 1, by omega⟩
    have ih := f.txts_len' e (by omega)
    have hl := ps.txts_len
    have j1 := join_len (if ov then "|" else " ") ps.txts
    have l1 : (if ov then "|" else " " : Str).length = 1 := by cases ov <;> decide +kernel
    have l2 : (if ov then "(" else "{" : Str).length = 1 := by cases ov <;> decide +kernel
    have l3 : (if ov then ")" else "}" : Str).length = 1 := by cases ov <;> decide +kernel
    have j2 := join_len "" [if ov then "(" else "{", Txt.join (if ov then "|" else " ") ps.txts, if ov then ")" else "}"]
    show (Txt.join "" [if ov then "(" else "{", Txt.join (if ov then "|" else " ") ps.txts, if ov then ")" else "}"]).length ≤ 8 * (Bd e + 10) + 20
    simp only [List.map_cons, List.map_nil, List.sum_cons, List.sum_nil, List.length_cons, List.length_nil] at j2
    rw [l2, l3, show ("" : Str).length = 0 by decide +kernel] at j2
    rw [l1, hl] at j1
    have : ps.len * (Bd e + 9) ≤ 8 * (Bd e + 9) := Nat.mul_le_mul_right _ b
    omega
theorem PAll.txts_len' : ∀ {vs : List V} {ps : Pts}, PAll K H vs ps → ∀ e : Nat, ps.dep < (e : Int) + 1 → (ps.txts.map (·.length)).sum ≤ ps.len * (Bd e + 9)
  | _, _, .nil, e, hd => by simp [Pts.txts]
  | _, _, .cons (s := s) (p := p) (ps := ps) a _ c d, e, hd => by
    have hd' : max (p.dep + 1) ps.dep < (e : Int) + 1 := hd
    have i1 := c.txt_len e (by omega)
    have i2 := d.txts_len' e (by omega)
    show (Str.empty ++ s ++ ":" ++ p.txt).length + (ps.txts.map (·.length)).sum ≤ (ps.len + 1) * (Bd e + 9)
    have := name_len a
    rw [app_len, app_len, app_len, empty_len, show (":" : Str).length = 1 by decide +kernel, Nat.succ_mul]
    omega
end
theorem Bd6 : Bd 6 ≤ 4000000 := by decide +kernel
/-- str of a part of the class cn, at most so deep -/
def spStrC (cn : Str) (d : Nat) (K : PySem.W.Frag) : Sp := fun vs H Q _ => ∃ (x : Addr) (p : Pt), vs = [.ref x] ∧ PAt K H x p ∧ p.cn = cn ∧ p.dep < d ∧ ∀ H', Same H H' → Q (.str p.txt) H'
def StrF (P : Program) (w : World) (K : PySem.W.Frag) (mg : Str → Option Value) (base : Heap) (n d : Nat) : Prop := ∀ cn ∈ allP, FnR P w K mg base CX0 n (He.ma K (He.ga K cn) "__str__") (spStrC cn d K)
theorem PCls.fmt (T : PCls K) (p : Pt) : FmtC K (He.ga K p.cn) (He.ma K (He.ga K p.cn) "__str__") := by
  have o := T.F.one _ p.cnP
  have st : Meth K (He.ga K p.cn) "__str__" (He.ma K (He.ga K p.cn) "__str__") := by
    cases p with
    | byte => exact T.byte.st
    | kind s t => exact T.kind.st
    | use s => exact T.use.st
    | row p n => exact T.row.st
    | grp ov ps => exact (T.grpc ov).st
  exact ⟨o.fm, o.cm, st.at_, st.fn⟩
/-- f"{name}:{part}" -/
def tItem (P : Program) (w : World) (K : PySem.W.Frag) (mg : Str → Option Value) (base : Heap) (n : Nat) : TE := fun σ H Q => tJs [tFmt (tVar 1), tC (.str ":"), tFmtO P w K mg base n (tVar 2)] Str.empty σ H fun out H1 => Q (.str out) H1
/-- {part} in an f-string -/
theorem fmt_in {P : Program} {w : World} {mg : Str → Option Value} {base : Heap} {n d : Nat} (T : PCls K) (F : StrF P w K mg base n d) {Q : VK} {y : Addr} {p : Pt} (h : PAt K H y p) (hd : p.dep < d) (q : ∀ H', Same H H' → Q (.str p.txt) H') :
    ∃ (a C dx g : Addr) (fs : List (Str × V)) (sp : Sp), V.ref y = .ref a ∧ H a = some (.ins C dx fs) ∧ FmtC K C g ∧ FnR P w K mg base CX0 n g sp ∧ sp [.ref a] H (fun z H' => ∃ i, z = .str i ∧ Q z H') (fun _ _ _ => False) := by
  obtain ⟨dx, ti, tv, more, e⟩ := h.ins
  exact ⟨y, _, dx, _, _, _, rfl, e, T.fmt p, F p.cn p.cnP, y, p, rfl, h, rfl, hd, fun H' S => ⟨_, rfl, q H' S⟩⟩
theorem cn_grp (ov : Bool) {p : Pt} (h : p.cn = cnG ov) : ∃ o ps, o = ov ∧ p = .grp ov ps := by
  have t : p.tag = (if ov then 5 else 4) := nmT_inj _ p.cn_tag.2 _ (by cases ov <;> decide) (by rw [← p.cn_tag.1, h]; cases ov <;> rfl)
  cases p with
  | grp o ps => cases o <;> cases ov <;> first | exact ⟨_, _, rfl, rfl⟩ | (simp [Pt.tag] at t)
  | byte => cases ov <;> simp [Pt.tag] at t
  | kind s n => cases ov <;> simp [Pt.tag] at t
  | use s => cases ov <;> simp [Pt.tag] at t
  | row r n => cases ov <;> simp [Pt.tag] at t
theorem PAll.atT {d : Nat} : ∀ {vs : List V} {ps : Pts}, PAll K H vs ps → ps.dep < (d : Int) + 1 → ∀ (i : Nat) (v : V), vs[i]? = some v → ∃ (q y : Addr) (s : Str) (p : Pt), v = .ref q ∧ nameB (.str s) = true ∧ SqT K H q [.str s, V.ref y] ∧ PAt K H y p ∧
    ps.txts[i]? = some (Str.empty ++ s ++ ":" ++ p.txt) ∧ p.dep < d
  | _, _, .nil, _, i, v, h => by cases h
  | _, _, .cons (q := q) (y := y) (s := s) (p := p) (ps := ps) a b c d', hd, i, v, h => by
    have hd' : max (p.dep + 1) ps.dep < (d : Int) + 1 := hd
    cases i with
    | zero => cases h; exact ⟨q, y, s, p, rfl, a, SqT.of b, c, rfl, by omega⟩
    | succ i => exact d'.atT (by omega) i v h
end Ev
namespace H1
open PySem PySem.Spec PyProof.Rows L2 Ev
section
variable {P : Program} {w : World} {K : PySem.W.Frag} {mg : Str → Option Value} {base : Heap} {f : Addr} {fd : FuncData}
theorem sSKind : FnScope ["self"] ["self"] (defScope (sM i_Kind j_Kind___str__)) := ⟨rfl, rfl, rfl, by decide +kernel, rfl, by decide +kernel, by decide +kernel⟩
theorem ok_strKind (F : FnM K "Kind" "__str__" i_Kind j_Kind___str__ [] f fd) (T : PCls K) (n d : Nat) : FnOk P w K mg base CX0 (n + 1) f fd ["self"] (spStrC "Kind" d K) := by
  refine F.ok sSKind (fun vs H Q E h => ?_) (fun cdv A outer s H vs Q E hr h => ?_)
  · obtain ⟨x, p, rfl, _⟩ := h
    rfl
  · obtain ⟨x, p, rfl, hx, hc, hd, q⟩ := h
    refine ⟨_, PSs.nox (pss_one (ps_ret (pe_joined1 (pe_fmt (pe_fld (pv 0) (by rfl)))))), ?_⟩
    obtain ⟨s0, t, rfl⟩ : ∃ s t, p = .kind s t := (cn_ne (p := .kind "" 0) (q := p) hc.symm).1 _ _ rfl
    cases hx with
    | kind a b c d e =>
      refine ⟨_, rfl, x, _, _, _, _, rfl, d, T.kind.cl, T.kind.no _ (by decide), rfl, .inl ⟨s0, rfl, ?_, q H fun _ _ z => z⟩⟩
      have := name_len a
      rw [sizeLine_eq]; omega
theorem bSKind {f : Addr} (F : FnM K "Kind" "__str__" i_Kind j_Kind___str__ [] f fd) : Binds K fd ["self"] [] := FunD.bindsN F fun _ _ _ _ _ _ us hl => match us, hl with | [_], _ => rfl
theorem sSByte : FnScope ["self"] ["self"] (defScope (sM i_Byte j_Byte___str__)) := ⟨rfl, rfl, rfl, by decide +kernel, rfl, by decide +kernel, by decide +kernel⟩
theorem ok_strByte (F : FnM K "Byte" "__str__" i_Byte j_Byte___str__ [] f fd) (n d : Nat) : FnOk P w K mg base CX0 (n + 1) f fd ["self"] (spStrC "Byte" d K) := by
  refine F.ok sSByte (fun vs H Q E h => ?_) (fun cdv A outer s H vs Q E hr h => ?_)
  · obtain ⟨x, p, rfl, _⟩ := h
    rfl
  · obtain ⟨x, p, rfl, hx, hc, hd, q⟩ := h
    have := (cn_ne (p := .byte) (q := p) hc.symm).2.1 rfl
    subst this
    exact ⟨_, PSs.nox (pss_one (ps_ret pe_str)), q H fun _ _ z => z⟩
theorem bSByte {f : Addr} (F : FnM K "Byte" "__str__" i_Byte j_Byte___str__ [] f fd) : Binds K fd ["self"] [] := FunD.bindsN F fun _ _ _ _ _ _ us hl => match us, hl with | [_], _ => rfl
theorem sSUse : FnScope ["self"] ["self"] (defScope (sM i_Use j_Use___str__)) := ⟨rfl, rfl, rfl, by decide +kernel, rfl, by decide +kernel, by decide +kernel⟩
theorem ok_strUse (F : FnM K "Use" "__str__" i_Use j_Use___str__ [] f fd) (T : PCls K) (n d : Nat) : FnOk P w K mg base CX0 (n + 1) f fd ["self"] (spStrC "Use" d K) := by
  refine F.ok sSUse (fun vs H Q E h => ?_) (fun cdv A outer s H vs Q E hr h => ?_)
  · obtain ⟨x, p, rfl, _⟩ := h
    rfl
  · obtain ⟨x, p, rfl, hx, hc, hd, q⟩ := h
    refine ⟨_, PSs.nox (pss_one (ps_ret (pe_joined (PJ.cons pe_str (PJ.cons (pe_fmt (pe_fld (pv 0) (by rfl))) PJ.nil))))), ?_⟩
    obtain ⟨s0, rfl⟩ : ∃ s, p = .use s := (cn_ne (p := .use "") (q := p) hc.symm).2.2.1 _ rfl
    cases hx with
    | use a b c =>
      have := name_len a
      have one : ("@" : Str).length = 1 := by decide +kernel
      refine ⟨"@", rfl, by rw [app_len, empty_len, one, sizeLine_eq]; decide, _, rfl, x, _, _, _, _, rfl, b, T.use.cl, T.use.no _ (by decide), rfl, .inl ⟨s0, rfl, by rw [sizeLine_eq]; omega, s0, rfl, by rw [app_len, app_len, empty_len, one, sizeLine_eq]; omega, q H fun _ _ z => z⟩⟩
theorem bSUse {f : Addr} (F : FnM K "Use" "__str__" i_Use j_Use___str__ [] f fd) : Binds K fd ["self"] [] := FunD.bindsN F fun _ _ _ _ _ _ us hl => match us, hl with | [_], _ => rfl
theorem sSRow : FnScope ["self"] ["self"] (defScope (sM i_Row j_Row___str__)) := ⟨rfl, rfl, rfl, by decide +kernel, rfl, by decide +kernel, by decide +kernel⟩
theorem ok_strRow (F : FnM K "Row" "__str__" i_Row j_Row___str__ [] f fd) (T : PCls K) {n d : Nat} (SF : StrF P w K mg base n d) (hd5 : d ≤ 5) : FnOk P w K mg base CX0 (n + 2) f fd ["self"] (spStrC "Row" (d + 1) K) := by
  refine F.ok sSRow (fun vs H Q E h => ?_) (fun cdv A outer s H vs Q E hr h => ?_)
  · obtain ⟨x, p, rfl, _⟩ := h
    rfl
  · obtain ⟨x, p, rfl, hx, hc, hd, q⟩ := h
    refine ⟨_, PSs.nox (pss_one (ps_ret (pe_joined (PJ.cons (pe_fmt (pe_fld (pv 0) (by rfl))) (PJ.cons pe_str (PJ.cons (pe_fmtO (n := n) (pe_fld (pv 0) (by rfl)) hr) PJ.nil)))))), ?_⟩
    obtain ⟨p0, m, rfl⟩ : ∃ r n, p = .row r n := (cn_ne (p := .row .byte 0) (q := p) hc.symm).2.2.2.1 _ _ rfl
    have hd' : p0.dep + 1 < (d : Int) + 1 := hd
    cases hx with
    | @row _ dx tr ti y _ _ a1 b1 c1 d1 e1 f1 =>
      have ln := num_len b1
      have tl := f1.txt_len d (by omega)
      have B5 : Bd d ≤ Bd 6 := Bd_mono (by omega)
      have := Bd6
      have one : ("*" : Str).length = 1 := by decide +kernel
      have z1 : (Str.empty ++ Str.ofString (toString (m : Int))).length ≤ sizeLine := by rw [app_len, empty_len, sizeLine_eq]; omega
      have z2 : (Str.empty ++ Str.ofString (toString (m : Int)) ++ "*").length ≤ sizeLine := by rw [app_len, app_len, empty_len, one, sizeLine_eq]; omega
      have z3 : (Str.empty ++ Str.ofString (toString (m : Int)) ++ "*" ++ p0.txt).length ≤ sizeLine := by rw [app_len, app_len, app_len, empty_len, one, sizeLine_eq]; omega
      refine ⟨_, rfl, x, _, _, _, _, rfl, c1, T.row.cl, T.row.no _ (by decide), rfl, .inr ⟨m, rfl, log2_le (by omega) (by omega), _, rfl, z1, "*", rfl, z2, ?_⟩⟩
      exact ⟨_, rfl, x, _, _, _, .ref y, rfl, c1, T.row.cl, T.row.no _ (by decide), rfl, fmt_in T SF f1 (by omega) fun H4 S4 => ⟨_, rfl, z3, q H4 S4⟩⟩
theorem bSRow {f : Addr} (F : FnM K "Row" "__str__" i_Row j_Row___str__ [] f fd) : Binds K fd ["self"] [] := FunD.bindsN F fun _ _ _ _ _ _ us hl => match us, hl with | [_], _ => rfl
theorem sSRecord : FnScope ["self", "name", "part"] ["self"] (defScope (sM i_Record j_Record___str__)) := ⟨rfl, rfl, rfl, by decide +kernel, rfl, by decide +kernel, by decide +kernel⟩
theorem ok_strRecord (F : FnM K "Record" "__str__" i_Record j_Record___str__ [] f fd) (T : PCls K) {n d : Nat} (SF : StrF P w K mg base n d) (hd5 : d ≤ 5) : FnOk P w K mg base CX0 (n + 2) f fd ["self"] (spStrC "Record" (d + 1) K) := by
  refine F.ok sSRecord (fun vs H Q E h => ?_) (fun cdv A outer s H vs Q E hr h => ?_)
  · obtain ⟨x, p, rfl, _⟩ := h
    rfl
  · obtain ⟨x, p, rfl, hx, hc, hd, q⟩ := h
    refine ⟨_, PSs.nox (pss_one (ps_ret (pe_join pe_str (pe_lst (pa_cons pe_str (pa_cons (pe_join pe_str (pe_lc (own := [("name", 1), ("part", 2)]) (g := gTup K 2 (gCons (gName 1) (gCons (gName 2) gNil))) (tt := tYes) rfl sSRecord.nd (pi_tup (pe_fld (pv 0) (by rfl)))
        (blkOk_by (N := ["self", "name", "part"]) (sc := defScope (sM i_Record j_Record___str__)) (by decide +kernel))
        (fun _ _ _ _ _ => pg_tup rfl (pgs_cons (pg_name (i := 1) sSRecord.nd rfl (Or.inl rfl)) (pgs_cons (pg_name (i := 2) sSRecord.nd rfl (Or.inl rfl)) pgs_nil))) (fun _ _ _ _ _ => pts_nil)
        (fun _ _ _ _ _ => show PE _ _ (tItem P w K mg base n) from pe_joined (PJ.cons (pe_fmt (pv 1)) (PJ.cons pe_str (PJ.cons (show PE _ _ (tFmtO P w K mg base n (tVar 2)) from pe_fmtO (pv 2) hr) PJ.nil)))))) (pa_cons pe_str pa_nil))))))), ?_⟩
    obtain ⟨ov, ps, rfl, rfl⟩ := cn_grp false hc
    have pc := T.grpc false
    cases hx with
    | @grp _ dx tp _ vs0 _ a1 b1 c1 d1 e1 =>
      have hd' : ps.dep < (d : Int) + 1 := hd
      refine ⟨⟨_, rfl⟩, ⟨_, rfl⟩, _, rfl, x, _, dx, _, .ref tp, rfl, c1, pc.cl, pc.no _ (by decide), rfl, tp, rfl, ⟨vs0, SqT.of d1⟩, fun D hD => ?_⟩
      refine lc_tup (K := K) (a := tp) (xs := vs0) (fun i H' => Same H H' ∧ H' D = some (.lst ((ps.txts.take i).map V.str))) ⟨same_upd hD, upd_same⟩ (fun i H' hi' e => SqT.of (e.1 _ _ d1)) ?_ ?_
      · rintro i v H' hv ⟨S', eD⟩
        obtain ⟨q0, y, s0, p0, rfl, hs0, hq0, hy0, ht0, hdp⟩ := e1.atT (d := d) hd' i v hv
        refine ⟨q0, _, rfl, same_seqT S' hq0, rfl, _, _, rfl, _, _, rfl, rfl, rfl, ?_⟩
        dsimp only [tYes]
        rw [if_pos rfl]
        have n8 := name_len hs0
        have tl := hy0.txt_len d hdp
        have B5 : Bd d ≤ Bd 6 := Bd_mono (by omega)
        have := Bd6
        have z1 : (Str.empty ++ s0).length ≤ sizeLine := by rw [app_len, empty_len, sizeLine_eq]; omega
        have z2 : (Str.empty ++ s0 ++ ":").length ≤ sizeLine := by rw [app_len, app_len, empty_len, show (":" : Str).length = 1 by decide +kernel, sizeLine_eq]; omega
        have z3 : (Str.empty ++ s0 ++ ":" ++ p0.txt).length ≤ sizeLine := by rw [app_len, app_len, app_len, empty_len, show (":" : Str).length = 1 by decide +kernel, sizeLine_eq]; omega
        refine ⟨_, rfl, .inl ⟨s0, rfl, by rw [sizeLine_eq]; omega, s0, rfl, z1, ":", rfl, z2, ?_⟩⟩
        refine ⟨_, rfl, fmt_in T SF (hy0.same S') hdp fun H4 S4 => ⟨_, rfl, z3, ?_⟩⟩
        have eD4 := S4 _ _ eD
        refine ⟨_, eD4, ?_, fun b o z => ?_, ?_⟩
        · rw [List.length_map, List.length_take, sizeLine_eq]
          have := ps.txts_len
          omega
        · rw [upd_ne (ne_of_none z hD)]
          exact S4 _ _ (S' _ _ z)
        · rw [upd_same, List.take_succ, ht0, List.map_append]
          rfl
      · rintro H' ⟨S', eD⟩
        have hlen : vs0.length = ps.txts.length := by rw [e1.len, ps.txts_len]
        rw [hlen, List.take_length] at eD
        have tt := (PAt.grp (ov := false) a1 b1 c1 d1 e1).txt_len (d + 1) hd
        have sm := e1.txts_len' d hd'
        have B5 : Bd (d + 1) ≤ Bd 6 := Bd_mono (by omega)
        have B4 : Bd d ≤ Bd 6 := Bd_mono (by omega)
        have := Bd6
        have m8 : ps.len * (Bd d + 9) ≤ 8 * (Bd d + 9) := Nat.mul_le_mul_right _ b1
        have e5 : 8 * (Bd d + 9) ≤ Bd (d + 1) := by show _ ≤ 8 * (Bd d + 10) + 20; omega
        have l1 : (" " : Str).length = 1 := by decide +kernel
        have tl2 := ps.txts_len
        have j1 := join_len " " ps.txts
        rw [l1] at j1
        refine ⟨" ", D, ps.txts, rfl, rfl, .inl (SqL.of eD), by rw [l1]; omega, ?_⟩
        refine ⟨(by show 3 ≤ sizeLine; decide), fun l hl => ?_⟩
        refine ⟨"", l, [("{" : Str), Txt.join " " ps.txts, "}"], rfl, rfl, .inl (SqL.of upd_same), ?_, ?_⟩
        · simp only [List.map_cons, List.map_nil, List.sum_cons, List.sum_nil, List.length_cons, List.length_nil]
          rw [show ("{" : Str).length = 1 by decide +kernel, show ("}" : Str).length = 1 by decide +kernel, show ("" : Str).length = 0 by decide +kernel]
          omega
        · exact q _ (same_tr S' (same_upd hl))
theorem bSRecord {f : Addr} (F : FnM K "Record" "__str__" i_Record j_Record___str__ [] f fd) : Binds K fd ["self"] [] := FunD.bindsN F fun _ _ _ _ _ _ us hl => match us, hl with | [_], _ => rfl
theorem sSOverlay : FnScope ["self", "name", "part"] ["self"] (defScope (sM i_Overlay j_Overlay___str__)) := ⟨rfl, rfl, rfl, by decide +kernel, rfl, by decide +kernel, by decide +kernel⟩
theorem ok_strOverlay (F : FnM K "Overlay" "__str__" i_Overlay j_Overlay___str__ [] f fd) (T : PCls K) {n d : Nat} (SF : StrF P w K mg base n d) (hd5 : d ≤ 5) : FnOk P w K mg base CX0 (n + 2) f fd ["self"] (spStrC "Overlay" (d + 1) K) := by
  refine F.ok sSOverlay (fun vs H Q E h => ?_) (fun cdv A outer s H vs Q E hr h => ?_)
  · obtain ⟨x, p, rfl, _⟩ := h
    rfl
  · obtain ⟨x, p, rfl, hx, hc, hd, q⟩ := h
    refine ⟨_, PSs.nox (pss_one (ps_ret (pe_join pe_str (pe_lst (pa_cons pe_str (pa_cons (pe_join pe_str (pe_lc (own := [("name", 1), ("part", 2)]) (g := gTup K 2 (gCons (gName 1) (gCons (gName 2) gNil))) (tt := tYes) rfl sSOverlay.nd (pi_tup (pe_fld (pv 0) (by rfl)))
        (blkOk_by (N := ["self", "name", "part"]) (sc := defScope (sM i_Overlay j_Overlay___str__)) (by decide +kernel))
        (fun _ _ _ _ _ => pg_tup rfl (pgs_cons (pg_name (i := 1) sSOverlay.nd rfl (Or.inl rfl)) (pgs_cons (pg_name (i := 2) sSOverlay.nd rfl (Or.inl rfl)) pgs_nil))) (fun _ _ _ _ _ => pts_nil)
        (fun _ _ _ _ _ => show PE _ _ (tItem P w K mg base n) from pe_joined (PJ.cons (pe_fmt (pv 1)) (PJ.cons pe_str (PJ.cons (show PE _ _ (tFmtO P w K mg base n (tVar 2)) from pe_fmtO (pv 2) hr) PJ.nil)))))) (pa_cons pe_str pa_nil))))))), ?_⟩
    obtain ⟨ov, ps, rfl, rfl⟩ := cn_grp true hc
    have pc := T.grpc true
    cases hx with
    | @grp _ dx tp _ vs0 _ a1 b1 c1 d1 e1 =>
      have hd' : ps.dep < (d : Int) + 1 := hd
      refine ⟨⟨_, rfl⟩, ⟨_, rfl⟩, _, rfl, x, _, dx, _, .ref tp, rfl, c1, pc.cl, pc.no _ (by decide), rfl, tp, rfl, ⟨vs0, SqT.of d1⟩, fun D hD => ?_⟩
      refine lc_tup (K := K) (a := tp) (xs := vs0) (fun i H' => Same H H' ∧ H' D = some (.lst ((ps.txts.take i).map V.str))) ⟨same_upd hD, upd_same⟩ (fun i H' hi' e => SqT.of (e.1 _ _ d1)) ?_ ?_
      · rintro i v H' hv ⟨S', eD⟩
        obtain ⟨q0, y, s0, p0, rfl, hs0, hq0, hy0, ht0, hdp⟩ := e1.atT (d := d) hd' i v hv
        refine ⟨q0, _, rfl, same_seqT S' hq0, rfl, _, _, rfl, _, _, rfl, rfl, rfl, ?_⟩
        dsimp only [tYes]
        rw [if_pos rfl]
        have n8 := name_len hs0
        have tl := hy0.txt_len d hdp
        have B5 : Bd d ≤ Bd 6 := Bd_mono (by omega)
        have := Bd6
        have z1 : (Str.empty ++ s0).length ≤ sizeLine := by rw [app_len, empty_len, sizeLine_eq]; omega
        have z2 : (Str.empty ++ s0 ++ ":").length ≤ sizeLine := by rw [app_len, app_len, empty_len, show (":" : Str).length = 1 by decide +kernel, sizeLine_eq]; omega
        have z3 : (Str.empty ++ s0 ++ ":" ++ p0.txt).length ≤ sizeLine := by rw [app_len, app_len, app_len, empty_len, show (":" : Str).length = 1 by decide +kernel, sizeLine_eq]; omega
        refine ⟨_, rfl, .inl ⟨s0, rfl, by rw [sizeLine_eq]; omega, s0, rfl, z1, ":", rfl, z2, ?_⟩⟩
        refine ⟨_, rfl, fmt_in T SF (hy0.same S') hdp fun H4 S4 => ⟨_, rfl, z3, ?_⟩⟩
        have eD4 := S4 _ _ eD
        refine ⟨_, eD4, ?_, fun b o z => ?_, ?_⟩
        · rw [List.length_map, List.length_take, sizeLine_eq]
          have := ps.txts_len
          omega
        · rw [upd_ne (ne_of_none z hD)]
          exact S4 _ _ (S' _ _ z)
        · rw [upd_same, List.take_succ, ht0, List.map_append]
          rfl
      · rintro H' ⟨S', eD⟩
        have hlen : vs0.length = ps.txts.length := by rw [e1.len, ps.txts_len]
        rw [hlen, List.take_length] at eD
        have tt := (PAt.grp (ov := true) a1 b1 c1 d1 e1).txt_len (d + 1) hd
        have sm := e1.txts_len' d hd'
        have B5 : Bd (d + 1) ≤ Bd 6 := Bd_mono (by omega)
        have B4 : Bd d ≤ Bd 6 := Bd_mono (by omega)
        have := Bd6
        have m8 : ps.len * (Bd d + 9) ≤ 8 * (Bd d + 9) := Nat.mul_le_mul_right _ b1
        have e5 : 8 * (Bd d + 9) ≤ Bd (d + 1) := by show _ ≤ 8 * (Bd d + 10) + 20; omega
        have l1 : ("|" : Str).length = 1 := by decide +kernel
        have tl2 := ps.txts_len
        have j1 := join_len "|" ps.txts
        rw [l1] at j1
        refine ⟨"|", D, ps.txts, rfl, rfl, .inl (SqL.of eD), by rw [l1]; omega, ?_⟩
        refine ⟨(by show 3 ≤ sizeLine; decide), fun l hl => ?_⟩
        refine ⟨"", l, [("(" : Str), Txt.join "|" ps.txts, ")"], rfl, rfl, .inl (SqL.of upd_same), ?_, ?_⟩
        · simp only [List.map_cons, List.map_nil, List.sum_cons, List.sum_nil, List.length_cons, List.length_nil]
          rw [show ("(" : Str).length = 1 by decide +kernel, show (")" : Str).length = 1 by decide +kernel, show ("" : Str).length = 0 by decide +kernel]
          omega
        · exact q _ (same_tr S' (same_upd hl))
theorem bSOverlay {f : Addr} (F : FnM K "Overlay" "__str__" i_Overlay j_Overlay___str__ [] f fd) : Binds K fd ["self"] [] := FunD.bindsN F fun _ _ _ _ _ _ us hl => match us, hl with | [_], _ => rfl
end
end H1
set_option Elab.async false
set_option linter.all false
set_option maxRecDepth 100000
set_option maxHeartbeats 4000000
/-! The pen of a law, for many draws. -/
namespace Ev
open PySem PySem.Spec PyProof.Rows L2
/-- the pen at p, its cells at c -/
def PenC (H : Hp) (p c : Addr) (n : Nat) : Prop := ∃ (cells : List V) (t l : Int), H p = some (.lst [.ref c, .int t, .int l]) ∧ H c = some (.lst cells) ∧ Ints cells ∧ cells.length ≤ 63 ∧ c ≠ p ∧ 0 ≤ t ∧ t ≤ n
theorem PenC.at_ {H : Hp} {p c : Addr} {n : Nat} (h : PenC H p c n) : PenAt H p n := ⟨c, h⟩
theorem PenC.same {H H' : Hp} {p c : Addr} {n : Nat} (S : Same H H') : PenC H p c n → PenC H' p c n
  | ⟨cells, t, l, h1, h2, r⟩ => ⟨cells, t, l, S _ _ h1, S _ _ h2, r⟩
theorem PenC.mono {H : Hp} {p c : Addr} {n m : Nat} (h : n ≤ m) : PenC H p c n → PenC H p c m
  | ⟨cells, t, l, h1, h2, h3, h4, h5, h6, h7⟩ => ⟨cells, t, l, h1, h2, h3, h4, h5, h6, by omega⟩
theorem PenC.ex {H : Hp} {p c : Addr} {n : Nat} : PenC H p c n → ∃ xs, H p = some (.lst xs)
  | ⟨_, _, _, h, _⟩ => ⟨_, h⟩
def spDrawP : Sp := fun vs H Q _ => ∃ (p c : Addr) (m : Int) (n : Nat), vs = [.ref p, .int m] ∧ 0 < m ∧ m < 1073741824 ∧ PenC H p c n ∧ n ≤ 90000 ∧
  ∀ (z : Int) (H' : Hp), 0 ≤ z → z < m → PenC H' p c (n + 1) → But p H H' → Q (.int z) H'
/-- one of some things -/
def spPickP : Sp := fun vs H Q _ => ∃ (p c l : Addr) (xs : List V) (n : Nat), vs = [.ref p, .ref l] ∧ H l = some (.lst xs) ∧ l ≠ p ∧ 0 < xs.length ∧ xs.length ≤ 100000 ∧ PenC H p c n ∧ n ≤ 90000 ∧
  ∀ (x : V) (H' : Hp), x ∈ xs → PenC H' p c (n + 1) → But p H H' → Q x H'
theorem small5b {x t A B : Int} (h0 : 0 ≤ x) (h1 : x < 2147483648) (t0 : 0 ≤ t) (t1 : t ≤ 100000) (a0 : 0 ≤ A) (a1 : A ≤ 1000000) (b0 : 0 ≤ B) (b1 : B ≤ 1000000) : (x + A * t + B).natAbs < 2 ^ 64 := by
  have h2 : A * t ≤ 1000000 * 100000 := Int.mul_le_mul a1 t1 t0 (by omega)
  have h3 : 0 ≤ A * t := Int.mul_nonneg a0 t0
  omega
theorem small3b {x t A B D : Int} (h0 : 0 ≤ x) (h1 : x < 2147483648) (t0 : 0 ≤ t) (t1 : t ≤ 100000) (a0 : 0 ≤ A) (a1 : A ≤ 1000000) (b0 : 0 ≤ B) (b1 : B ≤ 1000000) (d0 : 0 ≤ D) (d1 : D ≤ 1000000) :
    (x * (2 * t + A) + B * t * t + D).natAbs < 2 ^ 64 := by
  have h2 : x * (2 * t + A) ≤ 2147483648 * 1200000 := Int.mul_le_mul (by omega) (by omega) (by omega) (by omega)
  have h3 : 0 ≤ x * (2 * t + A) := Int.mul_nonneg h0 (by omega)
  have h4 : B * t ≤ 1000000 * 100000 := Int.mul_le_mul b1 t1 t0 (by omega)
  have h5 : 0 ≤ B * t := Int.mul_nonneg b0 t0
  have h6 : B * t * t ≤ 100000000000 * 100000 := Int.mul_le_mul (by omega) t1 t0 (by omega)
  have h7 : 0 ≤ B * t * t := Int.mul_nonneg h5 t0
  omega
theorem in64b {B t : Int} (b0 : 0 ≤ B) (b1 : B ≤ 1000000) (t0 : 0 ≤ t) (t1 : t ≤ 100000) : -(2 ^ 64) < B * t ∧ B * t < 2 ^ 64 := by
  have h2 : B * t ≤ 1000000 * 100000 := Int.mul_le_mul b1 t1 t0 (by omega)
  have h3 : 0 ≤ B * t := Int.mul_nonneg b0 t0
  omega
end Ev
namespace H1
open PySem PySem.Spec PyProof.Rows L2 Ev
section
variable {P : Program} {w : World} {K : PySem.W.Frag} {mg : Str → Option Value} {base : Heap} {f fD fP : Addr} {fd fdD fdP : FuncData}
theorem scPen : FnScope ["_law_script"] ["_law_script"] (defScope (top i__law_pen)) := ⟨rfl, rfl, rfl, by decide +kernel, rfl, by decide +kernel, by decide +kernel⟩
theorem ok_pen (F : FnL K "_law_pen" i__law_pen f fd) (tList : mg "list" = none) : FnOk P w K mg base CX0 1 f fd ["_law_script"] (spPen K) := by
  refine F.ok scPen (fun vs H Q E h => ?_) (fun cdv A outer s H vs Q E hr h => ?_)
  · obtain ⟨a, ns, rfl, _⟩ := h
    rfl
  · obtain ⟨a, ns, rfl, hS, hl, q⟩ := h
    refine ⟨_, PSs.nox (pss_one (ps_ret (pe_lst (pa_cons (pe_callTy call_list_of (by rfl) tList (by decide +kernel) (pa_cons (pe_slice sl_list (pv 0) po_none (po_some pe_int)) pa_nil))
      (pa_cons pe_int (pa_cons pe_int pa_nil)))))), ?_⟩
    refine ⟨_, rfl, 63, rfl, a, _, rfl, hS, fun r hr1 => ?_⟩
    refine ⟨r, _, rfl, .inl (SqL.of upd_same), fun c hc => ?_⟩
    refine ⟨(by show 3 ≤ sizeLine; decide), fun p hp => ?_⟩
    have cr : c ≠ r := fun z => by rw [z, upd_same] at hc; cases hc
    have pc : p ≠ c := fun z => by rw [z, upd_same] at hp; cases hp
    have hp2 := hp
    rw [upd_ne pc] at hp
    have pr : p ≠ r := fun z => by rw [z, upd_same] at hp; cases hp
    rw [upd_ne pr] at hp
    have hc2 := hc
    rw [upd_ne cr] at hc2
    refine q p _ (fun b o e => ?_) ⟨c, cutV (ns.map V.int) none (some 63), 0, 0, upd_same, ?_, ints_cut (ints_map ns) _ _, ?_, Ne.symm pc, by omega, by omega⟩ hp
    · rw [upd_ne (ne_of_none e hp), upd_ne (ne_of_none e hc2), upd_ne (ne_of_none e hr1)]
      exact e
    · rw [upd_ne (Ne.symm pc), upd_same]
    · exact Nat.le_trans (cutV_length _ _ _) (by rw [List.length_map]; exact hl)
theorem scDraw : FnScope ["_law_pen_here", "_law_many", "_law_digit", "_law_at", "_law_cell", "_law_great", "_law_mixed"] ["_law_pen_here", "_law_many"] (defScope (top i__law_draw)) :=
  ⟨rfl, rfl, rfl, by decide +kernel, rfl, by decide +kernel, by decide +kernel⟩
theorem ok_drawP (F : FnL K "_law_draw" i__law_draw f fd) (tInt : mg "int" = none) (tLen : mg "len" = none) (tAbs : mg "abs" = none) : FnOk P w K mg base CX0 1 f fd ["_law_pen_here", "_law_many"] spDrawP := by
  refine F.ok scDraw (fun vs H Q E h => ?_) (fun cdv A outer s H vs Q E hr h => ?_)
  · obtain ⟨p, c, m, n, rfl, _⟩ := h
    rfl
  · obtain ⟨p, c, m, n, rfl, m0, m1, ⟨cells, t, l, hp, hc, hi, hl, cp, t0, t1⟩, hn, q⟩ := h
    refine ⟨_, PSs.nox (pss_cons (ps_if (pt_cmpR op_gt (pe_ix ix_list (pv 0) pe_int (fun _ _ => rfl)) pe_int (nomark _))
        (pss_cons (ps_set (i := 2) scDraw.nd rfl (Or.inl rfl) (pe_op op_mod (pe_callTy call_int1 (by rfl) tInt (by decide +kernel) (pa_cons (pe_ix ix_list (pv 0) pe_int (fun _ _ => rfl)) pa_nil)) (pv 1)))
        (pss_cons (ps_asg (pe_op op_fdivN (pe_callTy call_int1 (by rfl) tInt (by decide +kernel) (pa_cons (pe_ix ix_list (pv 0) pe_int (fun _ _ => rfl)) pa_nil)) (pv 1)) (pg_sub (pv 0) pe_int set_list))
        (pss_one (ps_ret (pv 2))))) pss_nil)
      (pss_cons (ps_set (i := 3) scDraw.nd rfl (Or.inl rfl) (pe_ix ix_list (pv 0) pe_int (fun _ _ => rfl)))
      (pss_cons (ps_asg (pe_op op_add (pv 3) pe_int) (pg_sub (pv 0) pe_int set_list))
      (pss_cons (ps_set (i := 4) scDraw.nd rfl (Or.inl rfl) (pe_op op_add (pe_op op_mul pe_int (pv 3)) pe_int))
      (pss_cons (ps_if (pt_cmpR (op_neD hr.units) (pe_ix ix_list (pv 0) pe_int (fun _ _ => rfl)) (pe_lst pa_nil) (nomark _))
        (pss_one (ps_set (i := 4) scDraw.nd rfl (Or.inl rfl) (pe_ix ix_list (pe_ix ix_list (pv 0) pe_int (fun _ _ => rfl))
          (pe_op op_mod (pe_callTy call_int1 (by rfl) tInt (by decide +kernel) (pa_cons (pv 3) pa_nil)) (pe_callB call_len_seq (by rfl) tLen PySem.boot_len (pa_cons (pe_ix ix_list (pv 0) pe_int (fun _ _ => rfl)) pa_nil))) (fun _ _ => rfl)))) pss_nil)
      (pss_cons (ps_if (PW.pt (pw_and (pt_cmpR op_lt (pv 3) (pe_callB call_len_seq (by rfl) tLen PySem.boot_len (pa_cons (pe_ix ix_list (pv 0) pe_int (fun _ _ => rfl)) pa_nil)) (nomark _))
          (pw_and1 (pt_cmpR op_ge (pe_callB call_abs (by rfl) tAbs (by decide +kernel) (pa_cons (pv 4) pa_nil)) (pe_op op_pow pe_int pe_int) (nomark _)))))
        (pss_cons (ps_set (i := 5) scDraw.nd rfl (Or.inl rfl) (pe_op op_add (pe_op op_mul pe_int (pe_op op_sub (pe_callB call_abs (by rfl) tAbs (by decide +kernel) (pa_cons (pv 4) pa_nil)) (pe_op op_pow pe_int pe_int)))
          (pe_callTy call_int1 (by rfl) tInt (by decide +kernel) (pa_cons (pe_cmpR op_lt (pv 4) pe_int (nomark _)) pa_nil))))
        (pss_cons (ps_asg (pe_op op_fdivN (pe_callTy call_int1 (by rfl) tInt (by decide +kernel) (pa_cons (pv 5) pa_nil)) (pv 1)) (pg_sub (pv 0) pe_int set_list))
        (pss_one (ps_ret (pe_op op_mod (pe_callTy call_int1 (by rfl) tInt (by decide +kernel) (pa_cons (pv 5) pa_nil)) (pv 1)))))) pss_nil)
      (pss_cons (ps_set (i := 6) scDraw.nd rfl (Or.inl rfl) (pe_op op_mod (pe_callTy call_int1 (by rfl) tInt (by decide +kernel) (pa_cons
        (pe_op op_pow (pe_op op_add (pe_op op_add (pe_op op_mod (pe_callTy call_int1 (by rfl) tInt (by decide +kernel) (pa_cons (pv 4) pa_nil)) pe_int) (pe_op op_mul pe_int (pv 3))) pe_int) pe_int) pa_nil)) pe_int))
      (pss_cons (ps_set (i := 6) scDraw.nd rfl (Or.inl rfl) (pe_op op_mod (pe_callTy call_int1 (by rfl) tInt (by decide +kernel) (pa_cons
        (pe_op op_pow (pe_op op_add (pe_op op_add (pe_op op_mul (pv 6) (pe_op op_add (pe_op op_mul pe_int (pv 3)) pe_int)) (pe_op op_mul (pe_op op_mul pe_int (pv 3)) (pv 3))) pe_int) pe_int) pa_nil)) pe_int))
      (pss_one (ps_ret (pe_op op_mod (pe_callTy call_int1 (by rfl) tInt (by decide +kernel) (pa_cons (pe_op op_fdiv (pv 6) pe_int) pa_nil)) (pv 1)))))))))))), ?_⟩
    have m2 : m ≠ 0 := by omega
    have m3 : m ≠ 0 ∧ m.natAbs < 1073741824 := ⟨m2, by omega⟩
    have i0 : ∀ {x y z : V}, atI [x, y, z] 0 = some x := fun {x y z} => atI_nat (j := 0) rfl
    have i1 : ∀ {x y z : V}, atI [x, y, z] 1 = some y := fun {x y z} => atI_nat (j := 1) rfl
    have i2 : ∀ {x y z : V}, atI [x, y, z] 2 = some z := fun {x y z} => atI_nat (j := 2) rfl
    -- if pen[2] > 0
    refine ⟨_, rfl, p, _, 2, _, rfl, rfl, SqL.of hp, i2, _, _, rfl, rfl, _, rfl, ?_⟩
    refine ite2 (fun _ => ?_) (fun _ => ?_)
    · refine ⟨_, rfl, p, _, 2, _, rfl, rfl, SqL.of hp, i2, .inl ⟨_, rfl, _, rfl, _, _, rfl, rfl, m0, ?_⟩⟩
      refine ⟨_, rfl, p, _, 2, _, rfl, rfl, SqL.of hp, i2, .inl ⟨_, rfl, _, rfl, _, _, rfl, rfl, m3, ?_⟩⟩
      refine ⟨_, rfl, p, _, 2, 2, rfl, rfl, hp, rfl, ?_⟩
      refine ⟨_, rfl, ?_⟩
      refine q _ _ (fmod_in m0).1 (fmod_in m0).2 ⟨cells, t, _, upd_same, ?_, hi, hl, cp, t0, by omega⟩ fun b o nb e => ?_
      · rw [upd_ne cp]; exact hc
      · rw [upd_ne nb]; exact e
    · -- taken = pen[1]; pen[1] = taken + 1
      refine ⟨_, rfl, p, _, 1, _, rfl, rfl, SqL.of hp, i1, ?_⟩
      refine ⟨_, rfl, _, _, rfl, rfl, _, rfl, p, _, 1, 1, rfl, rfl, hp, rfl, ?_⟩
      generalize hH : upd H p (HO.lst ([V.ref c, V.int t, V.int l].set 1 (V.int (t + 1)))) = H1
      have hp1 : H1 p = some (.lst [.ref c, .int (t + 1), .int l]) := by rw [← hH]; exact upd_same
      have hc1 : H1 c = some (.lst cells) := by rw [← hH, upd_ne cp]; exact hc
      have k1 : But p H H1 := fun b o nb e => by rw [← hH, upd_ne nb]; exact e
      -- cell = .. * taken + ..
      refine ⟨_, rfl, _, _, rfl, rfl, .inl ⟨by decide, by decide⟩, _, _, rfl, rfl, ?_⟩
      -- if pen[0] != []
      obtain ⟨ds, dd, ds2⟩ := ints_dp (K := K) (H := H1) hi
      refine ⟨_, rfl, p, _, 0, _, rfl, rfl, SqL.of hp1, i0, (by show 0 ≤ sizeLine; decide), fun r hr1 => ?_⟩
      generalize hH2 : upd H1 r (HO.lst []) = H2
      have S2 : Same H1 H2 := fun b o e => by rw [← hH2, upd_ne (ne_of_none e hr1)]; exact e
      have hr2 : H2 r = some (.lst []) := by rw [← hH2]; exact upd_same
      have hp2 := S2 _ _ hp1
      have hc2 := S2 _ _ hc1
      have k2 : But p H H2 := k1.tr (But.of S2)
      have w2 : ∀ z, PenC (upd H2 p (.lst [.ref c, .int (t + 1), .int z])) p c (n + 1) := fun z => ⟨cells, _, z, upd_same, by rw [upd_ne cp]; exact hc2, hi, hl, cp, by omega, by omega⟩
      have w3 : PenC H2 p c (n + 1) := ⟨cells, _, l, hp2, hc2, hi, hl, cp, by omega, by omega⟩
      obtain ⟨ds', dd', ds3⟩ := ints_dp (K := K) (H := H2) hi
      refine ⟨.list ds', .list [], .lst (SqL.of hc2) dd', .lst (SqL.of hr2) .nil, ds3, rfl, _, rfl, ?_⟩
      have full : cells = [] → (!PyData.eqv (.list ds') (.list [])) = false := fun e => by
        subst e
        cases dd'
        rfl
      have t9 : t ≤ 100000 := by omega
      refine ite2 (fun hne => ?z1) (fun _ => ?z2)
      case' z1 =>
        have n0 : 0 < (cells.length : Int) := by
          cases cells with
          | nil =>
            rw [full rfl] at hne
            cases hne
          | cons _ _ => simp
        obtain ⟨x, hx, hm⟩ := atI_in (xs := cells) (i := t % (cells.length : Int)) (fmod_in n0).1 (fmod_in n0).2
        obtain ⟨cell, rfl⟩ := hi x hm
        refine ⟨_, rfl, p, _, 0, _, rfl, rfl, SqL.of hp2, i0, _, rfl, .inl ⟨_, rfl, _, rfl, p, _, 0, _, rfl, rfl, SqL.of hp2, i0, c, _, rfl, .inl (SqL.of hc2), _, _, rfl, rfl, n0, c, _, _, _, rfl, rfl, SqL.of hc2, hx, ?_⟩⟩
      all_goals
        refine ⟨_, rfl, _, rfl, p, _, 0, _, rfl, rfl, SqL.of hp2, i0, c, _, rfl, .inl (SqL.of hc2), _, _, rfl, rfl, _, rfl, ?_⟩
        refine ite2 (fun _ => ?x1) (fun _ => ?x2)
        case x1 =>
          refine ⟨_, rfl, _, rfl, _, _, rfl, rfl, ⟨by decide, by decide, by decide⟩, _, _, rfl, rfl, _, rfl, ?_⟩
          refine ite2 (fun _ => ?y1) (fun _ => ?y2)
          case y1 =>
            refine ⟨_, rfl, _, rfl, _, _, rfl, rfl, ⟨by decide, by decide, by decide⟩, _, _, rfl, rfl, _, _, rfl, rfl, .inl ⟨by decide, by decide⟩, _, rfl, _, _, rfl, rfl, .inr ⟨_, rfl, _, _, rfl, rfl, ?_⟩⟩
            refine ⟨_, rfl, .inl ⟨_, rfl, _, rfl, _, _, rfl, rfl, m3, _, rfl, p, _, 2, 2, rfl, rfl, hp2, rfl, ?_⟩⟩
            refine ⟨_, rfl, .inl ⟨_, rfl, _, rfl, _, _, rfl, rfl, m0, ?_⟩⟩
            exact q _ _ (fmod_in m0).1 (fmod_in m0).2 (w2 _) (k2.tr fun b o nb e => by rw [upd_ne nb]; exact e)
          case y2 =>
            refine ⟨_, rfl, .inl ⟨_, rfl, _, _, rfl, rfl, (by show (0 : Int) < 2147483563; decide), _, rfl, _, _, rfl, rfl, .inl ⟨by decide, by decide⟩, _, _, rfl, rfl, _, _, rfl, rfl, _, _, rfl, rfl, ⟨by decide, by decide, small5b (fmod_in (by decide)).1 (Int.lt_of_lt_of_le (fmod_in (by decide)).2 (by decide)) t0 t9 (by decide) (by decide) (by decide) (by decide)⟩,
              .inl ⟨_, rfl, _, _, rfl, rfl, (by show (0 : Int) < 2147483629; decide), ?_⟩⟩⟩
            refine ⟨_, rfl, _, rfl, _, _, rfl, rfl, .inl ⟨by decide, by decide⟩, _, _, rfl, rfl, _, _, rfl, rfl, .inl ⟨Int.lt_of_lt_of_le (by decide) (fmod_in (by decide)).1, Int.lt_trans (fmod_in (by decide)).2 (by decide)⟩,
              _, rfl, _, _, rfl, rfl, .inl ⟨by decide, by decide⟩, _, rfl, _, _, rfl, rfl, .inl (in64b (by decide) (by decide) t0 t9), _, _, rfl, rfl, _, _, rfl, rfl, _, _, rfl, rfl,
              ⟨by decide, by decide, small3b (fmod_in (by decide)).1 (Int.lt_of_lt_of_le (fmod_in (by decide)).2 (by decide)) t0 t9 (by decide) (by decide) (by decide) (by decide) (by decide) (by decide)⟩,
              .inl ⟨_, rfl, _, _, rfl, rfl, (by show (0 : Int) < 2147483587; decide), ?_⟩⟩
            refine ⟨_, rfl, _, _, rfl, rfl, ⟨by decide, by decide⟩, .inl ⟨_, rfl, _, rfl, _, _, rfl, rfl, m0, ?_⟩⟩
            exact q _ _ (fmod_in m0).1 (fmod_in m0).2 w3 k2
        case x2 =>
          refine ⟨_, rfl, .inl ⟨_, rfl, _, _, rfl, rfl, (by show (0 : Int) < 2147483563; decide), _, rfl, _, _, rfl, rfl, .inl ⟨by decide, by decide⟩, _, _, rfl, rfl, _, _, rfl, rfl, _, _, rfl, rfl, ⟨by decide, by decide, small5b (fmod_in (by decide)).1 (Int.lt_of_lt_of_le (fmod_in (by decide)).2 (by decide)) t0 t9 (by decide) (by decide) (by decide) (by decide)⟩,
            .inl ⟨_, rfl, _, _, rfl, rfl, (by show (0 : Int) < 2147483629; decide), ?_⟩⟩⟩
          refine ⟨_, rfl, _, rfl, _, _, rfl, rfl, .inl ⟨by decide, by decide⟩, _, _, rfl, rfl, _, _, rfl, rfl, .inl ⟨Int.lt_of_lt_of_le (by decide) (fmod_in (by decide)).1, Int.lt_trans (fmod_in (by decide)).2 (by decide)⟩,
            _, rfl, _, _, rfl, rfl, .inl ⟨by decide, by decide⟩, _, rfl, _, _, rfl, rfl, .inl (in64b (by decide) (by decide) t0 t9), _, _, rfl, rfl, _, _, rfl, rfl, _, _, rfl, rfl,
            ⟨by decide, by decide, small3b (fmod_in (by decide)).1 (Int.lt_of_lt_of_le (fmod_in (by decide)).2 (by decide)) t0 t9 (by decide) (by decide) (by decide) (by decide) (by decide) (by decide)⟩,
            .inl ⟨_, rfl, _, _, rfl, rfl, (by show (0 : Int) < 2147483587; decide), ?_⟩⟩
          refine ⟨_, rfl, _, _, rfl, rfl, ⟨by decide, by decide⟩, .inl ⟨_, rfl, _, rfl, _, _, rfl, rfl, m0, ?_⟩⟩
          exact q _ _ (fmod_in m0).1 (fmod_in m0).2 w3 k2
theorem scPick : FnScope ["_law_pen_here", "_law_some"] ["_law_pen_here", "_law_some"] (defScope (top i__law_pick)) := ⟨rfl, rfl, rfl, by decide +kernel, rfl, by decide +kernel, by decide +kernel⟩
theorem ok_pickP (F : FnL K "_law_pick" i__law_pick f fd) (tLen : mg "len" = none) (D : DefP P w K mg base CX0 1 "_law_draw" ["_law_pen_here", "_law_many"] spDrawP) : FnOk P w K mg base CX0 2 f fd ["_law_pen_here", "_law_some"] spPickP := by
  refine F.ok scPick (fun vs H Q E h => ?_) (fun cdv A outer s H vs Q E hr h => ?_)
  · obtain ⟨p, c, l, xs, n, rfl, _⟩ := h
    rfl
  · obtain ⟨p, c, l, xs, n, rfl, hl, lp, l0, l1, pen, hn, q⟩ := h
    refine ⟨_, PSs.nox (pss_one (ps_ret (pe_ix ix_list (pv 1) (pe_def (E := E0) D hr (by rfl) pass0 (pa_cons (pv 0) (pa_cons
      (pe_callB call_len_seq (by rfl) tLen PySem.boot_len (pa_cons (pv 1) pa_nil)) pa_nil))) (fun _ _ => rfl)))), ?_⟩
    refine ⟨_, rfl, _, rfl, _, rfl, l, _, rfl, .inl (SqL.of hl), p, c, _, n, rfl, by omega, by omega, pen, hn, fun z H' z0 z1 pen' k => ?_⟩
    obtain ⟨x, hx, hm⟩ := atI_in (xs := xs) z0 z1
    exact ⟨l, xs, z, x, rfl, rfl, SqL.of (k l _ lp hl), hx, q x H' hm pen' k⟩
end
end H1
set_option Elab.async false
set_option linter.all false
set_option maxRecDepth 100000
set_option maxHeartbeats 4000000
/-! str of any depth; what a law draws: kinds and plans of parts. -/
namespace Ev
open PySem PySem.Spec PyProof.Rows L2
mutual
/-- the plan of a part: a tuple of its sort and what it is made of -/
inductive PlAt (H : Hp) : V → Pt → Prop
  | byte {a : Addr} : H a = some (.tup [.str "byte"]) → PlAt H (.ref a) .byte
  | kind {a : Addr} {s : Str} {t : Nat} : H a = some (.tup [.str "kind", .str s, .int t]) → nameB (.str s) = true → 1 ≤ t → t ≤ 8 → PlAt H (.ref a) (.kind s t)
  | use {a : Addr} {s : Str} : H a = some (.tup [.str "use", .str s]) → nameB (.str s) = true → PlAt H (.ref a) (.use s)
  | row {a : Addr} {v : V} {p : Pt} {n : Nat} : H a = some (.tup [.str "row", v, .int n]) → 1 ≤ n → n ≤ 64 → PlAt H v p → PlAt H (.ref a) (.row p n)
  | grp {a l : Addr} {ov : Bool} {vs : List V} {ps : Pts} : H a = some (.tup [.str (if ov then "overlay" else "record"), .ref l]) → H l = some (.lst vs) → PlAll H vs ps → ps.nms.Nodup → 1 ≤ ps.len → ps.len ≤ mostG ov → PlAt H (.ref a) (.grp ov ps)
inductive PlAll (H : Hp) : List V → Pts → Prop
  | nil : PlAll H [] .nil
  | cons {q : Addr} {v : V} {s : Str} {p : Pt} {vs : List V} {ps : Pts} : nameB (.str s) = true → H q = some (.tup [.str s, v]) → PlAt H v p → PlAll H vs ps → PlAll H (.ref q :: vs) (.cons s p ps)
end
mutual
theorem PlAt.same {H H' : Hp} (S : Same H H') : ∀ {v : V} {p : Pt}, PlAt H v p → PlAt H' v p
  | _, _, .byte a => .byte (S _ _ a)
  | _, _, .kind a b c d => .kind (S _ _ a) b c d
  | _, _, .use a b => .use (S _ _ a) b
  | _, _, .row a b c d => .row (S _ _ a) b c (d.same S)
  | _, _, .grp a b c d e f => .grp (S _ _ a) (S _ _ b) (c.same S) d e f
theorem PlAll.same {H H' : Hp} (S : Same H H') : ∀ {vs : List V} {ps : Pts}, PlAll H vs ps → PlAll H' vs ps
  | _, _, .nil => .nil
  | _, _, .cons a b c d => .cons a (S _ _ b) (c.same S) (d.same S)
end
theorem PlAll.len {H : Hp} : ∀ {vs : List V} {ps : Pts}, PlAll H vs ps → vs.length = ps.len
  | _, _, .nil => rfl
  | _, _, .cons _ _ _ d => congrArg Nat.succ d.len
/-- a list of pairs of names and times -/
def KindsAt (H : Hp) (l : Addr) : Prop := ∃ vs, H l = some (.lst vs) ∧ vs.length ≤ 16 ∧ ∀ v ∈ vs, ∃ (q : Addr) (s : Str) (t : Nat), v = .ref q ∧ H q = some (.tup [.str s, .int t]) ∧ nameB (.str s) = true ∧ 1 ≤ t ∧ t ≤ 8
theorem KindsAt.same {H H' : Hp} (S : Same H H') {l : Addr} : KindsAt H l → KindsAt H' l
  | ⟨vs, a, b, c⟩ => ⟨vs, S _ _ a, b, fun v hv => let ⟨q, s, t, e, h, r⟩ := c v hv; ⟨q, s, t, e, S _ _ h, r⟩⟩
def knames : List (List Str) := [["int", "long", "ptr"], ["k", "zz", "a"], ["short", "b", "d"]]
theorem knames_ok : ∀ l ∈ knames, ∀ s ∈ l, nameB (.str s) = true := by decide +kernel
def ktimes : List Int := [1, 1, 1, 2, 3, 8]
theorem ktimes_ok : ∀ t ∈ ktimes, 1 ≤ t ∧ t ≤ 8 := by decide
def spKindsP : Sp := fun vs H Q _ => ∃ (p c : Addr) (n : Nat), vs = [.ref p] ∧ PenC H p c n ∧ n ≤ 80000 ∧ ∀ (l : Addr) (H' : Hp) (m : Nat), l ≠ p → KindsAt (del H' p) l → m ≤ n + 5 → PenC H' p c m → But p H H' → Q (.ref l) H'
theorem fresh {H : Hp} {a : Addr} (o : HO) (ha : H a = none) : ∃ H1, upd H a o = H1 ∧ Same H H1 ∧ H1 a = some o ∧ ∀ b u, H b = some u → b ≠ a := ⟨_, rfl, same_upd ha, upd_same, fun b u h => ne_of_none h ha⟩
theorem mem_cut {xs : List V} {lo hi : Option Int} {v : V} (h : v ∈ cutV xs lo hi) : v ∈ xs := List.mem_of_mem_drop (List.mem_of_mem_take h)
theorem PenC.upd {H : Hp} {p c D : Addr} {n : Nat} {o : HO} (dp : D ≠ p) (dc : D ≠ c) : PenC H p c n → PenC (L2.upd H D o) p c n
  | ⟨cells, t, l, h1, h2, r⟩ => ⟨cells, t, l, by rw [upd_ne (Ne.symm dp)]; exact h1, by rw [upd_ne (Ne.symm dc)]; exact h2, r⟩
theorem PenC.at2 {H : Hp} {p c : Addr} {n : Nat} : PenC H p c n → (∃ o, H p = some o) ∧ (∃ o, H c = some o)
  | ⟨_, _, _, h1, h2, _⟩ => ⟨⟨_, h1⟩, ⟨_, h2⟩⟩
end Ev
namespace H1
open PySem PySem.Spec PyProof.Rows L2 Ev
section
variable {P : Program} {w : World} {K : PySem.W.Frag} {mg : Str → Option Value} {base : Heap} {f : Addr} {fd : FuncData}
theorem strF_all {dK dB dU dW dR dO : FuncData} (FK : FnM K "Kind" "__str__" i_Kind j_Kind___str__ [] (He.ma K (He.ga K "Kind") "__str__") dK) (FB : FnM K "Byte" "__str__" i_Byte j_Byte___str__ [] (He.ma K (He.ga K "Byte") "__str__") dB)
    (FU : FnM K "Use" "__str__" i_Use j_Use___str__ [] (He.ma K (He.ga K "Use") "__str__") dU) (FW : FnM K "Row" "__str__" i_Row j_Row___str__ [] (He.ma K (He.ga K "Row") "__str__") dW)
    (FR : FnM K "Record" "__str__" i_Record j_Record___str__ [] (He.ma K (He.ga K "Record") "__str__") dR) (FO : FnM K "Overlay" "__str__" i_Overlay j_Overlay___str__ [] (He.ma K (He.ga K "Overlay") "__str__") dO) (T : PCls K) :
    ∀ d : Nat, d ≤ 6 → StrF P w K mg base (2 * d + 1) d := by
  intro d
  induction d with
  | zero =>
    intro _ cn _ A outer s H us vs Q E hr e0 r h
    obtain ⟨x, p, _, _, _, hd, _⟩ := h
    have := p.dep0
    exact absurd hd (by omega)
  | succ d ih =>
    intro hd cn hcn
    have SF := ih (by omega)
    have one : ∀ {k : Nat} {g : Addr} {fd : FuncData} {sp : Sp}, FnOk P w K mg base CX0 k g fd ["self"] sp → Binds K fd ["self"] [] → FnR P w K mg base CX0 k g sp := fun G b => FnR.imp (G.raw b .nil) (fun vs H Q E h => by rw [List.append_nil]; exact h)
    simp only [allP, List.mem_cons, List.not_mem_nil, or_false] at hcn
    rcases hcn with rfl | rfl | rfl | rfl | rfl | rfl
    · exact one (ok_strKind FK T (2 * d + 2) (d + 1)) (bSKind FK)
    · exact one (ok_strByte FB (2 * d + 2) (d + 1)) (bSByte FB)
    · exact one (ok_strUse FU T (2 * d + 2) (d + 1)) (bSUse FU)
    · exact one (ok_strRow FW T SF (by omega)) (bSRow FW)
    · exact one (ok_strRecord FR T SF (by omega)) (bSRecord FR)
    · exact one (ok_strOverlay FO T SF (by omega)) (bSOverlay FO)
abbrev NKi : List Str := ["_law_pen_here", "_law_names", "_law_name"]
theorem scKi : FnScope NKi ["_law_pen_here"] (defScope (top i__law_kinds)) := ⟨rfl, rfl, rfl, by decide +kernel, rfl, by decide +kernel, by decide +kernel⟩
theorem ok_kindsP (F : FnL K "_law_kinds" i__law_kinds f fd) (D1 : DefP P w K mg base CX0 1 "_law_draw" ["_law_pen_here", "_law_many"] spDrawP) (D2 : DefP P w K mg base CX0 2 "_law_pick" ["_law_pen_here", "_law_some"] spPickP) :
    FnOk P w K mg base CX0 3 f fd ["_law_pen_here"] spKindsP := by
  refine F.ok scKi (fun vs H Q E h => ?_) (fun cdv A outer s H vs Q E hr h => ?_)
  · obtain ⟨p, c, n, rfl, _⟩ := h
    rfl
  · obtain ⟨p, c, n, rfl, pen, hn, q⟩ := h
    refine ⟨_, PSs.nox (pss_cons (ps_set (i := 1) scKi.nd rfl (Or.inl rfl) (pe_def (E := E0) D2 hr (by rfl) pass0 (pa_cons (pv 0) (pa_cons (pe_lst
        (pa_cons (pe_lst (pa_cons pe_str (pa_cons pe_str (pa_cons pe_str pa_nil)))) (pa_cons (pe_lst (pa_cons pe_str (pa_cons pe_str (pa_cons pe_str pa_nil)))) (pa_cons (pe_lst (pa_cons pe_str (pa_cons pe_str (pa_cons pe_str pa_nil)))) pa_nil)))) pa_nil))))
      (pss_cons (ps_set (i := 1) scKi.nd rfl (Or.inl rfl) (pe_slice sl_list (pv 1) po_none (po_some (pe_op op_add pe_int (pe_def (E := E0) D1 (hr.mono (by decide)) (by rfl) pass0 (pa_cons (pv 0) (pa_cons pe_int pa_nil)))))))
      (pss_one (ps_ret (pe_lc (own := [("_law_name", 2)]) (g := gName 2) (tt := tYes) rfl scKi.nd (pi_list (pv 1)) (blkOk_by (N := NKi) (sc := defScope (top i__law_kinds)) (by decide +kernel))
        (fun _ _ _ _ _ => pg_name (i := 2) scKi.nd rfl (Or.inl rfl)) (fun _ _ _ _ _ => pts_nil)
        (fun _ _ _ _ _ => pe_tup (pa_cons (pv 2) (pa_cons (pe_def (E := E0) D2 hr (by rfl) pass0 (pa_cons (pv 0) (pa_cons (pe_lst (pa_cons pe_int (pa_cons pe_int (pa_cons pe_int (pa_cons pe_int (pa_cons pe_int (pa_cons pe_int pa_nil))))))) pa_nil))) pa_nil)))))))), ?_⟩
    obtain ⟨⟨op, hp0⟩, ⟨oc, hc0⟩⟩ := pen.at2
    refine ⟨_, rfl, (by show 3 ≤ sizeLine; decide), fun l1 hl1 => ?_⟩
    obtain ⟨H1, e1, S1, g1, n1⟩ := fresh (HO.lst [V.str "int", V.str "long", V.str "ptr"]) hl1
    rw [e1]
    refine ⟨(by show 3 ≤ sizeLine; decide), fun l2 hl2 => ?_⟩
    obtain ⟨H2, e2, S2, g2, n2⟩ := fresh (HO.lst [V.str "k", V.str "zz", V.str "a"]) hl2
    rw [e2]
    refine ⟨(by show 3 ≤ sizeLine; decide), fun l3 hl3 => ?_⟩
    obtain ⟨H3, e3, S3, g3, n3⟩ := fresh (HO.lst [V.str "short", V.str "b", V.str "d"]) hl3
    rw [e3]
    refine ⟨(by show 3 ≤ sizeLine; decide), fun l4 hl4 => ?_⟩
    obtain ⟨H4, e4, S4, g4, n4⟩ := fresh (HO.lst [V.ref l1, V.ref l2, V.ref l3]) hl4
    rw [e4]
    have S04 := same_tr S1 (same_tr S2 (same_tr S3 S4))
    have p1 : l1 ≠ p := Ne.symm (n1 _ _ hp0)
    have p2 : l2 ≠ p := Ne.symm (n2 _ _ (S1 _ _ hp0))
    have p3 : l3 ≠ p := Ne.symm (n3 _ _ (S2 _ _ (S1 _ _ hp0)))
    have p4 : l4 ≠ p := Ne.symm (n4 _ _ (S3 _ _ (S2 _ _ (S1 _ _ hp0))))
    refine ⟨p, c, l4, _, n, rfl, g4, p4, (by show 0 < 3; decide), (by show 3 ≤ 100000; decide), pen.same S04, by omega, fun x H5 hx pen5 B5 => ?_⟩
    have hx' : ∃ l ns, x = .ref l ∧ H5 l = some (.lst (ns.map V.str)) ∧ l ≠ p ∧ ns ∈ knames ∧ ns.length = 3 := by
      simp only [List.mem_cons, List.not_mem_nil, or_false] at hx
      rcases hx with rfl | rfl | rfl
      · exact ⟨l1, ["int", "long", "ptr"], rfl, B5 _ _ p1 (S4 _ _ (S3 _ _ (S2 _ _ g1))), p1, by decide, rfl⟩
      · exact ⟨l2, ["k", "zz", "a"], rfl, B5 _ _ p2 (S4 _ _ (S3 _ _ g2)), p2, by decide, rfl⟩
      · exact ⟨l3, ["short", "b", "d"], rfl, B5 _ _ p3 (S4 _ _ g3), p3, by decide, rfl⟩
    obtain ⟨l, ns, rfl, gl, lp, hns, h3⟩ := hx'
    refine ⟨_, rfl, _, rfl, p, c, 3, n + 1, rfl, by decide, by decide, pen5, by omega, fun z H6 z0 z1 pen6 B6 => ?_⟩
    refine ⟨_, _, rfl, rfl, _, rfl, l, _, rfl, SqL.of (B6 _ _ lp gl), fun l5 hl5 => ?_⟩
    obtain ⟨H7, e7, S7, g7, n7⟩ := fresh (HO.lst (cutV (ns.map V.str) none (some (1 + z)))) hl5
    rw [e7]
    have hp6 := pen6.at2.1
    obtain ⟨o6, hp6⟩ := hp6
    have p5 : l5 ≠ p := Ne.symm (n7 _ _ hp6)
    have pen7 := pen6.same S7
    have B7 : But p H H7 := ((But.of S04).tr (B5.tr B6)).tr (But.of S7)
    generalize hxs : cutV (ns.map V.str) none (some (1 + z)) = xs at *
    have hxl : xs.length ≤ 3 := by
      rw [← hxs]
      exact Nat.le_trans (cutV_length _ _ _) (by rw [List.length_map, h3]; decide)
    have hxm : ∀ v ∈ xs, ∃ s, v = .str s ∧ nameB (.str s) = true := fun v hv => by
      rw [← hxs] at hv
      obtain ⟨s, hs, rfl⟩ := List.mem_map.mp (mem_cut hv)
      exact ⟨s, rfl, knames_ok ns hns s hs⟩
    refine ⟨_, rfl, l5, rfl, ⟨xs, SqL.of g7⟩, fun D hD => ?_⟩
    obtain ⟨⟨o7, hp7⟩, ⟨c7, hc7⟩⟩ := pen7.at2
    have Dp : D ≠ p := Ne.symm (ne_of_none hp7 hD)
    have Dc : D ≠ c := Ne.symm (ne_of_none hc7 hD)
    refine lc_list (K := K) (a := l5) (xs := xs) (fun i H' => ∃ ws, PenC H' p c (n + 2 + i) ∧ But p H7 H' ∧ H' D = some (.lst ws) ∧ ws.length = i ∧
      ∀ v ∈ ws, ∃ (q : Addr) (s : Str) (t : Nat), v = .ref q ∧ q ≠ p ∧ q ≠ D ∧ H' q = some (.tup [.str s, .int t]) ∧ nameB (.str s) = true ∧ 1 ≤ t ∧ t ≤ 8)
      ⟨[], pen7.upd Dp Dc, But.of (same_upd hD), upd_same, rfl, fun v hv => by cases hv⟩ (fun i H' hi' e => ?_) (fun i x H' hx e => ?_) ?_
    · obtain ⟨ws, _, B8, _⟩ := e
      exact SqL.of (B8 _ _ p5 g7)
    · obtain ⟨ws, pen8, B8, gD, hwl, hws⟩ := e
      obtain ⟨s, rfl, hs⟩ := hxm x (List.mem_of_getElem? hx)
      have hil : i < xs.length := (List.getElem?_eq_some_iff.mp hx).1
      refine ⟨rfl, ?_⟩
      dsimp only [tYes]
      rw [if_pos rfl]
      refine ⟨_, rfl, _, rfl, (by show 6 ≤ sizeLine; decide), fun l6 hl6 => ?_⟩
      obtain ⟨H9, e9, S9, g9, n9⟩ := fresh (HO.lst (ktimes.map V.int)) hl6
      rw [show upd H' l6 (HO.lst [V.int 1, V.int 1, V.int 1, V.int 2, V.int 3, V.int 8]) = H9 from e9]
      obtain ⟨⟨o8, hp8⟩, ⟨c8, hc8⟩⟩ := pen8.at2
      have p6 : l6 ≠ p := Ne.symm (n9 _ _ hp8)
      refine ⟨p, c, l6, _, n + 2 + i, rfl, g9, p6, by decide, by decide, pen8.same S9, by omega, fun y H10 hy pen10 B10 => ?_⟩
      obtain ⟨t, ht, rfl⟩ := List.mem_map.mp hy
      obtain ⟨t1, t8⟩ := ktimes_ok t ht
      obtain ⟨tn, rfl⟩ := Int.eq_ofNat_of_zero_le (show 0 ≤ t by omega)
      refine ⟨(by show 2 ≤ sizeLine; decide), fun q0 hq0 => ?_⟩
      obtain ⟨H11, e11, S11, g11, n11⟩ := fresh (HO.tup [V.str s, V.int tn]) hq0
      rw [show upd H10 q0 (HO.tup [V.str s, V.int (tn : Nat)]) = H11 from e11]
      obtain ⟨⟨o10, hp10⟩, _⟩ := pen10.at2
      have q0p : q0 ≠ p := Ne.symm (n11 _ _ hp10)
      have gD10 : H10 D = some (.lst ws) := B10 _ _ Dp (S9 _ _ gD)
      have q0D : q0 ≠ D := Ne.symm (n11 _ _ gD10)
      have gD11 := S11 _ _ gD10
      have pen11 := pen10.same S11
      have B11 : But p H' H11 := ((But.of S9).tr B10).tr (But.of S11)
      refine ⟨ws, gD11, by rw [sizeLine_eq]; omega, ws ++ [.ref q0], ?_, fun b o nb z => ?_, upd_same, by rw [List.length_append, hwl]; rfl, fun v hv => ?_⟩
      · have := (pen11.upd (o := .lst (ws ++ [V.ref q0])) Dp Dc).mono (m := n + 2 + (i + 1)) (by omega)
        exact this
      · have zD : b ≠ D := ne_of_none z hD
        rw [upd_ne zD]
        exact B11 _ _ nb (B8 _ _ nb z)
      · rcases List.mem_append.mp hv with hv | hv
        · obtain ⟨q, s', t', rfl, a1, a2, a3, a4⟩ := hws v hv
          exact ⟨q, s', t', rfl, a1, a2, by rw [upd_ne a2]; exact B11 _ _ a1 a3, a4⟩
        · rw [List.mem_singleton] at hv
          subst hv
          exact ⟨q0, s, tn, rfl, q0p, q0D, by rw [upd_ne q0D]; exact g11, hs, by omega, by omega⟩
    · rintro H' ⟨ws, pen8, B8, gD, hwl, hws⟩
      refine q D H' _ Dp ⟨ws, by rw [del_ne Dp]; exact gD, by omega, fun v hv => ?_⟩ (by omega) pen8 (B7.tr B8)
      obtain ⟨q, s', t', rfl, a1, a2, a3, a4⟩ := hws v hv
      exact ⟨q, s', t', rfl, by rw [del_ne a1]; exact a3, a4⟩
end
end H1
set_option Elab.async false
set_option linter.all false
set_option maxRecDepth 100000
set_option maxHeartbeats 4000000
/-! Plans of parts as the law draws them. -/
namespace Ev
open PySem PySem.Spec PyProof.Rows L2
/-- what H' has that H had not -/
def new (H H' : Hp) : Hp := fun b => match H b with
  | none => H' b
  | some _ => none
theorem new_at2 {H H' : Hp} {b : Addr} (h : H b = none) : new H H' b = H' b := by unfold new; rw [h]
theorem newOf {H H' : Hp} {b : Addr} {o : HO} (h : new H H' b = some o) : H b = none ∧ H' b = some o := by
  unfold new at h
  cases e : H b with
  | none => rw [e] at h; exact ⟨rfl, h⟩
  | some u => rw [e] at h; cases h
theorem new_r {H H1 H2 : Hp} (h : ∀ b o, H b = none → H1 b = some o → H2 b = some o) : Same (new H H1) (new H H2) := fun b o e => by
  obtain ⟨a, c⟩ := newOf e
  rw [new_at2 a]
  exact h b o a c
theorem new_l {H0 H1 H2 : Hp} (h : ∀ b, H1 b = none → H0 b = none) : Same (new H1 H2) (new H0 H2) := fun b o e => by
  obtain ⟨a, c⟩ := newOf e
  rw [new_at2 (h b a)]
  exact c
theorem new_up {H H' : Hp} : Same (new H H') H' := fun b o e => (newOf e).2
/-- what stood stands, by address -/
def Dom (H H' : Hp) : Prop := ∀ b, H' b = none → H b = none
theorem Dom.of {H H' : Hp} (S : Same H H') : Dom H H' := fun b h => same_none S b h
theorem Dom.tr {H H1 H2 : Hp} (a : Dom H H1) (b : Dom H1 H2) : Dom H H2 := fun c h => a c (b c h)
theorem Dom.but {H H' : Hp} {p : Addr} {o : HO} (k : But p H H') (h : H' p = some o) : Dom H H' := fun b e => by
  cases e2 : H b with
  | none => rfl
  | some u =>
    by_cases bp : b = p
    · subst bp; rw [h] at e; cases e
    · rw [k b u bp e2] at e; cases e
theorem new_but {H H1 H2 : Hp} {p : Addr} {o : HO} (hp : H p = some o) (k : But p H1 H2) : Same (new H H1) (new H H2) := new_r fun b u hb e => k b u (fun z => by rw [z, hp] at hb; cases hb) e
theorem new_same {H H1 H2 : Hp} (S : Same H1 H2) : Same (new H H1) (new H H2) := new_r fun b u _ e => S b u e
theorem Dom.upd {H : Hp} {D : Addr} {o : HO} : Dom H (L2.upd H D o) := fun b e => by
  by_cases z : b = D
  · subst z; rw [upd_same] at e; cases e
  · rwa [upd_ne z] at e
def Pts.snoc : Pts → Str → Pt → Pts
  | .nil, s, p => .cons s p .nil
  | .cons s' p' r, s, p => .cons s' p' (r.snoc s p)
theorem Pts.nms_snoc (s : Str) (p : Pt) : ∀ ps : Pts, (ps.snoc s p).nms = ps.nms ++ [s]
  | .nil => rfl
  | .cons s' _ r => congrArg (s' :: ·) (r.nms_snoc s p)
theorem Pts.dep_snoc (s : Str) (p : Pt) : ∀ ps : Pts, (ps.snoc s p).dep = max ps.dep (p.dep + 1)
  | .nil => by have := p.dep0; show max (p.dep + 1) 0 = max 0 (p.dep + 1); omega
  | .cons s' p' r => by
    show max (p'.dep + 1) (r.snoc s p).dep = max (max (p'.dep + 1) r.dep) (p.dep + 1)
    rw [r.dep_snoc s p]
    omega
theorem PlAll.snoc {H : Hp} {q : Addr} {v : V} {s : Str} {p : Pt} (a : nameB (.str s) = true) (b : H q = some (.tup [.str s, v])) (c : PlAt H v p) : ∀ {vs : List V} {ps : Pts}, PlAll H vs ps → PlAll H (vs ++ [.ref q]) (ps.snoc s p)
  | _, _, .nil => .cons a b c .nil
  | _, _, .cons a' b' c' d' => .cons a' b' c' (d'.snoc a b c)
mutual
/-- no use in it -/
def Pt.nu : Pt → Bool
  | .use _ => false
  | .row p _ => p.nu
  | .grp _ ps => ps.nu
  | .byte => true
  | .kind _ _ => true
def Pts.nu : Pts → Bool
  | .nil => true
  | .cons _ p r => p.nu && r.nu
end
theorem Pts.nu_snoc (s : Str) (p : Pt) : ∀ ps : Pts, (ps.snoc s p).nu = (ps.nu && p.nu)
  | .nil => by show (p.nu && true) = (true && p.nu); simp
  | .cons s' p' r => by
    show (p'.nu && (r.snoc s p).nu) = ((p'.nu && r.nu) && p.nu)
    rw [r.nu_snoc s p, Bool.and_assoc]
def cost : Nat → Nat
  | 0 => 1
  | k + 1 => 3 + 4 * cost k
def spPlanP (d : Nat) : Sp := fun vs H Q _ => ∃ (p c l : Addr) (k n : Nat), vs = [.ref p, .ref l, .int k] ∧ l ≠ p ∧ KindsAt (del H p) l ∧ k < d ∧ k ≤ 4 ∧ PenC H p c n ∧ n + cost k ≤ 90000 ∧
  ∀ (v : V) (H' : Hp) (t : Pt) (m : Nat), PlAt (new H H') v t → t.nu = true → t.dep ≤ k → m ≤ n + cost k → PenC H' p c m → But p H H' → Q v H'
/-- the way that is drawn: none where nothing may be within -/
def tWay : TE := fun σ H Q => ∃ (p c : Addr) (dp n : Nat), σ[0]? = some (some (.ref p)) ∧ σ[2]? = some (some (.int dp)) ∧ PenC H p c n ∧ n ≤ 90000 ∧
  ∀ (z : Int) (H' : Hp) (m : Nat), 0 ≤ z → z < 9 → (dp = 0 → z = 0 ∧ m = n) → m ≤ n + 1 → PenC H' p c m → But p H H' → Q (.int z) H'
theorem cost1 (k : Nat) : 1 ≤ cost k := by cases k with | zero => exact Nat.le_refl _ | succ k => show 1 ≤ 3 + 4 * cost k; omega
def N8 : List Str := ["a", "b", "c", "x", "y", "z", "tag", "count"]
theorem n8_ok : ∀ a < 8, ∀ m < 5, let l := ((N8 ++ N8).drop a).take m; l.Nodup ∧ l.length = m ∧ ∀ s ∈ l, nameB (.str s) = true := by decide +kernel
theorem cutV_nat {xs : List V} {a b : Nat} (h1 : a ≤ b) (h2 : b ≤ xs.length) : cutV xs (some (a : Int)) (some (b : Int)) = (xs.drop a).take (b - a) := by
  unfold cutV
  rw [HT.sIx_nat, HT.sIx_nat, Nat.min_eq_left h2, Nat.min_eq_left (Nat.le_trans h1 h2)]
theorem KindsAt.list {H : Hp} {p l : Addr} (h : KindsAt (del H p) l) (lp : l ≠ p) : ∃ vs, H l = some (.lst vs) ∧ vs.length ≤ 16 ∧ ∀ v ∈ vs, ∃ (q : Addr) (s : Str) (t : Nat), v = .ref q ∧ q ≠ p ∧ H q = some (.tup [.str s, .int t]) ∧ nameB (.str s) = true ∧ 1 ≤ t ∧ t ≤ 8 := by
  obtain ⟨vs, a, b, c⟩ := h
  rw [del_ne lp] at a
  refine ⟨vs, a, b, fun v hv => ?_⟩
  obtain ⟨q, s, t, e, h, r⟩ := c v hv
  have qp : q ≠ p := fun z => by rw [z, del_same] at h; cases h
  rw [del_ne qp] at h
  exact ⟨q, s, t, e, qp, h, r⟩
end Ev
namespace H1
open PySem PySem.Spec PyProof.Rows L2 Ev
section
variable {P : Program} {w : World} {K : PySem.W.Frag} {mg : Str → Option Value} {base : Heap} {f : Addr} {fd : FuncData}
abbrev NPl : List Str := ["_law_pen_here", "_law_kinds_here", "_law_deep_here", "_law_way", "_law_some", "_law_start", "_law_names", "_law_pairs", "_law_name", "_law_times"]
theorem scPl : FnScope NPl ["_law_pen_here", "_law_kinds_here", "_law_deep_here"] (defScope (top i__law_plan)) := ⟨rfl, rfl, rfl, by decide +kernel, rfl, by decide +kernel, by decide +kernel⟩
theorem ok_planS (F : FnL K "_law_plan" i__law_plan f fd) (tInt : mg "int" = none) (D1 : DefP P w K mg base CX0 1 "_law_draw" ["_law_pen_here", "_law_many"] spDrawP) (D2 : DefP P w K mg base CX0 2 "_law_pick" ["_law_pen_here", "_law_some"] spPickP)
    {k d : Nat} (k2 : 2 ≤ k) (R : DefP P w K mg base CX0 k "_law_plan" ["_law_pen_here", "_law_kinds_here", "_law_deep_here"] (spPlanP d)) :
    FnOk P w K mg base CX0 (k + 1) f fd ["_law_pen_here", "_law_kinds_here", "_law_deep_here"] (spPlanP (d + 1)) := by
  refine F.ok scPl (fun vs H Q E h => ?_) (fun cdv A outer s H vs Q E hr h => ?_)
  · obtain ⟨p, c, l, k, n, rfl, _⟩ := h
    rfl
  · obtain ⟨p, c, l, dp, n, rfl, lp, hk, hd, d4, pen, hn, q⟩ := h
    have hr1 : Room 1 (A.deeper (envOfC "_law_plan" (defScope (top i__law_plan)) s.heap.objs.size f cdv)) := hr.mono (by omega)
    have hr2 : Room 2 (A.deeper (envOfC "_law_plan" (defScope (top i__law_plan)) s.heap.objs.size f cdv)) := hr.mono k2
    refine ⟨_, PSs.nox (pss_cons (ps_set (i := 3) scPl.nd rfl (Or.inl rfl) (PE.imp (t' := tWay) (pe_ifExp (pt_cmpR op_gt (pv 2) pe_int (nomark _)) (pe_def (E := E0) D1 hr1 (by rfl) pass0 (pa_cons (pv 0) (pa_cons pe_int pa_nil))) pe_int) (fun σ H Q h => by
        obtain ⟨p, c, dp, n, e0, e2, pen, hn, q⟩ := h
        refine ⟨_, e2, _, _, rfl, rfl, _, rfl, ?_⟩
        refine ite2 (fun h1 => ?_) (fun h1 => ?_)
        · have h1' : (0 : Int) < dp := of_decide_eq_true h1
          exact ⟨_, e0, p, c, 9, n, rfl, by decide, by decide, pen, hn, fun z H' z0 z1 pen' B => q z H' (n + 1) z0 z1 (fun h => absurd h (by omega)) (Nat.le_refl _) pen' B⟩
        · have h1' : dp = 0 := by have : (dp : Int) ≤ 0 := Int.not_lt.mp (fun z => h1 (decide_eq_true z)); omega
          exact q 0 H n (by decide) (by decide) (fun _ => ⟨rfl, rfl⟩) (Nat.le_succ n) pen fun b o _ z => z)))
      (pss_cons (ps_if (pt_cmpR op_lt (pv 3) pe_int (nomark _)) (pss_one (ps_ret (pe_def (E := E0) D2 hr2 (by rfl) pass0 (pa_cons (pv 0) (pa_cons (pe_op op_cat (pe_lst (pa_cons (pe_tup (pa_cons pe_str pa_nil)) pa_nil))
          (pe_op op_rep (pe_lc (own := [("_law_name", 8), ("_law_times", 9)]) (g := gTup K 2 (gCons (gName 8) (gCons (gName 9) gNil))) (tt := tYes) rfl scPl.nd (pi_list (pv 1)) (blkOk_by (N := NPl) (sc := defScope (top i__law_plan)) (by decide +kernel))
            (fun _ _ _ _ _ => pg_tup rfl (pgs_cons (pg_name (i := 8) scPl.nd rfl (Or.inl rfl)) (pgs_cons (pg_name (i := 9) scPl.nd rfl (Or.inl rfl)) pgs_nil))) (fun _ _ _ _ _ => pts_nil)
            (fun _ _ _ _ _ => pe_tup (pa_cons pe_str (pa_cons (pv 8) (pa_cons (pv 9) pa_nil))))) pe_int)) pa_nil))))) pss_nil)
      (pss_cons (ps_if (pt_cmpR op_eq (pv 3) pe_int (nomark _)) (pss_one (ps_ret (pe_tup (pa_cons pe_str (pa_cons (pe_def (E := E0) R hr (by rfl) pass0 (pa_cons (pv 0) (pa_cons (pv 1) (pa_cons (pe_op op_sub (pv 2) pe_int) pa_nil))))
          (pa_cons (pe_op op_add pe_int (pe_def (E := E0) D1 hr1 (by rfl) pass0 (pa_cons (pv 0) (pa_cons pe_int pa_nil)))) pa_nil)))))) pss_nil)
      (pss_cons (ps_set (i := 4) scPl.nd rfl (Or.inl rfl) (pe_lst (pa_cons pe_str (pa_cons pe_str (pa_cons pe_str (pa_cons pe_str (pa_cons pe_str (pa_cons pe_str (pa_cons pe_str (pa_cons pe_str pa_nil))))))))))
      (pss_cons (ps_set (i := 5) scPl.nd rfl (Or.inl rfl) (pe_def (E := E0) D1 hr1 (by rfl) pass0 (pa_cons (pv 0) (pa_cons pe_int pa_nil))))
      (pss_cons (ps_set (i := 6) scPl.nd rfl (Or.inl rfl) (pe_slice sl_list (pe_op op_cat (pv 4) (pv 4)) (po_some (pv 5)) (po_some (pe_op op_add (pe_op op_add (pv 5) pe_int) (pe_def (E := E0) D1 hr1 (by rfl) pass0 (pa_cons (pv 0) (pa_cons
          (pe_ix ix_list (pe_lst (pa_cons pe_int (pa_cons pe_int pa_nil))) (pe_callTy call_int1 (by rfl) tInt (by decide +kernel) (pa_cons (pe_cmpR op_gt (pv 3) pe_int (nomark _)) pa_nil)) (fun _ _ => rfl)) pa_nil)))))))
      (pss_cons (ps_setLc (i := 7) (own := [("_law_name", 8)]) (g := gName 8) (tt := tYes) rfl scPl.nd rfl rfl (sw_true rfl rfl rfl (by decide +kernel)) (pi_list (pv 6)) (blkOk_by (N := NPl) (sc := defScope (top i__law_plan)) (by decide +kernel))
        (fun _ _ _ _ _ => pg_name (i := 8) scPl.nd rfl (Or.inl rfl)) (fun _ _ _ _ _ => pts_nil)
        (fun _ _ _ _ _ => pe_tup (pa_cons (pv 8) (pa_cons (pe_def (E := E0) R hr (by rfl) pass0 (pa_cons (pv 0) (pa_cons (pv 1) (pa_cons (pe_op op_sub (pv 2) pe_int) pa_nil)))) pa_nil))))
      (pss_one (ps_ret (pe_tup (pa_cons (pe_ifExp (pt_cmpR op_lt (pv 3) pe_int (nomark _)) pe_str pe_str) (pa_cons (pv 7) pa_nil)))))))))))), ?_⟩
    have hc1 := cost1 dp
    refine ⟨p, c, dp, n, rfl, rfl, pen, by omega, fun z H1 m z0 z9 hz hm pen1 B1 => ?_⟩
    obtain ⟨o0, hp0⟩ := pen.at2.1
    have hk1 : KindsAt (del H1 p) l := hk.same B1.del
    have dm1 : Dom H H1 := Dom.but B1 pen1.at2.1.choose_spec
    refine ⟨_, rfl, _, _, rfl, rfl, _, rfl, ?_⟩
    refine ite2 (fun h1 => ?_) (fun h1 => ?_)
    · -- the byte, a kind
      obtain ⟨vs, gl, vl, hvs⟩ := hk1.list lp
      refine ⟨_, rfl, (by show 1 ≤ sizeLine; decide), fun q0 hq0 => ?_⟩
      obtain ⟨H2, e2, S2, g2, n2⟩ := fresh (HO.tup [V.str "byte"]) hq0
      rw [e2]
      refine ⟨(by show 1 ≤ sizeLine; decide), fun l1 hl1 => ?_⟩
      obtain ⟨H3, e3, S3, g3, n3⟩ := fresh (HO.lst [V.ref q0]) hl1
      rw [e3]
      have S13 := same_tr S2 S3
      refine ⟨_, rfl, l, rfl, ⟨vs, SqL.of (S13 _ _ gl)⟩, fun D hD => ?_⟩
      obtain ⟨o3, hp3⟩ := (pen1.same S13).at2.1
      have hq0n : H q0 = none := dm1 _ hq0
      refine lc_list (K := K) (a := l) (xs := vs) (fun i H' => ∃ ws, Same H3 H' ∧ H' D = some (.lst ws) ∧ ws.length = i ∧ ∀ v ∈ ws, ∃ (q : Addr) (s : Str) (t : Nat), v = .ref q ∧ q ≠ D ∧ H3 q = none ∧ H' q = some (.tup [.str "kind", .str s, .int t]) ∧ nameB (.str s) = true ∧ 1 ≤ t ∧ t ≤ 8)
        ⟨[], same_upd hD, upd_same, rfl, fun v hv => by cases hv⟩ (fun i H' hi' e => ?_) (fun i x H' hx e => ?_) ?_
      · obtain ⟨ws, S4, _⟩ := e
        exact SqL.of (S4 _ _ (S13 _ _ gl))
      · obtain ⟨ws, S4, gD, hwl, hws⟩ := e
        obtain ⟨q1, s1, t1, rfl, q1p, gq1, hs1, t11, t18⟩ := hvs x (List.mem_of_getElem? hx)
        have hil : i < vs.length := (List.getElem?_eq_some_iff.mp hx).1
        refine ⟨q1, _, rfl, SqT.of (S4 _ _ (S13 _ _ gq1)), rfl, _, _, rfl, _, _, rfl, rfl, rfl, ?_⟩
        dsimp only [tYes]
        rw [if_pos rfl]
        refine ⟨_, rfl, _, rfl, (by show 3 ≤ sizeLine; decide), fun q2 hq2 => ?_⟩
        obtain ⟨H5, e5, S5, g5, n5⟩ := fresh (HO.tup [V.str "kind", V.str s1, V.int t1]) hq2
        rw [e5]
        have q2D : q2 ≠ D := Ne.symm (n5 _ _ gD)
        refine ⟨ws, S5 _ _ gD, by rw [sizeLine_eq]; omega, ws ++ [.ref q2], fun b o zz => ?_, upd_same, by rw [List.length_append, hwl]; rfl, fun v hv => ?_⟩
        · rw [upd_ne (ne_of_none zz hD)]
          exact S5 _ _ (S4 _ _ zz)
        · rcases List.mem_append.mp hv with hv | hv
          · obtain ⟨q, s', t', rfl, a1, a2, a3, a4⟩ := hws v hv
            exact ⟨q, s', t', rfl, a1, a2, by rw [upd_ne a1]; exact S5 _ _ a3, a4⟩
          · rw [List.mem_singleton] at hv
            subst hv
            exact ⟨q2, s1, t1, rfl, q2D, same_none S4 _ hq2, by rw [upd_ne q2D]; exact g5, hs1, t11, t18⟩
      · rintro H4 ⟨ws, S4, gD, hwl, hws⟩
        refine ⟨D, 2, ws, rfl, rfl, gD, by decide, by decide, by rw [sizeLine_eq]; show ws.length * 2 ≤ _; omega, fun l2 hl2 => ?_⟩
        obtain ⟨H5, e5, S5, g5, n5⟩ := fresh (HO.lst (List.replicate (2 : Int).toNat ws).flatten) hl2
        rw [e5]
        have e22 : (List.replicate (2 : Int).toNat ws).flatten = ws ++ ws := by show (List.replicate 2 ws).flatten = _; simp [List.replicate]
        rw [e22] at g5
        have S35 := same_tr S4 S5
        refine ⟨l1, l2, _, _, rfl, rfl, S35 _ _ g3, g5, by rw [List.length_append, sizeLine_eq]; show 1 + _ ≤ _; omega, fun l3 hl3 => ?_⟩
        obtain ⟨H6, e6, S6, g6, n6⟩ := fresh (HO.lst ([V.ref q0] ++ (ws ++ ws))) hl3
        rw [e6]
        have S16 := same_tr S13 (same_tr S35 S6)
        have l3p : l3 ≠ p := Ne.symm (n6 _ _ (S35 _ _ hp3))
        refine ⟨p, c, l3, _, m, rfl, g6, l3p, by simp, by rw [List.length_append, List.length_append]; show 1 + _ ≤ _; omega, pen1.same S16, by omega, fun x H7 hx pen7 B7 => ?_⟩
        have B17 : But p H H7 := B1.tr ((But.of S16).tr B7)
        have fin : ∀ t : Pt, PlAt (new H H7) x t → t.nu = true → t.dep = 0 → Q x H7 := fun t ht hu h0 => q x H7 t (m + 1) ht hu (by rw [h0]; omega) (by
          cases dp with
          | zero => have := (hz rfl).2; show _ ≤ n + 1; omega
          | succ k => have := cost1 k; show _ ≤ n + (3 + 4 * cost k); omega) pen7 B17
        rcases List.mem_append.mp hx with hx | hx
        · rw [List.mem_singleton] at hx
          subst hx
          have q0p : q0 ≠ p := Ne.symm (n2 _ _ pen1.at2.1.choose_spec)
          refine fin .byte (.byte ?_) rfl rfl
          rw [new_at2 hq0n]
          exact B7 _ _ q0p (S6 _ _ (S35 _ _ (S3 _ _ g2)))
        · have hx' : x ∈ ws := by rcases List.mem_append.mp hx with hx | hx <;> exact hx
          obtain ⟨q2, s', t', rfl, a1, a2, a3, a4, a5, a6⟩ := hws x hx'
          have q2p : q2 ≠ p := fun z => by rw [z, hp3] at a2; cases a2
          refine fin (.kind s' t') (.kind ?_ a4 a5 a6) rfl rfl
          rw [new_at2 (dm1 _ (same_none S13 _ a2))]
          exact B7 _ _ q2p (S6 _ _ (S5 _ _ a3))
    · have z3 : 3 ≤ z := Int.not_lt.mp (fun y => h1 (decide_eq_true y))
      obtain ⟨k', rfl⟩ : ∃ k', dp = k' + 1 := ⟨dp - 1, by
        cases dp with
        | zero => have := (hz rfl).1; omega
        | succ k => omega⟩
      have hck := cost1 k'
      have hcn : n + (3 + 4 * cost k') ≤ 90000 := hn
      have ek : (((k' + 1 : Nat) : Int) - 1) = (k' : Int) := by omega
      refine ⟨_, rfl, rfl, _, rfl, ?_⟩
      refine ite2 (fun h2 => ?_) (fun h2 => ?_)
      · -- a row
        refine ⟨_, rfl, _, rfl, _, rfl, _, _, rfl, rfl, ?_⟩
        refine ⟨p, c, l, k', m, by show [V.ref p, V.ref l, V.int (((k' + 1 : Nat) : Int) - 1)] = _; rw [ek], lp, hk1, by omega, by omega, pen1, by omega, fun v H2 t m2 ht htu htd hm2 pen2 B2 => ?_⟩
        refine ⟨_, rfl, p, c, 4, m2, rfl, by decide, by decide, pen2, by omega, fun y H3 y0 y4 pen3 B3 => ?_⟩
        refine ⟨_, _, rfl, rfl, (by show 3 ≤ sizeLine; decide), fun q0 hq0 => ?_⟩
        obtain ⟨H4, e4, S4, g4, n4⟩ := fresh (HO.tup [V.str "row", v, V.int (1 + y)]) hq0
        rw [e4]
        obtain ⟨yn, rfl⟩ := Int.eq_ofNat_of_zero_le y0
        have B14 : But p H1 H4 := B2.tr (B3.tr (But.of S4))
        have dm3 : Dom H H3 := dm1.tr (Dom.but (B2.tr B3) pen3.at2.1.choose_spec)
        have ht4 : PlAt (new H H4) v t := (ht.same (new_l dm1)).same (new_but hp0 (B3.tr (But.of S4)))
        refine q (.ref q0) H4 (.row t (1 + yn)) (m2 + 1) (.row ?_ (by omega) (by omega) ht4) htu ?_ ?_ (pen3.same S4) (B1.tr B14)
        · rw [new_at2 (dm3 _ hq0), g4]
          rfl
        · show t.dep + 1 ≤ ((k' + 1 : Nat) : Int)
          omega
        · show m2 + 1 ≤ n + (3 + 4 * cost k')
          omega
      · -- a record, an overlay
        refine ⟨(by show 8 ≤ sizeLine; decide), fun l1 hl1 => ?_⟩
        obtain ⟨H2, e2, S2, g2, n2⟩ := fresh (HO.lst (N8.map V.str)) hl1
        rw [show upd H1 l1 (HO.lst [V.str "a", V.str "b", V.str "c", V.str "x", V.str "y", V.str "z", V.str "tag", V.str "count"]) = H2 from e2]
        have l1p : l1 ≠ p := Ne.symm (n2 _ _ pen1.at2.1.choose_spec)
        refine ⟨_, rfl, p, c, 8, m, rfl, by decide, by decide, pen1.same S2, by omega, fun a0 H3 a00 a08 pen3 B3 => ?_⟩
        have g3 : H3 l1 = some (.lst (N8.map V.str)) := B3 _ _ l1p g2
        refine ⟨_, rfl, _, rfl, l1, l1, _, _, rfl, rfl, g3, g3, (by show 16 ≤ sizeLine; decide), fun l2 hl2 => ?_⟩
        obtain ⟨H4, e4, S4, g4, n4⟩ := fresh (HO.lst (N8.map V.str ++ N8.map V.str)) hl2
        rw [e4]
        refine ⟨_, rfl, _, rfl, _, rfl, _, _, rfl, rfl, _, rfl, (by show 2 ≤ sizeLine; decide), fun l3 hl3 => ?_⟩
        obtain ⟨H5, e5, S5, g5, n5⟩ := fresh (HO.lst [V.int 3, V.int 4]) hl3
        rw [e5]
        have hmx : ∃ mx : Int, (mx = 3 ∨ mx = 4) ∧ (z < 6 → mx = 3) ∧ atI [V.int 3, V.int 4] (if decide (z > 5) = true then 1 else 0) = some (.int mx) := by
          by_cases h : z > 5
          · exact ⟨4, .inr rfl, fun y => absurd y (by omega), by rw [if_pos (decide_eq_true h)]; exact atI_nat (j := 1) rfl⟩
          · exact ⟨3, .inl rfl, fun _ => rfl, by rw [if_neg (by rw [decide_eq_false h]; exact Bool.false_ne_true)]; exact atI_nat (j := 0) rfl⟩
        obtain ⟨mx, mx34, mx3, amx⟩ := hmx
        refine ⟨_, rfl, _, _, rfl, rfl, .inr ⟨_, rfl, l3, _, _, _, rfl, rfl, SqL.of g5, amx, p, c, mx, m + 1, rfl, by omega, by omega, pen3.same (same_tr S4 S5), by omega, fun y H6 y0 ymx pen6 B6 => ?_⟩⟩
        have l2p : l2 ≠ p := Ne.symm (n4 _ _ pen3.at2.1.choose_spec)
        refine ⟨_, _, rfl, rfl, _, rfl, l2, _, rfl, SqL.of (B6 _ _ l2p (S5 _ _ g4)), fun l4 hl4 => ?_⟩
        obtain ⟨a, rfl⟩ := Int.eq_ofNat_of_zero_le a00
        obtain ⟨yn, rfl⟩ := Int.eq_ofNat_of_zero_le y0
        have ecut : cutV (N8.map V.str ++ N8.map V.str) (some (a : Int)) (some ((a : Int) + 1 + (yn : Int))) = (((N8 ++ N8).drop a).take (yn + 1)).map V.str := by
          rw [show ((a : Int) + 1 + (yn : Int)) = ((a + 1 + yn : Nat) : Int) by omega, cutV_nat (by omega) (by show _ ≤ 16; omega), ← List.map_append, ← List.map_drop, ← List.map_take, show a + 1 + yn - a = yn + 1 by omega]
        obtain ⟨nd, nl, nn⟩ := n8_ok a (by omega) (yn + 1) (by omega)
        generalize hns : ((N8 ++ N8).drop a).take (yn + 1) = ns at ecut nd nl nn
        obtain ⟨H7, e7, S7, g7, n7⟩ := fresh (HO.lst (ns.map V.str)) hl4
        rw [ecut, e7]
        have l4p : l4 ≠ p := Ne.symm (n7 _ _ pen6.at2.1.choose_spec)
        have B17 : But p H1 H7 := (But.of S2).tr (B3.tr ((But.of (same_tr S4 S5)).tr (B6.tr (But.of S7))))
        have pen7 := pen6.same S7
        have dm7 : Dom H H7 := dm1.tr (Dom.but B17 pen7.at2.1.choose_spec)
        refine ⟨_, rfl, l4, rfl, ⟨ns.map V.str, SqL.of g7⟩, fun D hD => ?_⟩
        have Dp : D ≠ p := Ne.symm (ne_of_none pen7.at2.1.choose_spec hD)
        have Dc : D ≠ c := Ne.symm (ne_of_none pen7.at2.2.choose_spec hD)
        have DH : H D = none := dm7 _ hD
        have SD := same_upd (o := HO.lst []) hD
        have eHD : (upd H7 D (HO.lst [])) D = some (.lst []) := upd_same
        have hpD : ∃ o, (upd H7 D (HO.lst [])) p = some o := by rw [upd_ne (Ne.symm Dp)]; exact pen7.at2.1
        have dmD : Dom H (upd H7 D (HO.lst [])) := dm7.tr (Dom.of SD)
        refine lc_list (K := K) (a := l4) (xs := ns.map V.str) (fun i H' => ∃ ws ps m', PenC H' p c m' ∧ m' ≤ m + 2 + i * cost k' ∧ But p H7 H' ∧ Dom (upd H7 D (HO.lst [])) H' ∧ H' D = some (.lst ws) ∧
          PlAll (new (upd H7 D (HO.lst [])) H') ws ps ∧ ps.nms = ns.take i ∧ ps.dep ≤ (k' : Int) + 1 ∧ ps.nu = true) ⟨[], .nil, m + 2, pen7.upd Dp Dc, by omega, But.of SD, fun b h => h, upd_same, .nil, rfl, by show (0 : Int) ≤ _; omega, rfl⟩
          (fun i H' hi' e => ?_) (fun i x H' hx e => ?_) ?_
        · obtain ⟨ws, ps, m', _, _, B8, _⟩ := e
          exact SqL.of (B8 _ _ l4p g7)
        · obtain ⟨ws, ps, m', pen8, hm8, B8, dm8, gD, hpl, hnm, hdp, hnu⟩ := e
          rw [List.getElem?_map] at hx
          obtain ⟨s1, hs1, rfl⟩ := Option.map_eq_some_iff.mp hx
          have hil : i < ns.length := (List.getElem?_eq_some_iff.mp hs1).1
          have hs1n := nn s1 (List.mem_of_getElem? hs1)
          have ci : i * cost k' + cost k' ≤ 4 * cost k' := by rw [← Nat.succ_mul]; exact Nat.mul_le_mul_right _ (by omega)
          refine ⟨rfl, ?_⟩
          dsimp only [tYes]
          rw [if_pos rfl]
          refine ⟨_, rfl, _, rfl, _, rfl, _, rfl, _, _, rfl, rfl, p, c, l, k', m', by show [V.ref p, V.ref l, V.int (((k' + 1 : Nat) : Int) - 1)] = _; rw [ek], lp, hk1.same (B17.tr B8).del, by omega, by omega, pen8, by omega, fun v H8 t m8 ht htu htd hm8' pen9 B9 => ?_⟩
          refine ⟨(by show 2 ≤ sizeLine; decide), fun q2 hq2 => ?_⟩
          obtain ⟨H9, e9, S9, g9, n9⟩ := fresh (HO.tup [V.str s1, v]) hq2
          rw [e9]
          have gD8 : H8 D = some (.lst ws) := B9 _ _ Dp gD
          have q2D : q2 ≠ D := Ne.symm (n9 _ _ gD8)
          have B89 : But p H' H9 := B9.tr (But.of S9)
          have dm9 : Dom (upd H7 D (HO.lst [])) H8 := dm8.tr (Dom.but B9 pen9.at2.1.choose_spec)
          have nr : ∀ o, Same (new (upd H7 D (HO.lst [])) H') (new (upd H7 D (HO.lst [])) (upd H9 D o)) := fun o => new_r fun b u hb e => by
            have bD : b ≠ D := fun z => by rw [z, eHD] at hb; cases hb
            have bp : b ≠ p := fun z => by obtain ⟨o', h'⟩ := hpD; rw [z, h'] at hb; cases hb
            rw [upd_ne bD]
            exact B89 b u bp e
          have nr2 : ∀ o, Same (new (upd H7 D (HO.lst [])) H8) (new (upd H7 D (HO.lst [])) (upd H9 D o)) := fun o => new_r fun b u hb e => by
            have bD : b ≠ D := fun z => by rw [z, eHD] at hb; cases hb
            rw [upd_ne bD]
            exact S9 b u e
          have hwl : ws.length ≤ 4 := by rw [hpl.len, ← Pts.nms_len, hnm, List.length_take]; omega
          refine ⟨ws, S9 _ _ gD8, by rw [sizeLine_eq]; omega, ws ++ [.ref q2], ps.snoc s1 t, m8, (pen9.same S9).upd Dp Dc, by rw [Nat.succ_mul]; omega, fun b o nb zz => ?_, dm9.tr ((Dom.of S9).tr Dom.upd), upd_same,
            (hpl.same (nr _)).snoc hs1n ?_ ((ht.same (new_l dm8)).same (nr2 _)), ?_, ?_, by rw [Pts.nu_snoc, hnu, htu]; rfl⟩
          · rw [upd_ne (ne_of_none zz hD)]
            exact B89 _ _ nb (B8 _ _ nb zz)
          · rw [new_at2 (dm9 _ hq2), upd_ne q2D]
            exact g9
          · rw [Pts.nms_snoc, hnm, List.take_succ, hs1]
            rfl
          · rw [Pts.dep_snoc]
            omega
        · rintro H' ⟨ws, ps, m', pen8, hm8, B8, dm8, gD, hpl, hnm, hdp, hnu⟩
          rw [List.length_map, nl] at hm8
          rw [List.length_map, List.take_length] at hnm
          have hpl1 : ps.len = yn + 1 := by rw [← Pts.nms_len, hnm, nl]
          have c4 : (yn + 1) * cost k' ≤ 4 * cost k' := Nat.mul_le_mul_right _ (by omega)
          have B18 : But p H1 H' := B17.tr B8
          have fin : ∀ (ov : Bool) (q3 : Addr) (H9 : Hp), H' q3 = none → Same H' H9 → H9 q3 = some (.tup [V.str (if ov then "overlay" else "record"), V.ref D]) → (ov = true → z < 6) → Q (.ref q3) H9 := fun ov q3 H9 hq3 S9 g9 ho => by
            refine q (.ref q3) H9 (.grp ov ps) m' (.grp (l := D) (vs := ws) ?_ ?_ ((hpl.same (new_l dmD)).same (new_same S9)) (by rw [hnm]; exact nd) (by omega) ?_) hnu ?_ ?_ (pen8.same S9) (B1.tr (B18.tr (But.of S9)))
            · rw [new_at2 (dmD _ (dm8 _ hq3))]; exact g9
            · rw [new_at2 DH]; exact S9 _ _ gD
            · cases ov with
              | true => have := mx3 (ho rfl); show ps.len ≤ 4; omega
              | false => show ps.len ≤ 8; omega
            · show ps.dep ≤ ((k' + 1 : Nat) : Int)
              omega
            · show m' ≤ n + (3 + 4 * cost k')
              omega
          refine ⟨_, rfl, _, _, rfl, rfl, _, rfl, ?_⟩
          refine ite2 (fun h3 => ?_) (fun h3 => ?_)
          · refine ⟨_, rfl, (by show 2 ≤ sizeLine; decide), fun q3 hq3 => ?_⟩
            exact fin true q3 _ hq3 (same_upd hq3) upd_same (fun _ => of_decide_eq_true h3)
          · refine ⟨_, rfl, (by show 2 ≤ sizeLine; decide), fun q3 hq3 => ?_⟩
            exact fin false q3 _ hq3 (same_upd hq3) upd_same (fun h => by cases h)
end
end H1
set_option Elab.async false
set_option linter.all false
set_option maxRecDepth 100000
set_option maxHeartbeats 4000000
/-! Parts made of plans; how deep a plan is. -/
namespace Ev
open PySem PySem.Spec PyProof.Rows L2
def Pts.toL : Pts → List (Str × Pt)
  | .nil => []
  | .cons s p r => (s, p) :: r.toL
def Pts.ofL : List (Str × Pt) → Pts
  | [] => .nil
  | (s, p) :: r => .cons s p (Pts.ofL r)
theorem Pts.ofL_toL : ∀ ps : Pts, Pts.ofL ps.toL = ps
  | .nil => rfl
  | .cons s p r => congrArg (Pts.cons s p) r.ofL_toL
theorem Pts.toL_len : ∀ ps : Pts, ps.toL.length = ps.len
  | .nil => rfl
  | .cons _ _ r => congrArg Nat.succ r.toL_len
theorem Pts.ofL_snoc (s : Str) (p : Pt) : ∀ l : List (Str × Pt), Pts.ofL (l ++ [(s, p)]) = (Pts.ofL l).snoc s p
  | [] => rfl
  | (s', p') :: r => congrArg (Pts.cons s' p') (Pts.ofL_snoc s p r)
theorem Pts.toL_at {d : Int} : ∀ {ps : Pts}, ps.dep < d + 1 → ps.nu = true → ∀ (i : Nat) (s : Str) (p : Pt), ps.toL[i]? = some (s, p) → p.dep < d ∧ p.nu = true
  | .nil, _, _, i, s, p, h => by cases h
  | .cons s' p' r, hd, hu, i, s, p, h => by
    have hd' : max (p'.dep + 1) r.dep < d + 1 := hd
    have hu' : (p'.nu && r.nu) = true := hu
    rw [Bool.and_eq_true] at hu'
    cases i with
    | zero => cases h; exact ⟨by omega, hu'.1⟩
    | succ i => exact Pts.toL_at (ps := r) (by omega) hu'.2 i s p h
theorem PlAll.at_ {H : Hp} : ∀ {vs : List V} {ps : Pts}, PlAll H vs ps → ∀ (i : Nat) (v : V), vs[i]? = some v → ∃ (q : Addr) (s : Str) (u : V) (p : Pt), v = .ref q ∧ nameB (.str s) = true ∧ H q = some (.tup [.str s, u]) ∧ PlAt H u p ∧ ps.toL[i]? = some (s, p)
  | _, _, .nil, i, v, h => by cases h
  | _, _, .cons (q := q) (v := u) (s := s) (p := p) a b c d, i, v, h => by
    cases i with
    | zero => cases h; exact ⟨q, s, u, p, rfl, a, b, c, rfl⟩
    | succ i => exact d.at_ i v h
theorem PAll.snoc {K : PySem.W.Frag} {H : Hp} {q y : Addr} {s : Str} {p : Pt} (a : nameB (.str s) = true) (b : H q = some (.tup [.str s, .ref y])) (c : PAt K H y p) : ∀ {vs : List V} {ps : Pts}, PAll K H vs ps → PAll K H (vs ++ [.ref q]) (ps.snoc s p)
  | _, _, .nil => .cons a b c .nil
  | _, _, .cons a' b' c' d' => .cons a' b' c' (d'.snoc a b c)
theorem same_make2 {H : Hp} {x dx : Addr} {o o' : HO} (hx : H x = none) (hd : H dx = none) : Same H (upd (upd H dx o) x o') := fun b u z => by rw [upd_ne (ne_of_none z hx), upd_ne (ne_of_none z hd)]; exact z
theorem same_but {H H1 H2 : Hp} {x : Addr} (hx : H x = none) (S : Same H H1) (B : But x H1 H2) : Same H H2 := fun b o z => B b o (ne_of_none z hx) (S b o z)
/-- a part is made of its plan -/
def spMadeP (d : Nat) (K : PySem.W.Frag) : Sp := fun vs H Q _ => ∃ (v : V) (t : Pt), vs = [v] ∧ PlAt H v t ∧ t.nu = true ∧ t.dep < d ∧ t.dep ≤ 4 ∧ ∀ x H', Same H H' → PAt K H' x t → Q (.ref x) H'
def spDeepP (d : Nat) : Sp := fun vs H Q _ => ∃ (v : V) (t : Pt), vs = [v] ∧ PlAt H v t ∧ t.dep < d ∧ ∀ H', Same H H' → Q (.int t.dep) H'
/-- what a plan's first item is -/
def Pt.word : Pt → Str
  | .byte => "byte"
  | .kind _ _ => "kind"
  | .use _ => "use"
  | .row _ _ => "row"
  | .grp ov _ => if ov then "overlay" else "record"
theorem PlAt.first {H : Hp} {v : V} {t : Pt} (h : PlAt H v t) : ∃ a xs, v = .ref a ∧ H a = some (.tup xs) ∧ xs[0]? = some (.str t.word) := by
  cases h with
  | byte a => exact ⟨_, _, rfl, a, rfl⟩
  | kind a b c d => exact ⟨_, _, rfl, a, rfl⟩
  | use a b => exact ⟨_, _, rfl, a, rfl⟩
  | row a b c d => exact ⟨_, _, rfl, a, rfl⟩
  | grp a b c d e f => exact ⟨_, _, rfl, a, rfl⟩
theorem iteNo {b : Bool} {A B : Prop} (h : b = false) (x : B) : if b = true then A else B := by rw [h, if_neg Bool.false_ne_true]; exact x
theorem iteYes {b : Bool} {A B : Prop} (h : b = true) (x : A) : if b = true then A else B := by rw [h, if_pos rfl]; exact x
theorem str_ne {a b : Str} (h : a ≠ b) : decide (V.str a = V.str b) = false := decide_eq_false fun z => h (V.str.inj z)
theorem str_eq {a : Str} : decide (V.str a = V.str a) = true := decide_eq_true rfl
end Ev
namespace H1
open PySem PySem.Spec PyProof.Rows L2 Ev
section
variable {P : Program} {w : World} {K : PySem.W.Frag} {mg : Str → Option Value} {base : Heap} {f : Addr} {fd : FuncData}
theorem ok_planD (F : FnL K "_law_plan" i__law_plan f fd) (g : mg "_law_plan" = some (.ref f)) (kp : PySem.W.keepIn K (.ref f) = true) (tInt : mg "int" = none) (D1 : DefP P w K mg base CX0 1 "_law_draw" ["_law_pen_here", "_law_many"] spDrawP) (D2 : DefP P w K mg base CX0 2 "_law_pick" ["_law_pen_here", "_law_some"] spPickP) :
    ∀ d : Nat, DefP P w K mg base CX0 (d + 2) "_law_plan" ["_law_pen_here", "_law_kinds_here", "_law_deep_here"] (spPlanP d) := by
  have b : Binds K fd ["_law_pen_here", "_law_kinds_here", "_law_deep_here"] [] := FunD.bindsN F fun _ _ _ _ _ _ us hl => match us, hl with | [_, _, _], _ => rfl
  intro d
  induction d with
  | zero =>
    refine ⟨f, fd, g, kp, F.ok (k := 1) scPl (fun vs H Q E h => ?_) (fun cdv A outer s H vs Q E hr h => ?_), b⟩
    · obtain ⟨p, c, l, k, n, rfl, _⟩ := h
      rfl
    · obtain ⟨p, c, l, k, n, rfl, _, _, h, _⟩ := h
      exact absurd h (Nat.not_lt_zero _)
  | succ d ih => exact ⟨f, fd, g, kp, ok_planS F tInt D1 D2 (by omega) ih, b⟩
abbrev NM : List Str := ["_law_plan_here", "_law_pairs", "_law_name", "_law_inner"]
theorem scM : FnScope NM ["_law_plan_here"] (defScope (top i__law_made)) := ⟨rfl, rfl, rfl, by decide +kernel, rfl, by decide +kernel, by decide +kernel⟩
/-- the classes' packages -/
structure MT (P : Program) (w : World) (K : PySem.W.Frag) (mg : Str → Option Value) (base : Heap) : Prop where
  B : DefC P w K mg base CX0 5 "Byte" ["self"] (spByteP K) []
  Kd : DefC P w K mg base (L2.CX P w) 5 "Kind" ["self", "name", "times"] (spKindP K) []
  W : DefC P w K mg base (L2.CX P w) 5 "Row" ["self", "part", "n"] (spRow K) []
  R : DefC P w K mg base (L2.CX P w) 5 "Record" ["self", "fields"] (spGrp false K) []
  O : DefC P w K mg base (L2.CX P w) 5 "Overlay" ["self", "members"] (spGrp true K) []
theorem mk_byte {H : Hp} {Q : VK} (q : ∀ x H', Same H H' → PAt K H' x .byte → Q (.ref x) H') (x dx : Addr) (hx : H x = none) (hd : H dx = none) (ne : dx ≠ x) :
    spByteP K [.ref x] (upd (upd H dx (.own x)) x (.ins (He.ga K "Byte") dx [])) (fun v H2 => v = .non ∧ Q (.ref x) H2) (fun _ _ _ => False) :=
  ⟨x, dx, rfl, upd_same, fun H' B p => ⟨rfl, q x H' (same_but hx (same_make2 hx hd) B) p⟩⟩
theorem mk_kind {H : Hp} {Q : VK} {s : Str} {t : Nat} (hs : nameB (.str s) = true) (t1 : 1 ≤ t) (t8 : t ≤ 8) (q : ∀ x H', Same H H' → PAt K H' x (.kind s t) → Q (.ref x) H') (x dx : Addr) (hx : H x = none) (hd : H dx = none) (ne : dx ≠ x) :
    spKindP K [.ref x, .str s, .int t] (upd (upd H dx (.own x)) x (.ins (He.ga K "Kind") dx [])) (fun v H2 => v = .non ∧ Q (.ref x) H2) (fun _ _ _ => False) := by
  refine ⟨x, dx, _, _, rfl, upd_same, Any.isStr hs, .int _, (fun z => by rw [hs] at z; cases z), fun _ z => ?_, fun s' t' e1 e2 _ _ _ H' B p => ?_⟩
  · have : wholeB (.int (t : Int)) 1 8 = true := by simp [wholeB]; omega
    rw [this] at z; cases z
  · cases e1
    have : t = t' := Int.ofNat.inj (V.int.inj e2)
    subst this
    exact ⟨rfl, q x H' (same_but hx (same_make2 hx hd) B) p⟩
theorem mk_row {H : Hp} {Q : VK} {y : Addr} {p : Pt} {n : Nat} (hy : PAt K H y p) (n1 : 1 ≤ n) (n64 : n ≤ 64) (hd4 : p.dep + 1 ≤ 4) (q : ∀ x H', Same H H' → PAt K H' x (.row p n) → Q (.ref x) H') (x dx : Addr) (hx : H x = none) (hd : H dx = none) (ne : dx ≠ x) :
    spRow K [.ref x, .ref y, .int n] (upd (upd H dx (.own x)) x (.ins (He.ga K "Row") dx [])) (fun v H2 => v = .non ∧ Q (.ref x) H2) (fun _ _ _ => False) := by
  have S := same_make2 (o := .own x) (o' := .ins (He.ga K "Row") dx []) hx hd
  refine ⟨x, dx, _, _, true, rfl, upd_same, .part (hy.same S), .int _, (fun z => by cases z), fun _ z => ?_, fun y' p' n' e1 hp' e2 _ _ => ?_⟩
  · have : wholeB (.int (n : Int)) 1 64 = true := by simp [wholeB]; omega
    rw [this] at z; cases z
  · cases e1
    have : n = n' := Int.ofNat.inj (V.int.inj e2)
    subst this
    have := hp'.inj (hy.same S)
    subst this
    exact ⟨fun z => absurd z (by omega), fun _ H' B p => ⟨rfl, q x H' (same_but hx S B) p⟩⟩
theorem mk_grp {H : Hp} {Q : VK} {ov : Bool} {l : Addr} {xs : List V} {ps : Pts} (hl : H l = some (.lst xs)) (hp : PAll K H xs ps) (nd : ps.nms.Nodup) (l1 : 1 ≤ ps.len) (l2 : ps.len ≤ mostG ov) (hd4 : ps.dep ≤ 4)
    (q : ∀ x H', Same H H' → PAt K H' x (.grp ov ps) → Q (.ref x) H') (x dx : Addr) (hx : H x = none) (hd : H dx = none) (ne : dx ≠ x) :
    spGrp ov K [.ref x, .ref l] (upd (upd H dx (.own x)) x (.ins (He.ga K (cnG ov)) dx [])) (fun v H2 => v = .non ∧ Q (.ref x) H2) (fun _ _ _ => False) := by
  have S := same_make2 (o := .own x) (o' := .ins (He.ga K (cnG ov)) dx []) hx hd
  exact ⟨x, dx, l, xs, ps, rfl, upd_same, S _ _ hl, hp.same S, nd, l1, l2, fun z => absurd z (by omega), fun _ H' B p => ⟨rfl, q x H' (same_but hx S B) p⟩⟩
theorem ok_madeS (F : FnL K "_law_made" i__law_made f fd) (M : MT P w K mg base) {k d : Nat} (k6 : 6 ≤ k) (R : DefP P w K mg base CX0 k "_law_made" ["_law_plan_here"] (spMadeP d K)) :
    FnOk P w K mg base CX0 (k + 1) f fd ["_law_plan_here"] (spMadeP (d + 1) K) := by
  refine F.ok scM (fun vs H Q E h => ?_) (fun cdv A outer s H vs Q E hr h => ?_)
  · obtain ⟨v, t, rfl, _⟩ := h
    rfl
  · obtain ⟨v, t, rfl, hv, hu, hd, h4, q⟩ := h
    have hr6 : Room 6 (A.deeper (envOfC "_law_made" (defScope (top i__law_made)) s.heap.objs.size f cdv)) := hr.mono k6
    refine ⟨_, PSs.nox (pss_cons (ps_if (pt_cmpR op_eq (pe_ix ix_tup (pv 0) pe_int (fun _ _ => rfl)) pe_str (nomark _)) (pss_one (ps_ret (pe_newN (E := fun _ _ _ => False) M.B hr6 (by rfl) pass0))) pss_nil)
      (pss_cons (ps_if (pt_cmpR op_eq (pe_ix ix_tup (pv 0) pe_int (fun _ _ => rfl)) pe_str (nomark _)) (pss_one (ps_ret (pe_new (E := fun _ _ _ => False) M.Kd hr6 (by rfl) passN (pa_cons (pe_ix ix_tup (pv 0) pe_int (fun _ _ => rfl)) (pa_cons (pe_ix ix_tup (pv 0) pe_int (fun _ _ => rfl)) pa_nil))))) pss_nil)
      (pss_cons (ps_if (pt_cmpR op_eq (pe_ix ix_tup (pv 0) pe_int (fun _ _ => rfl)) pe_str (nomark _)) (pss_one (ps_ret (pe_new (E := fun _ _ _ => False) M.W hr6 (by rfl) passN (pa_cons (pe_def (E := E0) R hr (by rfl) pass0 (pa_cons (pe_ix ix_tup (pv 0) pe_int (fun _ _ => rfl)) pa_nil)) (pa_cons (pe_ix ix_tup (pv 0) pe_int (fun _ _ => rfl)) pa_nil))))) pss_nil)
      (pss_cons (ps_setLc (i := 1) (own := [("_law_name", 2), ("_law_inner", 3)]) (g := gTup K 2 (gCons (gName 2) (gCons (gName 3) gNil))) (tt := tYes) rfl scM.nd rfl rfl (sw_true rfl rfl rfl (by decide +kernel)) (pi_list (pe_ix ix_tup (pv 0) pe_int (fun _ _ => rfl))) (blkOk_by (N := NM) (sc := defScope (top i__law_made)) (by decide +kernel))
        (fun _ _ _ _ _ => pg_tup rfl (pgs_cons (pg_name (i := 2) scM.nd rfl (Or.inl rfl)) (pgs_cons (pg_name (i := 3) scM.nd rfl (Or.inl rfl)) pgs_nil))) (fun _ _ _ _ _ => pts_nil)
        (fun _ _ _ _ _ => pe_tup (pa_cons (pv 2) (pa_cons (pe_def (E := E0) R hr (by rfl) pass0 (pa_cons (pv 3) pa_nil)) pa_nil))))
      (pss_one (ps_ret (pe_ifExp (pt_cmpR op_eq (pe_ix ix_tup (pv 0) pe_int (fun _ _ => rfl)) pe_str (nomark _)) (pe_new (E := fun _ _ _ => False) M.R hr6 (by rfl) passN (pa_cons (pv 1) pa_nil)) (pe_new (E := fun _ _ _ => False) M.O hr6 (by rfl) passN (pa_cons (pv 1) pa_nil))))))))), ?_⟩
    have at0 : ∀ {x : V} {xs : List V}, atI (x :: xs) 0 = some x := fun {x xs} => atI_nat (j := 0) rfl
    have at1 : ∀ {x y : V} {xs : List V}, atI (x :: y :: xs) 1 = some y := fun {x y xs} => atI_nat (j := 1) rfl
    have at2 : ∀ {x y z : V} {xs : List V}, atI (x :: y :: z :: xs) 2 = some z := fun {x y z xs} => atI_nat (j := 2) rfl
    cases hv with
    | byte a =>
      exact ⟨_, rfl, _, _, 0, _, rfl, rfl, SqT.of a, at0, rfl, _, rfl, iteYes str_eq (mk_byte q)⟩
    | kind a b c d =>
      refine ⟨_, rfl, _, _, 0, _, rfl, rfl, SqT.of a, at0, rfl, _, rfl, iteNo (str_ne (by decide)) ?_⟩
      exact ⟨_, rfl, _, _, 0, _, rfl, rfl, SqT.of a, at0, rfl, _, rfl, iteYes str_eq ⟨_, rfl, _, _, 1, _, rfl, rfl, SqT.of a, at1, _, rfl, _, _, 2, _, rfl, rfl, SqT.of a, at2, mk_kind b c d q⟩⟩
    | use a b => cases hu
    | @row _ v1 p1 n1 a b c e1 =>
      have hd' : p1.dep + 1 < (d : Int) + 1 := hd
      have h4' : p1.dep + 1 ≤ 4 := h4
      refine ⟨_, rfl, _, _, 0, _, rfl, rfl, SqT.of a, at0, rfl, _, rfl, iteNo (str_ne (by decide)) ?_⟩
      refine ⟨_, rfl, _, _, 0, _, rfl, rfl, SqT.of a, at0, rfl, _, rfl, iteNo (str_ne (by decide)) ?_⟩
      refine ⟨_, rfl, _, _, 0, _, rfl, rfl, SqT.of a, at0, rfl, _, rfl, iteYes str_eq ⟨_, rfl, _, _, 1, _, rfl, rfl, SqT.of a, at1, v1, p1, rfl, e1, hu, by omega, by omega, fun y H1 S1 hy => ?_⟩⟩
      exact ⟨_, rfl, _, _, 2, _, rfl, rfl, SqT.of (S1 _ _ a), at2, mk_row hy b c h4' fun x H2 S2 hx => q x H2 (same_tr S1 S2) hx⟩
    | @grp _ l ov vs0 ps a b c nd l1 l2 =>
      have hd' : ps.dep < (d : Int) + 1 := hd
      have h4' : ps.dep ≤ 4 := h4
      have w1 : (if ov then "overlay" else "record" : Str) ≠ "byte" := by cases ov <;> decide
      have w2 : (if ov then "overlay" else "record" : Str) ≠ "kind" := by cases ov <;> decide
      have w3 : (if ov then "overlay" else "record" : Str) ≠ "row" := by cases ov <;> decide
      refine ⟨_, rfl, _, _, 0, _, rfl, rfl, SqT.of a, at0, rfl, _, rfl, iteNo (str_ne w1) ?_⟩
      refine ⟨_, rfl, _, _, 0, _, rfl, rfl, SqT.of a, at0, rfl, _, rfl, iteNo (str_ne w2) ?_⟩
      refine ⟨_, rfl, _, _, 0, _, rfl, rfl, SqT.of a, at0, rfl, _, rfl, iteNo (str_ne w3) ?_⟩
      refine ⟨_, rfl, _, _, 1, _, rfl, rfl, SqT.of a, at1, l, rfl, ⟨vs0, SqL.of b⟩, fun D hD => ?_⟩
      refine lc_list (K := K) (a := l) (xs := vs0) (fun i H' => Same H H' ∧ ∃ ws, H' D = some (.lst ws) ∧ ws.length = i ∧ PAll K H' ws (Pts.ofL (ps.toL.take i))) ⟨same_upd hD, [], upd_same, rfl, .nil⟩ (fun i H' hi' e => SqL.of (e.1 _ _ b)) (fun i x H' hx e => ?_) ?_
      · obtain ⟨S', ws, gD, hwl, hpa⟩ := e
        obtain ⟨q1, s1, u1, p1, rfl, hs1, gq1, hu1, ht1⟩ := c.at_ i x hx
        obtain ⟨pd, pn⟩ := Pts.toL_at hd' hu i s1 p1 ht1
        obtain ⟨pd4, _⟩ := Pts.toL_at (ps := ps) (d := 4) (by omega) hu i s1 p1 ht1
        refine ⟨q1, _, rfl, SqT.of (S' _ _ gq1), rfl, _, _, rfl, _, _, rfl, rfl, rfl, ?_⟩
        dsimp only [tYes]
        rw [if_pos rfl]
        refine ⟨_, rfl, _, rfl, u1, p1, rfl, hu1.same S', pn, pd, by omega, fun y H1 S1 hy => ?_⟩
        refine ⟨(by show 2 ≤ sizeLine; decide), fun q2 hq2 => ?_⟩
        obtain ⟨H2, e2, S2, g2, n2⟩ := fresh (HO.tup [V.str s1, V.ref y]) hq2
        rw [e2]
        have gD2 : H2 D = some (.lst ws) := S2 _ _ (S1 _ _ gD)
        have S12 := same_tr S1 S2
        have hil : i < vs0.length := (List.getElem?_eq_some_iff.mp hx).1
        have hvl := c.len
        have KD : ∀ o, Keep H2 (upd H2 D o) := fun o => Keep.but gD2 (fun z => z) fun b u nb z => by rw [upd_ne nb]; exact z
        have q2D : q2 ≠ D := Ne.symm (n2 _ _ (S1 _ _ gD))
        refine ⟨ws, gD2, ?_, fun b o zz => ?_, ws ++ [.ref q2], upd_same, by rw [List.length_append, hwl]; rfl, ?_⟩
        · have : ps.len ≤ 8 := Nat.le_trans l2 (by cases ov <;> decide)
          rw [sizeLine_eq]; omega
        · rw [upd_ne (ne_of_none zz hD)]
          exact S12 _ _ (S' _ _ zz)
        · rw [List.take_succ, ht1]
          show PAll K _ _ (Pts.ofL (ps.toL.take i ++ [(s1, p1)]))
          rw [Pts.ofL_snoc]
          exact ((hpa.same S12).keep (KD _)).snoc hs1 (KD _ _ _ g2 trivial) ((hy.same S2).keep (KD _))
      · rintro H1 ⟨S1, ws, gD, hwl, hpa⟩
        rw [c.len, ← Pts.toL_len, List.take_length, Pts.ofL_toL] at hpa
        refine ⟨_, rfl, _, _, 0, _, rfl, rfl, SqT.of (S1 _ _ a), at0, rfl, _, rfl, ?_⟩
        cases ov with
        | true => exact iteNo (str_ne (by decide)) ⟨_, rfl, mk_grp (ov := true) gD hpa nd l1 l2 h4' fun x H2 S2 hx => q x H2 (same_tr S1 S2) hx⟩
        | false => exact iteYes str_eq ⟨_, rfl, mk_grp (ov := false) gD hpa nd l1 l2 h4' fun x H2 S2 hx => q x H2 (same_tr S1 S2) hx⟩
theorem ok_madeD (F : FnL K "_law_made" i__law_made f fd) (g : mg "_law_made" = some (.ref f)) (kp : PySem.W.keepIn K (.ref f) = true) (M : MT P w K mg base) : ∀ d : Nat, DefP P w K mg base CX0 (d + 6) "_law_made" ["_law_plan_here"] (spMadeP d K) := by
  have b : Binds K fd ["_law_plan_here"] [] := FunD.bindsN F fun _ _ _ _ _ _ us hl => match us, hl with | [_], _ => rfl
  intro d
  induction d with
  | zero =>
    refine ⟨f, fd, g, kp, F.ok (k := 5) scM (fun vs H Q E h => ?_) (fun cdv A outer s H vs Q E hr h => ?_), b⟩
    · obtain ⟨v, t, rfl, _⟩ := h
      rfl
    · obtain ⟨v, t, rfl, _, _, h, _⟩ := h
      have := t.dep0
      exact absurd h (by omega)
  | succ d ih => exact ⟨f, fd, g, kp, ok_madeS F M (by omega) ih, b⟩
end
end H1
set_option Elab.async false
set_option linter.all false
set_option maxRecDepth 100000
set_option maxHeartbeats 4000000
/-! How deep a plan is. -/
namespace Ev
open PySem PySem.Spec PyProof.Rows L2
theorem maxR_succ : ∀ (ns : List Int) (n : Int), (∀ m ∈ ns, 0 ≤ m) → 0 ≤ n → max (n + 1) (maxR (ns.map (· + 1))) = 1 + max n (maxR ns)
  | [], n, _, h => by show max (n + 1) 0 = 1 + max n 0; omega
  | m :: ms, n, h, hn => by
    have ih := maxR_succ ms m (fun x hx => h x (List.mem_cons_of_mem _ hx)) (h m (by simp))
    show max (n + 1) (max (m + 1) (maxR (ms.map (· + 1)))) = 1 + max n (max m (maxR ms))
    rw [ih]
    omega
/-- items that are plans, with their depths -/
def PlItems (d : Nat) (H : Hp) (xs : List V) (ds : List Int) : Prop := xs.length = ds.length ∧ ∀ (i : Nat) (x : V), xs[i]? = some x → ∃ p : Pt, PlAt H x p ∧ p.dep < d ∧ ds[i]? = some p.dep
theorem PlItems.same {d : Nat} {H H' : Hp} (S : Same H H') {xs : List V} {ds : List Int} : PlItems d H xs ds → PlItems d H' xs ds
  | ⟨a, b⟩ => ⟨a, fun i x h => let ⟨p, c, e⟩ := b i x h; ⟨p, c.same S, e⟩⟩
/-- what is in a plan that has something in it -/
def tInner (d : Nat) : TE := fun σ H Q => ∃ (v : V) (t : Pt), σ = [some v, none, none, none] ∧ PlAt H v t ∧ t.dep < (d : Int) + 1 ∧ (t.word = "row" ∨ ∃ ov ps, t = .grp ov ps) ∧
  ∀ (a : Addr) (x : V) (xs : List V) (n : Int) (ns : List Int) (H' : Hp), Same H H' → H' a = some (.lst (x :: xs)) → (x :: xs).length ≤ 8 → PlItems d H' (x :: xs) (n :: ns) → t.dep = 1 + ns.foldl max n → Q (.ref a) H'
theorem word_row {t : Pt} (h : t.word = "row") : ∃ p n, t = .row p n := by
  cases t with
  | row p n => exact ⟨p, n, rfl⟩
  | grp ov ps =>
    cases ov
    · exact absurd (show ("record" : Str) = "row" from h) (by decide)
    · exact absurd (show ("overlay" : Str) = "row" from h) (by decide)
  | byte => exact absurd (show ("byte" : Str) = "row" from h) (by decide)
  | kind s n => exact absurd (show ("kind" : Str) = "row" from h) (by decide)
  | use s => exact absurd (show ("use" : Str) = "row" from h) (by decide)
theorem PlAll.items {d : Nat} {H : Hp} : ∀ {vs : List V} {ps : Pts}, PlAll H vs ps → ps.dep < (d : Int) + 1 → ∀ (us : List V), us.length = vs.length → (∀ (i : Nat) (v : V), vs[i]? = some v → ∀ (q : Addr) (s : Str) (u : V), v = V.ref q → H q = some (.tup [.str s, u]) → us[i]? = some u) → PlItems d H us ps.ds
  | _, _, .nil, _, us, hl, _ => by
    have : us = [] := List.length_eq_zero_iff.mp hl
    subst this
    exact ⟨rfl, fun i x h => by cases h⟩
  | _, _, .cons (q := q) (v := u) (s := s) (p := p) (vs := vs) (ps := ps) a b c e, hd, us, hl, hu => by
    have hd' : max (p.dep + 1) ps.dep < (d : Int) + 1 := hd
    cases us with
    | nil => cases hl
    | cons u0 us =>
      have h0 := hu 0 _ rfl q s u rfl b
      cases h0
      obtain ⟨i1, i2⟩ := e.items (d := d) (by omega) us (Nat.succ.inj hl) (fun i v hv => hu (i + 1) v hv)
      refine ⟨congrArg Nat.succ i1, fun i x hx => ?_⟩
      cases i with
      | zero => cases hx; exact ⟨p, c, by omega, rfl⟩
      | succ i => exact i2 i x hx
end Ev
namespace H1
open PySem PySem.Spec PyProof.Rows L2 Ev
section
variable {P : Program} {w : World} {K : PySem.W.Frag} {mg : Str → Option Value} {base : Heap} {f : Addr} {fd : FuncData}
abbrev NDp : List Str := ["_law_plan_here", "_law_inner", "_law_name", "_law_one"]
theorem scDp : FnScope NDp ["_law_plan_here"] (defScope (top i__law_deep)) := ⟨rfl, rfl, rfl, by decide +kernel, rfl, by decide +kernel, by decide +kernel⟩
theorem ok_deepS (F : FnL K "_law_deep" i__law_deep f fd) (tInt : mg "int" = none) (tMax : mg "max" = none) {k d : Nat} (k1 : 1 ≤ k) (R : DefP P w K mg base CX0 k "_law_deep" ["_law_plan_here"] (spDeepP d)) :
    FnOk P w K mg base CX0 (k + 1) f fd ["_law_plan_here"] (spDeepP (d + 1)) := by
  refine F.ok scDp (fun vs H Q E h => ?_) (fun cdv A outer s H vs Q E hr h => ?_)
  · obtain ⟨v, t, rfl, _⟩ := h
    rfl
  · obtain ⟨v, t, rfl, hv, hd, q⟩ := h
    have at0 : ∀ {x : V} {xs : List V}, atI (x :: xs) 0 = some x := fun {x xs} => atI_nat (j := 0) rfl
    have at1 : ∀ {x y : V} {xs : List V}, atI (x :: y :: xs) 1 = some y := fun {x y xs} => atI_nat (j := 1) rfl
    refine ⟨_, PSs.nox (pss_cons (ps_if (pt_cmpR op_in_seq (pe_ix ix_tup (pv 0) pe_int (fun _ _ => rfl)) (pe_tup (pa_cons pe_str (pa_cons pe_str (pa_cons pe_str pa_nil)))) (by rfl)) (pss_one (ps_ret pe_int)) pss_nil)
      (pss_cons (ps_set (i := 1) scDp.nd rfl (Or.inl rfl) (PE.imp (t' := tInner d) (pe_ifExp (pt_cmpR op_eq (pe_ix ix_tup (pv 0) pe_int (fun _ _ => rfl)) pe_str (nomark _)) (pe_lst (pa_cons (pe_ix ix_tup (pv 0) pe_int (fun _ _ => rfl)) pa_nil))
          (pe_lc (own := [("_law_name", 2), ("_law_one", 3)]) (g := gTup K 2 (gCons (gName 2) (gCons (gName 3) gNil))) (tt := tYes) rfl scDp.nd (pi_list (pe_ix ix_tup (pv 0) pe_int (fun _ _ => rfl))) (blkOk_by (N := NDp) (sc := defScope (top i__law_deep)) (by decide +kernel))
            (fun _ _ _ _ _ => pg_tup rfl (pgs_cons (pg_name (i := 2) scDp.nd rfl (Or.inl rfl)) (pgs_cons (pg_name (i := 3) scDp.nd rfl (Or.inl rfl)) pgs_nil))) (fun _ _ _ _ _ => pts_nil)
            (fun _ _ _ _ _ => pv 3))) (fun σ H Q h => by
          obtain ⟨v, t, rfl, hv, hd, hw, q⟩ := h
          cases hv with
          | byte a => rcases hw with hw | ⟨_, _, hw⟩ <;> first | exact absurd (show ("byte" : Str) = "row" from hw) (by decide) | cases hw
          | kind a b c e => rcases hw with hw | ⟨_, _, hw⟩ <;> first | exact absurd (show ("kind" : Str) = "row" from hw) (by decide) | cases hw
          | use a b => rcases hw with hw | ⟨_, _, hw⟩ <;> first | exact absurd (show ("use" : Str) = "row" from hw) (by decide) | cases hw
          | @row a0 v1 p1 n1 a b c e =>
            have hd' : p1.dep + 1 < (d : Int) + 1 := hd
            refine ⟨_, rfl, _, _, 0, _, rfl, rfl, SqT.of a, at0, rfl, _, rfl, iteYes str_eq ?_⟩
            refine ⟨_, rfl, _, _, 1, _, rfl, rfl, SqT.of a, at1, (by show 1 ≤ sizeLine; decide), fun l hl => ?_⟩
            refine q l v1 [] p1.dep [] _ (same_upd hl) upd_same (by show 1 ≤ 8; decide) ⟨rfl, fun i x hx => ?_⟩ ?_
            · cases i with
              | zero => cases hx; exact ⟨p1, e.same (same_upd hl), by omega, rfl⟩
              | succ i => cases hx
            · show p1.dep + 1 = 1 + p1.dep
              omega
          | @grp a0 l ov vs0 ps a b c nd l1 l2 =>
            have hd' : ps.dep < (d : Int) + 1 := hd
            have w3 : (if ov then "overlay" else "record" : Str) ≠ "row" := by cases ov <;> decide
            refine ⟨_, rfl, _, _, 0, _, rfl, rfl, SqT.of a, at0, rfl, _, rfl, iteNo (str_ne w3) ?_⟩
            refine ⟨_, rfl, _, _, 1, _, rfl, rfl, SqT.of a, at1, l, rfl, ⟨vs0, SqL.of b⟩, fun D hD => ?_⟩
            refine lc_list (K := K) (a := l) (xs := vs0) (fun i H' => Same H H' ∧ ∃ us, H' D = some (.lst us) ∧ us.length = i ∧ ∀ (j : Nat) (v : V), vs0[j]? = some v → j < i → ∀ (q : Addr) (s : Str) (u : V), v = V.ref q → H q = some (.tup [.str s, u]) → us[j]? = some u)
              ⟨same_upd hD, [], upd_same, rfl, fun j _ _ hj => absurd hj (Nat.not_lt_zero _)⟩ (fun i H' hi' e => SqL.of (e.1 _ _ b)) (fun i x H' hx e => ?_) ?_
            · obtain ⟨S', us, gD, hul, hus⟩ := e
              obtain ⟨q1, s1, u1, p1, rfl, hs1, gq1, hu1, ht1⟩ := c.at_ i x hx
              refine ⟨q1, _, rfl, SqT.of (S' _ _ gq1), rfl, _, _, rfl, _, _, rfl, rfl, rfl, ?_⟩
              dsimp only [tYes]
              rw [if_pos rfl]
              have hil : i < vs0.length := (List.getElem?_eq_some_iff.mp hx).1
              have hvl := c.len
              have : ps.len ≤ 8 := Nat.le_trans l2 (by cases ov <;> decide)
              refine ⟨_, rfl, us, gD, by rw [sizeLine_eq]; omega, fun b o zz => ?_, us ++ [u1], upd_same, by rw [List.length_append, hul]; rfl, fun j v hv hj q s u e1 e2 => ?_⟩
              · rw [upd_ne (ne_of_none zz hD)]
                exact S' _ _ zz
              · by_cases hji : j < i
                · rw [List.getElem?_append_left (by omega)]
                  exact hus j v hv hji q s u e1 e2
                · have : j = i := by omega
                  subst this
                  rw [hx] at hv
                  cases hv
                  cases e1
                  rw [gq1] at e2
                  have e3 := HO.tup.inj (Option.some.inj e2)
                  rw [List.getElem?_append_right (by omega), hul, Nat.sub_self]
                  simp at e3
                  simp [e3.2]
            · rintro H' ⟨S', us, gD, hul, hus⟩
              have hvl := c.len
              have it := c.items (d := d) hd' us hul (fun j v hv q s u e1 e2 => hus j v hv (List.getElem?_eq_some_iff.mp hv).1 q s u e1 e2)
              have l8 : ps.len ≤ 8 := Nat.le_trans l2 (by cases ov <;> decide)
              cases ps with
              | nil => exact absurd l1 (by decide)
              | cons s p r =>
                cases us with
                | nil => have : (0 : Nat) = vs0.length := hul; rw [hvl] at this; cases this
                | cons u0 us =>
                  refine q D u0 us p.dep r.ds H' S' gD (by omega) (it.same S') ?_
                  show max (p.dep + 1) r.dep = 1 + r.ds.foldl max p.dep
                  rw [foldl_max _ _ p.dep0, r.dep_ds]
                  exact maxR_succ _ _ r.ds0 p.dep0)))
      (pss_one (ps_ret (pe_op op_add pe_int (pe_callB (cr_maxN rfl (hu_of hr)) (by rfl) tMax (by decide +kernel) (pa_cons (pe_lc (own := [("_law_one", 3)]) (g := gName 3) (tt := tYes) rfl scDp.nd (pi_list (pv 1)) (blkOk_by (N := NDp) (sc := defScope (top i__law_deep)) (by decide +kernel))
        (fun _ _ _ _ _ => pg_name (i := 3) scDp.nd rfl (Or.inl rfl)) (fun _ _ _ _ _ => pts_nil)
        (fun _ _ _ _ _ => pe_callTy call_int1 (by rfl) tInt (by decide +kernel) (pa_cons (pe_def (E := E0) R hr (by rfl) pass0 (pa_cons (pv 3) pa_nil)) pa_nil))) pa_nil))))))), ?_⟩
    obtain ⟨a, xs, rfl, ga, g0⟩ := hv.first
    refine ⟨_, rfl, a, xs, 0, _, rfl, rfl, SqT.of ga, atI_nat (j := 0) g0, (by show 3 ≤ sizeLine; decide), fun tp htp => ?_⟩
    have St := same_upd (o := HO.tup [V.str "byte", V.str "kind", V.str "use"]) htp
    refine ⟨tp, _, rfl, .inr (SqT.of upd_same), rfl, (by rfl), _, rfl, ?_⟩
    have i1 : inV (.str "byte") [V.str "byte", V.str "kind", V.str "use"] = true := by decide +kernel
    have i2 : inV (.str "kind") [V.str "byte", V.str "kind", V.str "use"] = true := by decide +kernel
    have i3 : inV (.str "use") [V.str "byte", V.str "kind", V.str "use"] = true := by decide +kernel
    have i4 : inV (.str "row") [V.str "byte", V.str "kind", V.str "use"] = false := by decide +kernel
    have i5 : ∀ ov : Bool, inV (.str (if ov then "overlay" else "record")) [V.str "byte", V.str "kind", V.str "use"] = false := by intro ov; cases ov <;> decide +kernel
    have key : (t.word = "row" ∨ ∃ ov ps, t = .grp ov ps) ∨ (inV (.str t.word) [V.str "byte", V.str "kind", V.str "use"] = true ∧ t.dep = 0) := by
      cases t with
      | byte => exact .inr ⟨i1, rfl⟩
      | kind s n => exact .inr ⟨i2, rfl⟩
      | use s => exact .inr ⟨i3, rfl⟩
      | row p n => exact .inl (.inl rfl)
      | grp ov ps => exact .inl (.inr ⟨ov, ps, rfl⟩)
    rcases key with hw | ⟨hi, h0⟩
    · have hn : inV (.str t.word) [V.str "byte", V.str "kind", V.str "use"] = false := by
        rcases hw with hw | ⟨ov, ps, rfl⟩
        · rw [hw]; exact i4
        · exact i5 ov
      refine iteNo hn ⟨_, t, rfl, hv.same St, hd, hw, fun b x xs n ns H1 S1 gb l8 it he => ?_⟩
      refine ⟨_, rfl, b, rfl, ⟨_, SqL.of gb⟩, fun D hD => ?_⟩
      refine lc_list (K := K) (a := b) (xs := x :: xs) (fun i H' => Same H1 H' ∧ H' D = some (.lst (((n :: ns).take i).map V.int))) ⟨same_upd hD, upd_same⟩ (fun i H' hi' e => SqL.of (e.1 _ _ gb)) (fun i y H' hy e => ?_) ?_
      · obtain ⟨S', gD⟩ := e
        obtain ⟨p, hp, pd, hn⟩ := it.2 i y hy
        refine ⟨rfl, ?_⟩
        dsimp only [tYes]
        rw [if_pos rfl]
        refine ⟨_, rfl, y, p, rfl, hp.same S', pd, fun H2 S2 => .inl ⟨_, rfl, _, S2 _ _ gD, ?_, fun b o zz => ?_, ?_⟩⟩
        · rw [List.length_map, List.length_take, sizeLine_eq]
          have := it.1
          omega
        · rw [upd_ne (ne_of_none zz hD)]
          exact S2 _ _ (S' _ _ zz)
        · rw [upd_same, List.take_succ, hn, List.map_append]
          rfl
      · rintro H' ⟨S', gD⟩
        rw [it.1, List.take_length] at gD
        refine ⟨D, n, ns, rfl, SqL.of gD, _, _, rfl, rfl, ?_⟩
        have := q H' (same_tr St (same_tr S1 S'))
        rw [he] at this
        exact this
    · have := q _ St
      rw [h0] at this
      exact iteYes hi this
theorem ok_deepD (F : FnL K "_law_deep" i__law_deep f fd) (g : mg "_law_deep" = some (.ref f)) (kp : PySem.W.keepIn K (.ref f) = true) (tInt : mg "int" = none) (tMax : mg "max" = none) : ∀ d : Nat, DefP P w K mg base CX0 (d + 1) "_law_deep" ["_law_plan_here"] (spDeepP d) := by
  have b : Binds K fd ["_law_plan_here"] [] := FunD.bindsN F fun _ _ _ _ _ _ us hl => match us, hl with | [_], _ => rfl
  intro d
  induction d with
  | zero =>
    refine ⟨f, fd, g, kp, F.ok (k := 0) scDp (fun vs H Q E h => ?_) (fun cdv A outer s H vs Q E hr h => ?_), b⟩
    · obtain ⟨v, t, rfl, _⟩ := h
      rfl
    · obtain ⟨v, t, rfl, _, h, _⟩ := h
      have := t.dep0
      exact absurd h (by omega)
  | succ d ih => exact ⟨f, fd, g, kp, ok_deepS F tInt tMax (by omega) ih, b⟩
end
end H1
set_option Elab.async false
set_option linter.all false
set_option maxRecDepth 100000
set_option maxHeartbeats 4000000
/-! Small data and its repr; what stays where tables grow. -/
namespace Ev
open PySem PySem.Spec PyProof.Rows L2 LamX
def Small (d : PyData) : Prop := d.showable = true ∧ d.shown.length ≤ 1000 ∧ d.depth ≤ 8
def ItemOk (K : PySem.W.Frag) (H : Hp) (p : Addr) (x : V) : Prop := ∃ d, Dr K (del H p) x d ∧ Small d
theorem ItemOk.but {K : PySem.W.Frag} {H H' : Hp} {p : Addr} {x : V} (k : But p H H') : ItemOk K H p x → ItemOk K H' p x
  | ⟨d, h, s⟩ => ⟨d, h.same k.del, s⟩
theorem small_int {z : Int} (h0 : 0 ≤ z) (h1 : z < 10 ^ 6) : Small (.int z) := by
  refine ⟨?_, ?_, ?_⟩
  · show decide (z.natAbs.log2 < 1920) = true
    refine decide_eq_true ?_
    have h2 : z.natAbs < 2 ^ 20 := by omega
    by_cases n0 : z.natAbs = 0
    · rw [n0]; decide
    · exact Nat.lt_trans ((Nat.log2_lt n0).mpr h2) (by decide)
  · show (Str.ofString (toString z)).length ≤ 1000
    exact Nat.le_trans (toString_length_le h0 (by decide) h1) (by decide)
  · simp [PyData.depth]
/-- a new object beside the pen -/
theorem new_at {H H' : Hp} {p x : Addr} {o o' : HO} (hp : H p = some o') (hx : H x = none) (e : upd H x o = H') : Same H H' ∧ (del H' p) x = some o ∧ H' x = some o ∧ H' p = some o' ∧ x ≠ p := by
  have n : x ≠ p := Ne.symm (ne_of_none hp hx)
  subst e
  refine ⟨fun b q z => ?_, ?_, upd_same, ?_, n⟩
  · rw [upd_ne (ne_of_none z hx)]; exact z
  · rw [del_ne n]; exact upd_same
  · rw [upd_ne (Ne.symm n)]; exact hp
theorem PenAt.ex' {H : Hp} {p : Addr} {n : Nat} : PenAt H p n → ∃ o, H p = some o
  | ⟨_, _, _, _, h, _⟩ => ⟨_, h⟩
section
variable {P : Program} {w : World} {K : PySem.W.Frag} {mg : Str → Option Value} {base : Heap} {CX : CXT} {k : Nat} {sp : Sp}
/-- okG, the code object told -/
theorem okGc {x qual : Str} {p : Str × Option Str} {params : Arguments} {body : List Stmt} {scope : Scope} {fd : FuncData} {N ps : List Str}
    (F : FunD K x qual params body scope [] [] (He.fAd K p) fd) (S : FnScope N ps scope)
    (hb : ∀ (kV doc pm : Value) (an : Option Addr) (cdv ct : Value) (us : List Value), us.length = ps.length →
      bindArgs (PySem.W.fnOf x qual params body scope .none kV doc pm an cdv ct) ⟨us, []⟩ = pure (ps.zip us))
    (len : ∀ vs H Q E, sp vs H Q E → vs.length = ps.length)
    (hbody : ∀ (A : Around) (outer : List Env) (s : Shared) (H : Hp) (vs : List V) (Q : VK) (E : XK), A.guards = some [] →
      Room k (A.deeper (envOfC qual scope s.heap.objs.size (He.fAd K p) (.ref (He.codeOf K p)))) → sp vs H Q E →
      ∃ t, PSs (cxOf CX P w K mg base N qual scope (He.fAd K p) (.ref (He.codeOf K p)) A outer s H E) body t ∧ t { nx := fun _ H' => Q .non H', rt := Q } (start N vs) H) :
    FnG P w K mg base CX (k + 1) (He.fAd K p) sp := by
  intro A outer s H us vs Q E hg hr e0 r hsp
  obtain ⟨oc, od, dV, kV, doc, pm, an, cdv, ct, osl, rfl, lk, hcd, hD, hK⟩ := F.ex
  obtain ⟨c, rfl⟩ := He.codeIn_ref hcd
  have ec : He.codeOf K p = c := He.codeOf_eq lk rfl
  have hl : us.length = ps.length := by rw [← r.length]; exact len _ _ _ _ hsp
  rcases hD with ⟨_, rfl⟩ | ⟨e, _⟩
  · refine StX.run_bnd (G := fun xs H2 => xs = vs ∧ H2 = H) lk hcd S hr e0 (fun A' Ex Q' h => ?_) fun s2 H2 xs ⟨ex, eH⟩ hr' => ?_
    · rw [hb kV doc pm an (.ref c) ct us hl]
      exact wpAny_pure (h s H vs us e0 (Un.kept fun _ _ z => z) rfl (fun _ _ z => z) r (r.length.trans hl) ⟨rfl, rfl⟩)
    · subst ex eH
      subst ec
      exact hbody A outer s2 _ _ Q E hg hr' hsp
  · exact absurd rfl e
end
/-! ### what stays where tables grow -/
section
variable {K : PySem.W.Frag} {H H' : Hp}
theorem ext_of {H H' : Hp} (S : Same H H') : ExtN H H' := ExtN.of S
theorem rd_ext {a : Addr} {u : HO} (S : ExtN H H') (hu : ∀ ps, u ≠ .tbl ps) (h : Rd H a u) : Rd H' a u := by
  rcases h with h | ⟨o, h⟩
  · exact .inl (S _ _ h hu)
  · exact .inr ⟨o, S _ _ h fun ps z => by cases z⟩
theorem sql_ext {a : Addr} {xs : List V} (S : ExtN H H') (h : SqL K H a xs) : SqL K H' a xs := by
  rcases h with h | h
  · exact .inl (rd_ext S (fun ps z => by cases z) h)
  · exact .inr h
theorem sqt_ext {a : Addr} {xs : List V} (S : ExtN H H') (h : SqT K H a xs) : SqT K H' a xs := by
  rcases h with h | h
  · exact .inl (rd_ext S (fun ps z => by cases z) h)
  · exact .inr h
mutual
theorem Dr.ext (S : ExtN H H') : ∀ {v : V} {d : PyData}, Dr K H v d → Dr K H' v d
  | _, _, .non => .non
  | _, _, .bl b => .bl b
  | _, _, .int i => .int i
  | _, _, .str x => .str x
  | _, _, .lst h1 h2 => .lst (sql_ext S h1) (h2.ext S)
  | _, _, .tup h1 h2 => .tup (sqt_ext S h1) (h2.ext S)
  | _, _, .dct h1 h2 => .dct (S _ _ h1 fun ps z => by cases z) (h2.ext S)
theorem DrAll.ext (S : ExtN H H') : ∀ {vs : List V} {ds : List PyData}, DrAll K H vs ds → DrAll K H' vs ds
  | _, _, .nil => .nil
  | _, _, .cons a b => .cons (a.ext S) (b.ext S)
end
theorem Any.ext {v : V} (S : ExtN H H') (h : Any K H v) : Any K H' v := by
  cases h with
  | int i => exact .int i
  | bl b => exact .bl b
  | str s z => exact .str s z
  | non => exact .non
  | tup e => exact .tup (S _ _ e fun ps z => by cases z)
  | lst e => exact .lst (S _ _ e fun ps z => by cases z)
  | dic e => exact .dic (S _ _ e fun ps z => by cases z)
theorem PenAt.ext {p : Addr} {n : Nat} (S : ExtN H H') : PenAt H p n → PenAt H' p n
  | ⟨c, cells, t, l, h1, h2, r⟩ => ⟨c, cells, t, l, S _ _ h1 (fun ps z => by cases z), S _ _ h2 (fun ps z => by cases z), r⟩
theorem tabs_but {T : List (Addr × Str)} {p : Addr} {xs : List V} (hp : H p = some (.lst xs)) (k : But p H H') (t : Tabs T H) : Tabs T H' := fun q hq => by
  obtain ⟨ps, h1, h2, h3⟩ := t q hq
  refine ⟨ps, k _ _ (fun z => ?_) h1, h2, fun pos cv hc => ?_⟩
  · rw [z, hp] at h1
    cases h1
  · obtain ⟨c, e1, e2⟩ := h3 pos cv hc
    refine ⟨c, e1, k _ _ (fun z => ?_) e2⟩
    rw [z, hp] at e2
    have y := Option.some.inj e2
    unfold CodeO at y
    cases y
end

/-! ### str(x), x data -/
def strD : PyData → Str
  | .str x => x
  | d => d.shown
def rStrD (K : PySem.W.Frag) : List V → Hp → VK → Prop := fun xs H Q => ∃ (v : V) (d : PyData), xs = [v] ∧ Dr K H v d ∧ d.showable = true ∧ d.shown.length ≤ sizeLine ∧ d.depth ≤ 20 ∧ Q (.str (strD d)) H
theorem call_strD {X : Cx} (hg : X.A.guards = some []) (hu : X.A.units + 64 < cLine) (hs : SysK X.K) : CallR X (.type "str") (rStrD X.K) := by
  intro pins s σ H xs us Q I r h
  obtain ⟨v, d, rfl, hd, hsh, hz, hdp, q⟩ := h
  obtain ⟨u, rfl, r1⟩ := r.one
  cases hd with
  | non =>
    cases r1
    exact PySem.P.str_of_none ⟨.str _, H, I.tok _, ⟨_, rfl⟩, q⟩
  | bl b =>
    cases r1
    refine PySem.P.str_of_bool ⟨.str _, H, I.tok _, ⟨_, rfl⟩, ?_⟩
    simpa only [strD, PyData.shown] using q
  | int i =>
    obtain ⟨t, rfl⟩ := r1
    refine PySem.P.str_of_int (by simpa [PyData.showable] using hsh) ⟨.str _, H, I.tok _, ⟨_, rfl⟩, ?_⟩
    simpa only [strD, PyData.shown] using q
  | str x =>
    obtain ⟨t, rfl⟩ := r1
    exact PySem.P.str_of_str ⟨.str _, H, I, ⟨_, rfl⟩, q⟩
  | lst h1 h2 =>
    cases r1
    obtain ⟨as, rd, hn⟩ := Dr.reads I hs (.lst h1 h2) rfl
    exact str_of_reads rd hsh (fun _ => hn) hg (by omega) (fun _ _ e => e) (fun h' u tk hk => ⟨.str _, H, I.kept (t' := tk) hk, ⟨u, rfl⟩, q⟩) hz
  | tup h1 h2 =>
    cases r1
    obtain ⟨as, rd, hn⟩ := Dr.reads I hs (.tup h1 h2) rfl
    exact str_of_reads rd hsh (fun _ => hn) hg (by omega) (fun _ _ e => e) (fun h' u tk hk => ⟨.str _, H, I.kept (t' := tk) hk, ⟨u, rfl⟩, q⟩) hz
  | dct h1 h2 =>
    cases r1
    obtain ⟨as, rd, hn⟩ := Dr.reads I hs (.dct h1 h2) rfl
    exact str_of_reads rd hsh (fun _ => hn) hg (by omega) (fun _ _ e => e) (fun h' u tk hk => ⟨.str _, H, I.kept (t' := tk) hk, ⟨u, rfl⟩, q⟩) hz
/-! ### short texts -/
def TxtOk (s : Str) : Prop := s.length ≤ 40 ∧ ∀ c ∈ s.cps.toList, c < 1114112
theorem TxtOk.small {s : Str} (h : TxtOk s) : Small (.str s) := by
  refine ⟨rfl, ?_, ?_⟩
  · show (reprText s).length ≤ 1000
    exact Nat.le_trans (PySem.StrLaws.reprText_len s fun c hc => Nat.lt_trans (h.2 c hc) (by decide)) (by have := h.1; omega)
  · simp [PyData.depth]
theorem TxtOk.app {a b : Str} (ha : TxtOk a) (hb : TxtOk b) (hl : a.length + b.length ≤ 40) : TxtOk (a ++ b) := by
  have e : (a ++ b).cps = a.cps ++ b.cps := rfl
  refine ⟨?_, fun c hc => ?_⟩
  · show (a ++ b).cps.size ≤ 40
    rw [e, Array.size_append]
    exact hl
  · rw [e, Array.toList_append] at hc
    exact (List.mem_append.mp hc).elim (ha.2 c) (hb.2 c)
theorem TxtOk.cut {a : Str} (ha : TxtOk a) (lo hi : Option Int) : TxtOk (cutS a lo hi) := by
  refine ⟨Nat.le_trans (cutS_length a lo hi) ha.1, fun c hc => ha.2 c ?_⟩
  have hc2 : c ∈ (a.cps.toList.drop (HT.sIx a.length 0 lo)).take (HT.sIx a.length a.length hi - HT.sIx a.length 0 lo) := by simpa [cutS] using hc
  exact List.mem_of_mem_drop (List.mem_of_mem_take hc2)

theorem textFrom_le : ∀ (ts : List Str) (k : Nat) (acc : Str), (textFrom k acc ts).length ≤ acc.length + (ts.map fun t => t.length + 2).sum
  | [], _, acc => by simp [textFrom]
  | t :: ts, k, acc => by
    have ih := textFrom_le ts (k + 1) (acc ++ (if k > 0 then ", " else "" : String) ++ t)
    have e : (acc ++ ((if k > 0 then ", " else "" : String) : Str) ++ t).length ≤ acc.length + (t.length + 2) := by
      rw [strLen_append, strLen_append]
      have e1 : ((", " : String) : Str).length = 2 := rfl
      have e5 : (("" : String) : Str).length = 0 := rfl
      by_cases h : k > 0
      · rw [if_pos h, e1]; omega
      · rw [if_neg h, e5]; omega
    simp only [textFrom, List.map_cons, List.sum_cons]
    omega
def Good (d : PyData) : Prop := d.showable = true ∧ d.shown.length ≤ sizeLine ∧ d.depth ≤ 20
def ElOk (d : PyData) : Prop := d.showable = true ∧ d.shown.length ≤ 3000 ∧ d.depth ≤ 15
theorem Small.el {d : PyData} (h : Small d) : ElOk d := ⟨h.1, by have := h.2.1; omega, by have := h.2.2; omega⟩
theorem all_el : ∀ {ds : List PyData}, (∀ d ∈ ds, ElOk d) → PyData.showableAll ds = true ∧ ((PyData.shownAll ds).map fun t => t.length + 2).sum ≤ 3002 * ds.length ∧ PyData.depthAll ds ≤ 15
  | [], _ => ⟨rfl, by simp [PyData.shownAll], by simp [PyData.depthAll]⟩
  | d :: ds, h => by
    obtain ⟨a1, a2, a3⟩ := all_el fun x hx => h x (List.mem_cons_of_mem _ hx)
    obtain ⟨b1, b2, b3⟩ := h d (by simp)
    refine ⟨by simp [PyData.showableAll, a1, b1], ?_, ?_⟩
    · simp only [PyData.shownAll, List.map_cons, List.sum_cons, List.length_cons]
      omega
    · simp only [PyData.depthAll]
      omega
theorem good_list {ds : List PyData} (h : ∀ d ∈ ds, ElOk d) (hl : ds.length ≤ 100) : Good (.list ds) := by
  obtain ⟨a1, a2, a3⟩ := all_el h
  refine ⟨by simp only [PyData.showable]; exact a1, ?_, by simp only [PyData.depth]; omega⟩
  have e2 : (("[" : String) : Str).length = 1 := rfl
  have e3 : (("]" : String) : Str).length = 1 := rfl
  have z := textFrom_le (PyData.shownAll ds) 0 "["
  rw [e2] at z
  simp only [PyData.shown, listText, strLen_append, e3]
  rw [sizeLine_eq]
  omega
theorem el_pair {d e : PyData} (h : Small d) (h2 : Small e) : ElOk (.list [d, e]) ∧ ElOk (.tuple [d, e]) := by
  obtain ⟨a1, a2, a3⟩ := h
  obtain ⟨b1, b2, b3⟩ := h2
  have e1 : ((", " : String) : Str).length = 2 := rfl
  have e2 : (("[" : String) : Str).length = 1 := rfl
  have e3 : (("]" : String) : Str).length = 1 := rfl
  have e4 : (("" : String) : Str).length = 0 := rfl
  have e5 : (("(" : String) : Str).length = 1 := rfl
  have e6 : ((")" : String) : Str).length = 1 := rfl
  refine ⟨⟨by simp [PyData.showable, PyData.showableAll, a1, b1], ?_, by simp only [PyData.depth, PyData.depthAll]; omega⟩, by simp [PyData.showable, PyData.showableAll, a1, b1], ?_, by simp only [PyData.depth, PyData.depthAll]; omega⟩
  · simp only [PyData.shown, PyData.shownAll, listText, textFrom, strLen_append, e1, e2, e3, e4, Nat.lt_irrefl, if_false, Nat.zero_lt_succ, if_true, gt_iff_lt]
    omega
  · show ((("(" : String) : Str) ++ (d.shown ++ ((", " : String) : Str) ++ e.shown) ++ ((")" : String) : Str)).length ≤ 3000
    rw [strLen_append, strLen_append, strLen_append, strLen_append, e5, e6, e1]
    omega
end Ev
set_option Elab.async false
set_option linter.all false
set_option maxRecDepth 100000
set_option maxHeartbeats 4000000
/-! What is heard of a deed: a list of what is found, or the word of a refusal with its fields. -/
namespace Ev
open PySem PySem.Spec PyProof.Rows L2 LamX
/-- an error's class, its fields (the last first), the word and the values that are told of it -/
inductive HCase : Str → List (Str × V) → Str → List V → Prop
  | parts (y : V) : HCase "BadParts" [("at", y)] "parts" [y]
  | times (y : V) : HCase "BadTimes" [("value", y)] "times" [y]
  | large (y z : V) : HCase "TooLarge" [("most", z), ("what", y)] "large" [y, z]
def HeardP (K : PySem.W.Frag) (Q : VK) : XK := fun cls d H' => ∃ (x : Str) (fs : List (Str × V)) (tag : Str) (ys : List V) (p dd : Addr), HCase x fs tag ys ∧ cls = .ref (He.ga K x) ∧ d = some dd ∧ H' dd = some (.xd (fs ++ [(("told" : Str), V.ref p)])) ∧
  ∀ t H2, H' t = none → Same H' H2 → H2 t = some (.tup (.str tag :: ys)) → Q (.ref t) H2
def FoundP (Q : VK) : VK := fun v H' => ∀ t H2, H' t = none → Same H' H2 → H2 t = some (.lst [v]) → Q (.ref t) H2
def THeardP (K : PySem.W.Frag) : (XK → Hp → VK → Prop) → Hp → VK → Prop := fun tl H Q => ∀ (H1 : Hp) (R : VK), Same H H1 → (∀ v H', FoundP Q v H' → R v H') → tl (HeardP K Q) H1 R
end Ev
namespace H1
open PySem PySem.Spec PyProof.Rows L2 Ev LamX
structure HTx (P : Program) (w : World) (K : PySem.W.Frag) (mg : Str → Option Value) (base : Heap) : Prop where
  gPad : mg "PadError" = some (.ref (He.ga K "PadError"))
  gE : ∀ x ∈ (["BadParts", "BadTimes", "TooLarge"] : List Str), mg x = some (.ref (He.ga K x)) ∧ PySem.W.exmOne K (.ref (He.ga K x)) (.ref (He.ga K "PadError")) = some true
  tIsi : mg "isinstance" = none
  er : ErrsT errs K
abbrev NH : List Str := ["_law_deed", "_law_caught", "_law_found", "error"]
theorem scH : FnScope NH ["_law_deed"] (defScope (top i__law_heard)) := ⟨rfl, rfl, rfl, by decide +kernel, rfl, by decide +kernel, by decide +kernel⟩
theorem heard_givesP {X : Cx} {g : Addr} {cdg : Value} {q : Str} (T : HTx X.prog X.w X.K X.mg X.base) (hr : Room 4 X.A) : GivesTo X NH "_law_heard" (defScope (top i__law_heard)) g cdg (defBody (top i__law_heard)) "_law_deed" q (THeardP X.K) := by
  intro f c' s H Q tl act hc h
  have gP := (T.gE "BadParts" (by decide)).1
  have gT := (T.gE "BadTimes" (by decide)).1
  have gL := (T.gE "TooLarge" (by decide)).1
  refine ⟨_, pss_cons (ps_asg (pe_tup (pa_cons pe_non (pa_cons pe_non pa_nil))) (pg_tup rfl (pgs_cons (pg_name (i := 1) scH.nd rfl (Or.inl rfl)) (pgs_cons (pg_name (i := 2) scH.nd rfl (Or.inl rfl)) pgs_nil))))
    (pss_cons (ps_try_keep (X := (cxOf C8.CX0 X.prog X.w X.K X.mg X.base NH "_law_heard" (defScope (top i__law_heard)) g cdg X.A X.stack s H C8.E0).nox) (c := .ref (He.ga X.K "PadError")) (i := 3)
      (tb := fun W D σ H => ∃ Ech : XK, (∀ cls d σ' H', Ech cls d H' → W cls d σ' H') ∧ σ[0]? = some (some (.ref f)) ∧ H c' = some (CodeO c' q) ∧ tl Ech H fun v H' => D.nx (σ.set 2 (some v)) H')
      rfl rfl rfl scH.nd rfl rfl ⟨rfl, by decide, .inl T.gPad⟩ LamX.takes0 (fun W pn xe tk _ => ?_)
      (fun a oe cls d pn => pss_one (ps_set (i := 1) scH.nd rfl (Or.inl rfl) (pv 3))))
    (pss_cons (ps_if (pt_cmpR op_isN (pv 1) pe_non (nomark _)) (pss_one (ps_ret (pe_lst (pa_cons (pv 2) pa_nil)))) pss_nil)
    (pss_cons (ps_if (pt_val (pe_callB call_isK (by rfl) T.tIsi (by decide +kernel) (pa_cons (pv 1) (pa_cons (pe_glob (v := .ref (He.ga X.K "BadParts")) (by rfl) gP rfl) pa_nil)))) (pss_one (ps_ret (pe_tup (pa_cons pe_str (pa_cons (pe_kept (pv 1)) pa_nil))))) pss_nil)
    (pss_cons (ps_if (pt_val (pe_callB call_isK (by rfl) T.tIsi (by decide +kernel) (pa_cons (pv 1) (pa_cons (pe_glob (v := .ref (He.ga X.K "BadTimes")) (by rfl) gT rfl) pa_nil)))) (pss_one (ps_ret (pe_tup (pa_cons pe_str (pa_cons (pe_kept (pv 1)) pa_nil))))) pss_nil)
    (pss_cons (ps_if (pt_val (pe_callB call_isK (by rfl) T.tIsi (by decide +kernel) (pa_cons (pv 1) (pa_cons (pe_glob (v := .ref (He.ga X.K "TooLarge")) (by rfl) gL rfl) pa_nil)))) (pss_one (ps_ret (pe_tup (pa_cons pe_str (pa_cons (pe_kept (pv 1)) (pa_cons (pe_kept (pv 1)) pa_nil)))))) pss_nil)
    (pss_one (ps_ret (pe_tup (pa_cons pe_str pa_nil))))))))), ?_⟩
  · refine ⟨fun pins s' σ H' D I h' => ?_⟩
    obtain ⟨Ech, hW, h1, h2, h3⟩ := h'
    exact (pss_one (ps_set (i := 2) scH.nd rfl (Or.inl rfl) (act W pn xe Ech _ _ tk hW))).run pins s' σ H' D I ⟨h1, h2, h3⟩
  · refine ⟨(by show 2 ≤ sizeLine; decide), fun t0 ht0 => ⟨t0, _, rfl, SqT.of upd_same, rfl, _, _, rfl, _, _, rfl, rfl, ?_⟩⟩
    have S1 := same_upd (o := HO.tup [V.non, V.non]) ht0
    generalize e1 : upd H t0 _ = H1 at *
    refine ⟨HeardP X.K Q, fun cls d σ' H' hh hl => ?_, rfl, S1 _ _ hc, ?_⟩
    · obtain ⟨a0, a1, a2, a3, rfl⟩ : ∃ a0 a1 a2 a3, σ' = [a0, a1, a2, a3] := match σ', hl with | [a0, a1, a2, a3], _ => ⟨a0, a1, a2, a3, rfl⟩
      obtain ⟨x, fs, tag, ys, p, dd, hx, rfl, rfl, hd, q⟩ := hh
      refine ⟨true, ?_, fun _ a na => ?_, fun z => by cases z⟩
      · cases hx with
        | parts y => exact (T.gE _ (by decide)).2
        | times y => exact (T.gE _ (by decide)).2
        | large y z => exact (T.gE _ (by decide)).2
      · refine ⟨_, rfl, ?_⟩
        have da : dd ≠ a := ne_of_none hd na
        let H2 : Hp := upd H' a (exk a (.ref (He.ga X.K x)) (some dd))
        have S2 : Same H' H2 := same_upd na
        have ha2 : H2 a = some (exk a (.ref (He.ga X.K x)) (some dd)) := upd_same
        have hd2 := S2 _ _ hd
        refine ⟨_, rfl, rfl, _, rfl, ?_⟩
        refine ite2 (fun z => by have := of_decide_eq_true z; cases this) (fun _ => ?_)
        have fin : ∀ {t : Addr} {o : HO}, H2 t = none → Same H' (upd H2 t o) := fun {t o} ht => same_tr S2 (same_upd ht)
        have mP : (("BadParts" : Str), ([("at" : Str)] : List Str)) ∈ errs := by simp [errs]
        have mT : (("BadTimes" : Str), ([("value" : Str)] : List Str)) ∈ errs := by simp [errs]
        have mL : (("TooLarge" : Str), ([("what" : Str), ("most" : Str)] : List Str)) ∈ errs := by simp [errs]
        cases hx with
        | parts y =>
          have er := T.er.one _ mP
          refine ⟨_, rfl, a, _, dd, _, .ref (He.ga X.K "BadParts"), .ref (He.ga X.K "BadParts"), true, rfl, er.ec, ha2, hd2, fun u z => z, T.er.each _ mP _ mP, _, rfl, iteT ?_⟩
          exact ⟨_, rfl, a, _, dd, _, y, rfl, er.ec, er.no _ (by simp), ha2, hd2, rfl, (by show 2 ≤ sizeLine; decide), fun t ht => q t _ (same_none S2 t ht) (fin ht) upd_same⟩
        | times y =>
          have er := T.er.one _ mT
          refine ⟨_, rfl, a, _, dd, _, .ref (He.ga X.K "BadParts"), .ref (He.ga X.K "BadParts"), false, rfl, er.ec, ha2, hd2, fun u z => z, T.er.each _ mT _ mP, _, rfl, iteF ?_⟩
          refine ⟨_, rfl, a, _, dd, _, .ref (He.ga X.K "BadTimes"), .ref (He.ga X.K "BadTimes"), true, rfl, er.ec, ha2, hd2, fun u z => z, T.er.each _ mT _ mT, _, rfl, iteT ?_⟩
          exact ⟨_, rfl, a, _, dd, _, y, rfl, er.ec, er.no _ (by simp), ha2, hd2, rfl, (by show 2 ≤ sizeLine; decide), fun t ht => q t _ (same_none S2 t ht) (fin ht) upd_same⟩
        | large y z =>
          have er := T.er.one _ mL
          refine ⟨_, rfl, a, _, dd, _, .ref (He.ga X.K "BadParts"), .ref (He.ga X.K "BadParts"), false, rfl, er.ec, ha2, hd2, fun u z => z, T.er.each _ mL _ mP, _, rfl, iteF ?_⟩
          refine ⟨_, rfl, a, _, dd, _, .ref (He.ga X.K "BadTimes"), .ref (He.ga X.K "BadTimes"), false, rfl, er.ec, ha2, hd2, fun u z => z, T.er.each _ mL _ mT, _, rfl, iteF ?_⟩
          refine ⟨_, rfl, a, _, dd, _, .ref (He.ga X.K "TooLarge"), .ref (He.ga X.K "TooLarge"), true, rfl, er.ec, ha2, hd2, fun u z => z, T.er.each _ mL _ mL, _, rfl, iteT ?_⟩
          refine ⟨_, rfl, a, _, dd, _, y, rfl, er.ec, er.no _ (by simp), ha2, hd2, rfl, ?_⟩
          exact ⟨_, rfl, a, _, dd, _, z, rfl, er.ec, er.no _ (by simp), ha2, hd2, rfl, (by show 3 ≤ sizeLine; decide), fun t ht => q t _ (same_none S2 t ht) (fin ht) upd_same⟩
    · refine h H1 _ S1 fun v H' hf => ?_
      refine ⟨_, rfl, rfl, _, rfl, iteT ?_⟩
      exact ⟨_, rfl, (by show 1 ≤ sizeLine; decide), fun t ht => hf t _ ht (same_upd ht) upd_same⟩
end H1
set_option Elab.async false
set_option linter.all false
set_option maxRecDepth 100000
set_option maxHeartbeats 4000000
/-! What is asked of any part: its text, its length, == and !=, part * n; rows as a law hears them. -/
namespace PySem.W
open PySem PySem.Calls PyProof.Rows Builtin
section
variable {prog : Program} {w : World} {A : Around} {E : Value → Shared → Prop} {s : Shared} {K : Frag} {x C f : Addr} {ox : Obj} {od : Option Obj}
theorem len_own {Q : Value → Shared → Prop} (X : K.In s.heap) (I : InstAt s.heap x ox C od) (hs : findIn K (.ref C) "__len__" = some (some (.ref f))) (hf : isFn K (.ref f) = true)
    (h : wpAny (model prog w) A.in1 (call (.ref f) [.ref x]) (LenBack Q) E s) : wpAny (model prog w) A (call (.builtin "len") [.ref x]) Q E s := by
  refine Calls.call_function_entry kind_len plain_len entry_len (args_len1 _) ?_
  unfold Builtin.«len»
  refine wpAny_bind (m := oneArg "len" _) (wpAny_pure ?_)
  refine wpAny_bind (m := callSpecial? (.ref x) (Str.ofString "__len__")) (special_fn X I hs (beq_iff_eq.mp hf) (wpAny_mono h (fun r s' hr => ?_) fun _ _ y => y))
  cases r <;> first | exact hr.elim | skip
  rename_i n u
  obtain ⟨⟨h0, h1⟩, hq⟩ := hr
  refine wpAny_bind (wpAny_holding (wpAny_pure ?_))
  refine wpAny_bind (wpAny_letGo ?_)
  show wpAny _ _ (if n < 0 then _ else _) _ _ _
  rw [if_neg (by omega)]
  show wpAny _ _ (if n ≥ 2 ^ 63 then _ else _) _ _ _
  rw [if_neg (by omega)]
  exact wpAny_bind (wpAny_mkInt (wpAny_pure ⟨_, rfl, hq⟩))
end
end PySem.W
namespace Ev
open PySem PySem.Spec PyProof.Rows L2 LamX
section
variable {X : Cx} {CX : CXT} {C g : Addr} {n : Nat} {sp : Sp} {E : XK}
def rStrOwn (C : Addr) (sp : Sp) (E : XK) : List V → Hp → VK → Prop := fun xs H Q => ∃ (a dx : Addr) (fs : List (Str × V)), xs = [V.ref a] ∧ H a = some (.ins C dx fs) ∧ sp [.ref a] H (fun z H' => ∃ i, z = .str i ∧ Q z H') E
theorem call_strOwn (hs : PySem.W.findIn X.K (.ref C) "__str__" = some (some (.ref g))) (hf : PySem.W.isFn X.K (.ref g) = true) (F : FnR X.prog X.w X.K X.mg X.base CX n g sp) (hr : Room (n + 2) X.A) (hx : Passes CX X E) :
    CallR X (.type "str") (rStrOwn C sp E) := by
  intro pins s σ H xs us Q I r h
  obtain ⟨a, dx, fs, rfl, ha, q⟩ := h
  obtain ⟨u, rfl, ru⟩ := r.one
  cases (show u = Value.ref a from ru)
  obtain ⟨mA, O, _⟩ := ins_get I.hok ha
  obtain ⟨od, J, _⟩ := O.look
  have hr2 : Room n X.A.in1.in1 := (show Room (n + 1) X.A.in1 from Room.in1 hr).in1
  refine PySem.W.kso_call hr2.units0 I.kIn J hs hf (thn (wpAny_call (SlX.run_at (us := [.ref a]) (ws := [.ref a]) F hr2 I.env0.in1.in1 hx I (.cons rfl .nil) q)) (fun w s' z => ?_))
  obtain ⟨z', H', I', rz, i, ei, qz⟩ := z
  subst ei
  obtain ⟨t, e⟩ := (show ∃ t, w = Value.str i t from rz)
  cases e
  exact ⟨.str i, H', I', ⟨t, rfl⟩, qz⟩
end
section
variable {X : Cx} {n d : Nat}
/-- str(x), x a part -/
def rStrPart (K : PySem.W.Frag) (d : Nat) : List V → Hp → VK → Prop := fun xs H Q => ∃ (x : Addr) (p : Pt), xs = [.ref x] ∧ PAt K H x p ∧ p.dep < d ∧ ∀ H', Same H H' → Q (.str p.txt) H'
theorem call_strPart (T : PCls X.K) (S : StrF X.prog X.w X.K X.mg X.base n d) (hr : Room (n + 2) X.A) : CallR X (.type "str") (rStrPart X.K d) := by
  intro pins s σ H xs us Q I r h
  obtain ⟨x, p, rfl, hp, hd, q⟩ := h
  obtain ⟨dx, ti, tv, more, hx⟩ := hp.ins
  exact call_strOwn (C := He.ga X.K p.cn) (E := E0) (T.fmt p).at_ (T.fmt p).fn (S p.cn p.cnP) hr pass0 pins s σ H _ us Q I r ⟨x, dx, _, rfl, hx, x, p, rfl, hp, rfl, hd, fun H' S => ⟨_, rfl, q H' S⟩⟩
/-- how many are in it -/
def Pt.lenO : Pt → Option Nat
  | .row _ n => some n
  | .grp _ ps => some ps.len
  | _ => none
theorem Pt.len_cn {p : Pt} {m : Nat} (h : p.lenO = some m) : p.cn ∈ grpP := by
  cases p with
  | byte => cases h
  | kind _ _ => cases h
  | use _ => cases h
  | row _ _ => simp [Pt.cn, grpP]
  | grp ov _ => cases ov <;> simp [Pt.cn, grpP]
theorem PAt.insL {K : PySem.W.Frag} {H : Hp} {x : Addr} {p : Pt} {m : Nat} (h : PAt K H x p) (hm : p.lenO = some m) : m ≤ 64 ∧ ∃ dx tv more ti xs, H x = some (.ins (He.ga K p.cn) dx (PartFG ti tv p.dep ++ more)) ∧ SqT K H ti xs ∧ xs.length = m := by
  cases h with
  | byte h => cases hm
  | kind a b c d e => cases hm
  | use a b c => cases hm
  | row a b c d e f =>
    obtain ⟨ws, h1, h2, _⟩ := e
    cases hm
    exact ⟨b, _, _, _, _, ws, c, h1, h2⟩
  | grp a b c d e =>
    cases hm
    exact ⟨by omega, _, _, _, _, _, c, SqT.of d, e.len⟩
def spLen (K : PySem.W.Frag) : Sp := fun vs H Q _ => ∃ (x : Addr) (p : Pt) (m : Nat), vs = [.ref x] ∧ PAt K H x p ∧ p.lenO = some m ∧ Q (.int m) H
def rLenPart (K : PySem.W.Frag) : List V → Hp → VK → Prop := fun xs H Q => ∃ (x : Addr) (p : Pt) (m : Nat), xs = [.ref x] ∧ PAt K H x p ∧ p.lenO = some m ∧ Q (.int m) H
theorem call_lenPart (T : PCls X.K) (F : FnR X.prog X.w X.K X.mg X.base CX0 n (He.ma X.K (He.ga X.K "Group") "__len__") (spLen X.K)) (hr : Room (n + 1) X.A) : CallR X (.builtin "len") (rLenPart X.K) := by
  intro pins s σ H xs us Q I r h
  obtain ⟨x, p, m, rfl, hp, hm, q⟩ := h
  obtain ⟨u, rfl, ru⟩ := r.one
  cases (show u = Value.ref x from ru)
  have hm64 := (hp.insL hm).1
  obtain ⟨dx, ti, tv, more, hx⟩ := hp.ins
  obtain ⟨mA, O, _⟩ := ins_get I.hok hx
  obtain ⟨od, J, _⟩ := O.look
  have hr1 : Room n X.A.in1 := Room.in1 hr
  refine PySem.W.len_own I.kIn J ((T.F.one _ p.cnP).ln (Pt.len_cn hm)) T.F.lenF (thn (wpAny_call (SlX.run_at (us := [.ref x]) (ws := [.ref x]) (Q := fun v H' => v = .int m ∧ Q (.int m) H') F hr1 I.env0.in1 pass0 I (.cons rfl .nil) ⟨x, p, m, rfl, hp, hm, rfl, q⟩)) (fun w s' z => ?_))
  obtain ⟨z', H', I', rz, e, qz⟩ := z
  subst e
  obtain ⟨t, e⟩ := (show ∃ t, w = Value.int m t from rz)
  cases e
  exact ⟨⟨by omega, by omega⟩, .int m, H', I'.tok _, ⟨_, rfl⟩, qz⟩
/-- x == y, x a part -/
def DEqP (K : PySem.W.Frag) (d : Nat) : EqvB := fun x y H b => ∃ a p, x = .ref a ∧ PAt K H a p ∧ p.dep < d ∧ OtherP K H p y b
theorem OtherP.ty {K : PySem.W.Frag} (T : PCls K) {H : Hp} {p : Pt} {y : V} {b : Bool} (h : OtherP K H p y b) : ∃ t, TyX K H y t ∧ PySem.W.notFirst K (He.ga K p.cn) t = true := by
  have o := T.F.one _ p.cnP
  cases h with
  | part h => exact ⟨_, h.ty T, o.nf _ (Pt.cnP _)⟩
  | flat h1 h2 => exact ⟨_, h1, o.ft _ h2⟩
theorem rcJ_eqP (T : PCls X.K) (F : FnR X.prog X.w X.K X.mg X.base CX0 n (He.ma X.K (gP X.K) "__eq__") (spEqP d X.K)) : RcJ X n (DEqP X.K d) :=
  rcJ_own.imp fun x y H b h => by
    obtain ⟨a, p, rfl, h1, h3, h2⟩ := h
    obtain ⟨dx, ti, tv, more, e⟩ := h1.ins
    have o := T.F.one _ p.cnP
    obtain ⟨t, ty, nf⟩ := h2.ty T
    exact ⟨a, _, _, dx, _, _, _, rfl, e, ty, nf, o.eq, T.F.eqF, F, a, _, p, _, rfl, h1, h3, h2, fun H' S => ⟨rfl, S⟩⟩
theorem op_eqP (T : PCls X.K) (F : FnR X.prog X.w X.K X.mg X.base CX0 n (He.ma X.K (gP X.K) "__eq__") (spEqP d X.K)) (hr : Room n X.A) : OpR X (compareOp .Eq) (rEqJ (DEqP X.K d)) := op_eqJ (rcJ_eqP T F) hr
def rNeP (K : PySem.W.Frag) (d : Nat) : R2 := fun x y H Q => ∃ (a : Addr) (p : Pt) (b : Bool), x = .ref a ∧ PAt K H a p ∧ p.dep < d ∧ OtherP K H p y b ∧ ∀ H', Same H H' → Q (.bl (!b)) H'
theorem op_neP (T : PCls X.K) (F : FnR X.prog X.w X.K X.mg X.base CX0 n (He.ma X.K (gP X.K) "__eq__") (spEqP d X.K)) (hr : Room (n + 1) X.A) : OpR X (compareOp .NotEq) (rNeP X.K d) := by
  intro pins s σ H x y v u Q I rx ry h
  obtain ⟨a, p, b, rfl, h1, h3, h2, q⟩ := h
  obtain ⟨dx, ti, tv, more, e⟩ := h1.ins
  have o := T.F.one _ p.cnP
  obtain ⟨t, ty, nf⟩ := h2.ty T
  exact op_ownNe (C := He.ga X.K p.cn) (E := E0) o.cm o.ne o.eq T.F.eqF F hr pass0 pins s σ H _ y v u Q I rx ry ⟨a, dx, _, t, rfl, e, ty, nf, a, y, p, b, rfl, h1, h3, h2, fun H' S => ⟨b, rfl, q H' S⟩⟩
end
/-- part * n -/
def spMul (K : PySem.W.Frag) : Sp := fun vs H Q E => ∃ (y : Addr) (p : Pt) (nv : V), vs = [.ref y, nv] ∧ PAt K H y p ∧ Any K H nv ∧
  (wholeB nv 1 64 = false → Flies K "BadTimes" "value" nv H E) ∧
  (∀ n : Nat, nv = .int n → 1 ≤ n → n ≤ 64 → (4 < p.dep + 1 → Flies2 K "TooLarge" "what" "most" (.str "depth") (.int 4) H E) ∧ (p.dep + 1 ≤ 4 → ∀ x H', Same H H' → PAt K H' x (.row p n) → Q (.ref x) H'))
/-- a row is made of any value and any value -/
def RowDue (K : PySem.W.Frag) (pv nv : V) (H : Hp) (Q : VK) (E : XK) : Prop := ∃ b : Bool, PartV K H pv b ∧ Any K H nv ∧ (b = false → Flies K "BadParts" "at" (.int 0) H E) ∧ (b = true → wholeB nv 1 64 = false → Flies K "BadTimes" "value" nv H E) ∧
  (∀ (y : Addr) (p : Pt) (n : Nat), pv = .ref y → PAt K H y p → nv = .int n → 1 ≤ n → n ≤ 64 → (4 < p.dep + 1 → Flies2 K "TooLarge" "what" "most" (.str "depth") (.int 4) H E) ∧
    (p.dep + 1 ≤ 4 → ∀ x H', Same H H' → PAt K H' x (.row p n) → Q (.ref x) H'))
theorem RowDue.mk {K : PySem.W.Frag} {pv nv : V} {H : Hp} {Q : VK} {E : XK} (h : RowDue K pv nv H Q E) (x dx : Addr) (hx : H x = none) (hd : H dx = none) (ne : dx ≠ x) :
    spRow K [.ref x, pv, nv] (upd (upd H dx (.own x)) x (.ins (He.ga K "Row") dx [])) (fun v H2 => v = .non ∧ Q (.ref x) H2) E := by
  obtain ⟨b, h1, h2, h3, h4, h5⟩ := h
  have S2 : Same H (upd (upd H dx (.own x)) x (.ins (He.ga K "Row") dx [])) := same_make2 hx hd
  refine ⟨x, dx, pv, nv, b, rfl, upd_same, h1.same S2, h2.same S2, fun e => (h3 e).same S2, fun e1 e2 => (h4 e1 e2).same S2, fun y p n e1 e2 e3 e4 e5 => ?_⟩
  have e2' : PAt K H y p := by
    cases h1 with
    | part g =>
      cases e1
      rw [e2.inj (g.same S2)]
      exact g
    | any g =>
      subst e1
      exact absurd (g.same S2) (fun z => by
        obtain ⟨dx', ti, tv, more, hi⟩ := e2.ins
        cases z <;> (rename_i a b; rw [hi] at b; cases b))
  obtain ⟨g1, g2⟩ := h5 y p n e1 e2' e3 e4 e5
  exact ⟨fun z => (g1 z).same S2, fun z H' B q => ⟨rfl, g2 z x H' (same_but hx S2 B) q⟩⟩
end Ev
namespace H1
open PySem PySem.Spec PyProof.Rows L2 Ev LamX
section
variable {P : Program} {w : World} {K : PySem.W.Frag} {mg : Str → Option Value} {base : Heap} {f : Addr} {fd : FuncData}
theorem scGL : FnScope ["self"] ["self"] (defScope (sM i_Group j_Group___len__)) := ⟨rfl, rfl, rfl, by decide +kernel, rfl, by decide +kernel, by decide +kernel⟩
theorem ok_len (F : FnM K "Group" "__len__" i_Group j_Group___len__ [] f fd) (T : PCls K) (tLen : mg "len" = none) : FnR P w K mg base CX0 1 f (spLen K) := by
  refine FnR.imp (FnOk.raw (ps := ["self"]) (sp := spLen K) (F.ok scGL (fun vs H Q E h => ?_) (fun cdv A outer s H vs Q E hr h => ?_)) (FunD.bindsN F fun _ _ _ _ _ _ us hl => match us, hl with | [_], _ => rfl) .nil) (fun vs H Q E h => by rw [List.append_nil]; exact h)
  · obtain ⟨x, p, m, rfl, _⟩ := h
    rfl
  · obtain ⟨x, p, m, rfl, hp, hm, q⟩ := h
    obtain ⟨hz, dx, tv, more, ti, xs, hx, ht, hl⟩ := hp.insL hm
    refine ⟨_, pss_one (ps_ret (pe_callB call_len_seq (by rfl) tLen (by decide +kernel) (pa_cons (pe_fld (pv 0) (by rfl)) pa_nil))), ?_⟩
    refine ⟨_, rfl, x, _, dx, _, .ref ti, rfl, hx, T.cl p, T.no p (by simp [baseFs]), rfl, ti, xs, rfl, .inr ht, ?_⟩
    rw [hl]
    exact q
theorem scMu : FnScope ["self", "other"] ["self", "other"] (defScope (sM i_Part j_Part___mul__)) := ⟨rfl, rfl, rfl, by decide +kernel, rfl, by decide +kernel, by decide +kernel⟩
theorem ok_mul (F : FnM K "Part" "__mul__" i_Part j_Part___mul__ [] f fd) (T : PCls K) (W : DefC P w K mg base (L2.CX P w) 5 "Row" ["self", "part", "n"] (spRow K) []) : FnR P w K mg base (L2.CX P w) 7 f (spMul K) := by
  refine FnR.imp (FnOk.raw (ps := ["self", "other"]) (sp := spMul K) (F.ok scMu (fun vs H Q E h => ?_) (fun cdv A outer s H vs Q E hr h => ?_)) (FunD.bindsN F fun _ _ _ _ _ _ us hl => match us, hl with | [_, _], _ => rfl) .nil) (fun vs H Q E h => by rw [List.append_nil]; exact h)
  · obtain ⟨y, p, nv, rfl, _⟩ := h
    rfl
  · obtain ⟨y, p, nv, rfl, hp, an, h4, h5⟩ := h
    refine ⟨_, pss_one (ps_ret (pe_new (E := E) W hr (by rfl) (passes_call (takes_of rfl rfl rfl rfl) (fun _ _ _ _ h => h)) (pa_cons (pv 0) (pa_cons (pv 1) pa_nil)))), ?_⟩
    refine ⟨_, rfl, _, rfl, fun x dx hx hd ne => RowDue.mk ⟨true, .part hp, an, (fun z => by cases z), fun _ => h4, fun y' p' n e1 e2 e3 e4 e5 => ?_⟩ x dx hx hd ne⟩
    cases e1
    rw [e2.inj hp]
    exact h5 n e3 e4 e5
end
end H1
set_option Elab.async false
set_option linter.all false
set_option maxRecDepth 100000
set_option maxHeartbeats 4000000
/-! The signs of a part's text; what is heard of a row. -/
namespace Ev
open PySem PySem.Spec PyProof.Rows L2 LamX
/-! ### signs -/
def CharOk (s : Str) : Prop := ∀ c ∈ s.cps.toList, c < 1114112
theorem CharOk.app {a b : Str} (ha : CharOk a) (hb : CharOk b) : CharOk (a ++ b) := fun c hc => by
  have e : (a ++ b).cps = a.cps ++ b.cps := rfl
  rw [e, Array.toList_append] at hc
  exact (List.mem_append.mp hc).elim (ha c) (hb c)
theorem joinL_mem (S : List Nat) : ∀ (ps : List (List Nat)) (c : Nat), c ∈ TL.joinL S ps → c ∈ S ∨ ∃ p ∈ ps, c ∈ p
  | [], c, h => by simp [TL.joinL] at h
  | [p], c, h => by
    simp [TL.joinL] at h
    exact .inr ⟨p, by simp, h⟩
  | p :: q :: r, c, h => by
    simp only [TL.joinL, List.mem_append] at h
    rcases h with h | h | h
    · exact .inr ⟨p, by simp, h⟩
    · exact .inl h
    · rcases joinL_mem S (q :: r) c h with z | ⟨t, h1, h2⟩
      · exact .inl z
      · exact .inr ⟨t, List.mem_cons_of_mem _ h1, h2⟩
theorem CharOk.join {y : Str} {ps : List Str} (hy : CharOk y) (hp : ∀ p ∈ ps, CharOk p) : CharOk (Txt.join y ps) := fun c hc => by
  rw [TL.join_eq] at hc
  have hc : c ∈ TL.tl (Str.join y ps) := hc
  rw [TL.tl_join] at hc
  rcases joinL_mem _ _ _ hc with z | ⟨t, h1, h2⟩
  · exact hy c z
  · obtain ⟨p, h3, rfl⟩ := List.mem_map.mp h1
    exact hp p h3 c h2
theorem CharOk.lit (s : String) : CharOk (Str.ofString s) := fun c hc => by
  have hc : c ∈ TL.tl (Str.ofString s) := hc
  rw [TL.tl_ofString] at hc
  obtain ⟨x, _, rfl⟩ := List.mem_map.mp hc
  have := x.valid
  show x.val.toNat < 1114112
  rcases this with h | ⟨_, h⟩ <;> omega
theorem CharOk.empty : CharOk Str.empty := fun c hc => by cases hc
theorem CharOk.name {s : Str} (h : nameB (.str s) = true) : CharOk s := fun c hc => by
  simp only [nameB, Bool.and_eq_true, decide_eq_true_eq, List.all_eq_true] at h
  have h1 := h.2.2.2 c hc
  have : ∀ c ∈ letters.cps.toList, c < 1114112 := by decide +kernel
  exact this c h1
section
variable {K : PySem.W.Frag} {H H' : Hp}
mutual
theorem PAt.chars : ∀ {x : Addr} {p : Pt}, PAt K H x p → CharOk p.txt
  | _, _, .byte _ => CharOk.lit "byte"
  | _, _, .kind a _ _ _ _ => CharOk.name a
  | _, _, .use a _ _ => (CharOk.app .empty (CharOk.lit "@")).app (CharOk.name a)
  | _, _, .row _ _ _ _ _ f => ((CharOk.app .empty (CharOk.lit _)).app (CharOk.lit "*")).app f.chars
  | _, _, .grp (ov := ov) _ _ _ _ f => by
    refine CharOk.join (CharOk.lit "") fun p hp => ?_
    simp only [List.mem_cons, List.not_mem_nil, or_false] at hp
    rcases hp with rfl | rfl | rfl
    · cases ov
      · exact CharOk.lit "{"
      · exact CharOk.lit "("
    · refine CharOk.join ?_ f.chars
      cases ov
      · exact CharOk.lit " "
      · exact CharOk.lit "|"
    · cases ov
      · exact CharOk.lit "}"
      · exact CharOk.lit ")"
theorem PAll.chars : ∀ {vs : List V} {ps : Pts}, PAll K H vs ps → ∀ t ∈ ps.txts, CharOk t
  | _, _, .nil, t, h => by cases h
  | _, _, .cons a _ c d, t, h => by
    rcases List.mem_cons.mp h with rfl | h
    · exact ((CharOk.app .empty (CharOk.name a)).app (CharOk.lit ":")).app c.chars
    · exact d.chars t h
end
end
theorem good_str {s : Str} (h : CharOk s) {n : Nat} (hl : s.length ≤ n) (hn : n ≤ 1000000) : (PyData.str s).showable = true ∧ (PyData.str s).shown.length ≤ 10 * n + 2 ∧ (PyData.str s).depth = 0 := by
  refine ⟨rfl, ?_, by simp [PyData.depth]⟩
  show (reprText s).length ≤ _
  exact Nat.le_trans (PySem.StrLaws.reprText_len s fun c hc => Nat.lt_trans (h c hc) (by decide)) (by omega)
theorem all_elB {B : Nat} : ∀ {ds : List PyData}, (∀ d ∈ ds, d.showable = true ∧ d.shown.length ≤ B ∧ d.depth ≤ 15) → PyData.showableAll ds = true ∧ ((PyData.shownAll ds).map fun t => t.length + 2).sum ≤ (B + 2) * ds.length ∧ PyData.depthAll ds ≤ 15
  | [], _ => ⟨rfl, by simp [PyData.shownAll], by simp [PyData.depthAll]⟩
  | d :: ds, h => by
    obtain ⟨a1, a2, a3⟩ := all_elB fun x hx => h x (List.mem_cons_of_mem _ hx)
    obtain ⟨b1, b2, b3⟩ := h d (by simp)
    refine ⟨by simp [PyData.showableAll, a1, b1], ?_, ?_⟩
    · simp only [PyData.shownAll, List.map_cons, List.sum_cons, List.length_cons]
      rw [Nat.mul_succ]
      omega
    · simp only [PyData.depthAll]
      omega
theorem good_listB {ds : List PyData} {B : Nat} (h : ∀ d ∈ ds, d.showable = true ∧ d.shown.length ≤ B ∧ d.depth ≤ 15) (hl : (B + 2) * ds.length + 2 ≤ sizeLine) : Good (.list ds) := by
  obtain ⟨a1, a2, a3⟩ := all_elB h
  refine ⟨by simp only [PyData.showable]; exact a1, ?_, by simp only [PyData.depth]; omega⟩
  have e2 : (("[" : String) : Str).length = 1 := rfl
  have e3 : (("]" : String) : Str).length = 1 := rfl
  have z := textFrom_le (PyData.shownAll ds) 0 "["
  rw [e2] at z
  simp only [PyData.shown, listText, strLen_append, e3]
  omega
theorem empty_app (s : Str) : Str.empty ++ s = s := by
  show (⟨#[] ++ s.cps⟩ : Str) = s
  simp
/-! ### what is heard of a row -/
def dueD (d : Int) : PyData := if 3 < d then .tuple [.str "large", .str "depth", .int 4] else .none
def dueAll (d : Int) (m : V) (dm : PyData) : PyData := if wholeB m 1 64 = true then dueD d else .tuple [.str "times", dm]
inductive HvAt (K : PySem.W.Frag) (t : Pt) (mv : V) (D : PyData) (H : Hp) : V → Prop
  | row {l x : Addr} {n : Nat} : mv = .int n → 1 ≤ n → n ≤ 64 → t.dep ≤ 3 → H l = some (.lst [.ref x]) → PAt K H x (.row t n) → HvAt K t mv D H (.ref l)
  | err {v : V} : (wholeB mv 1 64 = false ∨ 3 < t.dep) → Dr K H v D → HvAt K t mv D H v
theorem HvAt.ext {K : PySem.W.Frag} {t : Pt} {mv : V} {D : PyData} {H H' : Hp} {v : V} (S : ExtN H H') : HvAt K t mv D H v → HvAt K t mv D H' v
  | .row a b c d e f => .row a b c d (S _ _ e fun ps z => by cases z) (f.keep (Keep.ext S))
  | .err a b => .err a (b.ext S)
theorem whole_nat {n : Nat} (h : wholeB (.int n) 1 64 = false) (h1 : 1 ≤ n) (h2 : n ≤ 64) : False := by
  have : wholeB (.int (n : Int)) 1 64 = true := by
    simp only [wholeB, Bool.and_eq_true, decide_eq_true_eq]
    omega
  rw [this] at h
  cases h
theorem ext_del {H H' : Hp} {L : Addr} (S : ExtN H H') : ExtN (del H L) (del H' L) := fun b o e n => by
  have nb : b ≠ L := fun z => by rw [z, L2.del_same] at e; cases e
  rw [del_ne nb] at e ⊢
  exact S b o e n
theorem tabs_del {T : List (Addr × Str)} {H : Hp} {L : Addr} {xs : List V} (hL : H L = some (.lst xs)) (t : Tabs T H) : Tabs T (del H L) := fun q hq => by
  obtain ⟨ps, h1, h2, h3⟩ := t q hq
  refine ⟨ps, by rw [del_ne (fun z => by rw [z, hL] at h1; cases h1)]; exact h1, h2, fun pos cv hc => ?_⟩
  obtain ⟨c, e1, e2⟩ := h3 pos cv hc
  have nc : c ≠ L := fun z => by
    rw [z, hL] at e2
    have y := Option.some.inj e2
    unfold CodeO at y
    cases y
  exact ⟨c, e1, by rw [del_ne nc]; exact e2⟩
theorem keep_del {H : Hp} {L : Addr} {xs : List V} (hL : H L = some (.lst xs)) : Keep H (del H L) := fun b o h s => by
  rw [del_ne fun z => by rw [z, hL] at h; cases h; exact s]
  exact h
theorem due_row {K : PySem.W.Frag} {H : Hp} {x L : Addr} {xs : List V} {t : Pt} {mv : V} {dm : PyData} {R Q : VK} (hL : H L = some (.lst xs)) (px : PAt K (del H L) x t) (am : Any K (del H L) mv) (Dm : Dr K (del H L) mv dm)
    (hR : ∀ v H', FoundP Q v H' → R v H') (q : ∀ v H', Same H H' → HvAt K t mv (dueAll t.dep mv dm) (del H' L) v → Q v H') {H0 : Hp} (S0 : Same H H0) : RowDue K (.ref x) mv H0 R (HeardP K Q) := by
  have nL : ∀ {a : Addr} {H' : Hp}, Same H0 H' → H' a = none → a ≠ L := fun {a H'} S' ha z => by
    rw [z, S' _ _ (S0 _ _ hL)] at ha
    cases ha
  have at_ : ∀ {a : Addr} {o : HO} {H' H2 : Hp}, Same H0 H' → H' a = none → H2 a = some o → (del H2 L) a = some o := fun {a o H' H2} S' ha h2 => by rw [del_ne (nL S' ha)]; exact h2
  refine ⟨true, .part ((px.same del_same').same S0), (am.same del_same').same S0, (fun z => by cases z), fun _ hw d p H' hd S hd' => ?_, fun y p n e1 e2 e3 e4 e5 => ?_⟩
  · refine ⟨_, _, _, _, p, d, .times mv, rfl, rfl, hd', fun l H2 hl S2 h2 => q _ H2 (same_tr S0 (same_tr S S2)) (.err (.inl hw) ?_)⟩
    unfold dueAll
    rw [hw]
    exact .tup (SqT.of (at_ S hl h2)) (.cons (.str _) (.cons (Dm.same (same_del (same_tr S0 (same_tr S S2)))) .nil))
  · cases e1
    rw [e2.inj ((px.same del_same').same S0)]
    refine ⟨fun z d pp H' hd S hd' => ?_, fun z x' H' S hp => hR _ _ fun l H2 hl S2 h2 => q _ H2 (same_tr S0 (same_tr S S2)) (.row e3 e4 e5 (by omega) (at_ S hl h2) ((hp.same S2).keep (keep_del (same_tr S0 (same_tr S S2) _ _ hL))))⟩
    refine ⟨_, _, _, _, pp, d, .large (.str "depth") (.int 4), rfl, rfl, hd', fun l H2 hl S2 h2 => q _ H2 (same_tr S0 (same_tr S S2)) (.err (.inr (by omega)) ?_)⟩
    have hw : wholeB mv 1 64 = true := by
      cases h : wholeB mv 1 64 with
      | true => rfl
      | false => rw [e3] at h; exact (whole_nat h e4 e5).elim
    unfold dueAll dueD
    rw [hw, if_pos rfl, if_pos (by omega)]
    exact .tup (SqT.of (at_ S hl h2)) (.cons (.str _) (.cons (.str _) (.cons (.int _) .nil)))
/-- what stays while rows are heard of -/
structure Hs (K : PySem.W.Frag) (T : List (Addr × Str)) (H : Hp) (p c : Addr) (n : Nat) (x : Addr) (t : Pt) (mv due : V) (dm D : PyData) : Prop where
  pen : PenC H p c n
  tabs : Tabs T H
  px : PAt K H x t
  am : Any K H mv
  Dm : Dr K H mv dm
  Dd : Dr K H due D
theorem PenC.ext {H H' : Hp} {p c : Addr} {n : Nat} (S : ExtN H H') : PenC H p c n → PenC H' p c n
  | ⟨cells, t, l, h1, h2, r⟩ => ⟨cells, t, l, S _ _ h1 (fun ps z => by cases z), S _ _ h2 (fun ps z => by cases z), r⟩
theorem Hs.ext {K : PySem.W.Frag} {T : List (Addr × Str)} {H H' : Hp} {p c : Addr} {n : Nat} {x : Addr} {t : Pt} {mv due : V} {dm D : PyData} (S : ExtN H H') (tb : Tabs T H') (h : Hs K T H p c n x t mv due dm D) : Hs K T H' p c n x t mv due dm D :=
  ⟨h.pen.ext S, tb, h.px.keep (Keep.ext S), h.am.ext S, h.Dm.ext S, h.Dd.ext S⟩
theorem Hs.same {K : PySem.W.Frag} {T : List (Addr × Str)} {H H' : Hp} {p c : Addr} {n : Nat} {x : Addr} {t : Pt} {mv due : V} {dm D : PyData} (S : Same H H') (h : Hs K T H p c n x t mv due dm D) : Hs K T H' p c n x t mv due dm D :=
  h.ext (ext_of S) (h.tabs.ext S)
/-- one more is put to what was heard -/
theorem Hs.next {K : PySem.W.Frag} {T : List (Addr × Str)} {H H1 H2 : Hp} {L p c x : Addr} {n : Nat} {t : Pt} {mv due v : V} {dm D E : PyData} {vs : List V} (h : H L = some (.lst vs)) (f : Hs K T (del H L) p c n x t mv due dm D) (V' : ∀ u ∈ vs, HvAt K t mv E (del H L) u)
    (e : ExtN H H1) (tb : Tabs T H1) (S : Same H1 H2) (Dv : HvAt K t mv E (del H2 L) v) :
    H2 L = some (.lst vs) ∧ (upd H2 L (.lst (vs ++ [v]))) L = some (.lst (vs ++ [v])) ∧ Hs K T (del (upd H2 L (.lst (vs ++ [v]))) L) p c n x t mv due dm D ∧ ∀ u ∈ vs ++ [v], HvAt K t mv E (del (upd H2 L (.lst (vs ++ [v]))) L) u := by
  have x2 : ExtN H H2 := e.trans (ext_of S)
  have h2 : H2 L = some (.lst vs) := x2 _ _ h fun ps z => by cases z
  have t2 : Tabs T H2 := tb.ext S
  have ed : (del (upd H2 L (.lst (vs ++ [v]))) L) = del H2 L := by
    funext b
    by_cases h : b = L
    · rw [h, L2.del_same, L2.del_same]
    · rw [del_ne h, del_ne h, upd_ne h]
  refine ⟨h2, upd_same, ?_, ?_⟩
  · rw [ed]
    exact f.ext (ext_del x2) (tabs_del h2 t2)
  · rw [ed]
    intro u hu
    rcases List.mem_append.mp hu with hu | hu
    · exact (V' u hu).ext (ext_del x2)
    · cases List.mem_singleton.mp hu
      exact Dv
end Ev
set_option Elab.async false
set_option linter.all false
set_option maxRecDepth 100000
set_option maxHeartbeats 4000000
/-! The law's turn, one row. -/
namespace Ev
open PySem PySem.Spec PyProof.Rows L2 LamX
def tWholeT (K : PySem.W.Frag) (i : Nat) (hi : Int) : TE := fun σ H Q => ∃ v, σ[i]? = some (some v) ∧ Any K H v ∧ Q (.bl (wholeB v 1 hi)) H
def tLarge (K : PySem.W.Frag) : TE := fun σ H Q => ∃ d : Int, σ[2]? = some (some (.int d)) ∧ ∀ v H', Same H H' → Dr K H' v (dueD d) → Q v H'
def tDue2 (K : PySem.W.Frag) : TE := fun σ H Q => ∃ (v m : V) (b : Bool) (dv dm : PyData), σ[4]? = some (some v) ∧ σ[3]? = some (some (.bl b)) ∧ σ[8]? = some (some m) ∧ Dr K H v dv ∧ Dr K H m dm ∧
  ∀ u H', Same H H' → Dr K H' u (if b = true then dv else .tuple [.str "times", dm]) → Q u H'
theorem mul_due {K : PySem.W.Frag} (T : PCls K) {x : Addr} {t : Pt} {mv : V} {H : Hp} {R : VK} {E : XK} (px : PAt K H x t) (h : RowDue K (.ref x) mv H R E) : rOwnB K "mul" (He.ma K (gP K) "__mul__") (spMul K) E (.ref x) mv H R := by
  obtain ⟨b, h1, h2, h3, h4, h5⟩ := h
  obtain ⟨dx, ti, tv, more, hx⟩ := px.ins
  obtain ⟨T', ty, mem⟩ := h2.tyF
  have hb : b = true := by
    cases h1 with
    | part g => rfl
    | any g => cases g <;> (rename_i a b; rw [hx] at b; cases b)
  exact ⟨x, _, dx, _, T', rfl, hx, ty, (T.F.one _ t.cnP).op T' mem, x, t, mv, rfl, px, h2, h4 hb, fun n e1 e2 e3 => h5 x t n rfl px e1 e2 e3⟩
theorem PAt.rowI {K : PySem.W.Frag} {H : Hp} {y : Addr} {t : Pt} {n : Nat} (h : PAt K H y (.row t n)) : ∃ dx tr ti y0, H y = some (.ins (He.ga K "Row") dx (PartFG ti (.ref tr) (t.dep + 1) ++ [(("part" : Str), .ref y0), (("n" : Str), .int n)])) ∧ PAt K H y0 t := by
  cases h with
  | row a b c d e f => exact ⟨_, _, _, _, c, f⟩
theorem eqSelf {K : PySem.W.Frag} {H : Hp} {b : Addr} {q : Pt} (h : PAt K H b q) : OtherP K H q (.ref b) true := by
  have := OtherP.part (p := q) h
  rw [eqPt_refl] at this
  exact this
theorem eqNot {K : PySem.W.Frag} {H : Hp} {b : Addr} {p q : Pt} (h : PAt K H b q) (n : p ≠ q) : OtherP K H p (.ref b) false := by
  have := OtherP.part (p := p) h
  cases e : eqPt p q with
  | true => exact absurd (eqPt_eq _ _ e) n
  | false => rw [e] at this; exact this
theorem Dr.non_is {K : PySem.W.Frag} {H : Hp} {v : V} (h : Dr K H v .none) : v = .non := by cases h; rfl
theorem HvAt.dr {K : PySem.W.Frag} {t : Pt} {mv : V} {D : PyData} {H : Hp} {v : V} (h : HvAt K t mv D H v) (g : ¬ (wholeB mv 1 64 = true ∧ t.dep ≤ 3)) : Dr K H v D := by
  cases h with
  | row a b c d e f => exact absurd ⟨by cases z : wholeB mv 1 64 with
    | true => rfl
    | false => rw [a] at z; exact (whole_nat z b c).elim, d⟩ g
  | err a b => exact b
theorem HvAt.rw_ {K : PySem.W.Frag} {t : Pt} {n : Nat} {D : PyData} {H : Hp} {v : V} (h : HvAt K t (.int n) D H v) (g : wholeB (.int n) 1 64 = true) (g3 : t.dep ≤ 3) : ∃ l x, v = .ref l ∧ H l = some (.lst [.ref x]) ∧ PAt K H x (.row t n) := by
  cases h with
  | row a b c d e f =>
    have := V.int.inj a
    have : n = _ := Int.ofNat.inj this
    subst this
    exact ⟨_, _, rfl, e, f⟩
  | err a b =>
    rcases a with a | a
    · rw [g] at a; cases a
    · omega
def tOtherN : TE := fun σ H Q => ∃ m : Nat, σ[8]? = some (some (.int m)) ∧ 1 ≤ m ∧ m ≤ 64 ∧ ∀ m' : Nat, 1 ≤ m' → m' ≤ 64 → m' ≠ m → Q (.int m') H
def tOther (K : PySem.W.Frag) : TE := fun σ H Q => ∃ (x : Addr) (t : Pt) (m : Nat), σ[9]? = some (some (.ref x)) ∧ σ[8]? = some (some (.int m)) ∧ PAt K H x t ∧ t.dep + 1 ≤ 4 ∧ 1 ≤ m ∧ m ≤ 64 ∧
  ∀ (x4 : Addr) (m' : Nat) (H' : Hp), m' ≠ m → Same H H' → PAt K H' x4 (.row t m') → Q (.ref x4) H'
end Ev
namespace H1
open PySem PySem.Spec PyProof.Rows L2 Ev LamX
abbrev pR : Str × Option Str := ("_law_right", none)
abbrev pL : Str × Option Str := ("law", none)
abbrev qR : Str := (envOfC "_law_right" (defScope (top i__law_right)) 0 0 .none).qual ++ "<lambda>"
abbrev qLw : Str := (envOfC "law" (defScope (top i_law)) 0 0 .none).qual ++ "<lambda>"
abbrev TRL (K : PySem.W.Frag) : List (Addr × Str) := [((He.cT K pR).2, qR), ((He.cT K pL).2, qLw)]
structure RT (P : Program) (w : World) (K : PySem.W.Frag) (mg : Str → Option Value) (base : Heap) : Prop where
  D1 : DefP P w K mg base CX0 1 "_law_draw" ["_law_pen_here", "_law_many"] spDrawP
  D2 : DefP P w K mg base CX0 2 "_law_pick" ["_law_pen_here", "_law_some"] spPickP
  Md : DefP P w K mg base CX0 11 "_law_made" ["_law_plan_here"] (spMadeP 5 K)
  Dp : DefP P w K mg base CX0 6 "_law_deep" ["_law_plan_here"] (spDeepP 5)
  gH : ∃ fH dH, mg "_law_heard" = some (.ref fH) ∧ FnL K "_law_heard" i__law_heard fH dH
  ht : HTx P w K mg base
  T : PCls K
  W : DefC P w K mg base (L2.CX P w) 5 "Row" ["self", "part", "n"] (spRow K) []
  WK : DefK P w K mg base (L2.CX P w) 5 "Row" ["self", "part", "n"] ["n", "part"] (spRow K) (fun vs zs => vs ++ zs.reverse)
  MU : FnR P w K mg base (L2.CX P w) 7 (He.ma K (gP K) "__mul__") (spMul K)
  EQ : FnR P w K mg base CX0 16 (He.ma K (gP K) "__eq__") (spEqP 5 K)
  ST : StrF P w K mg base 11 5
  LN : FnR P w K mg base CX0 1 (He.ma K (He.ga K "Group") "__len__") (spLen K)
  tIsi : mg "isinstance" = none
  tInt : mg "int" = none
  tBool : mg "bool" = none
  tStr : mg "str" = none
  tRep : mg "repr" = none
  tLen : mg "len" = none
  tList : mg "list" = none
  ne : (He.cT K pR).2 ≠ (He.cT K pL).2
abbrev NR : List Str := ["_law_pen_here", "_law_plan_here", "_law_deep_here", "_law_is_number", "_law_due", "_law_heard_here", "_law_rows", "_law_other", "_law_many", "_law_piece", "_law_one", "_law_row"]
theorem scR : FnScope NR ["_law_pen_here", "_law_plan_here"] (defScope (top i__law_right)) := ⟨rfl, rfl, rfl, by decide +kernel, rfl, by decide +kernel, by decide +kernel⟩
def spRightP (K : PySem.W.Frag) : Sp := fun vs H Q _ => ∃ (p c : Addr) (v : V) (t : Pt) (n : Nat), vs = [.ref p, v] ∧ PlAt (del H p) v t ∧ t.nu = true ∧ t.dep ≤ 4 ∧ PenC H p c n ∧ n + 2 ≤ 90000 ∧ Tabs (TRL K) H ∧
  ∀ (H' : Hp) (m : Nat), m ≤ n + 2 → PenC H' p c m → Tabs (TRL K) H' → Q (.bl true) H'
section
variable {P : Program} {w : World} {K : PySem.W.Frag} {mg : Str → Option Value} {base : Heap} {fd : FuncData}
abbrev cR (P : Program) (w : World) (K : PySem.W.Frag) (mg : Str → Option Value) (base : Heap) (A : Around) (outer : List Env) (s : Shared) (H : Hp) (E : XK) : Cx :=
  (cxOf CX0 P w K mg base NR "_law_right" (defScope (top i__law_right)) (He.fAd K pR) (.ref (He.codeOf K pR)) A outer s H E).nox
theorem lamR {A : Around} {outer : List Env} {s : Shared} {H : Hp} {E0' : XK} {params : Arguments} {body : Expr} {scope : Scope} {t : XK → TE} {p lpos pos : Pos}
    (T : RT P w K mg base) (TB : TabB base mg (He.cT K pR).1 (He.cT K pR).2) (hr : Room 12 (cR P w K mg base A outer s H E0').A)
    (L : LamS (defScope (top i__law_right)) scope) (hdef : defaultsOf params (cR P w K mg base A outer s H E0').env = ([], []))
    (hbind : ∀ (q : Str) (cl : List (Str × Addr)) (pm cv ctv : Value), bindArgs (PySem.W.kla_fn "<lambda>" q params body scope cl pm cv ctv) ⟨[], []⟩ = pure [])
    (hbody : ∀ (A' : Around) (outer' : List Env) (s' : Shared) (H' : Hp) (E : XK) (f c' : Addr), Room 10 (A'.deeper (lamEnv (cR P w K mg base A outer s H E0') scope s'.heap.objs.size f c')) →
      PE (lamCx (cR P w K mg base A outer s H E0') A' outer' s' H' E scope f c') body (t E)) :
    PE (cR P w K mg base A outer s H E0') (.Call (.Name "_law_heard" p) [.Lambda params body scope lpos] [] pos) (tLam (TRL K) (THeardP K) t) := by
  obtain ⟨fH, dH, gH, FH⟩ := T.gH
  have hb := FunD.bindsN FH (ps := ["_law_deed"]) fun _ _ _ _ _ _ us hl => match us, hl with | [_], _ => rfl
  obtain ⟨oc, od, dV, kV, doc, pm, an, cdv, ct, osl, rfl, lk, hcd, hD, hK⟩ := FH.ex
  exact pe_lamcall (X := cR P w K mg base A outer s H E0') (T := TRL K) (TT := THeardP K) (c := (He.cT K pR).1) (P := (He.cT K pR).2) (by rfl) gH FH.kp lk hcd hb scH rfl (by first | exact .inl rfl | exact .inr (.inl rfl))
    (heard_givesP (X := cR P w K mg base A outer s H E0') T.ht (hr.mono (by decide))) TB rfl (List.mem_cons_self ..) (fun q hq e => by
      rcases List.mem_cons.mp hq with rfl | hq
      · rfl
      · rw [List.mem_singleton.mp hq] at e
        exact absurd e.symm T.ne) hr L hdef hbind hbody
theorem ok_right (F : FnL K "_law_right" i__law_right (He.fAd K pR) fd) (T : RT P w K mg base) (TB : TabB base mg (He.cT K pR).1 (He.cT K pR).2) :
    FnG P w K mg base CX0 19 (He.fAd K pR) (spRightP K) := by
  refine okGc F scR (fun _ _ _ _ _ _ us hl => match us, hl with | [_, _], _ => rfl) (fun vs H Q E h => ?_) (fun A outer s H vs Q E hg hr h => ?_)
  · obtain ⟨p, c, v, t, n, rfl, _⟩ := h
    rfl
  · obtain ⟨p, c, v, t, n, rfl, hv, hu, hd4, pen, hn, hT, q⟩ := h
    have hgd : (A.deeper (envOfC "_law_right" (defScope (top i__law_right)) s.heap.objs.size (He.fAd K pR) (.ref (He.codeOf K pR)))).guards = some [] := hg
    have rp : CallR (cR P w K mg base A outer s H E) (.builtin "repr") (rRepr K) := call_repr hgd hr.units T.ht.er.sys
    have st : CallR (cR P w K mg base A outer s H E) (.type "str") (rStrD K) := call_strD hgd hr.units T.ht.er.sys
    have stP : CallR (cR P w K mg base A outer s H E) (.type "str") (rStrPart K 5) := call_strPart T.T T.ST (hr.mono (by decide))
    have leP : CallR (cR P w K mg base A outer s H E) (.builtin "len") (rLenPart K) := call_lenPart T.T T.LN (hr.mono (by decide))
    have eqP : OpR (cR P w K mg base A outer s H E) (compareOp .Eq) (rEqJ (DEqP K 5)) := op_eqP T.T T.EQ (hr.mono (by decide))
    have neP : OpR (cR P w K mg base A outer s H E) (compareOp .NotEq) (rNeP K 5) := op_neP T.T T.EQ (hr.mono (by decide))
    have hr12 : Room 12 (cR P w K mg base A outer s H E).A := hr.mono (by decide)
    have hr11 : Room 11 (cR P w K mg base A outer s H E).A := hr.mono (by decide)
    have hr6 : Room 6 (cR P w K mg base A outer s H E).A := hr.mono (by decide)
    have hr2 : Room 2 (cR P w K mg base A outer s H E).A := hr.mono (by decide)
    have hr1 : Room 1 (cR P w K mg base A outer s H E).A := hr.mono (by decide)
    refine ⟨_, PSs.nox (pss_cons (ps_asg (pe_tup (pa_cons (pe_def (E := E0) T.Md hr11 (by rfl) pass0 (pa_cons (pv 1) pa_nil)) (pa_cons (pe_def (E := E0) T.Dp hr6 (by rfl) pass0 (pa_cons (pv 1) pa_nil)) pa_nil)))
        (pg_tup rfl (pgs_cons (pg_name (i := 9) scR.nd rfl (Or.inr rfl)) (pgs_cons (pg_name (i := 2) scR.nd rfl (Or.inl rfl)) pgs_nil))))
      (pss_cons (ps_set (i := 8) scR.nd rfl (Or.inr rfl) (pe_def (E := E0) T.D2 hr2 (by rfl) pass0 (pa_cons (pv 0) (pa_cons (pe_lst
          (pa_cons pe_int (pa_cons pe_int (pa_cons pe_int (pa_cons (pe_op op_add pe_int (pe_def (E := E0) T.D1 hr1 (by rfl) pass0 (pa_cons (pv 0) (pa_cons pe_int pa_nil))))
          (pa_cons pe_int (pa_cons pe_int (pa_cons (pe_un un_neg pe_int) (pa_cons pe_bl (pa_cons pe_non (pa_cons pe_str (pa_cons (pe_tup (pa_cons pe_int pa_nil)) (pa_cons (pe_op op_pow pe_int pe_int) pa_nil))))))))))))) pa_nil))))
      (pss_cons (ps_set (i := 3) scR.nd rfl (Or.inl rfl) (PE.imp (t' := tWholeT K 8 64) (pe_and (pe_callB call_isi (by rfl) T.tIsi (by decide +kernel) (pa_cons (pv 8) (pa_cons (pe_bltn (v := .ty "int") (by rfl) T.tInt (by decide +kernel) rfl) pa_nil)))
          (pe_and (pe_not (pe_callB call_isi (by rfl) T.tIsi (by decide +kernel) (pa_cons (pv 8) (pa_cons (pe_bltn (v := .ty "bool") (by rfl) T.tBool (by decide +kernel) rfl) pa_nil))))
          (pe_one (pe_chain op_le op_le pe_int (pv 8) pe_int)))) (fun σ H Q h => by
          obtain ⟨v, hv, an, q⟩ := h
          cases an with
          | int i =>
            refine ⟨_, hv, _, .ty "int", .type "int", .type "int", true, rfl, .ty "int", .base (.int i), kit_ty (by decide +kernel), true, rfl, iteT ?_⟩
            refine ⟨_, hv, _, .ty "bool", .type "int", .type "bool", false, rfl, .ty "bool", .base (.int i), kit_ty (by decide +kernel), false, rfl, true, rfl, iteT ?_⟩
            refine ⟨_, hv, _, _, rfl, rfl, _, rfl, ?_⟩
            refine ite2 (fun h1 => ?_) (fun h1 => ?_)
            · refine ⟨_, _, rfl, rfl, ?_⟩
              have h1' := of_decide_eq_true h1
              have e : wholeB (.int i) 1 64 = decide (i ≤ 64) := by show (decide (1 ≤ i) && decide (i ≤ 64)) = _; rw [decide_eq_true h1', Bool.true_and]
              rw [e] at q
              exact q
            · have h1' : ¬ 1 ≤ i := fun z => h1 (decide_eq_true z)
              have e : wholeB (.int i) 1 64 = false := by simp [wholeB, h1']
              rw [e] at q
              exact q
          | bl b =>
            refine ⟨_, hv, _, .ty "int", .type "bool", .type "int", true, rfl, .ty "int", .base (.bl b), kit_ty (by decide +kernel), true, rfl, iteT ?_⟩
            exact ⟨_, hv, _, .ty "bool", .type "bool", .type "bool", true, rfl, .ty "bool", .base (.bl b), kit_ty (by decide +kernel), true, rfl, false, rfl, iteF q⟩
          | str t z => exact ⟨_, hv, _, .ty "int", .type "str", .type "int", false, rfl, .ty "int", .base (.str t), kit_ty (by decide +kernel), false, rfl, iteF q⟩
          | non => exact ⟨_, hv, _, .ty "int", .type "NoneType", .type "int", false, rfl, .ty "int", .base .non, kit_ty (by decide +kernel), false, rfl, iteF q⟩
          | tup e => exact ⟨_, hv, _, .ty "int", .type "tuple", .type "int", false, rfl, .ty "int", .base (.tup e), kit_ty (by decide +kernel), false, rfl, iteF q⟩
          | lst e => exact ⟨_, hv, _, .ty "int", .type "list", .type "int", false, rfl, .ty "int", .base (.lst e), kit_ty (by decide +kernel), false, rfl, iteF q⟩
          | dic e => exact ⟨_, hv, _, .ty "int", .type "dict", .type "int", false, rfl, .ty "int", .base (.dK e), kit_ty (by decide +kernel), false, rfl, iteF q⟩)))
      (pss_cons (ps_set (i := 4) scR.nd rfl (Or.inl rfl) (PE.imp (t' := tLarge K) (pe_ifExp (pt_cmpR op_gt (pv 2) pe_int (nomark _)) (pe_tup (pa_cons pe_str (pa_cons pe_str (pa_cons pe_int pa_nil)))) pe_non) (fun σ H Q h => by
          obtain ⟨d, hd, q⟩ := h
          refine ⟨_, hd, _, _, rfl, rfl, _, rfl, ?_⟩
          refine ite2 (fun h1 => ?_) (fun h1 => ?_)
          · have h1' := of_decide_eq_true h1
            refine ⟨(by show 3 ≤ sizeLine; decide), fun t ht => q _ _ (same_upd ht) ?_⟩
            unfold dueD
            rw [if_pos h1']
            exact .tup (SqT.of upd_same) (.cons (.str _) (.cons (.str _) (.cons (.int _) .nil)))
          · have h1' : ¬ (3 : Int) < d := fun z => h1 (decide_eq_true z)
            refine q _ _ (fun _ _ z => z) ?_
            unfold dueD
            rw [if_neg h1']
            exact .non)))
      (pss_cons (ps_set (i := 4) scR.nd rfl (Or.inl rfl) (PE.imp (t' := tDue2 K) (pe_ifExp (pt_val (pv 3)) (pv 4) (pe_tup (pa_cons pe_str (pa_cons (pv 8) pa_nil)))) (fun σ H Q h => by
          obtain ⟨v, m, b, dv, dm, hv, hb, hm, Dv, Dm, q⟩ := h
          refine ⟨_, hb, b, rfl, ?_⟩
          cases b with
          | true => exact iteT ⟨_, hv, q _ _ (fun _ _ z => z) Dv⟩
          | false => exact iteF ⟨_, hm, (by show 2 ≤ sizeLine; decide), fun t ht => q _ _ (same_upd ht) (.tup (SqT.of upd_same) (.cons (.str _) (.cons (Dm.same (same_upd ht)) .nil)))⟩)))
      (pss_cons (ps_set (i := 5) scR.nd rfl (Or.inl rfl) (pe_lst (pa_cons (lamR (t := fun E => tMake (He.ga K "Row") (spRow K) [] E (tCons (tVar 9) (tCons (tVar 8) tNil))) T TB hr12 (lamS_by (by decide +kernel)) rfl (fun _ _ _ _ _ => rfl)
          (fun A' o' s' H' E' f c' hr' => pe_new T.W (hr'.mono (by decide)) (by rfl) (passes_call (takes_of rfl rfl rfl rfl) (fun _ _ _ _ h => h)) (pa_cons (pv 9) (pa_cons (pv 8) pa_nil)))) pa_nil)))
      (pss_cons (ps_expr (pe_bm PySem.F.plainAttrs_list PySem.F.slot_list_append PySem.F.type_list_append mt_append (pv 5) (pa_cons (lamR (t := fun E => tMakeK (He.ga K "Row") 0 (["n", "part"] : List Str).length (spRow K) (fun vs zs => vs ++ zs.reverse) E tNil (tCons (tVar 8) (tCons (tVar 9) tNil))) T TB hr12 (lamS_by (by decide +kernel)) rfl (fun _ _ _ _ _ => rfl)
          (fun A' o' s' H' E' f c' hr' => pe_newK T.WK (hr'.mono (by decide)) (by rfl) (passes_call (takes_of rfl rfl rfl rfl) (fun _ _ _ _ h => h)) (pk_cons (pv 8) (pk_cons (pv 9) pk_nil)))) pa_nil)))
      (pss_cons (ps_expr (pe_bm PySem.F.plainAttrs_list PySem.F.slot_list_append PySem.F.type_list_append mt_append (pv 5) (pa_cons (lamR (t := fun E => tOp (rOwnB K "mul" (He.ma K (gP K) "__mul__") (spMul K) E) (tVar 9) (tVar 8)) T TB hr12 (lamS_by (by decide +kernel)) rfl (fun _ _ _ _ _ => rfl)
          (fun A' o' s' H' E' f c' hr' => pe_op (op_ownB T.MU (hr'.mono (by decide)) (passes_call (takes_of rfl rfl rfl rfl) (fun _ _ _ _ h => h))) (pv 9) (pv 8))) pa_nil)))
      (pss_cons (ps_if (pt_cmpR op_notN (pv 4) pe_non (nomark _)) (pss_one (ps_ret (pe_cmpR op_eq (pe_callB rp (by rfl) T.tRep (by decide +kernel) (pa_cons (pv 5) pa_nil)) (pe_callB rp (by rfl) T.tRep (by decide +kernel) (pa_cons (pe_lst (pa_cons (pv 4) (pa_cons (pv 4) (pa_cons (pv 4) pa_nil)))) pa_nil)) (nomark _)))) pss_nil)
      (pss_cons (ps_if (pt_cmpR (op_neD hr.units) (pe_lc (own := [("_law_one", 10)]) (g := gName 10) (tt := tNot (tB (tCB (rIsi K) (tCons (tVar 10) (tCons (tC (.ty "list")) tNil))))) (te := tC (.int 1)) rfl scR.nd (pi_list (pv 5)) (blkOk_by (N := NR) (sc := defScope (top i__law_right)) (by decide +kernel))
          (fun _ _ _ _ _ => pg_name (i := 10) scR.nd rfl (Or.inl rfl)) (fun _ _ _ _ _ => pts_one (pt_not (pt_val (pe_callB call_isi (by rfl) T.tIsi (by decide +kernel) (pa_cons (pv 10) (pa_cons (pe_bltn (v := .ty "list") (by rfl) T.tList (by decide +kernel) rfl) pa_nil)))))) (fun _ _ _ _ _ => pe_int)) (pe_lst pa_nil) (nomark _)) (pss_one (ps_ret pe_bl)) pss_nil)
      (pss_cons (ps_set (i := 6) scR.nd rfl (Or.inr rfl) (pe_lc (own := [("_law_one", 10)]) (g := gName 10) (tt := tYes) (te := tOp (rIxL K) (tVar 10) (tC (.int 0))) rfl scR.nd (pi_list (pv 5)) (blkOk_by (N := NR) (sc := defScope (top i__law_right)) (by decide +kernel))
          (fun _ _ _ _ _ => pg_name (i := 10) scR.nd rfl (Or.inl rfl)) (fun _ _ _ _ _ => pts_nil) (fun _ _ _ _ _ => pe_ix ix_list (pv 10) pe_int (fun _ _ => rfl))))
      (pss_cons (ps_if (pt_cmpR (op_neD hr.units) (pe_lc (own := [("_law_row", 11)]) (g := gName 11) (tt := tOr (tNot (tTest (tOp (rEqJ (DEqP K 5)) (tVar 11) (tOp (rIxL K) (tVar 6) (tC (.int 0)))))) (tOr (tTest (tOp (rNeP K 5) (tVar 11) (tOp (rIxL K) (tVar 6) (tC (.int 0)))))
            (tOr (tNot (tTest (tOp (rEqJ (DEqP K 5)) (tFld K (tVar 11) "part") (tVar 9)))) (tTest (tOp rNe (tFld K (tVar 11) "n") (tVar 8)))))) (te := tC (.int 1)) rfl scR.nd (pi_list (pv 6)) (blkOk_by (N := NR) (sc := defScope (top i__law_right)) (by decide +kernel))
          (fun _ _ _ _ _ => pg_name (i := 11) scR.nd rfl (Or.inl rfl)) (fun _ _ _ _ _ => pts_one (PW.pt (pw_or (pt_not (pt_cmpR (op_eqP T.T T.EQ (hr.mono (by decide))) (pv 11) (pe_ix ix_list (pv 6) pe_int (fun _ _ => rfl)) (nomark _)))
            (pw_or (pt_cmpR (op_neP T.T T.EQ (hr.mono (by decide))) (pv 11) (pe_ix ix_list (pv 6) pe_int (fun _ _ => rfl)) (nomark _)) (pw_or (pt_not (pt_cmpR (op_eqP T.T T.EQ (hr.mono (by decide))) (pe_fld (pv 11) (by rfl)) (pv 9) (nomark _))) (pw_or1 (pt_cmpR op_ne (pe_fld (pv 11) (by rfl)) (pv 8) (nomark _)))))))) (fun _ _ _ _ _ => pe_int)) (pe_lst pa_nil) (nomark _)) (pss_one (ps_ret pe_bl)) pss_nil)
      (pss_cons (ps_if (pt_cmpR op_ne (pe_callB rp (by rfl) T.tRep (by decide +kernel) (pa_cons (pe_lst (pa_cons (pe_callB leP (by rfl) T.tLen (by decide +kernel) (pa_cons (pe_ix ix_list (pv 6) pe_int (fun _ _ => rfl)) pa_nil))
            (pa_cons (pe_fld (pe_ix ix_list (pv 6) pe_int (fun _ _ => rfl)) (by rfl)) (pa_cons (pe_callTy stP (by rfl) T.tStr (by decide +kernel) (pa_cons (pe_ix ix_list (pv 6) pe_int (fun _ _ => rfl)) pa_nil)) pa_nil)))) pa_nil))
          (pe_callB rp (by rfl) T.tRep (by decide +kernel) (pa_cons (pe_lst (pa_cons (pv 8) (pa_cons (pe_op op_add (pv 2) pe_int) (pa_cons (pe_op op_add_str (pe_op op_add_str (pe_callTy st (by rfl) T.tStr (by decide +kernel) (pa_cons (pv 8) pa_nil)) pe_str) (pe_callTy stP (by rfl) T.tStr (by decide +kernel) (pa_cons (pv 9) pa_nil))) pa_nil)))) pa_nil)) (nomark _)) (pss_one (ps_ret pe_bl)) pss_nil)
      (pss_cons (ps_set (i := 7) scR.nd rfl (Or.inl rfl) (PE.imp (t' := tOther K) (pe_new (E := fun _ _ _ => False) T.W hr6 (by rfl) passN (pa_cons (pv 9) (pa_cons (PE.imp (t' := tOtherN) (pe_ifExp (pt_cmpR op_gt (pv 8) pe_int (nomark _)) (pe_op op_sub (pv 8) pe_int) pe_int) (fun σ H Q h => by
          obtain ⟨m, hm, a1, a2, q⟩ := h
          refine ⟨_, hm, _, _, rfl, rfl, _, rfl, ?_⟩
          refine ite2 (fun h1 => ?_) (fun h1 => ?_)
          · have h1' : (1 : Int) < m := of_decide_eq_true h1
            refine ⟨_, hm, _, _, rfl, rfl, ?_⟩
            have e : (m : Int) - 1 = ((m - 1 : Nat) : Int) := by omega
            show Q (.int ((m : Int) - 1)) H
            rw [e]
            exact q (m - 1) (by omega) (by omega) (by omega)
          · have h1' : ¬ (1 : Int) < m := fun z => h1 (decide_eq_true z)
            exact q 2 (by decide) (by decide) (by omega))) pa_nil))) (fun σ H Q h => by
          obtain ⟨x, t, m, hx, hm, px, d4, m1, m64, q⟩ := h
          exact ⟨_, hx, m, hm, m1, m64, fun m' a1 a2 a3 => fun ya dy hy hd ne => mk_row px a1 a2 d4 (fun x4 H31 S31 p4 => q x4 m' H31 a3 S31 p4) ya dy hy hd ne⟩)))
      (pss_one (ps_ret (pe_and (pe_cmpR neP (pv 7) (pe_ix ix_list (pv 6) pe_int (fun _ _ => rfl)) (nomark _)) (pe_and (pe_not (pe_cmpR eqP (pe_ix ix_list (pv 6) pe_int (fun _ _ => rfl)) (pv 9) (nomark _)))
          (pe_and (pe_not (pe_cmpR eqP (pv 9) (pe_ix ix_list (pv 6) pe_int (fun _ _ => rfl)) (nomark _))) (pe_one (pe_not (pe_cmpR eqP (pe_ix ix_list (pv 6) pe_int (fun _ _ => rfl)) (pe_op op_rep (pe_lst (pa_cons (pv 9) pa_nil)) (pv 8)) (nomark _))))))))))))))))))))))), ?_⟩
    dsimp only [L2.start, List.set, List.map, List.append, List.replicate, List.length, HAppend.hAppend, Append.append]
    -- piece, deep
    have hv0 : PlAt H v t := hv.same del_same'
    refine ⟨_, rfl, v, t, rfl, hv0, hu, by omega, hd4, fun x H1 S1 px1 => ?_⟩
    refine ⟨_, rfl, v, t, rfl, hv0.same S1, by omega, fun H2 S2 => ?_⟩
    refine ⟨(by show 2 ≤ sizeLine; decide), fun t0 ht0 => ⟨t0, _, rfl, SqT.of upd_same, rfl, _, _, rfl, _, _, rfl, rfl, ?_⟩⟩
    generalize e3 : upd H2 t0 _ = H3 at *
    have S23 : Same H2 H3 := e3 ▸ same_upd ht0
    have S03 : Same H H3 := same_tr S1 (same_tr S2 S23)
    have px3 : PAt K H3 x t := px1.same (same_tr S2 S23)
    have pen3 : PenC H3 p c n := pen.same S03
    have hT3 : Tabs (TRL K) H3 := hT.ext S03
    clear e3 S1 S2 S23 S03 px1 hv0 hv pen hT ht0
    obtain ⟨xs3, hp3⟩ := pen3.ex
    -- many
    refine ⟨_, rfl, _, rfl, p, c, 64, n, rfl, by decide, by decide, pen3, by omega, fun z H4 z0 z1 pen4 k4 => ?_⟩
    obtain ⟨xs4, hp4⟩ := pen4.ex
    refine ⟨_, _, rfl, rfl, _, rfl, (by show 1 ≤ sizeLine; decide), fun t1 ht1 => ?_⟩
    generalize e5 : upd H4 t1 _ = H5 at *
    obtain ⟨s5, a5, _, p5, _⟩ := new_at hp4 ht1 e5
    refine ⟨_, _, rfl, rfl, ⟨by decide, by decide, by decide⟩, (by show 12 ≤ sizeLine; decide), fun l1 hl1 => ?_⟩
    generalize e6 : upd H5 l1 _ = H6 at *
    obtain ⟨s6, _, h6, p6, l1p⟩ := new_at p5 hl1 e6
    have s46 : Same H4 H6 := fun b o e => s6 _ _ (s5 _ _ e)
    refine ⟨p, c, l1, _, _, rfl, h6, l1p, (by show 0 < 12; decide), (by show 12 ≤ 100000; decide), pen4.same s46, by omega, fun mv H7 hmv pen7 k7 => ?_⟩
    have k37 : But p H3 H7 := k4.tr ((But.of s46).tr k7)
    have hT7 : Tabs (TRL K) H7 := tabs_but hp3 k37 hT3
    have px7 : PAt K H7 x t := px3.keep (Keep.but hp3 (fun z => z) k37)
    have M7 : ∃ dm, Dr K (del H7 p) mv dm ∧ Small dm ∧ Any K (del H7 p) mv := by
      have d3 : del H7 p t1 = some (.tup [.int 3]) := k7.del _ _ (same_del s6 _ _ a5)
      have hx : mv ∈ ([.int 1, .int 2, .int 64, .int (1 + z), .int 0, .int 65, .int (-1), .bl true, .non, .str "3", .ref t1, .int ((10 : Int) ^ 40)] : List V) := hmv
      have sm : ∀ i : Int, 0 ≤ i → i < 10 ^ 6 → ∃ dm, Dr K (del H7 p) (.int i) dm ∧ Small dm ∧ Any K (del H7 p) (.int i) := fun i h0 h1 => ⟨_, .int i, small_int h0 h1, .int i⟩
      simp only [List.mem_cons, List.not_mem_nil, or_false] at hx
      rcases hx with rfl | rfl | rfl | rfl | rfl | rfl | rfl | rfl | rfl | rfl | rfl | rfl
      · exact sm _ (by decide) (by decide)
      · exact sm _ (by decide) (by decide)
      · exact sm _ (by decide) (by decide)
      · exact sm _ (by omega) (by omega)
      · exact sm _ (by decide) (by decide)
      · exact sm _ (by decide) (by decide)
      · exact ⟨_, .int _, ⟨by decide +kernel, by decide +kernel, by decide +kernel⟩, .int _⟩
      · exact ⟨_, .bl true, ⟨by decide, by decide, by decide⟩, .bl true⟩
      · exact ⟨_, .non, ⟨by decide, by decide, by decide⟩, .non⟩
      · exact ⟨_, .str _, TxtOk.small ⟨by decide +kernel, by decide +kernel⟩, .str _ (by rw [sizeLine_eq]; decide +kernel)⟩
      · exact ⟨_, .tup (SqT.of d3) (.cons (.int 3) .nil), ⟨by decide +kernel, by decide +kernel, by decide +kernel⟩, .tup d3⟩
      · exact ⟨_, .int _, ⟨by decide +kernel, by decide +kernel, by decide +kernel⟩, .int _⟩
    obtain ⟨dm, Dm7, smD, am7⟩ := M7
    clear hmv e5 e6 k37 k4 k7 s46 s5 s6 a5 p5 p6 h6 l1p hl1 ht1 hp4 pen4 hT3 px3 pen3 hp3
    -- is_number, due
    refine ⟨mv, rfl, am7.same del_same', ?_⟩
    refine ⟨t.dep, rfl, fun dv H8 S8 D8 => ?_⟩
    refine ⟨dv, mv, _, dueD t.dep, dm, rfl, rfl, rfl, D8, (Dm7.same del_same').same S8, fun due H9 S9 D9 => ?_⟩
    have D9 : Dr K H9 due (dueAll t.dep mv dm) := D9
    have S79 : Same H7 H9 := same_tr S8 S9
    obtain ⟨xs9, hp9⟩ := (pen7.same S79).ex
    have F0 : Hs K (TRL K) H9 p c (n + 1 + 1) x t mv due dm (dueAll t.dep mv dm) := ⟨pen7.same S79, hT7.ext S79, px7.same S79, (am7.same del_same').same S79, (Dm7.same del_same').same S79, D9⟩
    have am9 := am7.same (same_del (p := p) S79)
    have Dm9 := Dm7.same (same_del (p := p) S79)
    clear D8 D9 S8 S9 S79 pen7 hT7 px7 am7 Dm7
    have noT : ∀ {xs : List V} (ps : Array Value), (HO.lst xs : HO) ≠ .tbl ps := fun ps z => by cases z
    -- heard = [..]
    refine ⟨F0.tabs, fun H10 x10 T10 => fun H11 R S11 hR => ⟨_, rfl, _, rfl, fun y dy hy hd ne => RowDue.mk (due_row (L := p) (x10 _ _ hp9 noT) ((F0.px.keep (keep_del hp9)).keep (Keep.ext (ext_del x10))) (am9.ext (ext_del x10)) (Dm9.ext (ext_del x10)) hR (fun v1 H12 S12 hv1 => ?_) S11) y dy hy hd ne⟩⟩
    have x12 : ExtN H9 H12 := x10.trans (ext_of S12)
    have T12 : Tabs (TRL K) H12 := T10.ext S12
    refine ⟨(by show 1 ≤ sizeLine; decide), fun L hL => ?_⟩
    generalize e13 : upd H12 L _ = H13 at *
    have h13 : H13 L = some (.lst [v1]) := e13 ▸ upd_same
    have S13 : Same H12 (del H13 L) := fun b o e => by
      have nb : b ≠ L := ne_of_none e hL
      rw [del_ne nb, ← e13, upd_ne nb]
      exact e
    have F1 := (F0.ext x12 T12).same S13
    have V1 : ∀ u ∈ [v1], HvAt K t mv (dueAll t.dep mv dm) (del H13 L) u := fun u hu => by
      cases List.mem_singleton.mp hu
      exact (hv1.ext (ext_of del_same')).ext (ext_of S13)
    clear x12 T12 S13 e13 hv1 S12 F0 am9 Dm9 hp9 x10 T10 hR S11
    -- append 2
    refine ⟨_, rfl, .inl ⟨rfl, _, SqL.of h13⟩, F1.tabs.ext del_same', fun H14 x14 T14 => fun H15 R S15 hR => ⟨_, rfl, _, rfl, rfl, rfl, fun y dy hy hd ne => RowDue.mk (due_row (L := L) (x14 _ _ h13 noT) (F1.px.keep (Keep.ext (ext_del x14))) (F1.am.ext (ext_del x14)) (F1.Dm.ext (ext_del x14)) hR (fun v2 H16 S16 hv2 => ?_) S15) y dy hy hd ne⟩⟩
    obtain ⟨g2, h17, F2, V2⟩ := Hs.next h13 F1 V1 x14 T14 S16 hv2
    refine ⟨L, _, _, rfl, rfl, g2, (by show 1 < sizeLine; rw [sizeLine_eq]; decide), ?_⟩
    generalize upd H16 L _ = H17 at *
    clear x14 T14 S16 hv2 g2 F1 V1 h13 hR S15
    -- append 3
    refine ⟨_, rfl, .inl ⟨rfl, _, SqL.of h17⟩, F2.tabs.ext del_same', fun H18 x18 T18 => fun H19 R S19 hR => ⟨_, rfl, _, rfl, mul_due T.T ((F2.px.keep (Keep.ext (ext_del x18))).same (same_tr del_same' S19)) (due_row (L := L) (x18 _ _ h17 noT) (F2.px.keep (Keep.ext (ext_del x18))) (F2.am.ext (ext_del x18)) (F2.Dm.ext (ext_del x18)) hR (fun v3 H20 S20 hv3 => ?_) S19)⟩⟩
    obtain ⟨g3, h21, F3, V3⟩ := Hs.next h17 F2 V2 x18 T18 S20 hv3
    refine ⟨L, _, _, rfl, rfl, g3, (by show 2 < sizeLine; rw [sizeLine_eq]; decide), ?_⟩
    generalize upd H20 L _ = H21 at *
    clear x18 T18 S20 hv3 g3 F2 V2 h17 hR S19
    have V4 : ∀ u ∈ ([v1, v2, v3] : List V), HvAt K t mv (dueAll t.dep mv dm) (del H21 L) u := V3
    have h21' : H21 L = some (.lst [v1, v2, v3]) := h21
    clear V3 h21
    have fin : ∀ H', Same H21 H' → Q (.bl true) H' := fun H' S => q H' _ (by omega) ((F3.pen.same del_same').same S) ((F3.tabs.ext del_same').ext S)
    by_cases good : wholeB mv 1 64 = true ∧ t.dep ≤ 3
    · -- rows are made
      obtain ⟨gw, g3⟩ := good
      have hD : dueAll t.dep mv dm = .none := by
        unfold dueAll dueD
        rw [if_pos gw, if_neg (by omega)]
      obtain rfl : due = .non := (hD ▸ F3.Dd).non_is
      obtain ⟨m, rfl, m1, m64⟩ := whole_is gw (by decide)
      have m1 : 1 ≤ m := by omega
      have m64 : m ≤ 64 := by omega
      obtain ⟨l1, y1, rfl, hl1, py1⟩ := (V4 v1 (by simp)).rw_ gw g3
      obtain ⟨l2, y2, rfl, hl2, py2⟩ := (V4 v2 (by simp)).rw_ gw g3
      obtain ⟨l3, y3, rfl, hl3, py3⟩ := (V4 v3 (by simp)).rw_ gw g3
      have hl1 := del_same' _ _ hl1
      have hl2 := del_same' _ _ hl2
      have hl3 := del_same' _ _ hl3
      have py1 := py1.same del_same'
      have py2 := py2.same del_same'
      have py3 := py3.same del_same'
      have px := F3.px.same del_same'
      clear V4 F3 hD smD
      refine ⟨_, rfl, rfl, _, rfl, iteF ?_⟩
      -- all are lists
      refine ⟨_, rfl, L, rfl, ⟨_, SqL.of h21'⟩, fun D hD => ?_⟩
      refine lc_list (K := K) (a := L) (xs := [.ref l1, .ref l2, .ref l3]) (fun i H' => Same H21 H' ∧ H' D = some (.lst [])) ⟨same_upd hD, upd_same⟩ (fun i H' hi' e => SqL.of (e.1 _ _ h21')) (fun i x' H' hx e => ?_) (fun H22 e => ?_)
      · obtain ⟨S', gD⟩ := e
        obtain ⟨l, y, rfl, hl⟩ : ∃ l y, x' = .ref l ∧ H' l = some (.lst [V.ref y]) := by
          have := List.mem_of_getElem? hx
          simp only [List.mem_cons, List.not_mem_nil, or_false] at this
          rcases this with rfl | rfl | rfl
          · exact ⟨_, _, rfl, S' _ _ hl1⟩
          · exact ⟨_, _, rfl, S' _ _ hl2⟩
          · exact ⟨_, _, rfl, S' _ _ hl3⟩
        refine ⟨rfl, ?_⟩
        exact ⟨_, rfl, _, .ty "list", .type "list", .type "list", true, rfl, .ty "list", .base (.lst hl), kit_ty (by decide +kernel), true, rfl, iteNo rfl ⟨S', gD⟩⟩
      obtain ⟨S22, gD⟩ := e
      refine ⟨(by show 0 ≤ sizeLine; decide), fun n0 hn0 => ?_⟩
      generalize e23 : upd H22 n0 _ = H23 at *
      have S23 : Same H22 H23 := e23 ▸ same_upd hn0
      refine ⟨.list [], .list [], .lst (SqL.of (S23 _ _ gD)) .nil, .lst (SqL.of (e23 ▸ upd_same)) .nil, rfl, rfl, _, rfl, iteNo rfl ?_⟩
      have S213 := same_tr S22 S23
      clear e23 S22 S23 gD hn0 hD
      -- rows
      refine ⟨_, rfl, L, rfl, ⟨_, SqL.of (S213 _ _ h21')⟩, fun D hD => ?_⟩
      refine lc_list (K := K) (a := L) (xs := [.ref l1, .ref l2, .ref l3]) (fun i H' => Same H23 H' ∧ H' D = some (.lst (([.ref y1, .ref y2, .ref y3] : List V).take i))) ⟨same_upd hD, upd_same⟩ (fun i H' hi' e => SqL.of (e.1 _ _ (S213 _ _ h21'))) (fun i x' H' hx e => ?_) (fun H24 e => ?_)
      · obtain ⟨S', gD⟩ := e
        have S'' := same_tr S213 S'
        refine ⟨rfl, ?_⟩
        dsimp only [tYes]
        rw [if_pos rfl]
        have at0 : ∀ {x : V} {xs : List V}, atI (x :: xs) 0 = some x := fun {x xs} => atI_nat (j := 0) rfl
        match i, hx with
        | 0, hx =>
          cases hx
          exact ⟨_, rfl, l1, _, 0, _, rfl, rfl, SqL.of (S'' _ _ hl1), at0, _, gD, (by show 0 < sizeLine; rw [sizeLine_eq]; decide), fun b o zz => (by rw [upd_ne (ne_of_none zz hD)]; exact S' _ _ zz), upd_same⟩
        | 1, hx =>
          cases hx
          exact ⟨_, rfl, l2, _, 0, _, rfl, rfl, SqL.of (S'' _ _ hl2), at0, _, gD, (by show 1 < sizeLine; rw [sizeLine_eq]; decide), fun b o zz => (by rw [upd_ne (ne_of_none zz hD)]; exact S' _ _ zz), upd_same⟩
        | 2, hx =>
          cases hx
          exact ⟨_, rfl, l3, _, 0, _, rfl, rfl, SqL.of (S'' _ _ hl3), at0, _, gD, (by show 2 < sizeLine; rw [sizeLine_eq]; decide), fun b o zz => (by rw [upd_ne (ne_of_none zz hD)]; exact S' _ _ zz), upd_same⟩
        | i + 3, hx => cases hx
      obtain ⟨S24, gR⟩ := e
      have gR : H24 D = some (.lst [.ref y1, .ref y2, .ref y3]) := gR
      have S214 := same_tr S213 S24
      have py1 := py1.same S214
      have py2 := py2.same S214
      have py3 := py3.same S214
      have px := px.same S214
      have fin : ∀ H', Same H24 H' → Q (.bl true) H' := fun H' S => fin H' (same_tr S214 S)
      clear S24 S213 S214 hD hl1 hl2 hl3 h21'
      have at0 : ∀ {x : V} {xs : List V}, atI (x :: xs) 0 = some x := fun {x xs} => atI_nat (j := 0) rfl
      have at1 : ∀ {x y : V} {xs : List V}, atI (x :: y :: xs) 1 = some y := fun {x y xs} => atI_nat (j := 1) rfl
      have at2 : ∀ {x y z : V} {xs : List V}, atI (x :: y :: z :: xs) 2 = some z := fun {x y z xs} => atI_nat (j := 2) rfl
      have rd5 : (Pt.row t m).dep < (5 : Nat) := by show t.dep + 1 < (5 : Int); omega
      have td5 : t.dep < (5 : Nat) := by omega
      have cw : Cls K (He.ga K "Row") := T.T.cl (.row t m)
      have nP : NoAttr K (He.ga K "Row") "part" := T.T.row.no _ (by simp)
      have nN : NoAttr K (He.ga K "Row") "n" := T.T.row.no _ (by simp)
      have nDp : NoAttr K (He.ga K "Row") "depth" := T.T.row.no _ (by simp)
      -- each is the first
      refine ⟨_, rfl, D, rfl, ⟨_, SqL.of gR⟩, fun G hG => ?_⟩
      refine lc_list (K := K) (a := D) (xs := [.ref y1, .ref y2, .ref y3]) (fun i H' => Same H24 H' ∧ H' G = some (.lst [])) ⟨same_upd hG, upd_same⟩ (fun i H' hi' e => SqL.of (e.1 _ _ gR)) (fun i x' H' hx e => ?_) (fun H25 e => ?_)
      · obtain ⟨S', gG⟩ := e
        obtain ⟨y, rfl, py⟩ : ∃ y, x' = .ref y ∧ PAt K H' y (.row t m) := by
          have := List.mem_of_getElem? hx
          simp only [List.mem_cons, List.not_mem_nil, or_false] at this
          rcases this with rfl | rfl | rfl
          · exact ⟨_, rfl, py1.same S'⟩
          · exact ⟨_, rfl, py2.same S'⟩
          · exact ⟨_, rfl, py3.same S'⟩
        have p1 := py1.same S'
        have px' := px.same S'
        refine ⟨rfl, ?_⟩
        refine ⟨_, rfl, _, rfl, D, _, 0, _, rfl, rfl, SqL.of (S' _ _ gR), at0, true, ⟨y, _, rfl, py, rd5, eqSelf p1⟩, fun H6 S6 => ⟨_, rfl, iteNo rfl ?_⟩⟩
        have S06 : Same H24 H6 := same_tr S' S6
        refine ⟨_, rfl, _, rfl, D, _, 0, _, rfl, rfl, SqL.of (S06 _ _ gR), at0, y, _, true, rfl, py.same S6, rd5, eqSelf (p1.same S6), fun H7 S7 => ⟨_, rfl, iteNo rfl ?_⟩⟩
        have S67 : Same H' H7 := same_tr S6 S7
        obtain ⟨dx, tr, ti, y0, hi, p0⟩ := (py.same S67).rowI
        refine ⟨_, rfl, y, _, dx, _, .ref y0, rfl, hi, cw, nP, rfl, _, rfl, true, ⟨y0, t, rfl, p0, td5, eqSelf (px'.same S67)⟩, fun H8 S8 => ⟨_, rfl, iteNo rfl ?_⟩⟩
        refine ⟨_, rfl, y, _, dx, _, .int m, rfl, S8 _ _ hi, cw, nN, rfl, _, rfl, rfl, _, rfl, iteNo (by rw [decide_eq_true rfl]; rfl) ⟨same_tr S' (same_tr S67 S8), S8 _ _ (S67 _ _ gG)⟩⟩
      obtain ⟨S25, gG⟩ := e
      refine ⟨(by show 0 ≤ sizeLine; decide), fun n1 hn1 => ?_⟩
      generalize e26 : upd H25 n1 _ = H26 at *
      have S26 : Same H25 H26 := e26 ▸ same_upd hn1
      refine ⟨.list [], .list [], .lst (SqL.of (S26 _ _ gG)) .nil, .lst (SqL.of (e26 ▸ upd_same)) .nil, rfl, rfl, _, rfl, iteNo rfl ?_⟩
      have S246 := same_tr S25 S26
      have gR := S246 _ _ gR
      have py1 := py1.same S246
      have py2 := py2.same S246
      have py3 := py3.same S246
      have px := px.same S246
      have fin : ∀ H', Same H26 H' → Q (.bl true) H' := fun H' S => fin H' (same_tr S246 S)
      clear e26 S25 S26 S246 gG hn1 hG
      -- length, depth, text
      have hl5 : (Pt.row t m).txt.length ≤ 468100 := Nat.le_trans (py1.txt_len 5 rd5) (by decide)
      have hlt : t.txt.length ≤ 468100 := Nat.le_trans (px.txt_len 5 td5) (by decide)
      have smm : Small (.int (m : Int)) := small_int (by omega) (by omega)
      have te : (Pt.row t m).txt = strD (.int (m : Int)) ++ "*" ++ t.txt := by
        show Str.empty ++ Str.ofString (toString (m : Int)) ++ "*" ++ t.txt = Str.ofString (toString (m : Int)) ++ "*" ++ t.txt
        rw [empty_app]
      have gd : Good (.list [.int (m : Int), .int (t.dep + 1), .str (Pt.row t m).txt]) := good_listB (B := 4681002) (fun d hd => by
        simp only [List.mem_cons, List.not_mem_nil, or_false] at hd
        have t0 := t.dep0
        have sm2 : Small (.int (t.dep + 1)) := small_int (by omega) (by omega)
        rcases hd with rfl | rfl | rfl
        · exact ⟨smm.1, by have := smm.2.1; omega, by have := smm.2.2; omega⟩
        · exact ⟨sm2.1, by have := sm2.2.1; omega, by have := sm2.2.2; omega⟩
        · obtain ⟨q1, q2, q3⟩ := good_str py1.chars hl5 (by decide)
          exact ⟨q1, q2, by omega⟩) (by rw [sizeLine_eq]; show (4681002 + 2) * 3 + 2 ≤ 16777216; decide)
      obtain ⟨dx3, tr3, ti3, y03, hi3, _⟩ := py3.rowI
      refine ⟨_, rfl, D, _, 1, _, rfl, rfl, SqL.of gR, at1, y2, .row t m, m, rfl, py2, rfl, ?_⟩
      refine ⟨_, rfl, D, _, 2, _, rfl, rfl, SqL.of gR, at2, y3, _, dx3, _, .int (t.dep + 1), rfl, hi3, cw, nDp, rfl, ?_⟩
      refine ⟨_, rfl, D, _, 0, _, rfl, rfl, SqL.of gR, at0, y1, .row t m, rfl, py1, rd5, fun H27 S27 => ?_⟩
      refine ⟨(by show 3 ≤ sizeLine; decide), fun l4 hl4 => ?_⟩
      generalize e28 : upd H27 l4 _ = H28 at *
      have S28 : Same H27 H28 := e28 ▸ same_upd hl4
      refine ⟨.ref l4, _, rfl, .lst (SqL.of (e28 ▸ upd_same)) (.cons (.int _) (.cons (.int _) (.cons (.str _) .nil))), gd.1, gd.2.1, gd.2.2, ?_⟩
      have S268 := same_tr S27 S28
      have t0 := t.dep0
      refine ⟨_, rfl, _, rfl, _, _, rfl, rfl, _, rfl, .int (m : Int), .int (m : Int), rfl, .int _, smm.1, by have := smm.2.1; rw [sizeLine_eq]; omega, by have := smm.2.2; omega, ?_⟩
      have l7 : (strD (.int (m : Int))).length ≤ 7 := num_len m64
      have one : (("*" : Str)).length = 1 := by decide +kernel
      refine ⟨_, _, rfl, rfl, by rw [one, sizeLine_eq]; omega, _, rfl, x, t, rfl, px.same S268, td5, fun H29 S29 => ?_⟩
      have hh := app_len (strD (.int (m : Int))) "*"
      rw [one] at hh
      refine ⟨_, _, rfl, rfl, (by show (strD (.int (m : Int)) ++ ("*" : Str)).length + t.txt.length ≤ sizeLine; rw [hh, sizeLine_eq]; omega), ?_⟩
      refine ⟨(by show 3 ≤ sizeLine; decide), fun l5 hl5 => ?_⟩
      generalize e30 : upd H29 l5 _ = H30 at *
      have S30 : Same H29 H30 := e30 ▸ same_upd hl5
      have S2630 : Same H26 H30 := same_tr S268 (same_tr S29 S30)
      refine ⟨.ref l5, .list [.int (m : Int), .int (t.dep + 1), .str (Pt.row t m).txt], rfl, .lst (SqL.of (e30 ▸ upd_same)) (.cons (.int _) (.cons (.int _) (.cons (by rw [te]; exact .str _) .nil))), gd.1, gd.2.1, gd.2.2, rfl, _, rfl, iteNo (by rw [decide_eq_true rfl]; rfl) ?_⟩
      have gR := S2630 _ _ gR
      have py1 := py1.same S2630
      have px := px.same S2630
      have fin : ∀ H', Same H30 H' → Q (.bl true) H' := fun H' S => fin H' (same_tr S2630 S)
      clear e28 e30 S27 S28 S268 S29 S30 S2630 hi3 py2 py3 gd
      -- another number
      refine ⟨x, t, m, rfl, rfl, px, by omega, m1, m64, fun x4 m' H31 a3 S31 p4 => ?_⟩
      have rd5' : (Pt.row t m').dep < (5 : Nat) := rd5
      have ne4 : Pt.row t m' ≠ Pt.row t m := fun z => a3 (by injection z)
      have neA : Pt.row t m ≠ t := fun z => by
        have := congrArg Pt.dep z
        have : t.dep + 1 = t.dep := this
        omega
      refine ⟨_, rfl, _, rfl, D, _, 0, _, rfl, rfl, SqL.of (S31 _ _ gR), at0, x4, _, false, rfl, p4, rd5', eqNot (py1.same S31) ne4, fun H32 S32 => ⟨_, rfl, iteYes rfl ?_⟩⟩
      have S2 := same_tr S31 S32
      refine ⟨_, rfl, D, _, 0, _, rfl, rfl, SqL.of (S2 _ _ gR), at0, _, rfl, false, ⟨y1, _, rfl, py1.same S2, rd5, eqNot (px.same S2) neA⟩, fun H33 S33 => ⟨_, rfl, _, rfl, iteYes rfl ?_⟩⟩
      have S3 := same_tr S2 S33
      refine ⟨_, rfl, _, rfl, D, _, 0, _, rfl, rfl, SqL.of (S3 _ _ gR), at0, false, ⟨x, t, rfl, px.same S3, td5, eqNot (py1.same S3) (Ne.symm neA)⟩, fun H34 S34 => ⟨_, rfl, _, rfl, iteYes rfl ?_⟩⟩
      have S4 := same_tr S3 S34
      refine ⟨_, rfl, D, _, 0, _, rfl, rfl, SqL.of (S4 _ _ gR), at0, _, rfl, (by show 1 ≤ sizeLine; decide), fun l6 hl6 => ?_⟩
      generalize e35 : upd H34 l6 _ = H35 at *
      have S35 : Same H34 H35 := e35 ▸ same_upd hl6
      have g6 : H35 l6 = some (.lst [.ref x]) := e35 ▸ upd_same
      refine ⟨_, rfl, l6, m, _, rfl, rfl, g6, by omega, by omega, (by show 1 * m ≤ sizeLine; rw [sizeLine_eq]; omega), fun l7 hl7 => ?_⟩
      generalize e36 : upd H35 l7 _ = H36 at *
      have S36 : Same H35 H36 := e36 ▸ same_upd hl7
      have S6 := same_tr S4 (same_tr S35 S36)
      refine ⟨false, ⟨y1, _, rfl, py1.same S6, rd5, .flat (.base (.lst (e36 ▸ upd_same))) (by simp [flatT])⟩, fun H37 S37 => ⟨_, rfl, ?_⟩⟩
      exact fin H37 (same_tr S6 S37)
    · -- refused
      have dv : ∀ u ∈ ([v1, v2, v3] : List V), Dr K H21 u (dueAll t.dep mv dm) := fun u hu => ((V4 u hu).dr good).same del_same'
      have Dd := F3.Dd.same del_same'
      have nn : due ≠ .non := fun z => by
        rw [z] at Dd
        generalize hg : dueAll t.dep mv dm = D at Dd
        cases Dd
        unfold dueAll dueD at hg
        by_cases h1 : wholeB mv 1 64 = true
        · rw [if_pos h1] at hg
          by_cases h2 : 3 < t.dep
          · rw [if_pos h2] at hg; cases hg
          · exact good ⟨h1, by omega⟩
        · rw [if_neg h1] at hg; cases hg
      have gdD : ElOk (dueAll t.dep mv dm) := by
        unfold dueAll dueD
        by_cases h1 : wholeB mv 1 64 = true
        · rw [if_pos h1]
          by_cases h2 : 3 < t.dep
          · rw [if_pos h2]; exact ⟨by decide +kernel, by decide +kernel, by decide +kernel⟩
          · rw [if_neg h2]; exact ⟨by decide, by decide, by decide⟩
        · rw [if_neg h1]
          exact (el_pair (TxtOk.small ⟨by decide +kernel, by decide +kernel⟩) smD).2
      have gd : Good (.list [dueAll t.dep mv dm, dueAll t.dep mv dm, dueAll t.dep mv dm]) := good_list (fun d hd => by
        simp only [List.mem_cons, List.not_mem_nil, or_false, or_self] at hd
        rw [hd]; exact gdD) (by show 3 ≤ 100; decide)
      refine ⟨_, rfl, rfl, _, rfl, iteYes (by rw [decide_eq_false nn]; rfl) ?_⟩
      refine ⟨_, rfl, .ref L, _, rfl, .lst (SqL.of h21') (.cons (dv _ (by simp)) (.cons (dv _ (by simp)) (.cons (dv _ (by simp)) .nil))), gd.1, gd.2.1, gd.2.2, ?_⟩
      refine ⟨_, rfl, _, rfl, _, rfl, (by show 3 ≤ sizeLine; decide), fun l hl => ?_⟩
      generalize e22 : upd H21 l _ = H22 at *
      have S22 : Same H21 H22 := e22 ▸ same_upd hl
      have D2 := Dd.same S22
      refine ⟨.ref l, _, rfl, .lst (SqL.of (e22 ▸ upd_same)) (.cons D2 (.cons D2 (.cons D2 .nil))), gd.1, gd.2.1, gd.2.2, rfl, ?_⟩
      show Q (.bl (decide _)) H22
      rw [decide_eq_true rfl]
      exact fin H22 S22
end
end H1
set_option Elab.async false
set_option linter.all false
set_option maxRecDepth 100000
set_option maxHeartbeats 4000000
/-! The law. -/
namespace Ev
open PySem PySem.Spec PyProof.Rows L2 LamX
/-- a part is made -/
def tNewP (K : PySem.W.Frag) (pt : Pt) : TE := fun σ H Q => ∀ x H', Same H H' → PAt K H' x pt → Q (.ref x) H'
theorem any_not_part {K : PySem.W.Frag} {H : Hp} {v : V} {y : Addr} {p : Pt} (h : Any K H v) (e : v = .ref y) (hp : PAt K H y p) : False := by
  obtain ⟨dx, ti, tv, more, hi⟩ := hp.ins
  cases h <;> first | (cases e; done) | skip
  all_goals (rename_i a b; cases e; rw [hi] at b; cases b)
theorem cost_le : ∀ k ≤ 4, cost k ≤ 511 := by decide
abbrev grpA (ov : Bool) : Pt := .grp ov (.cons "a" .byte .nil)
def six6 : List Pt := [.kind "k" 1, .byte, .use "u", .row .byte 2, grpA false, grpA true]
/-- these parts stand there -/
def PtsAt (K : PySem.W.Frag) (H : Hp) (xs : List V) (ps : List Pt) : Prop := xs.length = ps.length ∧ ∀ (i : Nat) (x : V), xs[i]? = some x → ∃ (y : Addr) (p : Pt), x = .ref y ∧ ps[i]? = some p ∧ PAt K H y p
theorem PtsAt.nil {K : PySem.W.Frag} {H : Hp} : PtsAt K H [] [] := ⟨rfl, fun i x h => by cases h⟩
theorem PtsAt.cons {K : PySem.W.Frag} {H : Hp} {y : Addr} {p : Pt} {xs : List V} {ps : List Pt} (h : PAt K H y p) (t : PtsAt K H xs ps) : PtsAt K H (.ref y :: xs) (p :: ps) :=
  ⟨congrArg Nat.succ t.1, fun i x hx => match i, hx with
    | 0, hx => by cases hx; exact ⟨y, p, rfl, rfl, h⟩
    | i + 1, hx => t.2 i x hx⟩
theorem PtsAt.same {K : PySem.W.Frag} {H H' : Hp} (S : Same H H') {xs : List V} {ps : List Pt} : PtsAt K H xs ps → PtsAt K H' xs ps
  | ⟨a, b⟩ => ⟨a, fun i x hx => let ⟨y, p, e, h, g⟩ := b i x hx; ⟨y, p, e, h, g.same S⟩⟩
end Ev
namespace H1
open PySem PySem.Spec PyProof.Rows L2 Ev LamX
structure LT (P : Program) (w : World) (K : PySem.W.Frag) (mg : Str → Option Value) (base : Heap) : Prop where
  Pn : DefP P w K mg base CX0 1 "_law_pen" ["_law_script"] (spPen K)
  D2 : DefP P w K mg base CX0 2 "_law_pick" ["_law_pen_here", "_law_some"] spPickP
  Ki : DefP P w K mg base CX0 3 "_law_kinds" ["_law_pen_here"] spKindsP
  Pl : DefP P w K mg base CX0 7 "_law_plan" ["_law_pen_here", "_law_kinds_here", "_law_deep_here"] (spPlanP 5)
  R : DefG P w K mg base CX0 19 "_law_right" (spRightP K)
  gH : ∃ fH dH, mg "_law_heard" = some (.ref fH) ∧ FnL K "_law_heard" i__law_heard fH dH
  ht : HTx P w K mg base
  T : PCls K
  B : DefC P w K mg base CX0 5 "Byte" ["self"] (spByteP K) []
  Kd : DefC P w K mg base (L2.CX P w) 5 "Kind" ["self", "name", "times"] (spKindP K) [.int 1]
  U : DefC P w K mg base (L2.CX P w) 5 "Use" ["self", "name"] (spUseP K) []
  W : DefC P w K mg base (L2.CX P w) 5 "Row" ["self", "part", "n"] (spRow K) []
  Rc : DefC P w K mg base (L2.CX P w) 5 "Record" ["self", "fields"] (spGrp false K) []
  O : DefC P w K mg base (L2.CX P w) 5 "Overlay" ["self", "members"] (spGrp true K) []
  MU : FnR P w K mg base (L2.CX P w) 7 (He.ma K (gP K) "__mul__") (spMul K)
  gG : mg "Group" = some (.ref (He.ga K "Group"))
  gS : mg "Spread" = some (.ref (He.ga K "Spread"))
  gPt : mg "Part" = some (.ref (He.ga K "Part"))
  gR : mg "Row" = some (.ref (He.ga K "Row"))
  gO : mg "Overlay" = some (.ref (He.ga K "Overlay"))
  tIsi : mg "isinstance" = none
  tRng : mg "range" = none
  c1 : ConstAt K "Row" "MOST" 64
  c2 : ConstAt K "Part" "DEPTH" 4
  c3 : ConstAt K "Spread" "AT" 0
  c4 : ConstAt K "Overlay" "AT" 0
  ne : (He.cT K pR).2 ≠ (He.cT K pL).2
abbrev NL : List Str := ["_law_script", "_law_turn", "_law_some", "_law_odd", "_law_pen_here", "_law_one"]
theorem scL : FnScope NL ["_law_script"] (defScope (top i_law)) := ⟨rfl, rfl, rfl, by decide +kernel, rfl, by decide +kernel, by decide +kernel⟩
def spLawP (K : PySem.W.Frag) : Sp := fun vs H Q _ => ∃ (a : Addr) (ns : List Int), vs = [.ref a] ∧ SqL K H a (ns.map V.int) ∧ ns.length ≤ 63 ∧ Tabs (TRL K) H ∧ ∀ H', Q (.bl true) H'
section
variable {P : Program} {w : World} {K : PySem.W.Frag} {mg : Str → Option Value} {base : Heap} {fd : FuncData}
abbrev cL (P : Program) (w : World) (K : PySem.W.Frag) (mg : Str → Option Value) (base : Heap) (A : Around) (outer : List Env) (s : Shared) (H : Hp) (E : XK) : Cx :=
  (cxOf CX0 P w K mg base NL "law" (defScope (top i_law)) (He.fAd K pL) (.ref (He.codeOf K pL)) A outer s H E).nox
theorem lamL {A : Around} {outer : List Env} {s : Shared} {H : Hp} {E0' : XK} {params : Arguments} {body : Expr} {scope : Scope} {t : XK → TE} {p lpos pos : Pos}
    (T : LT P w K mg base) (TB : TabB base mg (He.cT K pL).1 (He.cT K pL).2) (hr : Room 12 (cL P w K mg base A outer s H E0').A)
    (L : LamS (defScope (top i_law)) scope) (hdef : defaultsOf params (cL P w K mg base A outer s H E0').env = ([], []))
    (hbind : ∀ (q : Str) (cl : List (Str × Addr)) (pm cv ctv : Value), bindArgs (PySem.W.kla_fn "<lambda>" q params body scope cl pm cv ctv) ⟨[], []⟩ = pure [])
    (hbody : ∀ (A' : Around) (outer' : List Env) (s' : Shared) (H' : Hp) (E : XK) (f c' : Addr), Room 10 (A'.deeper (lamEnv (cL P w K mg base A outer s H E0') scope s'.heap.objs.size f c')) →
      PE (lamCx (cL P w K mg base A outer s H E0') A' outer' s' H' E scope f c') body (t E)) :
    PE (cL P w K mg base A outer s H E0') (.Call (.Name "_law_heard" p) [.Lambda params body scope lpos] [] pos) (tLam (TRL K) (THeardP K) t) := by
  obtain ⟨fH, dH, gH, FH⟩ := T.gH
  have hb := FunD.bindsN FH (ps := ["_law_deed"]) fun _ _ _ _ _ _ us hl => match us, hl with | [_], _ => rfl
  obtain ⟨oc, od, dV, kV, doc, pm, an, cdv, ct, osl, rfl, lk, hcd, hD, hK⟩ := FH.ex
  exact pe_lamcall (X := cL P w K mg base A outer s H E0') (T := TRL K) (TT := THeardP K) (c := (He.cT K pL).1) (P := (He.cT K pL).2) (by rfl) gH FH.kp lk hcd hb scH rfl (by first | exact .inl rfl | exact .inr (.inl rfl))
    (heard_givesP (X := cL P w K mg base A outer s H E0') T.ht (hr.mono (by decide))) TB rfl (List.mem_cons_of_mem _ (List.mem_singleton.mpr rfl)) (fun q hq e => by
      rcases List.mem_cons.mp hq with rfl | hq
      · exact absurd e T.ne
      · rw [List.mem_singleton.mp hq]; rfl) hr L hdef hbind hbody
theorem ok_law (F : FnL K "law" i_law (He.fAd K pL) fd) (T : LT P w K mg base) (TB : TabB base mg (He.cT K pL).1 (He.cT K pL).2) : FnG P w K mg base CX0 20 (He.fAd K pL) (spLawP K) := by
  refine okGc F scL (fun _ _ _ _ _ _ us hl => match us, hl with | [_], _ => rfl) (fun vs H Q E h => ?_) (fun A outer s H vs Q E hg hr h => ?_)
  · obtain ⟨a, ns, rfl, _⟩ := h
    rfl
  · obtain ⟨a, ns, rfl, hS, hn, hT, q⟩ := h
    have hgd : (A.deeper (envOfC "law" (defScope (top i_law)) s.heap.objs.size (He.fAd K pL) (.ref (He.codeOf K pL)))).guards = some [] := hg
    have hr12 : Room 12 (cL P w K mg base A outer s H E).A := hr.mono (by decide)
    have hr7 : Room 7 (cL P w K mg base A outer s H E).A := hr.mono (by decide)
    have hr6 : Room 6 (cL P w K mg base A outer s H E).A := hr.mono (by decide)
    have hr3 : Room 3 (cL P w K mg base A outer s H E).A := hr.mono (by decide)
    have hr2 : Room 2 (cL P w K mg base A outer s H E).A := hr.mono (by decide)
    have hr1 : Room 1 (cL P w K mg base A outer s H E).A := hr.mono (by decide)
    have byte : ∀ {pos p : Pos}, PE (cL P w K mg base A outer s H E) (.Call (.Name "Byte" p) [] [] pos) (tNewP K .byte) := fun {pos p} => PE.imp (pe_newN (E := fun _ _ _ => False) T.B hr6 (by rfl) pass0) (fun σ H Q h => fun x dx hx hd ne => mk_byte h x dx hx hd ne)
    have nameK : nameB (.str "k") = true := by decide +kernel
    have nameU : nameB (.str "u") = true := by decide +kernel
    have nameA : nameB (.str "a") = true := by decide +kernel
    refine ⟨_, PSs.nox (pss_cons (ps_set (i := 4) scL.nd rfl (Or.inr rfl) (pe_def (E := E0) T.Pn hr1 (by rfl) pass0 (pa_cons (pv 0) pa_nil)))
      (pss_cons (ps_for PassesOwn.never rfl (pi_range1 rfl T.tRng (pa_cons pe_int pa_nil)) (pg_name (i := 1) scL.nd rfl (Or.inl rfl))
        (pss_cons (ps_if (pt_not (pt_val (pe_defG (E := E0) T.R hgd hr (by rfl) pass0 (pa_cons (pv 4) (pa_cons (pe_def (E := E0) T.Pl hr7 (by rfl) pass0 (pa_cons (pv 4) (pa_cons (pe_def (E := E0) T.Ki hr3 (by rfl) pass0 (pa_cons (pv 4) pa_nil))
            (pa_cons (pe_def (E := E0) T.D2 hr2 (by rfl) pass0 (pa_cons (pv 4) (pa_cons (pe_lst (pa_cons pe_int (pa_cons pe_int (pa_cons pe_int (pa_cons pe_int (pa_cons pe_int (pa_cons pe_int pa_nil))))))) pa_nil))) pa_nil)))) pa_nil)))))
          (pss_one (ps_ret pe_bl)) pss_nil)
        (pss_cons (ps_set (i := 3) scL.nd rfl (Or.inr rfl) (pe_def (E := E0) T.D2 hr2 (by rfl) pass0 (pa_cons (pv 4) (pa_cons (pe_lst (pa_cons pe_non (pa_cons pe_str (pa_cons pe_int (pa_cons pe_bl (pa_cons (pe_tup pa_nil)
            (pa_cons (pe_lst (pa_cons byte pa_nil)) (pa_cons pe_dnewK (pa_cons (pe_tup (pa_cons pe_str pa_nil)) pa_nil))))))))) pa_nil))))
        (pss_one (ps_if (pt_cmpR (op_neD hr.units) (lamL (t := fun E => tMake (He.ga K "Row") (spRow K) [] E (tCons (tVar 3) (tCons (tCall spPickP [] E0 (tCons (tVar 4) (tCons (tLst (tCons (tC (.int 0)) (tCons (tC (.int 3)) (tCons (tC .non) tNil)))) tNil))) tNil))) T TB hr12 (lamS_by (by decide +kernel)) rfl (fun _ _ _ _ _ => rfl)
            (fun A' o' s' H' E' f c' hr' => pe_new T.W (hr'.mono (by decide)) (by rfl) (passes_call (takes_of rfl rfl rfl rfl) (fun _ _ _ _ h => h)) (pa_cons (pv 3) (pa_cons (pe_def (E := E0) T.D2 (hr'.mono (by decide)) (by rfl) pass0 (pa_cons (pv 4) (pa_cons (pe_lst (pa_cons pe_int (pa_cons pe_int (pa_cons pe_non pa_nil)))) pa_nil))) pa_nil))))
            (pe_tup (pa_cons pe_str (pa_cons pe_int pa_nil))) (nomark _)) (pss_one (ps_ret pe_bl)) pss_nil)))))
      (pss_cons (ps_set (i := 2) scL.nd rfl (Or.inl rfl) (pe_lst
          (pa_cons (PE.imp (t' := tNewP K (.kind "k" 1)) (pe_new (E := fun _ _ _ => False) T.Kd hr6 (by rfl) passN (pa_cons pe_str pa_nil)) (fun σ H Q h => fun x dx hx hd ne => mk_kind (t := 1) nameK (by decide) (by decide) h x dx hx hd ne))
          (pa_cons byte
          (pa_cons (PE.imp (t' := tNewP K (.use "u")) (pe_new (E := fun _ _ _ => False) T.U hr6 (by rfl) passN (pa_cons pe_str pa_nil)) (fun σ H Q h => fun x dx hx hd ne => ⟨x, dx, .str "u", rfl, upd_same, .str _ (by rw [sizeLine_eq]; decide +kernel), (fun z => by rw [nameU] at z; cases z), fun s e1 _ H' B p => ⟨rfl, h x H' (same_but hx (same_make2 hx hd) B) (by cases e1; exact p)⟩⟩))
          (pa_cons (PE.imp (t' := tNewP K (.row .byte 2)) (pe_op (op_ownB (E := fun _ _ _ => False) T.MU hr7 passN) byte pe_int) (fun σ H Q h => fun x H1 S1 px => mul_due T.T px ⟨true, .part px, .int 2, (fun z => by cases z), (fun _ z => by cases z), fun y p n e1 e2 e3 e4 e5 => ⟨fun z => by
              cases e1; rw [e2.inj px] at z; exact absurd z (by decide), fun z x' H' S hp => by
              cases e1
              have en : n = 2 := by injection e3 with e3; omega
              subst en
              rw [e2.inj px] at hp
              exact h x' H' (same_tr S1 S) hp⟩⟩))
          (pa_cons (PE.imp (t' := tNewP K (grpA false)) (pe_new (E := fun _ _ _ => False) T.Rc hr6 (by rfl) passN (pa_cons (pe_lst (pa_cons (pe_tup (pa_cons pe_str (pa_cons byte pa_nil))) pa_nil)) pa_nil)) (fun σ H Q h => fun x H1 S1 px => ⟨(by show 2 ≤ sizeLine; decide), fun q hq => ⟨(by show 1 ≤ sizeLine; decide), fun l hl => fun y dy hy hd ne =>
              mk_grp (ov := false) (ps := .cons "a" .byte .nil) (xs := [.ref q]) upd_same (.cons nameA (same_upd hl _ _ upd_same) ((px.same (same_upd hq)).same (same_upd hl)) .nil) (by simp [Pts.nms]) (by decide) (by decide) (by decide) (fun x' H' S hp => h x' H' (same_tr S1 (same_tr (same_upd hq) (same_tr (same_upd hl) S))) hp) y dy hy hd ne⟩⟩))
          (pa_cons (PE.imp (t' := tNewP K (grpA true)) (pe_new (E := fun _ _ _ => False) T.O hr6 (by rfl) passN (pa_cons (pe_lst (pa_cons (pe_tup (pa_cons pe_str (pa_cons byte pa_nil))) pa_nil)) pa_nil)) (fun σ H Q h => fun x H1 S1 px => ⟨(by show 2 ≤ sizeLine; decide), fun q hq => ⟨(by show 1 ≤ sizeLine; decide), fun l hl => fun y dy hy hd ne =>
              mk_grp (ov := true) (ps := .cons "a" .byte .nil) (xs := [.ref q]) upd_same (.cons nameA (same_upd hl _ _ upd_same) ((px.same (same_upd hq)).same (same_upd hl)) .nil) (by simp [Pts.nms]) (by decide) (by decide) (by decide) (fun x' H' S hp => h x' H' (same_tr S1 (same_tr (same_upd hq) (same_tr (same_upd hl) S))) hp) y dy hy hd ne⟩⟩)) pa_nil))))))))
      (pss_cons (ps_if (pt_cmpR (op_neD hr.units) (pe_lc (own := [("_law_one", 5)]) (g := gName 5) (tt := tYes) (te := tCB (rIsi K) (tCons (tVar 5) (tCons (tC (.ref (He.ga K "Group"))) tNil))) rfl scL.nd (pi_list (pv 2)) (blkOk_by (N := NL) (sc := defScope (top i_law)) (by decide +kernel))
          (fun _ _ _ _ _ => pg_name (i := 5) scL.nd rfl (Or.inl rfl)) (fun _ _ _ _ _ => pts_nil) (fun _ _ _ _ _ => pe_callB call_isi (by rfl) T.tIsi (by decide +kernel) (pa_cons (pv 5) (pa_cons (pe_glob (v := .ref (He.ga K "Group")) (by rfl) T.gG rfl) pa_nil))))
          (pe_op op_cat (pe_op op_rep (pe_lst (pa_cons pe_bl pa_nil)) pe_int) (pe_op op_rep (pe_lst (pa_cons pe_bl pa_nil)) pe_int)) (nomark _)) (pss_one (ps_ret pe_bl)) pss_nil)
      (pss_cons (ps_if (pt_cmpR (op_neD hr.units) (pe_lc (own := [("_law_one", 5)]) (g := gName 5) (tt := tYes) (te := tCB (rIsi K) (tCons (tVar 5) (tCons (tC (.ref (He.ga K "Spread"))) tNil))) rfl scL.nd (pi_list (pv 2)) (blkOk_by (N := NL) (sc := defScope (top i_law)) (by decide +kernel))
          (fun _ _ _ _ _ => pg_name (i := 5) scL.nd rfl (Or.inl rfl)) (fun _ _ _ _ _ => pts_nil) (fun _ _ _ _ _ => pe_callB call_isi (by rfl) T.tIsi (by decide +kernel) (pa_cons (pv 5) (pa_cons (pe_glob (v := .ref (He.ga K "Spread")) (by rfl) T.gS rfl) pa_nil))))
          (pe_op op_cat (pe_op op_rep (pe_lst (pa_cons pe_bl pa_nil)) pe_int) (pe_lst (pa_cons pe_bl pa_nil))) (nomark _)) (pss_one (ps_ret pe_bl)) pss_nil)
      (pss_cons (ps_if (pt_cmpR (op_neD hr.units) (pe_lc (own := [("_law_one", 5)]) (g := gName 5) (tt := tNot (tB (tCB (rIsi K) (tCons (tVar 5) (tCons (tC (.ref (He.ga K "Part"))) tNil))))) (te := tVar 5) rfl scL.nd (pi_list (pv 2)) (blkOk_by (N := NL) (sc := defScope (top i_law)) (by decide +kernel))
          (fun _ _ _ _ _ => pg_name (i := 5) scL.nd rfl (Or.inl rfl)) (fun _ _ _ _ _ => pts_one (pt_not (pt_val (pe_callB call_isi (by rfl) T.tIsi (by decide +kernel) (pa_cons (pv 5) (pa_cons (pe_glob (v := .ref (He.ga K "Part")) (by rfl) T.gPt rfl) pa_nil)))))) (fun _ _ _ _ _ => pv 5)) (pe_lst pa_nil) (nomark _)) (pss_one (ps_ret pe_bl)) pss_nil)
      (pss_one (ps_ret (pe_cmpR (op_eqD hr.units) (pe_lst (pa_cons (ClX.pe_cval (pe_glob (v := .ref (He.ga K "Row")) (by rfl) T.gR rfl)) (pa_cons (ClX.pe_cval (pe_glob (v := .ref (He.ga K "Part")) (by rfl) T.gPt rfl)) (pa_cons (ClX.pe_cval (pe_glob (v := .ref (He.ga K "Spread")) (by rfl) T.gS rfl))
          (pa_cons (ClX.pe_cval (pe_glob (v := .ref (He.ga K "Overlay")) (by rfl) T.gO rfl)) pa_nil))))) (pe_lst (pa_cons pe_int (pa_cons pe_int (pa_cons pe_int (pa_cons pe_int pa_nil))))) (nomark _)))))))))), ?_⟩
    dsimp only [L2.start, List.set, List.map, List.append, List.replicate, List.length, HAppend.hAppend, Append.append]
    refine ⟨_, rfl, a, ns, rfl, hS, hn, fun p H1 S1 pen1 np => ?_⟩
    obtain ⟨c, cells, t0, l0, hp0, hc0, r0⟩ := pen1
    have pen1 : PenC H1 p c 0 := ⟨cells, t0, l0, hp0, hc0, r0⟩
    refine ⟨8, rfl, by decide, by decide, for_range (lo := 0) (n := 8) (fun i σ H' => ∃ (v1 v3 : Option V) (m : Nat), σ = [some (.ref a), v1, none, v3, some (.ref p), none] ∧ m ≤ 600 * i ∧ PenC H' p c m ∧ Tabs (TRL K) H')
      ⟨none, none, 0, rfl, by omega, pen1, hT.ext S1⟩ ?_ ?_⟩
    · rintro i σ H1 hi ⟨v1, v3, m, rfl, hm, pen, T1⟩
      obtain ⟨xs1, hp1⟩ := pen.ex
      refine ⟨_, rfl, _, rfl, _, rfl, p, c, m, rfl, pen, by omega, fun l H2 m2 lp ka hm2 pen2 k2 => ?_⟩
      obtain ⟨xs2, hp2⟩ := pen2.ex
      refine ⟨_, rfl, (by show 6 ≤ sizeLine; decide), fun l1 hl1 => ?_⟩
      generalize e3 : upd H2 l1 _ = H3 at *
      obtain ⟨s3, _, h3, p3, l1p⟩ := new_at hp2 hl1 e3
      refine ⟨p, c, l1, _, m2, rfl, h3, l1p, (by show 0 < 6; decide), (by show 6 ≤ 100000; decide), pen2.same s3, by omega, fun kv H4 hkv pen4 k4 => ?_⟩
      obtain ⟨k, rfl, hk⟩ : ∃ k : Nat, kv = .int k ∧ k ≤ 4 := by
        have hx : kv ∈ ([.int 0, .int 1, .int 2, .int 3, .int 4, .int 4] : List V) := hkv
        simp only [List.mem_cons, List.not_mem_nil, or_false] at hx
        rcases hx with rfl | rfl | rfl | rfl | rfl | rfl
        · exact ⟨0, rfl, by decide⟩
        · exact ⟨1, rfl, by decide⟩
        · exact ⟨2, rfl, by decide⟩
        · exact ⟨3, rfl, by decide⟩
        · exact ⟨4, rfl, by decide⟩
        · exact ⟨4, rfl, by decide⟩
      have ck := cost_le k hk
      have k24 : But p H2 H4 := (But.of s3).tr k4
      obtain ⟨xs4, hp4⟩ := pen4.ex
      refine ⟨p, c, l, k, _, rfl, lp, ka.same k24.del, by omega, hk, pen4, by omega, fun v H5 t m5 pl nu dp hm5 pen5 k5 => ?_⟩
      have k15 : But p H1 H5 := k2.tr (k24.tr k5)
      have T5 : Tabs (TRL K) H5 := tabs_but hp1 k15 T1
      have Sn : Same (new H4 H5) (del H5 p) := fun b o z => by
        obtain ⟨z1, z2⟩ := newOf z
        rw [del_ne (fun e => by rw [e, hp4] at z1; cases z1)]
        exact z2
      refine ⟨p, c, v, t, m5, rfl, pl.same Sn, nu, by omega, pen5, by omega, T5, fun H6 m6 hm6 pen6 T6 => ⟨_, rfl, iteF ?_⟩⟩
      have hm6' : m6 ≤ 600 * i + 520 := by omega
      clear hkv e3 s3 k4 k24 k5 k15 Sn pl T5 pen5 pen4 pen2 k2 ka h3 p3 l1p hl1 hp4 hp2 hp1 T1 pen lp
      obtain ⟨xs6, hp6⟩ := pen6.ex
      -- odd
      refine ⟨_, rfl, (by show 0 ≤ sizeLine; decide), fun q1 hq1 => ?_⟩
      generalize e7 : upd H6 q1 _ = H7 at *
      have s7 : Same H6 H7 := e7 ▸ same_upd hq1
      have g1 : H7 q1 = some (.tup []) := e7 ▸ upd_same
      have n1 : q1 ≠ p := Ne.symm (ne_of_none hp6 hq1)
      refine fun b H8 s8 pb => ?_
      refine ⟨(by show 1 ≤ sizeLine; decide), fun q2 hq2 => ?_⟩
      generalize e9 : upd H8 q2 _ = H9 at *
      have s9 : Same H8 H9 := e9 ▸ same_upd hq2
      have g2 : H9 q2 = some (.lst [.ref b]) := e9 ▸ upd_same
      have n2 : q2 ≠ p := Ne.symm (ne_of_none (s8 _ _ (s7 _ _ hp6)) hq2)
      refine fun q3 hq3 => ?_
      generalize e10 : upd H9 q3 _ = H10 at *
      have s10 : Same H9 H10 := e10 ▸ same_upd hq3
      have g3 : H10 q3 = some (.dK []) := e10 ▸ upd_same
      have n3 : q3 ≠ p := Ne.symm (ne_of_none (s9 _ _ (s8 _ _ (s7 _ _ hp6))) hq3)
      refine ⟨(by show 1 ≤ sizeLine; decide), fun q4 hq4 => ?_⟩
      generalize e11 : upd H10 q4 _ = H11 at *
      have s11 : Same H10 H11 := e11 ▸ same_upd hq4
      have g4 : H11 q4 = some (.tup [.str "byte"]) := e11 ▸ upd_same
      have n4 : q4 ≠ p := Ne.symm (ne_of_none (s10 _ _ (s9 _ _ (s8 _ _ (s7 _ _ hp6)))) hq4)
      refine ⟨(by show 8 ≤ sizeLine; decide), fun l2 hl2 => ?_⟩
      generalize e12 : upd H11 l2 _ = H12 at *
      have s12 : Same H11 H12 := e12 ▸ same_upd hl2
      have g5 : H12 l2 = some (.lst [.non, .str "byte", .int 3, .bl true, .ref q1, .ref q2, .ref q3, .ref q4]) := e12 ▸ upd_same
      have s612 : Same H6 H12 := same_tr s7 (same_tr s8 (same_tr s9 (same_tr s10 (same_tr s11 s12))))
      have n5 : l2 ≠ p := Ne.symm (ne_of_none (s11 _ _ (s10 _ _ (s9 _ _ (s8 _ _ (s7 _ _ hp6))))) hl2)
      refine ⟨p, c, l2, _, m6, rfl, g5, n5, (by show 0 < 8; decide), (by show 8 ≤ 100000; decide), pen6.same s612, by omega, fun ov H13 hov pen13 k13 => ?_⟩
      have T13 : Tabs (TRL K) H13 := tabs_but (s612 _ _ hp6) k13 (T6.ext s612)
      have ao : Any K (del H13 p) ov := by
        have g1 := k13 _ _ n1 (s12 _ _ (s11 _ _ (s10 _ _ (s9 _ _ (s8 _ _ g1)))))
        have g2 := k13 _ _ n2 (s12 _ _ (s11 _ _ (s10 _ _ g2)))
        have g3 := k13 _ _ n3 (s12 _ _ (s11 _ _ g3))
        have g4 := k13 _ _ n4 (s12 _ _ g4)
        have hx : ov ∈ ([.non, .str "byte", .int 3, .bl true, .ref q1, .ref q2, .ref q3, .ref q4] : List V) := hov
        simp only [List.mem_cons, List.not_mem_nil, or_false] at hx
        rcases hx with rfl | rfl | rfl | rfl | rfl | rfl | rfl | rfl
        · exact .non
        · exact .str _ (by rw [sizeLine_eq]; decide +kernel)
        · exact .int _
        · exact .bl _
        · exact .tup (by rw [del_ne n1]; exact g1)
        · exact .lst (by rw [del_ne n2]; exact g2)
        · exact .dic (by rw [del_ne n3]; exact g3)
        · exact .tup (by rw [del_ne n4]; exact g4)
      obtain ⟨xs13, hp13⟩ := pen13.ex
      clear hov g1 g2 g3 g4 g5 n1 n2 n3 n4 n5 s7 s8 s9 s10 s11 s12 s612 e7 e9 e10 e11 e12 hq1 hq2 hq3 hq4 hl2 pb k13 T6 pen6 hp6
      -- a row of it
      have noT : ∀ {xs : List V} (ps : Array Value), (HO.lst xs : HO) ≠ .tbl ps := fun ps z => by cases z
      refine ⟨T13, fun H14 x14 T14 => fun H15 R S15 hR => ⟨_, rfl, _, rfl, (by show 3 ≤ sizeLine; decide), fun l3 hl3 => ?_⟩⟩
      generalize e16 : upd H15 l3 _ = H16 at *
      have hp15 : H15 p = some (.lst xs13) := S15 _ _ (x14 _ _ hp13 noT)
      obtain ⟨s16, _, h16, hp16, l3p⟩ := new_at hp15 hl3 e16
      have pen16 : PenC H16 p c (m6 + 1) := ((pen13.ext x14).same S15).same s16
      refine ⟨p, c, l3, _, _, rfl, h16, l3p, (by show 0 < 3; decide), (by show 3 ≤ 100000; decide), pen16, by omega, fun nv H17 hnv pen17 k17 => ?_⟩
      have T17 : Tabs (TRL K) H17 := tabs_but hp16 k17 ((T14.ext S15).ext s16)
      have an : Any K H17 nv := by
        have hx : nv ∈ ([.int 0, .int 3, .non] : List V) := hnv
        simp only [List.mem_cons, List.not_mem_nil, or_false] at hx
        rcases hx with rfl | rfl | rfl
        · exact .int _
        · exact .int _
        · exact .non
      have ao17 : Any K H17 ov := (((ao.ext (ext_del x14)).same (same_del S15)).same (same_del s16)).same (same_tr k17.del del_same')
      refine fun y dy hy hd ne => RowDue.mk ⟨false, .any ao17, an, fun _ d pp H18 hd' S18 hd18 => ?_, (fun z => by cases z), fun y' p' n' e1 e2 => (any_not_part ao17 e1 e2).elim⟩ y dy hy hd ne
      refine ⟨_, _, _, _, pp, d, .parts (.int 0), rfl, rfl, hd18, fun t19 H19 ht19 S19 h19 => ?_⟩
      refine ⟨(by show 2 ≤ sizeLine; decide), fun t20 ht20 => ?_⟩
      generalize e20 : upd H19 t20 _ = H20 at *
      have S20 : Same H19 H20 := e20 ▸ same_upd ht20
      refine ⟨.tuple [.str "parts", .int 0], .tuple [.str "parts", .int 0], .tup (SqT.of (S20 _ _ h19)) (.cons (.str _) (.cons (.int _) .nil)), .tup (SqT.of (e20 ▸ upd_same)) (.cons (.str _) (.cons (.int _) .nil)), by decide +kernel, by decide +kernel, _, rfl, iteNo (by decide +kernel) ?_⟩
      have S1720 : Same H17 H20 := same_tr S18 (same_tr S19 S20)
      exact ⟨_, _, _, rfl, by omega, pen17.same S1720, T17.ext S1720⟩
    · rintro σ H1 ⟨v1, v3, m, rfl, hm, pen, T1⟩
      -- the six
      refine fun x1 H2 S2 p1 => fun x2 H3 S3 p2 => fun x3 H4 S4 p3 => fun x4 H5 S5 p4 => fun x5 H6 S6 p5 => fun x6 H7 S7 p6 => ⟨(by show 6 ≤ sizeLine; decide), fun L hL => ?_⟩
      generalize e8 : upd H7 L _ = H8 at *
      have S8 : Same H7 H8 := e8 ▸ same_upd hL
      have hL8 : H8 L = some (.lst [.ref x1, .ref x2, .ref x3, .ref x4, .ref x5, .ref x6]) := e8 ▸ upd_same
      have P8 : PtsAt K H8 [.ref x1, .ref x2, .ref x3, .ref x4, .ref x5, .ref x6] six6 := PtsAt.same S8
        (.cons (p1.same (same_tr S3 (same_tr S4 (same_tr S5 (same_tr S6 S7))))) (.cons (p2.same (same_tr S4 (same_tr S5 (same_tr S6 S7)))) (.cons (p3.same (same_tr S5 (same_tr S6 S7))) (.cons (p4.same (same_tr S6 S7)) (.cons (p5.same S7) (.cons p6 .nil))))))
      generalize hxs : ([.ref x1, .ref x2, .ref x3, .ref x4, .ref x5, .ref x6] : List V) = xs6 at *
      clear S2 S3 S4 S5 S6 S7 S8 p1 p2 p3 p4 p5 p6 e8 hL
      -- isinstance(one, Group)
      refine ⟨_, rfl, L, rfl, ⟨_, SqL.of hL8⟩, fun D hD => ?_⟩
      refine lc_list (K := K) (a := L) (xs := xs6) (fun i H' => Same H8 H' ∧ H' D = some (.lst ((six6.take i).map fun p => V.bl (decide (p.cn ∈ grpP))))) ⟨same_upd hD, upd_same⟩ (fun i H' hi' e => SqL.of (e.1 _ _ hL8)) (fun i x' H' hx e => ?_) (fun HA e => ?_)
      · obtain ⟨S', gD⟩ := e
        obtain ⟨y, pp, rfl, hp6, hpt⟩ := P8.2 i x' hx
        refine ⟨rfl, ?_⟩
        dsimp only [tYes]
        rw [if_pos rfl]
        refine ⟨_, rfl, _, .ref (He.ga K "Group"), _, _, decide (pp.cn ∈ grpP), rfl, .own _, (hpt.same S').ty T.T, (T.T.F.one _ pp.cnP).isG, _, gD, ?_, fun b o zz => (by rw [upd_ne (ne_of_none zz hD)]; exact S' _ _ zz), ?_⟩
        · rw [List.length_map, List.length_take, sizeLine_eq]
          have : six6.length = 6 := rfl
          omega
        · rw [upd_same, List.take_succ, hp6, List.map_append]
          rfl
      obtain ⟨SA, gA⟩ := e
      generalize HA = H9 at *
      have gA : H9 D = some (.lst [.bl false, .bl false, .bl false, .bl true, .bl true, .bl true]) := by
        have hl : xs6.length = six6.length := P8.1
        rw [hl, List.take_length] at gA
        exact gA
      refine ⟨(by show 1 ≤ sizeLine; decide), fun a1 ha1 => ?_⟩
      generalize e10 : upd H9 a1 _ = H10 at *
      have S10 : Same H9 H10 := e10 ▸ same_upd ha1
      have g10 : H10 a1 = some (.lst [.bl false]) := e10 ▸ upd_same
      refine ⟨a1, 3, _, rfl, rfl, g10, by decide, by decide, (by show 1 * 3 ≤ sizeLine; decide), fun a2 ha2 => ?_⟩
      generalize e11 : upd H10 a2 _ = H11 at *
      have S11 : Same H10 H11 := e11 ▸ same_upd ha2
      have g11 : H11 a2 = some (.lst [.bl false, .bl false, .bl false]) := e11 ▸ upd_same
      refine ⟨(by show 1 ≤ sizeLine; decide), fun a3 ha3 => ?_⟩
      generalize e12 : upd H11 a3 _ = H12 at *
      have S12 : Same H11 H12 := e12 ▸ same_upd ha3
      have g12 : H12 a3 = some (.lst [.bl true]) := e12 ▸ upd_same
      refine ⟨a3, 3, _, rfl, rfl, g12, by decide, by decide, (by show 1 * 3 ≤ sizeLine; decide), fun a4 ha4 => ?_⟩
      generalize e13 : upd H12 a4 _ = H13 at *
      have S13 : Same H12 H13 := e13 ▸ same_upd ha4
      have g13 : H13 a4 = some (.lst [.bl true, .bl true, .bl true]) := e13 ▸ upd_same
      refine ⟨a2, a4, _, _, rfl, rfl, S13 _ _ (S12 _ _ g11), g13, (by show 3 + 3 ≤ sizeLine; decide), fun a5 ha5 => ?_⟩
      generalize e14 : upd H13 a5 _ = H14 at *
      have S14 : Same H13 H14 := e14 ▸ same_upd ha5
      have g14 : H14 a5 = some (.lst [.bl false, .bl false, .bl false, .bl true, .bl true, .bl true]) := e14 ▸ upd_same
      have S914 : Same H9 H14 := same_tr S10 (same_tr S11 (same_tr S12 (same_tr S13 S14)))
      have dl : ∀ {H : Hp} {x : Addr}, H x = some (.lst [.bl false, .bl false, .bl false, .bl true, .bl true, .bl true]) → Dp K H (.ref x) (.list [.bool false, .bool false, .bool false, .bool true, .bool true, .bool true]) := fun h => .lst (SqL.of h) (.cons (.bl _) (.cons (.bl _) (.cons (.bl _) (.cons (.bl _) (.cons (.bl _) (.cons (.bl _) .nil))))))
      refine ⟨_, _, dl (S914 _ _ gA), dl g14, by decide +kernel, by decide +kernel, _, rfl, iteNo (by decide +kernel) ?_⟩
      have S814 : Same H8 H14 := same_tr SA S914
      have hL14 := S814 _ _ hL8
      have P14 := P8.same S814
      clear S10 S11 S12 S13 S14 g10 g11 g12 g13 g14 e10 e11 e12 e13 e14 ha1 ha2 ha3 ha4 ha5 S914 S814 gA SA hL8 P8 hD dl
      -- isinstance(one, Spread)
      refine ⟨_, rfl, L, rfl, ⟨_, SqL.of hL14⟩, fun D hD => ?_⟩
      refine lc_list (K := K) (a := L) (xs := xs6) (fun i H' => Same H14 H' ∧ H' D = some (.lst ((six6.take i).map fun p => V.bl (decide (p.cn = ("Overlay" : Str)))))) ⟨same_upd hD, upd_same⟩ (fun i H' hi' e => SqL.of (e.1 _ _ hL14)) (fun i x' H' hx e => ?_) (fun HA e => ?_)
      · obtain ⟨S', gD⟩ := e
        obtain ⟨y, pp, rfl, hp6, hpt⟩ := P14.2 i x' hx
        refine ⟨rfl, ?_⟩
        dsimp only [tYes]
        rw [if_pos rfl]
        refine ⟨_, rfl, _, .ref (He.ga K "Spread"), _, _, decide (pp.cn = ("Overlay" : Str)), rfl, .own _, (hpt.same S').ty T.T, (T.T.F.one _ pp.cnP).isS, _, gD, ?_, fun b o zz => (by rw [upd_ne (ne_of_none zz hD)]; exact S' _ _ zz), ?_⟩
        · rw [List.length_map, List.length_take, sizeLine_eq]
          have : six6.length = 6 := rfl
          omega
        · rw [upd_same, List.take_succ, hp6, List.map_append]
          rfl
      obtain ⟨SA, gA⟩ := e
      generalize HA = H15 at *
      have gA : H15 D = some (.lst [.bl false, .bl false, .bl false, .bl false, .bl false, .bl true]) := by
        have hl : xs6.length = six6.length := P14.1
        rw [hl, List.take_length] at gA
        exact gA
      refine ⟨(by show 1 ≤ sizeLine; decide), fun a1 ha1 => ?_⟩
      generalize e10 : upd H15 a1 _ = H16 at *
      have S10 : Same H15 H16 := e10 ▸ same_upd ha1
      have g10 : H16 a1 = some (.lst [.bl false]) := e10 ▸ upd_same
      refine ⟨a1, 5, _, rfl, rfl, g10, by decide, by decide, (by show 1 * 5 ≤ sizeLine; decide), fun a2 ha2 => ?_⟩
      generalize e11 : upd H16 a2 _ = H17 at *
      have S11 : Same H16 H17 := e11 ▸ same_upd ha2
      have g11 : H17 a2 = some (.lst [.bl false, .bl false, .bl false, .bl false, .bl false]) := e11 ▸ upd_same
      refine ⟨(by show 1 ≤ sizeLine; decide), fun a3 ha3 => ?_⟩
      generalize e12 : upd H17 a3 _ = H18 at *
      have S12 : Same H17 H18 := e12 ▸ same_upd ha3
      have g12 : H18 a3 = some (.lst [.bl true]) := e12 ▸ upd_same
      refine ⟨a2, a3, _, _, rfl, rfl, S12 _ _ g11, g12, (by show 5 + 1 ≤ sizeLine; decide), fun a5 ha5 => ?_⟩
      generalize e14 : upd H18 a5 _ = H19 at *
      have S14 : Same H18 H19 := e14 ▸ same_upd ha5
      have g14 : H19 a5 = some (.lst [.bl false, .bl false, .bl false, .bl false, .bl false, .bl true]) := e14 ▸ upd_same
      have S1519 : Same H15 H19 := same_tr S10 (same_tr S11 (same_tr S12 S14))
      have dl : ∀ {H : Hp} {x : Addr}, H x = some (.lst [.bl false, .bl false, .bl false, .bl false, .bl false, .bl true]) → Dp K H (.ref x) (.list [.bool false, .bool false, .bool false, .bool false, .bool false, .bool true]) := fun h => .lst (SqL.of h) (.cons (.bl _) (.cons (.bl _) (.cons (.bl _) (.cons (.bl _) (.cons (.bl _) (.cons (.bl _) .nil))))))
      refine ⟨_, _, dl (S1519 _ _ gA), dl g14, by decide +kernel, by decide +kernel, _, rfl, iteNo (by decide +kernel) ?_⟩
      have S149 : Same H14 H19 := same_tr SA S1519
      have hL19 := S149 _ _ hL14
      have P19 := P14.same S149
      clear S10 S11 S12 S14 g10 g11 g12 g14 e10 e11 e12 e14 ha1 ha2 ha3 ha5 S1519 S149 gA SA hL14 P14 hD dl
      -- all are parts
      refine ⟨_, rfl, L, rfl, ⟨_, SqL.of hL19⟩, fun D hD => ?_⟩
      refine lc_list (K := K) (a := L) (xs := xs6) (fun i H' => Same H19 H' ∧ H' D = some (.lst [])) ⟨same_upd hD, upd_same⟩ (fun i H' hi' e => SqL.of (e.1 _ _ hL19)) (fun i x' H' hx e => ?_) (fun H20 e => ?_)
      · obtain ⟨S', gD⟩ := e
        obtain ⟨y, pp, rfl, hp6, hpt⟩ := P19.2 i x' hx
        exact ⟨rfl, _, rfl, _, .ref (He.ga K "Part"), _, _, true, rfl, .own _, (hpt.same S').ty T.T, (T.T.F.one _ pp.cnP).kp, true, rfl, iteNo rfl ⟨S', gD⟩⟩
      obtain ⟨S20, gD⟩ := e
      refine ⟨(by show 0 ≤ sizeLine; decide), fun a1 ha1 => ?_⟩
      generalize e21 : upd H20 a1 _ = H21 at *
      have S21 : Same H20 H21 := e21 ▸ same_upd ha1
      refine ⟨.list [], .list [], .lst (SqL.of (S21 _ _ gD)) .nil, .lst (SqL.of (e21 ▸ upd_same)) .nil, rfl, rfl, _, rfl, iteNo rfl ?_⟩
      obtain ⟨t1, d1⟩ := T.c1.at_
      obtain ⟨t2, d2⟩ := T.c2.at_
      obtain ⟨t3, d3⟩ := T.c3.at_
      obtain ⟨t4, d4⟩ := T.c4.at_
      refine ⟨_, _, .int 64, .int 64 t1, rfl, T.c1.crd, ⟨d1, ⟨t1, rfl⟩⟩, _, _, .int 4, .int 4 t2, rfl, T.c2.crd, ⟨d2, ⟨t2, rfl⟩⟩, _, _, .int 0, .int 0 t3, rfl, T.c3.crd, ⟨d3, ⟨t3, rfl⟩⟩, _, _, .int 0, .int 0 t4, rfl, T.c4.crd, ⟨d4, ⟨t4, rfl⟩⟩, (by show 4 ≤ sizeLine; decide), fun b1 hb1 => ?_⟩
      generalize e22 : upd H21 b1 _ = H22 at *
      have g22 : H22 b1 = some (.lst [.int 64, .int 4, .int 0, .int 0]) := e22 ▸ upd_same
      refine ⟨(by show 4 ≤ sizeLine; decide), fun b2 hb2 => ?_⟩
      generalize e23 : upd H22 b2 _ = H23 at *
      have S23 : Same H22 H23 := e23 ▸ same_upd hb2
      have g23 : H23 b2 = some (.lst [.int 64, .int 4, .int 0, .int 0]) := e23 ▸ upd_same
      have dl : ∀ {H : Hp} {x : Addr}, H x = some (.lst [.int 64, .int 4, .int 0, .int 0]) → Dp K H (.ref x) (.list [.int 64, .int 4, .int 0, .int 0]) := fun h => .lst (SqL.of h) (.cons (.int _) (.cons (.int _) (.cons (.int _) (.cons (.int _) .nil))))
      refine ⟨_, _, dl (S23 _ _ g22), dl g23, by decide +kernel, by decide +kernel, ?_⟩
      have ev : PyData.eqv (.list [.int 64, .int 4, .int 0, .int 0]) (.list [.int 64, .int 4, .int 0, .int 0]) = true := by decide +kernel
      rw [ev]
      exact q H23
end
end H1
set_option Elab.async false
set_option linter.all false
set_option maxRecDepth 100000
set_option maxHeartbeats 4000000
namespace H1
open PySem PySem.Spec PyProof.Rows L2 Ev LamX
section
variable {P : Program} {w : World} {K : PySem.W.Frag} {mg : Str → Option Value} {h : Heap} {fa0 : Addr}
theorem bWk {f : Addr} {d : FuncData} (F : FnM K "Row" "__init__" i_Row j_Row___init__ [] f d) : KBn K d ["self", "part", "n"] 1 ["n", "part"] (fun us ws => us ++ ws.reverse) (fun vs zs => vs ++ zs.reverse) := by
  obtain ⟨oc, od, dV, kV, doc, pm, an, cdv, ct, osl, rfl, lk, hcd, hD, hK⟩ := F.ex
  rcases hD with ⟨_, rfl⟩ | ⟨e, _⟩
  · refine ⟨fun s us ws X l1 l2 => ?_, fun r1 r2 => r1.append r2.reverse⟩
    match us, l1, ws, l2 with
    | [_], _, [_, _], _ => exact BindsTo.of_eq rfl
  · exact absurd rfl e
theorem facts (KX : K.In h) (G : h.Ns mainGlobals mg) (hfa : mg "law" = some (.ref fa0)) (c : He.SaysD fa fn K) (er : ErrsT errs K) (pt : PartsF K)
    (cs : ∀ q ∈ ([("Row", "MOST", 64), ("Part", "DEPTH", 4), ("Spread", "AT", 0), ("Overlay", "AT", 0)] : List (Str × Str × Int)), ConstAt K q.1 q.2.1 q.2.2) (ne : (He.cT K pR).2 ≠ (He.cT K pL).2) (base : Heap) (TB : TabB base mg (He.cT K pR).1 (He.cT K pR).2) (TBL : TabB base mg (He.cT K pL).1 (He.cT K pL).2) :
    FnG P w K mg base CX0 20 fa0 (spLawP K) := by
  have g_PadError := He.glo_ok KX G (x := "PadError") (c.fact 0 rfl)
  have g_BadName := He.glo_ok KX G (x := "BadName") (c.fact 1 rfl)
  have g_BadTimes := He.glo_ok KX G (x := "BadTimes") (c.fact 2 rfl)
  have g_BadParts := He.glo_ok KX G (x := "BadParts") (c.fact 3 rfl)
  have g_NoPath := He.glo_ok KX G (x := "NoPath") (c.fact 4 rfl)
  have g_TooLarge := He.glo_ok KX G (x := "TooLarge") (c.fact 5 rfl)
  have g_Part := He.glo_ok KX G (x := "Part") (c.fact 6 rfl)
  have g_Kind := He.glo_ok KX G (x := "Kind") (c.fact 7 rfl)
  have g_Byte := He.glo_ok KX G (x := "Byte") (c.fact 8 rfl)
  have g_Use := He.glo_ok KX G (x := "Use") (c.fact 9 rfl)
  have g_Group := He.glo_ok KX G (x := "Group") (c.fact 10 rfl)
  have g_Spread := He.glo_ok KX G (x := "Spread") (c.fact 11 rfl)
  have g_Row := He.glo_ok KX G (x := "Row") (c.fact 12 rfl)
  have g_Record := He.glo_ok KX G (x := "Record") (c.fact 13 rfl)
  have g_Overlay := He.glo_ok KX G (x := "Overlay") (c.fact 14 rfl)
  have g_BARRED := He.glo_ok KX G (x := "BARRED") (c.fact 15 rfl)
  have g_is_name := He.glo_ok KX G (x := "is_name") (c.fact 16 rfl)
  have g_is_whole := He.glo_ok KX G (x := "is_whole") (c.fact 17 rfl)
  have g_is_part := He.glo_ok KX G (x := "is_part") (c.fact 18 rfl)
  have g_checked_pairs := He.glo_ok KX G (x := "checked_pairs") (c.fact 19 rfl)
  have g_is_pair := He.glo_ok KX G (x := "is_pair") (c.fact 20 rfl)
  have g__law_pen := He.glo_ok KX G (x := "_law_pen") (c.fact 21 rfl)
  have g__law_draw := He.glo_ok KX G (x := "_law_draw") (c.fact 22 rfl)
  have g__law_pick := He.glo_ok KX G (x := "_law_pick") (c.fact 23 rfl)
  have g__law_kinds := He.glo_ok KX G (x := "_law_kinds") (c.fact 24 rfl)
  have g__law_plan := He.glo_ok KX G (x := "_law_plan") (c.fact 25 rfl)
  have g__law_made := He.glo_ok KX G (x := "_law_made") (c.fact 26 rfl)
  have g__law_deep := He.glo_ok KX G (x := "_law_deep") (c.fact 27 rfl)
  have g__law_heard := He.glo_ok KX G (x := "_law_heard") (c.fact 28 rfl)
  have g__law_right := He.glo_ok KX G (x := "_law_right") (c.fact 29 rfl)
  have g_law := He.glo_ok KX G (x := "law") (c.fact 30 rfl)
  have t_int := He.free_ok KX G (x := "int") (c.fact 31 rfl)
  have t_len := He.free_ok KX G (x := "len") (c.fact 32 rfl)
  have t_abs := He.free_ok KX G (x := "abs") (c.fact 33 rfl)
  have t_range := He.free_ok KX G (x := "range") (c.fact 34 rfl)
  have t_list := He.free_ok KX G (x := "list") (c.fact 35 rfl)
  have t_repr := He.free_ok KX G (x := "repr") (c.fact 36 rfl)
  have t_isinstance := He.free_ok KX G (x := "isinstance") (c.fact 37 rfl)
  have t_str := He.free_ok KX G (x := "str") (c.fact 38 rfl)
  have t_max := He.free_ok KX G (x := "max") (c.fact 39 rfl)
  have t_all := He.free_ok KX G (x := "all") (c.fact 40 rfl)
  have t_bool := He.free_ok KX G (x := "bool") (c.fact 41 rfl)
  have t_enumerate := He.free_ok KX G (x := "enumerate") (c.fact 42 rfl)
  have t_tuple := He.free_ok KX G (x := "tuple") (c.fact 43 rfl)
  have i_MOST_TIMES := He.int_ok KX G (x := "MOST_TIMES") (i := 8) (c.fact 44 rfl)
  have i_LONGEST := He.int_ok KX G (x := "LONGEST") (i := 8) (c.fact 45 rfl)
  have i_LETTERS := He.str_ok KX G (x := "LETTERS") (z := letters) (c.fact 46 rfl)
  have x_BadParts := He.exm_ok (x := "BadParts") (y := "PadError") (b := true) (c.fact 93 rfl)
  have x_BadTimes := He.exm_ok (x := "BadTimes") (y := "PadError") (b := true) (c.fact 94 rfl)
  have x_TooLarge := He.exm_ok (x := "TooLarge") (y := "PadError") (b := true) (c.fact 95 rfl)
  have p_Kind : PCl K "Kind" (baseFs ++ (["name", "times"] : List Str)) := ⟨He.cls_ok (c.fact 47 rfl), He.mkr_ok (c.fact 48 rfl), He.meth_ok (c.fact 49 rfl), fun f hf => by
    simp only [baseFs, List.cons_append, List.nil_append, List.mem_cons, List.not_mem_nil, or_false] at hf
    rcases hf with rfl | rfl | rfl | rfl | rfl
    · exact He.noat_ok (c.fact 50 rfl)
    · exact He.noat_ok (c.fact 51 rfl)
    · exact He.noat_ok (c.fact 52 rfl)
    · exact He.noat_ok (c.fact 53 rfl)
    · exact He.noat_ok (c.fact 54 rfl)⟩
  have p_Byte : PCl K "Byte" baseFs := ⟨He.cls_ok (c.fact 55 rfl), He.mkr_ok (c.fact 56 rfl), He.meth_ok (c.fact 57 rfl), fun f hf => by
    simp only [baseFs, List.cons_append, List.nil_append, List.mem_cons, List.not_mem_nil, or_false] at hf
    rcases hf with rfl | rfl | rfl
    · exact He.noat_ok (c.fact 58 rfl)
    · exact He.noat_ok (c.fact 59 rfl)
    · exact He.noat_ok (c.fact 60 rfl)⟩
  have p_Use : PCl K "Use" (baseFs ++ (["name"] : List Str)) := ⟨He.cls_ok (c.fact 61 rfl), He.mkr_ok (c.fact 62 rfl), He.meth_ok (c.fact 63 rfl), fun f hf => by
    simp only [baseFs, List.cons_append, List.nil_append, List.mem_cons, List.not_mem_nil, or_false] at hf
    rcases hf with rfl | rfl | rfl | rfl
    · exact He.noat_ok (c.fact 64 rfl)
    · exact He.noat_ok (c.fact 65 rfl)
    · exact He.noat_ok (c.fact 66 rfl)
    · exact He.noat_ok (c.fact 67 rfl)⟩
  have p_Row : PCl K "Row" (baseFs ++ (["part", "n"] : List Str)) := ⟨He.cls_ok (c.fact 68 rfl), He.mkr_ok (c.fact 69 rfl), He.meth_ok (c.fact 70 rfl), fun f hf => by
    simp only [baseFs, List.cons_append, List.nil_append, List.mem_cons, List.not_mem_nil, or_false] at hf
    rcases hf with rfl | rfl | rfl | rfl | rfl
    · exact He.noat_ok (c.fact 72 rfl)
    · exact He.noat_ok (c.fact 73 rfl)
    · exact He.noat_ok (c.fact 74 rfl)
    · exact He.noat_ok (c.fact 75 rfl)
    · exact He.noat_ok (c.fact 76 rfl)⟩
  have p_Record : PCl K "Record" (baseFs ++ (["fields"] : List Str)) := ⟨He.cls_ok (c.fact 77 rfl), He.mkr_ok (c.fact 78 rfl), He.meth_ok (c.fact 79 rfl), fun f hf => by
    simp only [baseFs, List.cons_append, List.nil_append, List.mem_cons, List.not_mem_nil, or_false] at hf
    rcases hf with rfl | rfl | rfl | rfl
    · exact He.noat_ok (c.fact 81 rfl)
    · exact He.noat_ok (c.fact 82 rfl)
    · exact He.noat_ok (c.fact 83 rfl)
    · exact He.noat_ok (c.fact 84 rfl)⟩
  have p_Overlay : PCl K "Overlay" (baseFs ++ (["members"] : List Str)) := ⟨He.cls_ok (c.fact 85 rfl), He.mkr_ok (c.fact 86 rfl), He.meth_ok (c.fact 87 rfl), fun f hf => by
    simp only [baseFs, List.cons_append, List.nil_append, List.mem_cons, List.not_mem_nil, or_false] at hf
    rcases hf with rfl | rfl | rfl | rfl
    · exact He.noat_ok (c.fact 89 rfl)
    · exact He.noat_ok (c.fact 90 rfl)
    · exact He.noat_ok (c.fact 91 rfl)
    · exact He.noat_ok (c.fact 92 rfl)⟩
  obtain ⟨d_PadError, F_PadError⟩ := c.def_ 0 (d := mkD "PadError" i_PadError) rfl
  obtain ⟨d_BadName, F_BadName⟩ := c.def_ 1 (d := mkD "BadName" i_BadName) rfl
  obtain ⟨d_BadTimes, F_BadTimes⟩ := c.def_ 2 (d := mkD "BadTimes" i_BadTimes) rfl
  obtain ⟨d_BadParts, F_BadParts⟩ := c.def_ 3 (d := mkD "BadParts" i_BadParts) rfl
  obtain ⟨d_TooLarge, F_TooLarge⟩ := c.def_ 5 (d := mkD "TooLarge" i_TooLarge) rfl
  obtain ⟨d_Part_init, F_Part_init⟩ := c.def_ 6 (d := meD "Part" "__init__" i_Part j_Part___init__ [.adr (He.dflAt ("Part", some "__init__") 0), .adr (He.dflAt ("Part", some "__init__") 1)]) rfl
  obtain ⟨d_Part_eq, F_Part_eq⟩ := c.def_ 7 (d := meD "Part" "__eq__" i_Part j_Part___eq__ []) rfl
  obtain ⟨d_Part_mul, F_Part_mul⟩ := c.def_ 8 (d := meD "Part" "__mul__" i_Part j_Part___mul__ []) rfl
  obtain ⟨d_Kind_init, F_Kind_init⟩ := c.def_ 9 (d := meD "Kind" "__init__" i_Kind j_Kind___init__ [.int 1]) rfl
  obtain ⟨d_Kind_str, F_Kind_str⟩ := c.def_ 10 (d := meD "Kind" "__str__" i_Kind j_Kind___str__ []) rfl
  obtain ⟨d_Byte_init, F_Byte_init⟩ := c.def_ 11 (d := meD "Byte" "__init__" i_Byte j_Byte___init__ []) rfl
  obtain ⟨d_Byte_str, F_Byte_str⟩ := c.def_ 12 (d := meD "Byte" "__str__" i_Byte j_Byte___str__ []) rfl
  obtain ⟨d_Use_init, F_Use_init⟩ := c.def_ 13 (d := meD "Use" "__init__" i_Use j_Use___init__ []) rfl
  obtain ⟨d_Use_str, F_Use_str⟩ := c.def_ 14 (d := meD "Use" "__str__" i_Use j_Use___str__ []) rfl
  obtain ⟨d_Group_len, F_Group_len⟩ := c.def_ 15 (d := meD "Group" "__len__" i_Group j_Group___len__ []) rfl
  obtain ⟨d_Row_init, F_Row_init⟩ := c.def_ 16 (d := meD "Row" "__init__" i_Row j_Row___init__ []) rfl
  obtain ⟨d_Row_str, F_Row_str⟩ := c.def_ 17 (d := meD "Row" "__str__" i_Row j_Row___str__ []) rfl
  obtain ⟨d_Record_init, F_Record_init⟩ := c.def_ 18 (d := meD "Record" "__init__" i_Record j_Record___init__ []) rfl
  obtain ⟨d_Record_str, F_Record_str⟩ := c.def_ 19 (d := meD "Record" "__str__" i_Record j_Record___str__ []) rfl
  obtain ⟨d_Overlay_init, F_Overlay_init⟩ := c.def_ 20 (d := meD "Overlay" "__init__" i_Overlay j_Overlay___init__ []) rfl
  obtain ⟨d_Overlay_str, F_Overlay_str⟩ := c.def_ 21 (d := meD "Overlay" "__str__" i_Overlay j_Overlay___str__ []) rfl
  obtain ⟨d_is_name, F_is_name⟩ := c.def_ 22 (d := fnD "is_name" i_is_name) rfl
  obtain ⟨d_is_whole, F_is_whole⟩ := c.def_ 23 (d := fnD "is_whole" i_is_whole) rfl
  obtain ⟨d_is_part, F_is_part⟩ := c.def_ 24 (d := fnD "is_part" i_is_part) rfl
  obtain ⟨d_checked_pairs, F_checked_pairs⟩ := c.def_ 25 (d := fnD "checked_pairs" i_checked_pairs) rfl
  obtain ⟨d_is_pair, F_is_pair⟩ := c.def_ 26 (d := fnD "is_pair" i_is_pair) rfl
  obtain ⟨d__law_pen, F__law_pen⟩ := c.def_ 27 (d := fnD "_law_pen" i__law_pen) rfl
  obtain ⟨d__law_draw, F__law_draw⟩ := c.def_ 28 (d := fnD "_law_draw" i__law_draw) rfl
  obtain ⟨d__law_pick, F__law_pick⟩ := c.def_ 29 (d := fnD "_law_pick" i__law_pick) rfl
  obtain ⟨d__law_kinds, F__law_kinds⟩ := c.def_ 30 (d := fnD "_law_kinds" i__law_kinds) rfl
  obtain ⟨d__law_plan, F__law_plan⟩ := c.def_ 31 (d := fnD "_law_plan" i__law_plan) rfl
  obtain ⟨d__law_made, F__law_made⟩ := c.def_ 32 (d := fnD "_law_made" i__law_made) rfl
  obtain ⟨d__law_deep, F__law_deep⟩ := c.def_ 33 (d := fnD "_law_deep" i__law_deep) rfl
  obtain ⟨d__law_heard, F__law_heard⟩ := c.def_ 34 (d := fnD "_law_heard" i__law_heard) rfl
  obtain ⟨d__law_right, F__law_right⟩ := c.def_ 35 (d := fnD "_law_right" i__law_right) rfl
  obtain ⟨d_law, F_law⟩ := c.def_ 36 (d := fnD "law" i_law) rfl
  have GPad : FnR P w K mg base CX0 1 (He.ma K (He.ga K "PadError") "__init__") (spPad K) := ok_pad F_PadError
  have mBN : (("BadName" : Str), (["name"] : List Str)) ∈ errs := by simp [errs]
  have mBT : (("BadTimes" : Str), (["value"] : List Str)) ∈ errs := by simp [errs]
  have mBP : (("BadParts" : Str), (["at"] : List Str)) ∈ errs := by simp [errs]
  have mTL : (("TooLarge" : Str), (["what", "most"] : List Str)) ∈ errs := by simp [errs]
  have GTL := ok_TooLarge (P := P) (w := w) (base := base) F_TooLarge g_PadError er.off GPad (er.one _ mTL)
  have EBN : DefE P w K mg base "BadName" ["name"] := ⟨_, g_BadName, er.one _ mBN, ok_BadName (P := P) (w := w) (base := base) F_BadName g_PadError er.off GPad (er.one _ mBN), bI_BadName F_BadName⟩
  have EBT : DefE P w K mg base "BadTimes" ["value"] := ⟨_, g_BadTimes, er.one _ mBT, ok_BadTimes (P := P) (w := w) (base := base) F_BadTimes g_PadError er.off GPad (er.one _ mBT), bI_BadTimes F_BadTimes⟩
  have EBP : DefE P w K mg base "BadParts" ["at"] := ⟨_, g_BadParts, er.one _ mBP, ok_BadParts (P := P) (w := w) (base := base) F_BadParts g_PadError er.off GPad (er.one _ mBP), bI_BadParts F_BadParts⟩
  have T : PCls K := ⟨p_Kind, p_Use, p_Byte, p_Row, p_Record, p_Overlay, pt⟩
  have gC : ∀ x ∈ allP, mg x = some (.ref (He.ga K x)) := fun x hx => by
    simp only [allP, List.mem_cons, List.not_mem_nil, or_false] at hx
    rcases hx with rfl | rfl | rfl | rfl | rfl | rfl
    · exact g_Kind
    · exact g_Byte
    · exact g_Use
    · exact g_Row
    · exact g_Record
    · exact g_Overlay
  have N : DefP P w K mg base CX0 1 "is_name" ["value"] (spName K) := ⟨_, _, g_is_name, F_is_name.kp, ok_name (P := P) (w := w) (base := base) F_is_name t_isinstance t_str t_len t_all g_BARRED pt.bar i_LONGEST i_LETTERS, (FunD.bindsN F_is_name fun _ _ _ _ _ _ us hl => match us, hl with | [_], _ => rfl)⟩
  have Wh : DefP P w K mg base CX0 1 "is_whole" ["value", "least", "most"] (spWhole K) := ⟨_, _, g_is_whole, F_is_whole.kp, ok_whole (P := P) (w := w) (base := base) F_is_whole t_isinstance t_int t_bool, (FunD.bindsN F_is_whole fun _ _ _ _ _ _ us hl => match us, hl with | [_, _, _], _ => rfl)⟩
  have IsP : DefP P w K mg base CX0 1 "is_part" ["value"] (spIsP K) := ⟨_, _, g_is_part, F_is_part.kp, ok_ispart (P := P) (w := w) (base := base) F_is_part T t_isinstance gC, (FunD.bindsN F_is_part fun _ _ _ _ _ _ us hl => match us, hl with | [_], _ => rfl)⟩
  have GI := ok_init (P := P) (w := w) (base := base) F_Part_init t_max t_int g_Part T g_TooLarge (er.one _ mTL) F_TooLarge GTL
  have I2 : FnR P w K mg base (L2.CX P w) 4 (He.ma K (gP K) "__init__") (fun vs => spInit K (vs ++ [.ref (dfT 1 K)])) := by
    obtain ⟨ds, v, b⟩ := FunD.binds1 F_Part_init (ps := ["self", "traits", "inside"]) 2 1 (by simp [meD, He.DefD.dvs]) (by rfl) (fun T kV doc pm an cdv ct us its h1 h2 => match us, h1, its, h2 with | [_, _], _, [_, _], _ => ⟨_, rfl, rfl⟩)
    exact GI.raw b v
  have I1 : FnR P w K mg base (L2.CX P w) 4 (He.ma K (gP K) "__init__") (fun vs => spInit K (vs ++ [.ref (dfT 0 K), .ref (dfT 1 K)])) := by
    obtain ⟨ds, v, b⟩ := FunD.binds1 F_Part_init (ps := ["self", "traits", "inside"]) 1 0 (by simp [meD, He.DefD.dvs]) (by rfl) (fun T kV doc pm an cdv ct us its h1 h2 => match us, h1, its, h2 with | [_], _, [_, _], _ => ⟨_, rfl, rfl⟩)
    exact GI.raw b v
  have I3 : FnR P w K mg base (L2.CX P w) 4 (He.ma K (gP K) "__init__") (spInit K) := by
    obtain ⟨ds, v, b⟩ := FunD.binds1 F_Part_init (ps := ["self", "traits", "inside"]) 3 2 (by simp [meD, He.DefD.dvs]) (by rfl) (fun T kV doc pm an cdv ct us its h1 h2 => match us, h1, its, h2 with | [_, _, _], _, [_, _], _ => ⟨_, rfl, rfl⟩)
    exact FnR.imp (GI.raw b v) (fun vs H Q E h => by
      show spInit K (vs ++ []) H Q E
      rw [List.append_nil]; exact h)
  have C : CT P w K mg base := ⟨T, N, Wh, i_MOST_TIMES, EBN, EBT, EBP, g_Part, g_Group, gC, I2, I1, I3⟩
  have GK := ok_kindP (P := P) (w := w) (base := base) F_Kind_init C
  have Kd3 : DefC P w K mg base (L2.CX P w) 5 "Kind" ["self", "name", "times"] (spKindP K) [] := by
    obtain ⟨ds, v, b⟩ := FunD.binds1 F_Kind_init (ps := ["self", "name", "times"]) 3 1 (by simp [meD, He.DefD.dvs]) (by rfl) (fun T kV doc pm an cdv ct us its h1 h2 => match us, h1, its, h2 with | [_, _, _], _, [_], _ => ⟨_, rfl, rfl⟩)
    exact ⟨_, _, g_Kind, p_Kind.mkr, GK, b, v⟩
  have Kd2 : DefC P w K mg base (L2.CX P w) 5 "Kind" ["self", "name", "times"] (spKindP K) [.int 1] := by
    obtain ⟨ds, v, b⟩ := FunD.binds1 F_Kind_init (ps := ["self", "name", "times"]) 2 0 (by simp [meD, He.DefD.dvs]) (by rfl) (fun T kV doc pm an cdv ct us its h1 h2 => match us, h1, its, h2 with | [_, _], _, [_], _ => ⟨_, rfl, rfl⟩)
    exact ⟨_, _, g_Kind, p_Kind.mkr, GK, b, v⟩
  have B : DefC P w K mg base CX0 5 "Byte" ["self"] (spByteP K) [] := ⟨_, _, g_Byte, p_Byte.mkr, ok_byteP (P := P) (w := w) (base := base) F_Byte_init C, (FunD.bindsN F_Byte_init fun _ _ _ _ _ _ us hl => match us, hl with | [_], _ => rfl), .nil⟩
  have U : DefC P w K mg base (L2.CX P w) 5 "Use" ["self", "name"] (spUseP K) [] := ⟨_, _, g_Use, p_Use.mkr, ok_useP (P := P) (w := w) (base := base) F_Use_init C, (FunD.bindsN F_Use_init fun _ _ _ _ _ _ us hl => match us, hl with | [_, _], _ => rfl), .nil⟩
  have GW := ok_rowP (P := P) (w := w) (base := base) F_Row_init C IsP t_range t_str t_tuple
  have W : DefC P w K mg base (L2.CX P w) 5 "Row" ["self", "part", "n"] (spRow K) [] := ⟨_, _, g_Row, p_Row.mkr, GW, (FunD.bindsN F_Row_init fun _ _ _ _ _ _ us hl => match us, hl with | [_, _, _], _ => rfl), .nil⟩
  have WK : DefK P w K mg base (L2.CX P w) 5 "Row" ["self", "part", "n"] ["n", "part"] (spRow K) (fun vs zs => vs ++ zs.reverse) := ⟨_, _, g_Row, p_Row.mkr, GW, bWk F_Row_init⟩
  have Pr : DefP P w K mg base CX0 2 "is_pair" ["value"] (spPairT K) := ⟨_, _, g_is_pair, F_is_pair.kp, ok_pairT (P := P) (w := w) (base := base) F_is_pair N IsP t_isinstance t_tuple t_len, (FunD.bindsN F_is_pair fun _ _ _ _ _ _ us hl => match us, hl with | [_], _ => rfl)⟩
  have Ck : DefP P w K mg base CX0 3 "checked_pairs" ["pairs", "most"] (spChkT K) := ⟨_, _, g_checked_pairs, F_checked_pairs.kp, ok_chkT (P := P) (w := w) (base := base) F_checked_pairs Pr t_isinstance t_tuple t_list t_len t_enumerate, (FunD.bindsN F_checked_pairs fun _ _ _ _ _ _ us hl => match us, hl with | [_, _], _ => rfl)⟩
  have Rc : DefC P w K mg base (L2.CX P w) 5 "Record" ["self", "fields"] (spGrp false K) [] := ⟨_, _, g_Record, p_Record.mkr, ok_RecordP (P := P) (w := w) (base := base) F_Record_init C Ck, (FunD.bindsN F_Record_init fun _ _ _ _ _ _ us hl => match us, hl with | [_, _], _ => rfl), .nil⟩
  have O : DefC P w K mg base (L2.CX P w) 5 "Overlay" ["self", "members"] (spGrp true K) [] := ⟨_, _, g_Overlay, p_Overlay.mkr, ok_OverlayP (P := P) (w := w) (base := base) F_Overlay_init C Ck, (FunD.bindsN F_Overlay_init fun _ _ _ _ _ _ us hl => match us, hl with | [_, _], _ => rfl), .nil⟩
  have M : MT P w K mg base := ⟨B, Kd3, W, Rc, O⟩
  have Pn : DefP P w K mg base CX0 1 "_law_pen" ["_law_script"] (spPen K) := ⟨_, _, g__law_pen, F__law_pen.kp, ok_pen (P := P) (w := w) (base := base) F__law_pen t_list, (FunD.bindsN F__law_pen fun _ _ _ _ _ _ us hl => match us, hl with | [_], _ => rfl)⟩
  have D1 : DefP P w K mg base CX0 1 "_law_draw" ["_law_pen_here", "_law_many"] spDrawP := ⟨_, _, g__law_draw, F__law_draw.kp, ok_drawP (P := P) (w := w) (base := base) F__law_draw t_int t_len t_abs, (FunD.bindsN F__law_draw fun _ _ _ _ _ _ us hl => match us, hl with | [_, _], _ => rfl)⟩
  have D2 : DefP P w K mg base CX0 2 "_law_pick" ["_law_pen_here", "_law_some"] spPickP := ⟨_, _, g__law_pick, F__law_pick.kp, ok_pickP (P := P) (w := w) (base := base) F__law_pick t_len D1, (FunD.bindsN F__law_pick fun _ _ _ _ _ _ us hl => match us, hl with | [_, _], _ => rfl)⟩
  have Ki : DefP P w K mg base CX0 3 "_law_kinds" ["_law_pen_here"] spKindsP := ⟨_, _, g__law_kinds, F__law_kinds.kp, ok_kindsP (P := P) (w := w) (base := base) F__law_kinds D1 D2, (FunD.bindsN F__law_kinds fun _ _ _ _ _ _ us hl => match us, hl with | [_], _ => rfl)⟩
  have Pl := ok_planD (P := P) (w := w) (base := base) F__law_plan g__law_plan F__law_plan.kp t_int D1 D2 5
  have Md := ok_madeD (P := P) (w := w) (base := base) F__law_made g__law_made F__law_made.kp M 5
  have Dp := ok_deepD (P := P) (w := w) (base := base) F__law_deep g__law_deep F__law_deep.kp t_int t_max 5
  have ht : HTx P w K mg base := ⟨g_PadError, fun x hx => by
    simp only [List.mem_cons, List.not_mem_nil, or_false] at hx
    rcases hx with rfl | rfl | rfl
    · exact ⟨g_BadParts, x_BadParts⟩
    · exact ⟨g_BadTimes, x_BadTimes⟩
    · exact ⟨g_TooLarge, x_TooLarge⟩, t_isinstance, er⟩
  have MU := ok_mul (P := P) (w := w) (base := base) F_Part_mul T W
  have EQ := ok_eqR (P := P) (w := w) (base := base) F_Part_eq T t_isinstance g_Part 5
  have ST := strF_all (P := P) (w := w) (mg := mg) (base := base) F_Kind_str F_Byte_str F_Use_str F_Row_str F_Record_str F_Overlay_str T 5 (by decide)
  have LN := ok_len (P := P) (w := w) (base := base) F_Group_len T t_len
  have GR := ok_right (P := P) (w := w) (base := base) F__law_right { D1 := D1, D2 := D2, Md := Md, Dp := Dp, gH := ⟨_, _, g__law_heard, F__law_heard⟩, ht := ht, T := T, W := W, WK := WK, MU := MU, EQ := EQ, ST := ST, LN := LN, tIsi := t_isinstance, tInt := t_int, tBool := t_bool, tStr := t_str, tRep := t_repr, tLen := t_len, tList := t_list, ne := ne } TB
  have e := hfa.symm.trans g_law
  cases e
  exact ok_law F_law { Pn := Pn, D2 := D2, Ki := Ki, Pl := Pl, R := ⟨_, g__law_right, F__law_right.kp, GR⟩, gH := ⟨_, _, g__law_heard, F__law_heard⟩, ht := ht, T := T, B := B, Kd := Kd2, U := U, W := W, Rc := Rc, O := O, MU := MU, gG := g_Group, gS := g_Spread, gPt := g_Part, gR := g_Row, gO := g_Overlay, tIsi := t_isinstance, tRng := t_range, c1 := cs ("Row", "MOST", 64) (by simp), c2 := cs ("Part", "DEPTH", 4) (by simp), c3 := cs ("Spread", "AT", 0) (by simp), c4 := cs ("Overlay", "AT", 0) (by simp), ne := ne } TBL
end
end H1
open PySem PySem.W PySem.Calls PyProof.Rows
set_option maxRecDepth 100000 in
set_option maxHeartbeats 0 in
theorem PySem.Challenge.cw_anypads_k03_rows_made_holds : PySem.Challenge.rw_anypads_k03_rows_made.Holds := by
  w_on; o_law
  refine HandSHeadRun.head_any (r := H1.R) (q := view H1.R.prog [40]) (H := H1.hk) (ob := H1.ob) (M := 12000) (loose := H1.loose) (d := HandSHeadRun.topDef H1.R.prog 40) (kwd := []) H1.ob_eq
    (by kernel_rfl) (fun s => by kernel_rfl) H1.run (by kernel_rfl) (by kernel_rfl) (by kernel_rfl) (by rfl) (by first | assumption | decide +kernel) (by decide +kernel) ⟨rfl, rfl, rfl, rfl, rfl, by decide +kernel⟩ ?hw ?hc
  case hw => w_witness2
  case hc =>
    refine Ev.walk_ofT (l := PySem.Challenge.rw_anypads_k03_rows_made) (n := 63) (k := 20) (CX := L2.CX0) rfl (by decide) (by kernel_rfl) ⟨rfl, by decide, by decide⟩ ?F (fun _ _ _ _ z => z)
    intro w mg fa h Y G hmg0
    obtain ⟨K, KX, c⟩ := Y
    have hmg : mg ("law" : PySem.Str) = some (.ref fa) := by
      have e : (HandSHeadRun.topDef H1.R.prog 40).name = ("law" : PySem.Str) := by kernel_rfl
      rw [← e]
      exact hmg0
    have er := Ev.errsB_ok (Ev.two c.more).1
    have m2 := Ev.two (Ev.two c.more).2
    have pt := Ev.partsFB_ok m2.1
    have cs := Ev.constsB_ok (Ev.two m2.2).1
    have ne := of_decide_eq_true (Ev.two m2.2).2
    have i1 : He.cT K H1.pR ∈ H1.tf.map (He.cT K) := List.mem_map.mpr ⟨_, List.mem_cons_self .., rfl⟩
    have i2 : He.cT K H1.pL ∈ H1.tf.map (He.cT K) := List.mem_map.mpr ⟨_, List.mem_cons_of_mem _ (List.mem_singleton.mpr rfl), rfl⟩
    refine ⟨K, H1.tf.map (He.cT K), H1.spLawP K, KX, c.tabs KX, fun H a ns hl _ hT hS => ⟨a, ns, rfl, hS, hl, fun p hp => ?_, fun _ => rfl⟩, fun base _ _ TB => H1.facts KX G hmg c.d er pt cs ne base (TB _ i1) (TB _ i2)⟩
    rcases List.mem_cons.mp hp with rfl | hp
    · exact LamX.TabS.nil (hT _ i1)
    · rw [List.mem_singleton.mp hp]
      exact LamX.TabS.nil (hT _ i2)
